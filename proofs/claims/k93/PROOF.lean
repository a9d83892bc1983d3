import PyProof.Rows.All
import Wide.All
import OpenK.AllK
import Wide.FinOn
import Lean
import PyProof.EqAt
import PyProof.EqKinds
import PyProof.TupleCall
import KE.KLam
import KE.KTryMore
import KE.KIsAll
import PyProof.NeKinds
import PyProof.Rows.CountFlat
import PyProof.Rows.FStr
import PyProof.ZipIter
import PyProof.EnumMake
import PyProof.EnumStmt
import KE.KDictLaws
import PyProof.DictWalks
import PyProof.Rows.SetFrom
import PyProof.SumWalkG
import PyProof.Rows.SumGenD
import PyProof.SeqI2
import KE.KItemsList
import PyProof.SetKind
import PyProof.TupleKey
import KE.KSortTup
import PyProof.ReprRoads
import PyProof.ReprBulk
import PyProof.TupleOfSeq
import PyProof.WalkInts
import PyProof.SeqI3
import PyProof.Rows.RuleDivmod
import PyProof.ListRange
import KE.KPairComp
import KE.KMinKey
import PyProof.Rows.CallKwBuiltin
import KE.KDictList
import PyProof.DictTruth
import PyProof.DictRoadsH
import PyProof.Rows.Range3
import PySem.Challenge.RW_fewdistances_k93_pairs_by_circles
set_option Elab.async false
set_option linter.all false
set_option maxRecDepth 100000
set_option maxHeartbeats 0
set_option tactic.hygienic false
set_option bootstrap.genMatcherCode false
set_option genSizeOf false
set_option compiler.extract_closed false
open Array renaming length_toList->Bm,toList_append->Ci,getElem?_toList->Dn,getD_eq_getD_getElem?->Ea,size_extract->Hl,getD->Ht,toList_push->Ie,toList_extract->Ih,toList_reverse->Jm,toArray_toList->Mr,perm_iff_toList_perm->Ol,append_assoc->Th,toList_inj->Vr,toList->Yf
open Bool renaming and_eq_true->As,false_eq_true->Cd,and_eq_true_iff->Ex,false_ne_true->Fh,or_eq_true->Gs,noConfusion->Hc,not_eq_true'->Ib,false_and->Jd,eq_iff_iff->Qe,and_false->Rg,true_or->Tv,false_or->Xp,and_true->Xu,and_self->Yc
open Classical renaming choose_spec->Ho,choose->Jq
open False renaming elim->Am
open ForInStep renaming yield->IL
open Function renaming comp->Ya
open Int renaming le_trans->En,le_of_lt->Fq,toNat_natCast->Ic,fdiv_eq_ediv_of_nonneg->Jo,emod_lt_of_pos->Ko,le_refl->Md,emod_nonneg->Nb,natAbs_natCast->Ob,mul_one->Oe,mul_assoc->OD,mul_zero->Pd,sub_zero->Tx,mul_left_comm->Uy,ediv_nonneg->Wk,not_lt->Wz,toNat->Yb,zero_mul->Yp,one_mul->Za
open List renaming mem_cons_of_mem->AT,prefix_refl->AU,getElem?_eq_getElem->AW,length_map->Ba,size_toArray->Bf,mem_cons->Bg,mem_append_right->Bj,getElem?_eq_some_iff->Bl,mem_append->Bo,mem_cons_self->Bp,map_cons->Bt,length_cons->Bv,replicate->Bw,append_assoc->By,getElem?_append_left->Bz,mem_singleton->Ca,all_eq_true->Cb,mem_map->Ce,mem_of_getElem?->Cn,getElem?_append_right->Ct,range->Cw,mem_append_left->Df,length_append->Dg,contains_iff_mem->Dh,getElem?_set_ne->Dk,pairwise_append->Dl,getElem?_map->Dt,nodup_cons->Dy,not_mem_nil->Ed,length_range->Er,mem_range->Es,append_nil->Eu,length_nil->Ew,length_take->Ey,getElem?_set_self->Ez,nil_append->Fg,prefix_append->Fi,mem_iff_getElem->Fm,map_map->Ft,replicate_succ->Fu,map_congr_left->Fw,drop_eq_getElem_cons->Fz,extract_eq_take_drop->Ga,mem_filterMap->Gc,pairwise_cons->Gf,pairwise_map->Gu,filterMap_cons->Gx,getD_eq_getElem?_getD->Hr,find?_cons->Hx,flatten_cons->HT,nodup_append->Ia,length_drop->Im,lookup_cons->Io,getElem?_replicate->Ix,set_cons_zero->IG,any_cons->IK,take_of_length_le->IP,eq_nil_of_length_eq_zero->IR,mem_iff_getElem?->IW,perm_append_comm->IY,flatMap_cons->Jb,length_singleton->Jc,pairwise_iff_getElem->Jw,reverse_append->Jx,of_mem_zip->Ka,forIn_cons->Ke,set_cons_succ->Kq,map_singleton->Kr,length_eq_zero_iff->Kt,getElem?_cons_zero->Kz,forIn_nil->Lc,range_succ_eq_map->Ll,drop_of_length_le->Ln,length->Ls,getElem?_eq_none->Lv,lookup->Lw,all_cons->Ma,take_append_drop->Me,cons_append->Mf,mem_filter->Mu,length_pos_iff->Nl,set_comm->Ou,getElem?_zip_eq_some->O7,getElem?_eq_none_iff->OB,getElem?_take_of_lt->OE,length_erase_of_mem->OG,length_filterMap_le->OH,prefix_iff_getElem?->OI,getElem_inj->OJ,zipIdx_cons->OS,all_map->OX,pairwise_singleton->Pa,getElem?_cons_succ->Pb,length_set->Pq,drop_eq_nil_of_le->Ps,find?_cons_of_neg->Pv,length_pos_of_mem->Px,length_zip->Qc,pairwise_lt_range->Qf,map_append->Qg,length_replicate->Qm,getD->Qq,countP_mono_left->Qs,singleton_append->Qt,length_filter_le->Qw,eq_nil_or_concat->Qx,concat_eq_append->Qy,mem_erase_of_ne->Ro,mem_of_mem_drop->Rp,reverse_reverse->Ru,mem_of_mem_take->Rv,mem_map_of_mem->Td,lookup_append->Tq,any_map->Ub,getElem_drop->Uv,getElem_take->Uw,getElem_mem->Vm,countP_cons->Vq,map_fst_zip->Vs,ext_getElem->Vt,map_id->Vu,any_eq_true->Vx,getElem_map->Vy,foldl_cons->Wc,zipIdx_nil->We,foldl->Ww,take_zero->Xb,nodup_nil->Xe,map_drop->XV,map_nil->Yh,zipWith->Ym
open List.Pairwise renaming nil->Oy,filter->Zb,imp₂->Zf
open List.Perm renaming append_right->IN,append_left->IX,trans->Mz,refl->Nr
open Nat renaming le_refl->Aq,lt_of_lt_of_le->Aw,ne_of_lt->Bs,le_trans->Bu,le_of_ble_eq_true->Cf,lt_irrefl->Dr,le_of_dvd->Du,mul_comm->Dw,le_of_lt->Ee,lt_or_ge->Eg,mul_le_mul_right->Fn,dvd_trans->Gb,lt_of_le_of_ne->Gg,eq_zero_or_pos->Gh,mul_le_mul->Go,pow_succ->Gw,add_le_add_left->Ha,zero_le->Hn,zero_add->Hv,mul_assoc->Ig,ne_of_gt->Iw,add_sub_cancel_left->IA,dvd_mul_left_of_dvd->IC,pos_of_ne_zero->IF,eq_zero_of_not_pos->IQ,le_mul_of_pos_left->IS,add_lt_of_lt_sub'->IZ,one_pos->Ja,lt_trans->Jj,sub_lt->Jy,mul_one->Kj,lt_of_le_of_lt->Kn,mul_div_cancel_left->Ky,lt_succ_self->Mb,dvd_mul_left->Mj,pos_of_dvd_of_pos->Mk,pow_le_pow_right->Ms,mul_le_mul_left->Nm,lt_of_succ_lt->O9,sub_pos_of_lt->OA,mul_left_comm->OC,le_of_not_lt->ON,le_add_right->OQ,le_antisymm->Py,add_le_of_le_sub'->Qu,le_of_sub_eq_zero->Qv,lt_sub_of_add_lt->Rq,add_le_add_right->Rr,not_lt->Ss,add_sub_cancel'->Ta,add_comm->Tu,min_self->Ua,le_of_eq->Uc,sub_self->Ud,add_zero->Ue,dvd_refl->Uf,lt_succ_of_lt->Uu,gcd_dvd_right->Ux,gcd_dvd_left->Vv,pow_pos->Vw,log2_lt->Vz,noConfusion->Wd,min_eq_left->Wm,pow_dvd_pow->Wn,strongRecOn->Wp,add_le_add->Xa,succ_mul->Yg,pow_zero->Yo,le_succ->Yz
open Nat.Coprime renaming dvd_of_dvd_mul_left->Mi
open Nat.succ renaming inj->Tz
open Ne renaming symm->Fa
open Option renaming some->Ab,map_eq_some_iff->Cg,bind_eq_some_iff->Dq,isSome_iff_exists->Ik,map_some->Na,getD_some->OP,isSome_some->Tn,getD_none->Vh,none->Yv
open Option.some renaming inj->Bx
open Or renaming inr->Vj,inl->Xg
open PyProof renaming noPylong_small->Li
open PyProof.Rows renaming wpS_bind->Av,wpS_pure->AY,Keyed->Be,slot_tuple_getitem->Ch,callWith_type1->DL,wpS_forRange->Ef,SortSt->Ep,envOfC->EQ,seqObj->Fl,wpS_mono->Fv,assignInOrder_cons->Hg,wpS_modify->Hu,SortKind->Kh,wpS_get->Kx,AllBare->Lo,callWith_builtin1->Ml,entry_tuple_getitem->Ni,slicePart_none->No,args_tuple_getitem->Nz,wpS_lift->On,assignInOrder_nil->Os,subscriptTail_builtinR->Pp,isBoolOf->Pw,gallopOf->Pz,get?_update_seq->Qb,IsTup->Qj,tupleItemsOf_->Sm,subscriptTail->So,unpackItems_tuple->Uh,IntsAre->Vi,Subscript_->Wu,boot_range->Wy,Call_->Xr
open PyProof.Rows.IsTup renaming new->Ot
open PyProof.Rows.SortSt renaming mk'->Cc
open PySem renaming Value->Ac,Addr->Ad,Shared->Ag,wpAny_bind->Ai,Str->An,wpAny_pure->Ap,wpAny->Ar,model->Au,starEach->Az,Program->AV,Heap->Bc,Expr->Bd,Around->Bh,World->Bk,Obj->Bq,mainGlobals->Br,compareOp->Cp,wpAny_newObj_type->Cz,binaryOp->De,Scope->Di,Comprehension->Dm,Pos->Do,Stmt->Ds,wpAny_field->Dv,mem_of_lookup->Ec,FuncData->Ej,bootBuiltins->El,backTo->Eo,wpAny_callSpecial?_slot->Ev,sizeLine_eq->Fe,assignEach->Fk,wpAny_holding->Fo,cellsFrom->Fx,wpAny_call_entry->Fy,NameKind->Gd,wpAny_Call_Name_kw->Ge,sysModules->Gi,wpAny_mono->Gj,wpAny_rule->Gk,rawInt->Gp,foldedSetIterable->Gq,wpAny_pyIter_list->Gr,Env->Gv,swappedStores->Gy,swapsWithSole->Gz,wpAny_seqItems->He,codeAny->Hi,wpAny_pyIter_tuple->Hj,wpAny_setField_rec->Hk,wpAny_passesOwn->Hw,cLine->Hz,IsPair->IE,letOwnedTupleGo->II,Sem->IT,bindName->Jh,Model->Jl,behindInMarks->Js,TriplesOk->Ju,attributeBase->Jv,wpAny_execs_nil->Jz,sliceBounds->Kb,codeAny_builtin->Kc,wpAny_bindName->La,Operator->Lh,assignInOrder->Lp,wpAny_standAt->Lq,BindsTo->Lr,getItem->Lu,Builtin->Lx,wpAny_attempt->Ly,wpAny_updateSeq_pair->Mp,PassesOwn->Mv,Arguments->Mw,codeAmong->Mx,builtinsNs->Ng,recursionLimit->Nn,IsZip->Nq,wpAny_newFunctionEnv_cells->Of,IsPart->Og,SetTable->Om,Tok->Oo,tupleKind->Op,wpAny_sequenceKey->Ow,callerA->Ox,standAt->O0,noteFrame->O1,wpAny_onRaise->O8,pyIter->OL,noFill_tuple_add->OM,closureFor->OO,call_meets->OR,wpAny_typeOf->OT,codeAny_mono->OV,wpAny_Call_method0_late->OY,wpAny_pyNext_range_end->Pl,wpAny_pyIter_rangeiter->Pm,bindArgs->Po,IsRangeIter->Qk,codeAny_call_function->Qn,swapsWith->Qp,newFunctionEnv->Rh,repr_of_reads'->Ri,wpAny_loadName_local->Rk,codeAny_call_builtin->Rm,intKind->Rw,wpAny_loadName_cell->Ry,CmpOp->Rz,bindL->Sj,bindC->Sk,seq_tuple_add->Sl,evalPart_none->Sn,valueAt->Sr,wpAny_call->Su,PlainAttrs->Sx,evalArgs_none->Sy,ItemsOf->Te,pyNext->Tf,PyData->Tg,wpAny_pyIter_range->Tj,tupleKind_room_in1->To,concat_meets->Tt,call_meetsIn->Tw,wpAny_truthy_bool->Ui,slot_list_getitem->Um,atKey->Uo,lastMarks->Up,ClassData->Uq,setFlight->Ur,pushCells->Ut,wpAny_execs_cons->Va,unaryOp->Vb,Result->Vf,seqIndex_of->Vg,checkBuiltinCall->Vk,wpAny_of_eq->Vl,wpAny_letGo->Vn,wpAny_pyIter_zip->Vp,exec_Assign_arm->Wa,compTurn->Wf,pushCells_keeps->Wg,wpAny_Name->Wr,wpAny_load->Ws,typeIs_int->Wv,call->Wx,defaultsOf->WF,typeOf->Xh,storeName->Xm,setItem->Xn,small_one->Xo,Keyword->Xv,IsRange->Xz,Within->Ye,isTrue->Yj
open PySem.Around renaming under_plainId->Jn,frames_deeper->Mn
open PySem.Builtin.Getset_descriptor renaming descrCheckInstance->Pi,descrNameAndClass->Pu,descrGetter->Sw,descrGet->TW
open PySem.Builtin.Int renaming intBits->Ip
open PySem.Builtin.List renaming listTooLong->Kl,listExtendWith->Nv,listUpdate->Yn
open PySem.Builtin.ObjectAttr renaming bindTo->O6,dataDescriptor?->TD,getOf->Yd,find->Yi
open PySem.Builtin.Range renaming rangeSize->Dp,small->Ir,rangeFitsLong->Xd
open PySem.Builtin.Slice renaming sliceAdjust->Ek,slicePlaces->Fb,sliceApplied->Hm,sliceFields->Ov,slicePartIndex->Wt
open PySem.Builtin.SmallTypes renaming nextOf->Dc,ownedTupleIsFree->Fj,ownedTupleHandOut->Kg
open PySem.Builtin.Tuple renaming tupleExact->Dx,tupleItemsOf->Jp,tupleIsExact->Xj,tupleHashOf->Xq
open PySem.Calls renaming spliced_cons->ID,spliced_nil->IU,callWith_builtin->Lm,Name_function_global->Od,evalArgs_plain->Rl
open PySem.Challenge renaming pw_fewdistances_k93_pairs_by_circles->Oa,rw_fewdistances_k93_pairs_by_circles->Oc
open PySem.Code renaming compLoop->Xx
open PySem.Data renaming fields->Yt
open PySem.F renaming slot_tuple_iterator_next->Hq,plain_list_iadd->IB,slot_dict_get->IV,args_tuple_add_2->Kk,entry_tuple_add->Ks,slot_list_count->Ku,slot_list_index->Kv,plainAttrs_dict->Kw,slot_tuple_add->Lj,called_tuple->Mq,slot_zip_next->My,args_tuple_iterator_next_1->Nk,entry_tuple_iterator_next->Np,entry_proto_collect->Nt,plain_proto_collect->Nu,slot_int_bit_length->Nw,type_int_bit_length->Ny,excBase_ValueError->Oh,args_dict_get_3->OU,attr_ValueError->OW,slot_dict_items->OZ,entry_list_iadd->Pc,plainAttrs_list->Pe,type_list_count->Pg,type_list_index->Ph,entry_dict_get->Pr,plainAttrs_int->Qh,type_dict_get->Ra,args_zip_next_1->Us,entry_zip_next->Vo,slot_int_rmul->Wl
open PySem.Flow renaming next->Ug
open PySem.Heap renaming get?_push_of_some->Ak,lt_size->Ay,get?_push_size->Bb,size_push->Et,get?_update_other->Hb,SameBut->Hs,FlyingW->Nd,get?_update_self->Qo,MadeExcOf->Rf,IsTuple->Yl,ExtBut->Yx,IsList->Yy,HeldW->Zd
open PySem.Heap.IsSliceOf renaming new->Tl
open PySem.Heap.SameBut renaming update->Sz
open PySem.IsRange renaming new->Ql
open PySem.MeetsSeq renaming list_index->Xw,EqGives->Yq
open PySem.NameKind renaming free->Fc,cell->Lz
open PySem.Obj renaming mapSeq->Gn,data_mapFields->Tr
open PySem.PyData renaming leavesShortAll->Qz,showableAll->Ts,hasDictAll->Uz,showable->Wi,depthAll->Wq,bulkAll->Xf
open PySem.SeqAt.EqAt renaming bool_bool->Xi,same->Xt,of_refs->Yk
open PySem.SetTable renaming Probe->Wh
open PySem.Shared renaming heap->Qr
open PySem.Str renaming ofString->Ji,empty->Jt
open PySem.Value renaming ref->Bn,none->Dd,bool->Eb,int->Hd,type->Lg,str->Qi,isStrOf->Xl,builtin->Xs,isInt->Yr,float->Ys
open PySem.W renaming Frag->Ah,tabIn->Co,nsIn->Cy,kia_one->Dj,keepIn->Dz,fnOf->Fd,kitx_list->Hy,exmOne->Il,cellsFrom_some->IJ,kitOne->Je,codeIn->Jf,tabObj->Jg,envX->Jk,kla_obj->Ki,kitx_tuple->Km,findIn->Lb,kitx_dict->Ld,hideAll->Mt,callWith_K->NE,methodObj->Oq,nsMap_none_of_in->OF,instObj->Pk,CodeHd->Rb,lookIn->Re,kitAny->Rj,hideAll_get->Rx,mroIn->Si,mg_of->Tc,of_hideAll->Ti,codeRec_of->Tk,isNs_of_in->Tp,looks_findIn->T0,specialIn->Uj,kitx_none->Uk,kitx_bool->Ul,plainGet->Vc,kitx_int->Vd,kitx_str->Ve,takesIn->Wb,OpenLaw->Wj,nsOkIn->WP,kla_fn->Xc,WalkO->Xy
open PySem.W.Looks renaming ld->Zh
open PySem.W.WData renaming int->Zg
open PySem.W.WShape renaming has->Zc
open PySem.Walks renaming range->Yu,tuple->Yw,list->Ze
open Sum renaming inl->Ei,inr->Pj
open True renaming intro->Gm
open _root_ renaming List->Aa,Nat->Af,Int->Aj,Option->Al,Bool->Ao,decide_eq_true_eq->Ax,if_pos->AS,if_neg->AX,Array->AZ,of_decide_eq_true->Bi,decide_eq_false->Cj,if_true->Cq,String->Cs,decide_eq_true->Cu,False->Eh,beq_self_eq_true->Em,if_false->Ff,decide_eq_false_iff_not->Fp,decide_true->Iq,Decidable->Iu,decide_false->Iy,of_decide_eq_false->IH,or_false->IM,beq_eq_false_iff_ne->Jr,StateT->Mc,True->Mm,Unit->Nh,beq_iff_eq->Nj,not_or->Xk
noncomputable section
theorem om {p:Prop}(h:p:=by omega):p:=h
theorem li {p:Prop}(h:p:=by lia):p:=h
theorem kd {p:Prop}[Iu p](h:p:=by decide +kernel):p:=h
section
namespace _L
open PySem PySem.Spec PyProof.Rows
abbrev Key:=Sum Aj An
noncomputable def jA:Key->Ac->Ao
 |.inl k,v=>Yr k v
 |.inr x,v=>Xl x v
noncomputable def ET (w:Bk):Key->Aj
 |.inl k=>hashInt k
 |.inr x=>hashStr w x
theorem zR:∀ {k:Key} {v:Ac},jA k v=true->(∃ i t,k=Ei i/\v=Hd i t)\/(∃ x t,k=Pj x/\v=Qi x t)
 |.inl i,v,h=>by
  obtain⟨t,e⟩:=Value.isInt_shape (k:=i) (v:=v) h;exact .inl ⟨i,t,rfl,e⟩
 |.inr x,v,h=>by
  obtain⟨t,e⟩:=Value.isStrOf_shape (x:=x) (v:=v) h;exact .inr ⟨x,t,rfl,e⟩
theorem iV (i:Aj)(t:Oo):jA (.inl i) (.int i t)=true:=by simp[jA,Yr]
theorem iW (x:An)(t:Oo):jA (.inr x) (.str x t)=true:=by simp[jA,Xl]
theorem FO (a b:Aj):decide ((Ei a:Key)=Ei b)=(a == b):=by
 by_cases e:a=b
 .subst e;simp
 .have h:¬ (Ei a:Key)=Ei b:=λq=>e (Sum.inl.inj q)
  rw[Cj h];exact(Jr.mpr e).symm
theorem FR (a b:An):decide ((Pj a:Key)=Pj b)=decide (a=b):=by
 by_cases e:a=b
 .subst e;simp
 .have h:¬ (Pj a:Key)=Pj b:=λq=>e (Sum.inr.inj q)
  rw[Cj h,Cj e]
theorem FP (a:Aj)(b:An):decide ((Ei a:Key)=Pj b)=false:=Cj (λq=>nomatch q)
theorem FQ (a:An)(b:Aj):decide ((Pj a:Key)=Ei b)=false:=Cj (λq=>nomatch q)
noncomputable def zJ (prog:AV)(w:Bk):PySem.KeyKind prog w Key where
 is:=jA
 hash:=ET w
 inj:=λv a b ha hb=>by
  rcases zR ha with⟨i,t,rfl,rfl⟩|⟨x,t,rfl,rfl⟩
  .rcases zR hb with⟨j,u,rfl,e⟩|⟨y,u,rfl,e⟩
   .injection e with e1 _;rw[e1]
   .exact nomatch e
  .rcases zR hb with⟨j,u,rfl,e⟩|⟨y,u,rfl,e⟩
   .exact nomatch e
   .injection e with e1 _;rw[e1]
 byValue:=λk v h=>by
  rcases zR h with⟨i,t,rfl,rfl⟩|⟨x,t,rfl,rfl⟩ <;> rfl
 pyHash:=λhv h=>by
  rcases zR hv with⟨i,t,rfl,rfl⟩|⟨x,t,rfl,rfl⟩
  .exact wpAny_pyHash_int h
  .exact wpAny_pyHash_str h
 eqBool:=λhu hv h=>by
  rcases zR hu with⟨i,t,rfl,rfl⟩|⟨x,t,rfl,rfl⟩
  .rcases zR hv with⟨j,u,rfl,rfl⟩|⟨y,u,rfl,rfl⟩
   .rw[FO] at h;exact wpAny_eqBool_int h
   .rw[FP] at h;exact SeqAt.EqAt.int_str i t y u _ _ _ _ h
  .rcases zR hv with⟨j,u,rfl,rfl⟩|⟨y,u,rfl,rfl⟩
   .rw[FQ] at h;exact SeqAt.EqAt.str_int x t j u _ _ _ _ h
   .rw[FR] at h;exact wpAny_eqBool_str h
 «strs»:=λk x t v h=>by
  rcases zR h with⟨i,u,rfl,e⟩|⟨y,u,rfl,e⟩
  .exact nomatch e
  .injection e with e1 _
   subst e1;cases v <;> rfl
theorem rC (prog:AV)(w:Bk)(i:Aj)(t:Oo):(zJ prog w).is (.inl i) (.int i t)=true:=iV i t
theorem rD (prog:AV)(w:Bk)(x:An)(t:Oo):(zJ prog w).is (.inr x) (.str x t)=true:=iW x t
end _L
namespace _L
open PySem PySem.Spec PyProof.Rows
inductive V where
 |non|bl (b:Ao)|int (i:Aj)|str (x:An)|byt (b:AZ UInt8)|flt (b:UInt64)|ref (a:Ad)|ty (n:Cs)
 deriving DecidableEq
def qM:V->Ac->Prop
 |.non,u=>u=Dd
 |.bl b,u=>u=Eb b
 |.int i,u=>∃ t,u=Hd i t
 |.str x,u=>∃ t,u=Qi x t
 |.byt b,u=>∃ t,u=Value.bytes b t
 |.flt b,u=>∃ t,u=Ys b t
 |.ref a,u=>u=Bn a
 |.ty n,u=>u=Lg n
abbrev qN:Aa V->Aa Ac->Prop:=Paired qM
theorem qN.length {xs:Aa V}{us:Aa Ac}(r:qN xs us):xs.length=us.length:=Paired.length r
theorem qN.get:∀ {xs:Aa V} {us:Aa Ac} {i:Af} {x:V},qN xs us->xs[i]? = Ab x->∃ u,us[i]? = Ab u/\qM x u
 |_,_,_,_,.nil,e=>by simp at e
 |_,_,0,_,.cons r _,e=>by simp at e;subst e;exact⟨_,rfl,r⟩
 |_,_,i+1,x,.cons _ t,e=>by
  obtain⟨u,h1,h2⟩:=qN.get (i:=i) (x:=x) t (by simpa using e)
  exact⟨u,by simpa using h1,h2⟩
theorem qN.set {x:V}{u:Ac}(r:qM x u):∀ {xs:Aa V} {us:Aa Ac} (i:Af),qN xs us->qN (xs.set i x) (us.set i u)
 |_,_,_,.nil=>.nil
 |_,_,0,.cons _ t=>.cons r t
 |_,_,i+1,.cons q t=>.cons q (qN.set r i t)
theorem qN.append {xs ys:Aa V}{us ws:Aa Ac}(h:qN xs us)(s:qN ys ws):qN (xs++ys) (us++ws):=by
 induction h with
 |nil=>exact s
 |cons r t ih=>exact .cons r ih
theorem qN.take:∀ {xs:Aa V} {us:Aa Ac} (n:Af),qN xs us->qN (xs.take n) (us.take n)
 |_,_,0,_=>.nil
 |_,_,_+1,.nil=>.nil
 |_,_,n+1,.cons r t=>.cons r (qN.take n t)
theorem qN.drop:∀ {xs:Aa V} {us:Aa Ac} (n:Af),qN xs us->qN (xs.drop n) (us.drop n)
 |_,_,0,r=>r
 |_,_,_+1,.nil=>.nil
 |_,_,n+1,.cons _ t=>qN.drop n t
def kP:Al V->Al Ac->Prop
 |some v,Ab u=>qM v u
 |none,none=>Mm
 |_,_=>Eh
def KV {κ : Type}:Aa (κ × V)->Aa (κ × Ac)->Prop:=Paired λ(p:κ × V) (q:κ × Ac)=>p.1=q.1/\qM p.2 q.2
noncomputable def kV:Key->V
 |.inl i=>.int i
 |.inr x=>.str x
inductive HO where
  |lst (xs:Aa V)
  |tup (xs:Aa V)
  |dK (kvs:Aa (Key × V))|dT (kvs:Aa (Aa Key × V))
  |set (S:Aj->Ao) (n:Af)
  |ins (C dx:Ad) (fs:Aa (An × V))
  |own (x:Ad)
  |xd (fs:Aa (An × V))
  |met (f x:Ad)
  |rng (lo hi:Aj)
  |frz (o:Bq) (u:HO)
  |tbl (ps:AZ Ac)
  |ext (φ : Bc->Prop)
abbrev Hp:=Ad->Al HO
noncomputable def upd (H:Hp)(a:Ad)(o:HO):Hp:=λb=>if b=a then Ab o else H b
theorem qX {H:Hp}{a:Ad}{o:HO}:upd H a o a=Ab o:=by unfold upd;rw[AS rfl]
theorem qH {H:Hp}{a b:Ad}{o:HO}(h:b≠a):upd H a o b=H b:=by unfold upd;rw[AX h]
theorem SE {H:Hp}{a b:Ad}{o u:HO}(h:H a=Ab o)(h':H b=Ab u)(d:o≠u):a≠b:=by
 intro e;subst e;rw[h] at h';exact d (Bx h')
theorem qS {H:Hp}{a b:Ad}{o:HO}(h:H a=Ab o)(h':H b=none):a≠b:=by
 intro e;subst e;rw[h] at h';cases h'
section
variable (P:AV)(w:Bk)
def z9 (H:Hp)(h:Bc)(a:Ad):HO->Prop
 |.lst xs=>xs.length<=sizeLine/\∃ (its:Aa Ac) (n:Af),qN xs its/\h.get? a=Ab { cls:=.type "list",data:=.seq its.toArray n }
 |.tup xs=>xs.length<=sizeLine/\∃ its:Aa Ac,qN xs its/\Qj h a its.toArray
 |.dK kvs=>kvs.length<=sizeLine/\(a == Gi)=false/\∃ vs,KV kvs vs/\h.DictOf (zJ P w) a vs
 |.dT kvs=>kvs.length<=sizeLine/\(a == Gi)=false/\∃ xs:Aa (Aa Key × Ad × Ac),
   Paired (λ(p:Aa Key × V) (q:Aa Key × Ad × Ac)=>p.1=q.1/\H q.2.1=Ab (.tup (p.1.map kV))/\qM p.2 q.2.2) kvs xs /\
   ∃ o es ep,h.get? a=Ab o/\o.ExactDict/\o.data=.dict es ep/\es.toList=xs.map (entryOfKey (Op (zJ P w)))/\(xs.map (·.1)).Nodup
 |.set S n=>h.SetOf (Rw P w) a S n
 |.ins C dx fs=>H dx=Ab (.own a)/\fs.length<=1000/\dx≠a/\h.get? a=Ab (Pk C dx) /\
   ∃ mA,h.Ns1 dx mA/\(∀ f,kP (fs.lookup f) (mA f))/\Ye mA (fs.map (·.1))
 |.own _=>∃ o,h.get? a=Ab o
 |.xd fs=>∃ mA,h.Ns1 a mA/\∀ f,kP (fs.lookup f) (mA f)
 |.rng lo hi=>∃ t u v,h.get? a=Ab { cls:=.type "range",data:=.fields #[.int lo t,.int hi u,.int 1 v] }
 |.frz o u=>h.get? a=Ab o/\z9 H h a u
 |.tbl ps=>h.get? a=Ab { cls:=.none,data:=.fields ps }
 |.met f x=>h.get? a=Ab (Oq (.ref f) (.ref x))
 |.ext φ => φ h/\(∃ o,h.get? a=Ab o)/\∀ h1 h2:Bc,φ h1->(∀ o,h1.get? a=Ab o->h2.get? a=Ab o)->φ h2
def HOk (H:Hp)(h:Bc):Prop:=∀ a o,H a=Ab o->z9 P w H h a o
end
section
variable {P:AV}{w:Bk}{H H':Hp}{h h':Bc}{a:Ad}{o:HO}
theorem z9.lt (x:z9 P w H h a o):a<h.objs.size:=by
 cases o with
 |lst xs=>obtain⟨_,_,_,_,e⟩:=x;exact Ay e
 |tup xs=>obtain⟨_,_,_,p⟩:=x;exact p.lt
 |dK kvs=>obtain⟨_,_,_,_,o,_,_,e,_⟩:=x;exact Ay e
 |dT kvs=>obtain⟨_,_,_,_,o,_,_,e,_⟩:=x;exact Ay e
 |set S n=>obtain⟨o,_,_,_,e,_⟩:=x;exact Ay e
 |ins C dx fs=>obtain⟨_,_,_,e,_⟩:=x;exact Ay e
 |own y=>obtain⟨_,e⟩:=x;exact Ay e
 |xd fs=>obtain⟨_,⟨_,_,_,e,_⟩,_⟩:=x;exact Ay e
 |rng lo hi=>obtain⟨_,_,_,e⟩:=x;exact Ay e
 |frz ob u=>obtain⟨e,_⟩:=x;exact Ay e
 |tbl ps=>exact Ay (show h.get? a=Ab _ from x)
 |met f y=>exact Ay (show h.get? a=Ab _ from x)
 |ext φ => obtain⟨_,⟨_,e⟩,_⟩:=x;exact Ay e
theorem Paired.mapP {α β:Type}{F G:α->β->Prop}{l₁:Aa α}{l₂:Aa β}(h:Paired F l₁ l₂)(f:∀ a b,F a b->G a b):Paired G l₁ l₂:=by
 induction h with
 |nil=>exact .nil
 |cons r t ih=>exact .cons (f _ _ r) ih
theorem z9.stay (x:z9 P w H h a o)(k:∀ b u,(b=a\/H b=Ab (.own a))->h.get? b=Ab u->h'.get? b=Ab u)
  (ho:∀ b,H b=Ab (.own a)->H' b=Ab (.own a)) (ht:∀ b xs,H b=Ab (.tup xs)->H' b=Ab (.tup xs)):z9 P w H' h' a o:=by
 induction o with
 |lst xs=>obtain⟨z,its,n,r,e⟩:=x;exact⟨z,its,n,r,k _ _ (.inl rfl) e⟩
 |tup xs=>obtain⟨z,its,r,ob,e,c⟩:=x;exact⟨z,its,r,ob,k _ _ (.inl rfl) e,c⟩
 |dK kvs=>obtain⟨z,y,vs,r,ob,es,ep,e,c⟩:=x;exact⟨z,y,vs,r,ob,es,ep,k _ _ (.inl rfl) e,c⟩
 |dT kvs =>
  obtain⟨z,y,xs,r,ob,es,ep,e,c⟩:=x;exact⟨z,y,xs,Paired.mapP r λp q z=>⟨z.1,ht _ _ z.2.1,z.2.2⟩,ob,es,ep,k _ _ (.inl rfl) e,c⟩
 |set S n=>obtain⟨ob,es,ep,t,e,c⟩:=x;exact⟨ob,es,ep,t,k _ _ (.inl rfl) e,c⟩
 |ins C dx fs =>
  obtain⟨d,z,ne,e,mA,⟨od,es,ep,e2,c⟩,r⟩:=x;exact⟨ho _ d,z,ne,k _ _ (.inl rfl) e,mA,⟨od,es,ep,k _ _ (.inr d) e2,c⟩,r⟩
 |own y=>obtain⟨ob,e⟩:=x;exact⟨ob,k _ _ (.inl rfl) e⟩
 |xd fs=>obtain⟨mA,⟨od,es,ep,e,c⟩,r⟩:=x;exact⟨mA,⟨od,es,ep,k _ _ (.inl rfl) e,c⟩,r⟩
 |rng lo hi=>obtain⟨t,u,v,e⟩:=x;exact⟨t,u,v,k _ _ (.inl rfl) e⟩
 |frz ob u ih=>obtain⟨e,q⟩:=x;exact⟨k _ _ (.inl rfl) e,ih q⟩
 |tbl ps =>
  have e:h.get? a=Ab { cls:=.none,data:=.fields ps }:=x;show h'.get? a=Ab { cls:=.none,data:=.fields ps };exact k a _ (.inl rfl) e
 |met f y =>
  have e:h.get? a=Ab (Oq (.ref f) (.ref y)):=x;show h'.get? a=Ab (Oq (.ref f) (.ref y));exact k a _ (.inl rfl) e
 |ext φ => obtain⟨p,⟨o,e⟩,st⟩:=x;exact⟨st _ _ p λo q=>k _ _ (.inl rfl) q,⟨o,k _ _ (.inl rfl) e⟩,st⟩
theorem HOk.lt (x:HOk P w H h)(e:H a=Ab o):a<h.objs.size:=(x a o e).lt
theorem HOk.fresh (x:HOk P w H h)(e:h.objs.size<=a):H a=none:=by
 cases q:H a with
 |none=>rfl
 |some u=>exact absurd (Aw (x.lt q) e) (Dr _)
theorem HOk.kept (x:HOk P w H h)(k:∀ b u,h.get? b=Ab u->h'.get? b=Ab u):HOk P w H h':=λa o e =>
 (x a o e).stay (λb u _ q=>k b u q) (λ_ q=>q) λ_ _ q=>q
theorem HOk.laid (x:HOk P w H h)(k:∀ b u,h.get? b=Ab u->h'.get? b=Ab u)(hp:h.objs.size<=a)(new:z9 P w (upd H a o) h' a o):HOk P w (upd H a o) h':=λb u e=>by
 have hn:=x.fresh hp;by_cases hb:b=a
 .subst hb;rw[qX] at e;cases e;exact new
 .rw[qH hb] at e
  exact(x b u e).stay (λc v _ q=>k c v q) (λc q=>by rw[qH (qS q hn)];exact q) λc xs q=>by rw[qH (qS q hn)];exact q
end
def Rd (H:Hp)(a:Ad)(u:HO):Prop:=H a=Ab u\/∃ o,H a=Ab (.frz o u)
theorem Rd.of {H:Hp}{a:Ad}{u:HO}(h:H a=Ab u):Rd H a u:=.inl h
theorem Rd.ok {P:AV}{w:Bk}{H:Hp}{h:Bc}{a:Ad}{u:HO}(r:Rd H a u)(x:HOk P w H h):z9 P w H h a u:=by
 rcases r with r|⟨o,r⟩
 .exact x a u r
 .obtain⟨_,q⟩:=x a _ r
  exact q
def Mut:Al HO->Prop
 |some (.lst _)=>Mm
 |some (.dK _)=>Mm
 |some (.dT _)=>Mm
 |some (.set _ _)=>Mm
 |some (.ins _ _ _)=>Mm
 |some (.ext _)=>Mm
 |_=>Eh
section
variable {P:AV}{w:Bk}{H:Hp}{h h':Bc}{x e:Ad}{o':HO}
theorem HOk.write (ok:HOk P w H h)(mu:Mut (H x))(he:e=x\/H e=Ab (.own x))(k:∀ b u,b≠e->h.get? b=Ab u->h'.get? b=Ab u)(heo:∃ u,h'.get? e=Ab u)
  (new:z9 P w (upd H x o') h' x o'):HOk P w (upd H x o') h':=λb u q=>by
 have nown:∀ c y,H c=Ab (.own y)->c≠x:=λc y r z=>by subst z;rw[r] at mu;exact mu
 have ntup:∀ c xs,H c=Ab (.tup xs)->c≠x:=λc xs r z=>by subst z;rw[r] at mu;exact mu
 by_cases hb:b=x
 .subst hb;rw[qX] at q;cases q;exact new
 .rw[qH hb] at q
  by_cases hbe:b=e
  .have q':H b=Ab (.own x):=by
    rcases he with z|z
    .exact absurd (hbe.trans z) hb
    .rw[hbe];exact z
   rw[q] at q';cases q';obtain⟨v,hv⟩:=heo;exact⟨v,by rw[hbe];exact hv⟩
  .refine(ok b u q).stay (λc v hc r=>k c v ?_ r) (λc r=>by rw[qH (nown c b r)];exact r) λc xs r=>by rw[qH (ntup c xs r)];exact r
   rcases hc with rfl|hc
   .exact hbe
   .rintro rfl
    rcases he with z|z
    .exact nown c b hc z
    .rw[hc] at z;cases z;exact hb rfl
end
structure Un (fs ex:Aa Ad)(H H':Hp)(h h':Bc):Prop where
 keep:∀ b o,h.get? b=Ab o->H b=none->b ∉ fs->b ∉ ex->h'.get? b=Ab o
 slot:∀ b o,h.get? b=Ab o->H b=none->b∈fs->b ∉ ex->∃ sl,h'.get? b=Ab { o with slots:=sl }
 free:∀ b o,h.get? b=Ab o->H b=none->b ∉ ex->H' b=none
 there:∀ b o,h.get? b=Ab o->b ∉ ex->∃ o',h'.get? b=Ab o'
 tups:∀ b xs,H b=Ab (.tup xs)->H' b=Ab (.tup xs)
 frzs:∀ b o u,H b=Ab (.frz o u)->H' b=Ab (.frz o u)
 tbls:∀ b ps,H b=Ab (.tbl ps)->∃ more,H' b=Ab (.tbl (ps++more))
section
variable {fs fs' ex ex':Aa Ad}{H H1 H2:Hp}{h h1 h2 h':Bc}{a x e:Ad}{o:HO}
theorem Un.any (u:Un fs ex H H1 h h1){b:Ad}{ob:Bq}(q:h.get? b=Ab ob)(n:H b=none)(hx:b ∉ ex):∃ sl,h1.get? b=Ab { ob with slots:=sl }:=by
 by_cases hb:b∈fs
 .exact u.slot b ob q n hb hx
 .exact⟨ob.slots,u.keep b ob q n hb hx⟩
theorem Un.trans (a:Un fs ex H H1 h h1)(b:Un fs ex H1 H2 h1 h2):Un fs ex H H2 h h2 where
 keep:=λc ob q n hc hx=>b.keep c ob (a.keep c ob q n hc hx) (a.free c ob q n hx) hc hx
 slot:=λc ob q n hc hx=>by
  obtain⟨sl,e1⟩:=a.slot c ob q n hc hx;obtain⟨sl',e2⟩:=b.slot c _ e1 (a.free c ob q n hx) hc hx;exact⟨sl',e2⟩
 free:=λc ob q n hx=>by
  obtain⟨o',e1⟩:=a.there c ob q hx;exact b.free c o' e1 (a.free c ob q n hx) hx
 there:=λc ob q hx=>by
  obtain⟨o',e1⟩:=a.there c ob q hx;exact b.there c o' e1 hx
 tups:=λc xs q=>b.tups c xs (a.tups c xs q)
 frzs:=λc ob xs q=>b.frzs c ob xs (a.frzs c ob xs q)
 tbls:=λc ps q=>by
  obtain⟨m1,e1⟩:=a.tbls c ps q;obtain⟨m2,e2⟩:=b.tbls c _ e1;exact⟨m1++m2,by rw[e2,Th]⟩
theorem Un.kept (k:∀ b u,h.get? b=Ab u->h'.get? b=Ab u):Un fs ex H H h h':=
 ⟨λb ob q _ _ _=>k b ob q,λb ob q _ _ _=>⟨ob.slots,k b ob q⟩,λ_ _ _ n _=>n,λb ob q _=>⟨ob,k b ob q⟩,λ_ _ q=>q,λ_ _ _ q=>q,λ_ ps q=>⟨#[],by rw[q];simp⟩⟩
theorem Un.refl:Un fs ex H H h h:=Un.kept λ_ _ q=>q
theorem Un.laid (k:∀ b u,h.get? b=Ab u->h'.get? b=Ab u)(hp:h.objs.size<=a)(hn:H a=none):Un fs ex H (upd H a o) h h' where
 keep:=λb u q _ _ _=>k b u q
 slot:=λb u q _ _ _=>⟨u.slots,k b u q⟩
 free:=λb u q n _=>by rw[qH (Bs (Aw (Ay q) hp))];exact n
 there:=λb u q _=>⟨u,k b u q⟩
 tups:=λb xs q=>by rw[qH (qS q hn)];exact q
 frzs:=λb u xs q=>by rw[qH (qS q hn)];exact q
 tbls:=λb ps q=>⟨#[],by rw[qH (qS q hn),q];simp⟩
theorem Un.write (mu:Mut (H x))(he:e=x\/H e=Ab (.own x))(k:∀ b u,b≠e->h.get? b=Ab u->h'.get? b=Ab u)(heo:∃ u,h'.get? e=Ab u):Un fs ex H (upd H x o) h h':=by
 have hx:∀ b,H b=none->b≠x:=λb n z=>by subst z;rw[n] at mu;exact mu
 have hb:∀ b,H b=none->b≠e:=λb n z=>by
  subst z;rcases he with r|r
  .exact hx b n r
  .rw[n] at r;cases r
 have hm:∀ b u,H b=Ab u->¬ Mut (Ab u)->b≠x:=λb u q nm z=>by subst z;rw[q] at mu;exact nm mu
 refine⟨λb u q n _ _=>k b u (hb b n) q,λb u q n _ _=>⟨u.slots,k b u (hb b n) q⟩,λb u q n _=>by rw[qH (hx b n)];exact n,λb u q _=>?_,
  λb xs q=>by rw[qH (hm b _ q λz=>z)];exact q,λb u xs q=>by rw[qH (hm b _ q λz=>z)];exact q,λb ps q=>⟨#[],by rw[qH (hm b _ q λz=>z),q];simp⟩⟩
 by_cases hbe:b=e
 .subst hbe;exact heo
 .exact⟨u,k b u hbe q⟩
theorem Un.mono (u:Un fs ex H H1 h h1)(hs:∀ b∈fs,b∈fs')(hx:∀ b∈ex,b∈ex'):Un fs' ex' H H1 h h1:=
 ⟨λb ob q n hb he=>u.keep b ob q n (λz=>hb (hs b z)) λz=>he (hx b z),λ_ _ q n _ he=>u.any q n λz=>he (hx _ z),λb ob q n he=>u.free b ob q n λz=>he (hx b z),λb ob q he=>u.there b ob q λz=>he (hx b z),u.tups,u.frzs,u.tbls⟩
end
noncomputable def trk (h:Bc)(H:Hp):Aa Ad:=(Cw h.objs.size).filter λa=>(H a).isSome
noncomputable def kZ (h:Bc)(H:Hp):Bc:=Mt h (trk h H)
theorem iR (h:Bc)(H:Hp):(kZ h H).objs.size=h.objs.size:=PySem.W.hideAll_size _ _
theorem XA {h:Bc}{H:Hp}{b:Ad}{o:Bq}(e:h.get? b=Ab o)(n:H b=none):(kZ h H).get? b=Ab o:=
 Rx _ e λhm=>by
  have q:(H b).isSome=true:=(Mu.mp hm).2;rw[n] at q;simp at q
theorem K7 {h:Bc}{H:Hp}{b:Ad}{o:Bq}(e:(kZ h H).get? b=Ab o):h.get? b=Ab o/\H b=none:=by
 have e':h.get? b=Ab o:=Ti (trk h H) e;refine⟨e',?_⟩;cases q:H b with
 |none=>rfl
 |some x =>
  have hm:b∈trk h H:=Mu.mpr ⟨Es.mpr (Ay e'),by simp[q]⟩
  have z:(kZ h H).get? b=none:=PySem.W.hideAll_none (trk h H) hm;rw[z] at e;cases e
noncomputable def VJ (g h:Bc)(L:Ad):Aa (Ad × Bq):=(Cw h.objs.size).filterMap λa=>if a=L\/(g.get? a).isSome=true then none else (h.get? a).map λo=>(a,o)
noncomputable def qL (g h:Bc)(L d:Ad):Aa (Ad × Bq):=(VJ g h L).filter λp=>decide (p.1≠d)
end _L
namespace _L
open PySem PySem.Spec PyProof.Rows
variable {g':AZ GenState}{ch:Aa Ad}{E:Ac->Ag->Prop}{t':Af}{d':Drawn}{M:Jl}{Q:Nh->Ag->Prop}
noncomputable def xX:Aa An:=["law","_law_right","by_hull","pair_bound","hub","greatest_often"]
def P9 (mg:An->Al Ac)(h:Bc):Prop:=∃ bm o,mg "__builtins__" = Ab (.ref bm)/\bm≠Ng/\h.get? bm=Ab o/\o.cls=.type "module" /\ o.dict=Ab Ng/\o.data=.plain
structure Mod (K:Ah)(mg:An->Al Ac)(base:Bc):Prop where
 kin:K.In base
 glob:base.Ns Br mg
 blt:∃ mb,base.Ns Ng mb/\∀ x:An,x ≠ "__name__" -> mb x=El x
 nolimit:base.NoLimit
 bm:P9 mg base
 code:∀ x∈xX,∀ c T,Co K x=Ab (c,T)->Rb base c T
 inj:∀ x∈xX,∀ y∈xX,∀ c d T,Co K x=Ab (c,T)->Co K y=Ab (d,T)->x=y
structure Cx where
 prog:AV
 w:Bk
 K:Ah
 mg:An->Al Ac
 base:Bc
 A:Bh
 N:Aa An
 s₀:Ag
 H₀:Hp
 env:Gv
 outer:Aa Gv
 stack:Aa Gv
 ex:Aa Ad
 fn:An->Ao
 calm:Ao
 pn:Aa (Ad × Bq)
 xe:Ac->Ag->Prop
noncomputable def frs (l:Aa Gv):Aa Ad:=l.filterMap (·.frame)
abbrev Cx.fs (X:Cx):Aa Ad:=frs X.outer
def Vis (sc:Di)(x:An):Prop:=sc.names.lookup x=Ab .local \/ sc.names.lookup x=Ab .cell\/sc.names.lookup x=Ab .free
def Loc (sc:Di)(x:An):Prop:=sc.names.lookup x=Ab .local \/ sc.names.lookup x=Ab .cell
def PF (env:Gv)(h:Bc)(m:An->Al Ac)(x:An)(u:Ac):Prop:=
 (env.kindOf x=Ab .local /\ m x=Ab u)\/((env.kindOf x=Ab .cell\/env.kindOf x=Ab .free)/\∃ c,env.cells.lookup x=Ab c/\h.IsCell c (Ab u))
structure Cx.Ok (X:Cx):Prop where
 mod:Mod X.K X.mg X.base
 kind:X.env.scope.kind=.function
 glob:X.env.globals=Br
 blt:X.env.builtins=Ng
 above:X.s₀.heap.objs.size<=X.env.locals
 inj:∀ x y c,X.env.cells.lookup x=Ab c->X.env.cells.lookup y=Ab c->x=y
 has:∀ x,(X.env.kindOf x=Ab .cell\/X.env.kindOf x=Ab .free)->∃ c,X.env.cells.lookup x=Ab c
 cab:∀ x c,X.fn x=true->X.env.cells.lookup x=Ab c->X.s₀.heap.objs.size<=c
 hd:X.calm=true->X.A.handled=none
 frames:X.A.frames=Ab X.stack
 stk:X.stack=X.outer\/(X.stack=X.env::X.outer/\X.env.frame=Ab X.env.locals)
 exf:∀ b∈X.ex,b≠X.env.locals/\∀ x c,X.env.cells.lookup x=Ab c->c≠b
 bs:∀ b o,X.base.get? b=Ab o->X.s₀.heap.get? b=Ab o/\X.H₀ b=none
 bsz:X.base.objs.size<=X.s₀.heap.objs.size
 noex:∀ b o,X.base.get? b=Ab o->b ∉ X.ex
 exfs:∀ b∈X.ex,b ∉ X.fs
 funs:X.s₀.heap.FunFrames X.base X.outer
 frf:∀ b∈X.fs,X.H₀ b=none
structure Inv (X:Cx)(pins:Aa (Ad × Bq))(σ : Aa (Al V))(H:Hp)(s:Ag):Prop where
 ok:X.Ok
 os:s.os=X.s₀.os
 bare:Lo s.gens
 base:Un X.fs X.ex X.H₀ H X.s₀.heap s.heap
 loc:∃ m,s.heap.Ns X.env.locals m/\∀ (i:Af) (x:An) (v:V),X.N[i]? = Ab x->σ[i]? = Ab (Ab v)->Vis X.env.scope x->∃ u,qM v u/\PF X.env s.heap m x u
 cell:∀ x c,X.env.cells.lookup x=Ab c->∃ v,s.heap.IsCell c v
 free:H X.env.locals=none
 freeC:∀ x c,X.env.cells.lookup x=Ab c->H c=none
 pin:∀ p∈X.pn++pins,s.heap.get? p.1=Ab p.2/\H p.1=none/\p.1≠X.env.locals/\p.1 ∉ X.fs/\∀ v,p.2.data≠.cell v
 hok:HOk X.prog X.w H s.heap
 len:σ.length=X.N.length
section
variable {X:Cx}{pins:Aa (Ad × Bq)}{σ : Aa (Al V)}{H H':Hp}{s:Ag}{h':Bc}
theorem Cx.Ok.nofr (ok:X.Ok){b:Ad}{o:Bq}(e:X.base.get? b=Ab o):b ∉ X.fs:=λhb=>by
 have:=(ok.funs.mem hb).1;rw[e] at this;cases this
theorem Inv.bs (I:Inv X pins σ H s):∀ b o,X.base.get? b=Ab o->s.heap.get? b=Ab o/\H b=none:=λb o e =>
 ⟨I.base.keep b o (I.ok.bs b o e).1 (I.ok.bs b o e).2 (I.ok.nofr e) (I.ok.noex b o e),I.base.free b o (I.ok.bs b o e).1 (I.ok.bs b o e).2 (I.ok.noex b o e)⟩
theorem Inv.bk (I:Inv X pins σ H s):∀ b o,X.base.get? b=Ab o->s.heap.get? b=Ab o:=λb o e=>(I.bs b o e).1
theorem Inv.mod (I:Inv X pins σ H s):Mod X.K X.mg X.base:=I.ok.mod
theorem Inv.kIn (I:Inv X pins σ H s):X.K.In s.heap:=I.ok.mod.kin.keeps I.bk
theorem Inv.nolimit (I:Inv X pins σ H s):s.heap.NoLimit:=I.ok.mod.nolimit.keeps I.bk
theorem Inv.lt (I:Inv X pins σ H s):X.env.locals<s.heap.objs.size:=let ⟨_,hn,_⟩:=I.loc;hn.lt
theorem Inv.sz (I:Inv X pins σ H s):X.s₀.heap.objs.size<=s.heap.objs.size:=Bu I.ok.above (Ee I.lt)
theorem Inv.nofs (I:Inv X pins σ H s){a:Ad}(h:s.heap.objs.size<=a):a ∉ X.fs:=λhb=>by
 obtain⟨_,o,ho,_⟩:=I.ok.funs.mem hb;exact absurd (Aw (Ay ho) (Bu I.sz h)) (Dr _)
theorem Inv.cne (I:Inv X pins σ H s):∀ x c,X.env.cells.lookup x=Ab c->c≠X.env.locals:=λx c e z=>by
 obtain⟨v,o,ho,hd⟩:=I.cell x c e;obtain⟨m,⟨o',es,ep,ho',hd',_⟩,_⟩:=I.loc;rw[z,ho'] at ho;cases ho;rw[hd'] at hd;cases hd
theorem Inv.funs (I:Inv X pins σ H s):s.heap.FunFrames X.base X.outer:=by
 have all:∀ (l:Aa Gv),(∀ b∈frs l,b∈X.fs)->X.s₀.heap.FunFrames X.base l->s.heap.FunFrames X.base l:=by
  intro l
  induction l with
  |nil=>intro _ _;trivial
  |cons env r ih =>
   intro hs hl;obtain⟨hk,⟨L,o,hf,hn,ho,hd⟩,hr⟩:=hl;have hL:L∈X.fs:=hs L (by unfold frs;rw[Gx,hf];exact Bp)
   obtain⟨sl,e⟩:=I.base.slot L o ho (I.ok.frf L hL) hL λz=>I.ok.exfs L z hL;exact⟨hk,⟨L,_,hf,hn,e,hd⟩,ih (λb hb=>hs b (by unfold frs;rw[Gx,hf];exact AT _ hb)) hr⟩
 exact all X.outer (λ_ hb=>hb) I.ok.funs
theorem Inv.stack (I:Inv X pins σ H s):s.heap.FunFrames X.base X.stack:=by
 rcases I.ok.stk with e|⟨e,hf⟩
 .rw[e];exact I.funs
 .rw[e]
  obtain⟨m,hn,_⟩:=I.loc;refine .cons (by rw[I.ok.kind];decide) hf hn ?_ I.funs
  exact Heap.get?_none_of_le (Bu I.ok.bsz I.ok.above)
theorem Inv.stkSub (I:Inv X pins σ H s):∀ b∈frs X.stack,b∈X.env.locals::X.fs:=λb hb=>by
 rcases I.ok.stk with e|⟨e,hf⟩
 .rw[e] at hb;exact AT _ hb
 .rw[e] at hb
  unfold frs at hb;rw[Gx,hf] at hb;exact hb
theorem Inv.stkFree (I:Inv X pins σ H s):∀ b∈frs X.stack,H b=none:=λb hb=>by
 rcases Bg.mp (I.stkSub b hb) with e|hb
 .rw[e];exact I.free
 .obtain⟨_,o,ho,_⟩:=I.ok.funs.mem hb
  exact I.base.free b o ho (I.ok.frf b hb) λz=>I.ok.exfs b z hb
theorem Inv.step {g':AZ GenState}{t':Af}{d':Drawn}(I:Inv X pins σ H s)
  (hch:∀ b∈ch,(b∈X.ex\/X.s₀.heap.objs.size<=b)/\b≠X.env.locals/\(∀ x c,X.env.cells.lookup x=Ab c->c≠b)/\∀ p∈X.pn++pins,p.1≠b)
  (keep:∀ b o,b≠X.env.locals->b ∉ X.fs->b ∉ ch->s.heap.get? b=Ab o->H b=none->h'.get? b=Ab o)
  (slot:∀ b o,b≠X.env.locals->b∈X.fs->b ∉ ch->s.heap.get? b=Ab o->H b=none->∃ sl,h'.get? b=Ab { o with slots:=sl }) (free:∀ b o,b ∉ ch->s.heap.get? b=Ab o->H b=none->H' b=none)
  (there:∀ b o,b ∉ ch->s.heap.get? b=Ab o->∃ o',h'.get? b=Ab o')
  (tups:∀ b xs,H b=Ab (.tup xs)->H' b=Ab (.tup xs)) (frzs:∀ b o u,H b=Ab (.frz o u)->H' b=Ab (.frz o u)) (tbls:∀ b ps,H b=Ab (.tbl ps)->∃ more,H' b=Ab (.tbl (ps++more)))
  (ns:∀ m,s.heap.Ns X.env.locals m->h'.Ns X.env.locals m) (hok:HOk X.prog X.w H' h') (hg:Lo g') :
  Inv X pins σ H' { s with heap:=h',gens:=g',drawn:=d',toks:=t' }:=by
 have neL:∀ b o,X.s₀.heap.get? b=Ab o->b≠X.env.locals:=λb o e=>Bs (Aw (Ay e) I.ok.above);have neC:∀ b o,X.s₀.heap.get? b=Ab o->b ∉ X.ex->b ∉ ch:=λb o e hx hb=>by
  rcases (hch b hb).1 with z|z
  .exact hx z
  .exact absurd (Aw (Ay e) z) (Dr _)
 have cellK:∀ x c,X.env.cells.lookup x=Ab c->∀ v,s.heap.IsCell c v->h'.IsCell c v:=λx c e v ⟨o,ho,hd⟩=>by
  have nch:c ∉ ch:=λz=>(hch c z).2.2.1 x c e rfl;by_cases hc:c∈X.fs
  .obtain⟨sl,q⟩:=slot c o (I.cne x c e) hc nch ho (I.freeC x c e)
   exact⟨_,q,hd⟩
  .exact⟨o,keep c o (I.cne x c e) hc nch ho (I.freeC x c e),hd⟩
 refine⟨I.ok,I.os,hg,⟨λb o e n hb hx=>?_,λb o e n hb hx=>?_,λb o e n hx=>?_,λb o e hx=>?_,λb xs e=>tups b xs (I.base.tups b xs e),λb o xs e=>frzs b o xs (I.base.frzs b o xs e),λb ps e=>?_⟩,?_,λx c e=>?_,?_,λx c e=>?_,λp hp=>?_,hok,I.len⟩
 .exact keep b o (neL b o e) hb (neC b o e hx) (I.base.keep b o e n hb hx) (I.base.free b o e n hx)
 .obtain⟨sl,e1⟩:=I.base.slot b o e n hb hx
  obtain⟨sl',e2⟩:=slot b _ (neL b o e) hb (neC b o e hx) e1 (I.base.free b o e n hx);exact⟨sl',e2⟩
 .obtain⟨o',e1⟩:=I.base.there b o e hx
  exact free b o' (neC b o e hx) e1 (I.base.free b o e n hx)
 .obtain⟨o',e1⟩:=I.base.there b o e hx
  exact there b o' (neC b o e hx) e1
 .obtain⟨m1,e1⟩:=I.base.tbls b ps e
  obtain⟨m2,e2⟩:=tbls b _ e1;exact⟨m1++m2,by rw[e2,Th]⟩
 .obtain⟨m,hn,hl⟩:=I.loc
  refine⟨m,ns m hn,λi x v e1 e2 e3=>?_⟩;obtain⟨u,r,l⟩:=hl i x v e1 e2 e3;refine⟨u,r,?_⟩;rcases l with l|⟨k,c,e,z⟩
  .exact .inl l
  .exact .inr ⟨k,c,e,cellK x c e _ z⟩
 .obtain⟨v,z⟩:=I.cell x c e
  exact⟨v,cellK x c e v z⟩
 .obtain⟨m,⟨o,_,_,ho,_⟩,_⟩:=I.loc
  exact free _ o (λz=>(hch _ z).2.1 rfl) ho I.free
 .obtain⟨v,o,ho,hd⟩:=I.cell x c e
  exact free c o (λz=>(hch c z).2.2.1 x c e rfl) ho (I.freeC x c e)
 .obtain⟨e,n,ne,nf,d⟩:=I.pin p hp
  have nch:p.1 ∉ ch:=λz=>(hch p.1 z).2.2.2 p hp rfl;exact⟨keep p.1 p.2 ne nf nch e n,free p.1 p.2 nch e n,ne,nf,d⟩
theorem Inv.un {t':Af}(I:Inv X pins σ H s)(u:Un X.fs [] H H' s.heap h')(hok:HOk X.prog X.w H' h'):Inv X pins σ H' { s with heap:=h',toks:=t' }:=by
 obtain⟨m,⟨o,es,ep,ho,r⟩,_⟩:=id I.loc;obtain⟨sl,hL⟩:=u.any ho I.free (by simp)
 exact I.step (g':=s.gens) (d':=s.drawn) (ch:=[]) (λ_ z=>nomatch z) (λb o _ hb _ e n=>u.keep b o e n hb (by simp)) (λb o _ hb _ e n=>u.slot b o e n hb (by simp)) (λb o _ e n=>u.free b o e n (by simp)) (λb o _ e=>u.there b o e (by simp)) u.tups u.frzs u.tbls (λm' hm=>by
  obtain⟨o',es',ep',ho',r'⟩:=hm;rw[ho] at ho';cases ho';exact⟨_,es',ep',hL,r'⟩) hok I.bare
theorem Inv.call {t':Af}{d':Drawn}(I:Inv X pins σ H s)(u:Un (frs X.stack) ch H H' s.heap h')(hok:HOk X.prog X.w H' h')(hg:Lo g')
  (hch:∀ b∈ch,(b∈X.ex\/X.s₀.heap.objs.size<=b)/\b≠X.env.locals/\(∀ x c,X.env.cells.lookup x=Ab c->c≠b)/\∀ p∈X.pn++pins,p.1≠b) :
  Inv X pins σ H' { s with heap:=h',gens:=g',drawn:=d',toks:=t' }:=by
 obtain⟨m,⟨o,es,ep,ho,r⟩,_⟩:=id I.loc;obtain⟨sl,hL⟩:=u.any ho I.free λz=>(hch _ z).2.1 rfl;exact I.step (ch:=ch) hch (λb o hL hb hc e n=>u.keep b o e n (λz=>(Bg.mp (I.stkSub b z)).elim hL hb) hc) (λb o _ _ hc e n=>u.any e n hc) (λb o hc e n=>u.free b o e n hc) (λb o hc e=>u.there b o e hc) u.tups u.frzs u.tbls (λm' hm=>by
  obtain⟨o',es',ep',ho',r'⟩:=hm;rw[ho] at ho';cases ho';exact⟨_,es',ep',hL,r'⟩) hok hg
theorem Inv.turned {t':Af}{it:Ad}(I:Inv X pins σ H s)(k:∀ b o,b≠it->s.heap.get? b=Ab o->h'.get? b=Ab o)(hn:H it=none)(hL:it≠X.env.locals)
  (h1:it∈X.ex\/X.s₀.heap.objs.size<=it) (h2:∀ x c,X.env.cells.lookup x=Ab c->c≠it) (h3:∀ p∈X.pn++pins,p.1≠it):Inv X pins σ H { s with heap:=h',toks:=t' }:=by
 have nit:∀ b u,H b=Ab u->b≠it:=λb u e z=>by rw[z,hn] at e;cases e
 refine I.step (g':=s.gens) (d':=s.drawn) (ch:=[it]) (λb hb=>?_) (λb o _ _ hc e _=>k b o (λz=>hc (by simp[z])) e) (λb o _ _ hc e _=>⟨o.slots,k b o (λz=>hc (by simp[z])) e⟩) (λ_ _ _ _ n=>n)
  (λb o hc e=>⟨o,k b o (λz=>hc (by simp[z])) e⟩) (λ_ _ e=>e) (λ_ _ _ e=>e) (λb ps e=>⟨#[],by rw[e];simp⟩) (λm hm=>?_) (λb u e=>?_) I.bare
 .have e:b=it:=by simpa using hb
  subst e;exact⟨h1,hL,h2,h3⟩
 .obtain⟨o,es,ep,ho,r⟩:=hm
  exact⟨o,es,ep,k _ o (Fa hL) ho,r⟩
 .refine(I.hok b u e).stay (λc v hc q=>k c v ?_ q) (λ_ q=>q) λ_ _ q=>q
  rcases hc with z|z
  .rw[z];exact nit b u e
  .exact nit c _ z
theorem Inv.tok (I:Inv X pins σ H s)(t:Af):Inv X pins σ H { s with toks:=t }:=I.un (h':=s.heap) (t':=t) Un.refl I.hok
theorem Inv.kept {t':Af}(I:Inv X pins σ H s)(k:∀ b u,s.heap.get? b=Ab u->h'.get? b=Ab u):Inv X pins σ H { s with heap:=h',toks:=t' }:=I.un (Un.kept k) (I.hok.kept k)
theorem Inv.laid {a:Ad}{o:HO}{t':Af}(I:Inv X pins σ H s)(k:∀ b u,s.heap.get? b=Ab u->h'.get? b=Ab u)(hp:s.heap.objs.size<=a)(new:z9 X.prog X.w (upd H a o) h' a o) :
  Inv X pins σ (upd H a o) { s with heap:=h',toks:=t' }:=I.un (Un.laid k hp (I.hok.fresh hp)) (I.hok.laid k hp new)
theorem Inv.write {x e:Ad}{o:HO}{t':Af}(I:Inv X pins σ H s)(mu:Mut (H x))(he:e=x\/H e=Ab (.own x))(k:∀ b u,b≠e->s.heap.get? b=Ab u->h'.get? b=Ab u)(heo:∃ u,h'.get? e=Ab u)
  (new:z9 X.prog X.w (upd H x o) h' x o):Inv X pins σ (upd H x o) { s with heap:=h',toks:=t' }:=I.un (Un.write mu he k heo) (I.hok.write mu he k heo new)
theorem Inv.pins_of {pins':Aa (Ad × Bq)}(I:Inv X pins σ H s)(h:∀ p∈pins',s.heap.get? p.1=Ab p.2/\H p.1=none/\p.1≠X.env.locals/\p.1 ∉ X.fs/\∀ v,p.2.data≠.cell v):Inv X pins' σ H s:=
 ⟨I.ok,I.os,I.bare,I.base,I.loc,I.cell,I.free,I.freeC,λp hp=>(Bo.mp hp).elim (λz=>I.pin p (Df _ z)) (h p),I.hok,I.len⟩
theorem bP {N:Aa An}(hN:N.Nodup){i j:Af}{x:An}(a:N[i]? = Ab x)(b:N[j]? = Ab x):i=j:=by
 obtain⟨h1,e1⟩:=Bl.mp a;obtain⟨h2,e2⟩:=Bl.mp b;exact(OJ hN).mp (e1.trans e2.symm)
theorem QQ {A:Bh}{i:Af}{x:An}{v:V}{u:Ac}(I:Inv X pins σ H s)(hN:X.N.Nodup)(hi:X.N[i]? = Ab x)(hx:Loc X.env.scope x)(r:qM v u)
  (h:∀ s',Inv X pins (σ.set i (Ab v)) H s'->(∃ a,Hs a s.heap s'.heap/\(a=X.env.locals\/X.env.cells.lookup x=Ab a))->Q () s') (hf:X.fn x=true\/X.env.scope.names.lookup x=Ab .local:=by first|exact .inl rfl|exact .inr rfl|assumption):Ar M A (Xm X.env x u) Q E s:=by
 obtain⟨m,hn,hl⟩:=id I.loc;have hcls:(X.env.scope.kind == .class||(X.env.scope.kind == .module&&X.env.locals != X.env.globals))=false:=by rw[I.ok.kind];rfl
 have hiσ:i<σ.length:=by rw[I.len];exact(Bl.mp hi).1
 have cne:=I.cne;have tracked:∀ {a:Ad} {h':Bc},(∃ o,s.heap.get? a=Ab o/\H a=none)->Hs a s.heap h'->HOk X.prog X.w H h':=λ{a h'} ha hs b ob e=>by
  obtain⟨_,_,hfree⟩:=ha;refine(I.hok b ob e).stay (λc w' hc q=>(hs.2 c ?_).trans q) (λ_ q=>q) λ_ _ q=>q;rintro rfl;rcases hc with rfl|hc
  .rw[hfree] at e;cases e
  .rw[hfree] at hc;cases hc
 rcases hx with hk|hk
 .refine wpAny_storeName_local hk hn (λh' hn' hs=>?_) hcls
  obtain⟨oL,_,_,hoL,_⟩:=id hn;refine h _ ⟨I.ok,I.os,I.bare,⟨λb o e n hb hx=>?_,λb o e n hb hx=>?_,I.base.free,λb o e hx=>?_,I.base.tups,I.base.frzs,I.base.tbls⟩,⟨_,hn',λj y v' e1 e2 e3=>?_⟩,λy c e=>?_,I.free,I.freeC,λp hp=>?_,tracked ⟨oL,hoL,I.free⟩ hs,by simpa using I.len⟩ ⟨_,hs,.inl rfl⟩
  .exact(hs.2 b (Bs (Aw (Ay e) I.ok.above))).trans (I.base.keep b o e n hb hx)
  .obtain⟨sl,e1⟩:=I.base.slot b o e n hb hx
   exact⟨sl,(hs.2 b (Bs (Aw (Ay e) I.ok.above))).trans e1⟩
  .obtain⟨o',e1⟩:=I.base.there b o e hx
   exact⟨o',(hs.2 b (Bs (Aw (Ay e) I.ok.above))).trans e1⟩
  .by_cases hj:j=i
   .subst hj
    rw[hi] at e1;cases e1;rw[Ez hiσ] at e2;cases e2;exact⟨u,r,.inl ⟨hk,by simp⟩⟩
   .rw[Dk (Fa hj)] at e2
    obtain⟨u',r',q⟩:=hl j y v' e1 e2 e3;refine⟨u',r',?_⟩;rcases q with⟨k,e⟩|⟨k,c,e,z⟩
    .refine .inl ⟨k,?_⟩
     have:y≠x:=λe=>hj (bP hN e1 (e▸hi));simp[this,e]
    .exact .inr ⟨k,c,e,z.sameBut hs (cne y c e)⟩
  .obtain⟨w',z⟩:=I.cell y c e
   exact⟨w',z.sameBut hs (cne y c e)⟩
  .obtain⟨e,n,ne,nf,d⟩:=I.pin p hp
   exact⟨(hs.2 p.1 ne).trans e,n,ne,nf,d⟩
 .have hfn:X.fn x=true:=by
   rcases hf with z|z
   .exact z
   .rw[z] at hk;cases hk
  obtain⟨c,hc⟩:=I.ok.has x (.inl hk);obtain⟨w',z⟩:=I.cell x c hc;refine wpAny_storeName_cell I.ok.kind hk hc z (λh' hc' hs=>?_);obtain⟨oc,hoc,hocd⟩:=id z;refine h { s with heap:=h' } ⟨I.ok,I.os,I.bare,⟨λb o e n hb hx=>?_,λb o e n hb hx=>?_,I.base.free,λb o e hx=>?_,I.base.tups,I.base.frzs,I.base.tbls⟩,⟨m,hn.sameBut hs (Fa (cne x c hc)),λj y v' e1 e2 e3=>?_⟩,λy c' e=>?_,I.free,I.freeC,λp hp=>?_,tracked ⟨oc,hoc,I.freeC x c hc⟩ hs,by simpa using I.len⟩ ⟨c,hs,.inr hc⟩
  .exact(hs.2 b (Bs (Aw (Ay e) (I.ok.cab x c hfn hc)))).trans (I.base.keep b o e n hb hx)
  .obtain⟨sl,e1⟩:=I.base.slot b o e n hb hx
   exact⟨sl,(hs.2 b (Bs (Aw (Ay e) (I.ok.cab x c hfn hc)))).trans e1⟩
  .obtain⟨o',e1⟩:=I.base.there b o e hx
   exact⟨o',(hs.2 b (Bs (Aw (Ay e) (I.ok.cab x c hfn hc)))).trans e1⟩
  .by_cases hj:j=i
   .subst hj
    rw[hi] at e1;cases e1;rw[Ez hiσ] at e2;cases e2;exact⟨u,r,.inr ⟨.inl hk,c,hc,hc'⟩⟩
   .rw[Dk (Fa hj)] at e2
    obtain⟨u',r',q⟩:=hl j y v' e1 e2 e3;refine⟨u',r',?_⟩;rcases q with q|⟨k,c',e,z'⟩
    .exact .inl q
    .refine .inr ⟨k,c',e,z'.sameBut hs ?_⟩
     rintro rfl;exact hj (bP hN e1 (I.ok.inj _ _ _ e hc▸hi))
  .by_cases hcc:c'=c
   .subst hcc;exact⟨_,hc'⟩
   .obtain⟨w2,z2⟩:=I.cell y c' e
    exact⟨w2,z2.sameBut hs hcc⟩
  .obtain⟨e,n,ne,nf,d⟩:=I.pin p hp
   refine⟨(hs.2 p.1 ?_).trans e,n,ne,nf,d⟩;intro q;rw[q,hoc] at e;have q':oc=p.2:=Bx e;exact d w' (by rw[<- q'];exact hocd)
theorem xY {A:Bh}{i:Af}{x:An}{v:V}{u:Ac}(I:Inv X pins σ H s)(hN:X.N.Nodup)(hi:X.N[i]? = Ab x)(hx:Loc X.env.scope x)(r:qM v u)
  (h:∀ s',Inv X pins (σ.set i (Ab v)) H s'->Q () s') (hf:X.fn x=true\/X.env.scope.names.lookup x=Ab .local:=by first|exact .inl rfl|exact .inr rfl|assumption):Ar M A (Xm X.env x u) Q E s:=
 QQ I hN hi hx r (λs' I' _=>h s' I') hf
theorem Inv.call' {s':Ag}(I:Inv X pins σ H s)(ho:s'.os=s.os)(u:Un (frs X.stack) ch H H' s.heap s'.heap)(hok:HOk X.prog X.w H' s'.heap)(hg:Lo s'.gens)
  (hch:∀ b∈ch,(b∈X.ex\/X.s₀.heap.objs.size<=b)/\b≠X.env.locals/\(∀ x c,X.env.cells.lookup x=Ab c->c≠b)/\∀ p∈X.pn++pins,p.1≠b):Inv X pins σ H' s':=by
 obtain⟨h',g',d',t',o'⟩:=s';have e:o'=s.os:=ho;subst e;exact I.call (g':=g') (t':=t') (d':=d') u hok hg hch
end
abbrev XK:=Ac->Al Ad->Hp->Prop
abbrev St:=Aa (Al V)
abbrev VK:=V->Hp->Prop
abbrev TE:=St->Hp->VK->Prop
abbrev TT:=St->Hp->(Ao->Hp->Prop)->Prop
abbrev TA:=St->Hp->(Aa V->Hp->Prop)->Prop
structure Ends where
 nx:St->Hp->Prop
 rt:VK
 bk:St->Hp->Prop:=λ_ _=>Eh
 ct:St->Hp->Prop:=λ_ _=>Eh
abbrev TS:=Ends->St->Hp->Prop
inductive EP (X:Cx)(pins:Aa (Ad × Bq))(σ : St)(Q:VK)(u:Ac)(s':Ag):Prop
 |mk (v:V) (H':Hp) (I:Inv X pins σ H' s') (r:qM v u) (q:Q v H'):EP X pins σ Q u s'
inductive TP (X:Cx)(pins:Aa (Ad × Bq))(σ : St)(Q:Ao->Hp->Prop)(b:Ao)(s':Ag):Prop
 |mk (H':Hp) (I:Inv X pins σ H' s') (q:Q b H'):TP X pins σ Q b s'
inductive AP (X:Cx)(pins:Aa (Ad × Bq))(σ : St)(Q:Aa V->Hp->Prop)(us:Aa Ac)(s':Ag):Prop
 |mk (vs:Aa V) (H':Hp) (I:Inv X pins σ H' s') (r:qN vs us) (q:Q vs H'):AP X pins σ Q us s'
def SP (X:Cx)(pins:Aa (Ad × Bq))(D:Ends)(f:Flow)(s':Ag):Prop:=
 match f with
 |.next=>∃ σ' H',Inv X pins σ' H' s'/\D.nx σ' H'
 |.brk=>∃ σ' H',Inv X pins σ' H' s'/\D.bk σ' H'
 |.cont=>∃ σ' H',Inv X pins σ' H' s'/\D.ct σ' H'
 |.ret u=>∃ v σ' H',Inv X pins σ' H' s'/\qM v u/\D.rt v H'
def PE (X:Cx)(e:Bd)(t:TE):Prop:=
 ∀ (pins:Aa (Ad × Bq)) (s:Ag) (σ : St) (H:Hp) (Q:VK),Inv X pins σ H s->t σ H Q->Ar (Au X.prog X.w) X.A (eval e X.env) (EP X pins σ Q) X.xe s
def PT (X:Cx)(e:Bd)(t:TT):Prop:=
 ∀ (pins:Aa (Ad × Bq)) (s:Ag) (σ : St) (H:Hp) (Q:Ao->Hp->Prop),Inv X pins σ H s->t σ H Q->Ar (Au X.prog X.w) X.A (isTrue e X.env (eval e X.env)) (TP X pins σ Q) X.xe s
def PW (X:Cx)(e:Bd)(t:TT):Prop:=
 ∀ (whole:IT Ac) (pins:Aa (Ad × Bq)) (s:Ag) (σ : St) (H:Hp) (Q:Ao->Hp->Prop),Inv X pins σ H s->t σ H Q->Ar (Au X.prog X.w) X.A (isTrue e X.env whole) (TP X pins σ Q) X.xe s
def PA (X:Cx)(es:Aa Bd)(t:TA):Prop:=
 ∀ (pos:Do) (pins:Aa (Ad × Bq)) (s:Ag) (σ : St) (H:Hp) (Q:Aa V->Hp->Prop),Inv X pins σ H s->t σ H Q->Ar (Au X.prog X.w) X.A (spliced (Eo pos (Az es X.env))) (AP X pins σ Q) X.xe s
def PS (X:Cx)(st:Ds)(t:TS):Prop:=
 ∀ (pins:Aa (Ad × Bq)) (s:Ag) (σ : St) (H:Hp) (D:Ends),Inv X pins σ H s->t D σ H->Ar (Au X.prog X.w) X.A (exec st X.env) (SP X pins D) X.xe s
def PSs (X:Cx)(st:Aa Ds)(t:TS):Prop:=
 ∀ (pins:Aa (Ad × Bq)) (s:Ag) (σ : St) (H:Hp) (D:Ends),Inv X pins σ H s->t D σ H->Ar (Au X.prog X.w) X.A (execs st X.env) (SP X pins D) X.xe s
theorem thn {α:Type}{t:IT α}{Q Q':α->Ag->Prop}{A:Bh}{s:Ag}(h:Ar M A t Q E s)(hQ:∀ a s,Q a s->Q' a s):Ar M A t Q' E s:=Gj h hQ λ_ _ x=>x
end _L
namespace _L
open PySem PySem.Spec PyProof.Rows
variable {pins:Aa (Ad × Bq)}{u:Ac}{E Q:Ac->Ag->Prop}
section
variable {X:Cx}
theorem bin {a b:Bd}{ta tb:TE}(ha:PE X a ta)(hb:PE X b tb){pins:Aa (Ad × Bq)}{s:Ag}{σ : St}{H:Hp}{R:V->V->Hp->Prop}(I:Inv X pins σ H s)(h:ta σ H λx H1=>tb σ H1 λy H2=>R x y H2)
  {α:Type} {Q:α->Ag->Prop} {f:Ac->Ac->IT α}
  (hf:∀ v u s2 x y H2,Inv X pins σ H2 s2->qM x v->qM y u->R x y H2->Ar (Au X.prog X.w) X.A (f v u) Q X.xe s2) :
  Ar (Au X.prog X.w) X.A (eval a X.env) (λv s₁=>Ar (Au X.prog X.w) X.A (eval b X.env) (λu s₂=>Ar (Au X.prog X.w) X.A (f v u) Q X.xe s₂) X.xe s₁) X.xe s:=by
 refine thn (ha pins s σ H _ I h) λv s1 ⟨x,H1,I1,r1,q1⟩=>?_;refine thn (hb pins s1 σ H1 _ I1 q1) λu s2 ⟨y,H2,I2,r2,q2⟩=>?_;exact hf v u s2 x y H2 I2 r1 r2 q2
def NV (i:Af):TE:=λσ H Q=>∃ v,σ[i]? = Ab (Ab v)/\Q v H
def tC (v:V):TE:=λ_ H Q=>Q v H
theorem oK {i:Af}{x:An}{pos:Do}(hN:X.N[i]? = Ab x)(hv:Vis X.env.scope x)(hd:(x == ("__debug__" : An))=false:=by decide)(hcd:(x == ("__classdict__" : An))=false:=by decide):PE X (.Name x pos) (NV i):=by
 intro pins s σ H Q I h;obtain⟨v,e,h⟩:=h;obtain⟨m,hn,hl⟩:=I.loc;obtain⟨u,r,l⟩:=hl i x v hN e hv;have fin:EP X pins σ Q u s:=⟨v,H,I,r,h⟩;rcases l with⟨hk,hm⟩|⟨hk,c,hc,hcell⟩
 .exact Wr (Rk I.ok.kind hk hn hm fin) hd
 .rcases hk with hk|hk
  .exact Wr (Ry I.ok.kind hk hc hcell fin) hd
  .exact Wr (wpAny_loadName_free I.ok.kind hk hc hcell fin hcd) hd
theorem TC:PE X (.Constant (.int i) j pos) (tC (.int i)):=λ_ _ _ H _ I h=>wpAny_Constant_int ⟨.int i,H,I.tok _,⟨_,rfl⟩,h⟩
theorem SZ:PE X (.Constant (.bool b) j pos) (tC (.bl b)):=λ_ _ _ H _ I h=>Constant_bool ⟨.bl b,H,I,rfl,h⟩
theorem TF:PE X (.Constant .none j pos) (tC .non):=λ_ _ _ H _ I h=>Constant_none ⟨.non,H,I,rfl,h⟩
theorem TJ:PE X (.Constant (.str x) j pos) (tC (.str x)):=λ_ _ _ H _ I h=>Calls.Constant_str ⟨.str x,H,I.tok _,⟨_,rfl⟩,h⟩
def Gl (X:Cx)(x:An):Prop:=X.env.kindOf x=Ab .globalImplicit
theorem uC {s:Ag}{σ:St}{H:Hp}{x:An}{pos:Do}(I:Inv X pins σ H s)(hg:Gl X x)(hm:X.mg x=Ab u)(h:Q u s)
  (hd:(x == ("__debug__" : An))=false:=by decide):Ar (Au X.prog X.w) X.A (eval (.Name x pos) X.env) Q E s:=
 Od I.ok.kind hg (Calls.loadGlobal_global (by rw[I.ok.glob];exact I.mod.glob.keeps I.bk) hm h) hd
theorem wX {s:Ag}{σ:St}{H:Hp}{x:An}{pos:Do}(I:Inv X pins σ H s)(hg:Gl X x)(hm:X.mg x=none)(hv:El x=Ab u)(h:Q u s)
  (hn:x ≠ "__name__":=by decide) (hd:(x == ("__debug__" : An))=false:=by decide):Ar (Au X.prog X.w) X.A (eval (.Name x pos) X.env) Q E s:=by
 obtain⟨mb,h1,h2⟩:=I.mod.blt;exact Od I.ok.kind hg (Calls.loadGlobal_builtin (by rw[I.ok.glob];exact I.mod.glob.keeps I.bk) hm (by rw[I.ok.blt];exact h1.keeps I.bk) ((h2 x hn).trans hv) h) hd
theorem KC {x:An}{v:V}{pos:Do}(hg:Gl X x)(hm:X.mg x=Ab u)(r:qM v u)(hd:(x == ("__debug__" : An))=false:=by decide):PE X (.Name x pos) (tC v):=
 λ_ _ _ H _ I h=>uC I hg hm ⟨v,H,I,r,h⟩ hd
theorem KB {x:An}{v:V}{pos:Do}(hg:Gl X x)(hm:X.mg x=none)(hv:El x=Ab u)(r:qM v u)(hn:x ≠ "__name__":=by decide)(hd:(x == ("__debug__" : An))=false:=by decide):PE X (.Name x pos) (tC v):=
 λ_ _ _ H _ I h=>wX I hg hm hv ⟨v,H,I,r,h⟩ hn hd
variable {a b:Bd}{ta tb:TE}{pos:Do}
variable {tA tB':TT}{qL:Aa Bd}
theorem KP (ha:PT X a tA):PW X (.BoolOp .And [a] pos) tA:=by
 intro wh pins s σ H Q I h;refine isTrue_and (thn (ha pins s σ H Q I h) λc s1 e=>?_);cases c with
 |true=>exact isTrue_and_nil e
 |false=>exact e
theorem TZ (ha:PT X a tA):PW X (.BoolOp .Or [a] pos) tA:=by
 intro wh pins s σ H Q I h;refine isTrue_or (thn (ha pins s σ H Q I h) λc s1 e=>?_);cases c with
 |false=>exact isTrue_or_nil e
 |true=>exact e
theorem TH {t:TE}(h:PE X a t):PE X (.BoolOp op [a] pos) t:=λpins s σ H Q I hw=>BoolOp_one (h pins s σ H Q I hw)
end
end _L
namespace _L
open PySem PySem.Spec PyProof.Rows
variable {P:AV}{es:Aa Bd}{i:Af}{K:Ah}{x:An}{tg:Bd}{w:Bk}
def SqL (K:Ah)(H:Hp)(a:Ad)(xs:Aa V):Prop:=
 Rd H a (.lst xs) \/
  ∃ (o:Bq) (its:AZ Ac) (n:Af),K.lookup a=Ab o/\o.cls=.type "list" /\ o.dict=none/\o.data=.seq its n/\its.size<=sizeLine/\qN xs its.toList
def SqT (K:Ah)(H:Hp)(a:Ad)(xs:Aa V):Prop:=
 Rd H a (.tup xs) \/
  ∃ (o:Bq) (its:AZ Ac) (n:Af),K.lookup a=Ab o/\o.cls=.type "tuple" /\ o.data=.seq its n/\its.size<=sizeLine/\qN xs its.toList
noncomputable def E8:Ac->Al V
 |.none=>Ab .non
 |.bool b=>Ab (.bl b)
 |.int i _=>Ab (.int i)
 |.str x _=>Ab (.str x)
 |.bytes b _=>Ab (.byt b)
 |.float b _=>Ab (.flt b)
 |.ref a=>Ab (.ref a)
 |.type n=>Ab (.ty n)
 |_=>none
theorem qM.abs {x:V}{u:Ac}(r:qM x u):E8 u=Ab x:=by
 cases x with
 |non=>cases r;rfl
 |bl _=>cases r;rfl
 |int _=>obtain⟨t,rfl⟩:=r;rfl
 |str _=>obtain⟨t,rfl⟩:=r;rfl
 |byt _=>obtain⟨t,rfl⟩:=r;rfl
 |flt _=>obtain⟨t,rfl⟩:=r;rfl
 |ref _=>cases r;rfl
 |ty _=>cases r;rfl
theorem qM.inj {x y:V}{u:Ac}(r:qM x u)(q:qM y u):x=y:=Bx (r.abs.symm.trans q.abs)
theorem qN.inj {xs ys:Aa V}{us:Aa Ac}(h:qN xs us)(k:qN ys us):xs=ys:=by
 induction h generalizing ys with
 |nil=>cases k;rfl
 |cons r t ih =>
  cases k with
  |cons r' t'=>rw[r.inj r',ih t']
section
variable {X:Cx}{pins:Aa (Ad × Bq)}{σ : St}{H:Hp}{s:Ag}{a:Ad}{xs ys:Aa V}
theorem SqL.of (h:H a=Ab (.lst xs)):SqL K H a xs:=.inl (.inl h)
theorem SqT.of (h:H a=Ab (.tup xs)):SqT K H a xs:=.inl (.inl h)
theorem Inv.list (I:Inv X pins σ H s)(h:SqL X.K H a xs):∃ its:Aa Ac,qN xs its/\PlainL s.heap a its.toArray/\xs.length<=sizeLine:=by
 rcases h with h|⟨o,its,n,hk,hc,hd,hs,hz,r⟩
 .obtain⟨z,its,n,r,e⟩:=h.ok I.hok
  exact⟨its,r,⟨_,n,e,rfl,rfl,rfl⟩,z⟩
 .refine⟨its.toList,r,⟨o,n,I.kIn a o hk,hc,hd,by simpa using hs⟩,?_⟩
  have e:=r.length;simp only[Bm] at e;omega
theorem Inv.tuple (I:Inv X pins σ H s)(h:SqT X.K H a xs):∃ its:Aa Ac,qN xs its/\Qj s.heap a its.toArray/\xs.length<=sizeLine:=by
 rcases h with h|⟨o,its,n,hk,hc,hs,hz,r⟩
 .obtain⟨z,its,r,p⟩:=h.ok I.hok
  exact⟨its,r,p,z⟩
 .refine⟨its.toList,r,⟨o,I.kIn a o hk,hc,n,by simpa using hs⟩,?_⟩
  have e:=r.length;simp only[Bm] at e;omega
theorem Inv.list_inj (I:Inv X pins σ H s)(h:SqL X.K H a xs)(h':SqL X.K H a ys):xs=ys:=by
 obtain⟨its,r,⟨o,n,e,_,_,d⟩,_⟩:=I.list h;obtain⟨its',r',⟨o',n',e',_,_,d'⟩,_⟩:=I.list h';rw[e] at e';cases e';rw[d] at d';injection d' with d1 _
 have:its=its':=by simpa using congrArg Yf d1
 subst this;exact r.inj r'
theorem Inv.tuple_inj (I:Inv X pins σ H s)(h:SqT X.K H a xs)(h':SqT X.K H a ys):xs=ys:=by
 obtain⟨its,r,⟨o,e,_,n,d⟩,_⟩:=I.tuple h;obtain⟨its',r',⟨o',e',_,n',d'⟩,_⟩:=I.tuple h';rw[e] at e';cases e';rw[d] at d';injection d' with d1 _
 have:its=its':=by simpa using congrArg Yf d1
 subst this;exact r.inj r'
end
abbrev Cx.wish (X:Cx)(E:Ac->Ag->Prop):Cx:={ X with xe:=E }
abbrev Cx.nox (X:Cx):Cx:=X.wish λ_ _=>Eh
theorem Cx.Ok.wish {X:Cx}(ok:X.Ok)(E:Ac->Ag->Prop):(X.wish E).Ok:=
 ⟨ok.mod,ok.kind,ok.glob,ok.blt,ok.above,ok.inj,ok.has,ok.cab,ok.hd,ok.frames,ok.stk,ok.exf,ok.bs,ok.bsz,ok.noex,ok.exfs,ok.funs,ok.frf⟩
theorem Cx.Ok.unwish {X:Cx}{E:Ac->Ag->Prop}(ok:(X.wish E).Ok):X.Ok:=
 ⟨ok.mod,ok.kind,ok.glob,ok.blt,ok.above,ok.inj,ok.has,ok.cab,ok.hd,ok.frames,ok.stk,ok.exf,ok.bs,ok.bsz,ok.noex,ok.exfs,ok.funs,ok.frf⟩
section
variable {X:Cx}{pins:Aa (Ad × Bq)}{σ : St}{H:Hp}{s:Ag}{E:Ac->Ag->Prop}
theorem Inv.wish (I:Inv X pins σ H s)(E:Ac->Ag->Prop):Inv (X.wish E) pins σ H s:=⟨I.ok.wish E,I.os,I.bare,I.base,I.loc,I.cell,I.free,I.freeC,I.pin,I.hok,I.len⟩
theorem Inv.unwish (I:Inv (X.wish E) pins σ H s):Inv X pins σ H s:=⟨I.ok.unwish,I.os,I.bare,I.base,I.loc,I.cell,I.free,I.freeC,I.pin,I.hok,I.len⟩
theorem SP.unwish {D:Ends}{f:Flow}{s':Ag}(h:SP (X.wish E) pins D f s'):SP X pins D f s':=by
 cases f with
 |next=>obtain⟨σ',H',I,q⟩:=h;exact⟨σ',H',I.unwish,q⟩
 |brk=>obtain⟨σ',H',I,q⟩:=h;exact⟨σ',H',I.unwish,q⟩
 |cont=>obtain⟨σ',H',I,q⟩:=h;exact⟨σ',H',I.unwish,q⟩
 |ret u=>obtain⟨v,σ',H',I,r,q⟩:=h;exact⟨v,σ',H',I.unwish,r,q⟩
theorem PE.nox {e:Bd}{t:TE}(h:PE X.nox e t):PE X e t:=λpins s σ H Q I hw =>
 Gj (h pins s σ H Q (I.wish _) hw) (λ_ _ ⟨v,H',I',r,q⟩=>⟨v,H',I'.unwish,r,q⟩) λ_ _ z=>Am z
theorem PT.nox {e:Bd}{t:TT}(h:PT X.nox e t):PT X e t:=λpins s σ H Q I hw =>
 Gj (h pins s σ H Q (I.wish _) hw) (λ_ _ ⟨H',I',q⟩=>⟨H',I'.unwish,q⟩) λ_ _ z=>Am z
theorem PSs.nox {st:Aa Ds}{t:TS}(h:PSs X.nox st t):PSs X st t:=λpins s σ H D I hw =>
 Gj (h pins s σ H D (I.wish _) hw) (λ_ _ q=>q.unwish) λ_ _ z=>Am z
end
section
variable {X:Cx}{st:Ds}{qL:Aa Ds}{t u:TS}{e:Bd}{te:TE}{pos:Do}
def RM:TS:=λD σ H=>D.nx σ H
def HU (t u:TS):TS:=λD σ H=>t { D with nx:=u D } σ H
theorem KN:PSs X [] RM:=λ_ _ σ H _ I h=>Jz ⟨σ,H,I,h⟩
theorem WK (h1:PS X st t)(h2:PSs X qL u):PSs X (st::qL) (HU t u):=by
 intro pins s σ H D I h;refine Va (thn (h1 pins s σ H { D with nx:=u D } I h) λf s1 q=>?_)
 cases f with
 |next =>
  obtain⟨σ',H',I',q⟩:=q;exact h2 pins s1 σ' H' D I' q
 |ret v=>exact q
 |brk=>exact q
 |cont=>exact q
theorem KO (h1:PS X st t):PSs X [st] t:=by
 intro pins s σ H D I h;refine Va (thn (h1 pins s σ H D I h) λf s1 q=>?_);cases f with
 |next=>exact Jz q
 |ret v=>exact q
 |brk=>exact q
 |cont=>exact q
def NT:TS:=λD σ H=>D.bk σ H
theorem WI:PS X (.Break pos) NT:=λ_ _ σ H _ I h=>wpAny_Break ⟨σ,H,I,h⟩
theorem Inv.quiet {pins:Aa (Ad × Bq)}{σ:St}{H:Hp}{s:Ag}(I:Inv X pins σ H s):interactive X.env=false:=by simp[interactive,I.ok.kind]
end
abbrev TG:=V->St->Hp->(St->Hp->Prop)->Prop
abbrev TGs:=Aa V->St->Hp->(St->Hp->Prop)->Prop
def PG (X:Cx)(target:Bd)(t:TG):Prop:=
 ∀ (pins:Aa (Ad × Bq)) (s:Ag) (σ : St) (H:Hp) (v:V) (u:Ac) (Q:St->Hp->Prop),Inv X pins σ H s->qM v u->t v σ H Q ->
  Ar (Au X.prog X.w) X.A (assign target X.env u) (λ_ s'=>∃ σ' H',Inv X pins σ' H' s'/\Q σ' H') X.xe s
def PGs (X:Cx)(ts:Aa Bd)(t:TGs):Prop:=
 ∀ (pins:Aa (Ad × Bq)) (s:Ag) (σ : St) (H:Hp) (vs:Aa V) (us:Aa Ac) (Q:St->Hp->Prop),Inv X pins σ H s->qN vs us->t vs σ H Q ->
  Ar (Au X.prog X.w) X.A (Lp ((Fk ts X.env).map (·.2)) us) (λ_ s'=>∃ σ' H',Inv X pins σ' H' s'/\Q σ' H') X.xe s
abbrev Z7:=V->V->V->Hp->(Hp->Prop)->Prop
def lB (X:Cx)(t:Z7):Prop:=
 ∀ (pins:Aa (Ad × Bq)) (s:Ag) (σ : St) (H:Hp) (o i v:V) (ov iv u:Ac) (Q:Hp->Prop),Inv X pins σ H s->qM o ov->qM i iv->qM v u->t o i v H Q ->
  Ar (Au X.prog X.w) X.A (Xn ov iv u) (λ_ s'=>∃ H',Inv X pins σ H' s'/\Q H') X.xe s
abbrev TIp:=V->V->Hp->VK->Prop
def PIp (X:Cx)(op:Lh)(t:TIp):Prop:=
 ∀ (pins:Aa (Ad × Bq)) (s:Ag) (σ : St) (H:Hp) (x y:V) (v u:Ac) (Q:VK),Inv X pins σ H s->qM x v->qM y u->t x y H Q ->
  Ar (Au X.prog X.w) X.A (inplaceOp op v u) (EP X pins σ Q) X.xe s
section
variable {X:Cx}{pos:Do}
def DR (i:Af):TG:=λv σ H Q=>Q (σ.set i (Ab v)) H
theorem KD (hN:X.N.Nodup)(hi:X.N[i]? = Ab x)(hx:Loc X.env.scope x)(hf:X.fn x=true\/X.env.scope.names.lookup x=Ab .local:=by first|exact .inl rfl|exact .inr rfl|assumption):PG X (.Name x pos) (DR i):=by
 intro pins s σ H v u Q I r h;exact wpAny_assign_Name (xY I hN hi hx r (λs' I'=>⟨_,H,I',h⟩) hf)
def EH:TGs:=λvs σ H Q=>vs=[]/\Q σ H
def DQ (t:TG)(u:TGs):TGs:=λvs σ H Q=>∃ v r,vs=v::r/\t v σ H λσ' H'=>u r σ' H' Q
theorem KE:PGs X [] EH:=by
 intro pins s σ H vs us Q I r h;obtain⟨e,h⟩:=h;subst e;cases r;exact Os ⟨σ,H,I,h⟩
theorem WE {e:Bd}{t:TG}{u:TGs}(h1:PG X e t)(h2:PGs X es u)
  (hs:(Fk (e::es) X.env).map (·.2)=assign e X.env::(Fk es X.env).map (·.2):=by rfl):PGs X (e::es) (DQ t u):=by
 intro pins s σ H vs us Q I r h;obtain⟨v,vr,e1,h⟩:=h;subst e1;cases r with
 |cons r rr =>
  rw[hs];refine Hg (thn (h1 pins s σ H _ _ _ I r h) λ_ s1 ⟨σ1,H1,I1,q1⟩=>?_);exact h2 pins s1 σ1 H1 _ _ Q I1 rr q1
def EI (K:Ah)(n:Af)(t:TGs):TG:=λv σ H Q=>∃ a xs,v=.ref a/\SqT K H a xs/\xs.length=n/\t xs σ H Q
theorem TM {k:Af}{t:TGs}{n:Af}(hc:X.calm=true)(h:PGs X es t)
  (hn:(Fk es X.env).length=n:=by rfl) (hst:(Fk es X.env).findIdx? (·.1)=none:=by rfl):PG X (.Tuple es k pos) (EI X.K n t):=by
 intro pins s σ H v u Q I r hw;obtain⟨a,xs,e1,hq,hl,hw⟩:=hw;subst e1;cases r;obtain⟨its,rv,ht,hz⟩:=I.tuple hq;refine assign_Tuple_tuple (I.ok.hd hc) ht (by simp[hn,<- hl,rv.length]) hst λh' hx=>?_
 have I1:Inv X pins σ H { s with heap:=h' }:=I.kept (t':=s.toks) λb o e=>hx b o (Bs (Ay e)) e
 exact h pins _ σ H xs _ Q I1 (by simpa using rv) hw
def uK (to ti:TE)(t:Z7):TG:=λv σ H Q=>to σ H λo H1=>ti σ H1 λi H2=>t o i v H2 λH3=>Q σ H3
def HS (i j:Af)(ta:TA):TS:=λD σ H=>ta σ H λvs H1=>∃ v w,vs=[v,w]/\D.nx ((σ.set i (Ab v)).set j (Ab w)) H1
theorem TV {j:Af}{y:An}{a b:Bd}{ta:TA}{px py pt:Do} {kt k2 pt2} (hc:X.calm=true) (hN:X.N.Nodup) (hi:X.N[i]? = Ab x) (hj:X.N[j]? = Ab y) (hij:i≠j)
  (hx:X.env.scope.names.lookup x=Ab .local) (hy:X.env.scope.names.lookup y=Ab .local) (ha:PA X [a,b] ta)
  (hw:Gy [.Tuple [.Name x px,.Name y py] kt pt] (.Tuple [a,b] k2 pt2) X.env=pure (Ab [x,y]))
  (hs:Gz [.Tuple [.Name x px,.Name y py] kt pt] (.Tuple [a,b] k2 pt2) pos.line X.env=pure false:=by rfl) :
  PS X (.Assign [.Tuple [.Name x px,.Name y py] kt pt] (.Tuple [a,b] k2 pt2) pos) (HS i j ta):=by
 intro pins s σ H D I h;rw[Wa];refine Ai (Lq ?_);rw[hs];refine Ai (Ap ?_);rw[AX (by decide)]
 refine Ai (Tuple_ (thn (ha _ pins s σ H _ I h) λus s1 ⟨vs,H1,I1,r1,q1⟩=>?_));obtain⟨v,w,e1,q1⟩:=q1;subst e1;obtain⟨u1,u2,rfl,rv,rw'⟩:∃ u1 u2,us=[u1,u2]/\qM v u1/\qM w u2:=by
  cases r1 with
  |cons p q =>
   cases q with
   |cons p' q' =>
    cases q';exact⟨_,_,rfl,p,p'⟩
 refine Cz ?_ (by show 2<=sizeLine;decide)
 have I2:Inv X pins σ H1 { s1 with heap:=s1.heap.push { cls:=.type "tuple",data:=.seq [u1,u2].toArray } }:=I1.kept (t':=s1.toks) λb o e=>Ak _ e
 rw[hw];refine Ai (Ap ?_);show Ar (Au X.prog X.w) X.A (do rule "assign.swapped-stores";let items <- unpackItems (.ref s1.heap.objs.size) 2 none;Lp [λv=>Jh X.env y v,λv=>Jh X.env x v] items.reverse;pure Ug) _ _ _
 refine Ai (Gk (Ai (Uh (items:=#[u1,u2]) (I.ok.hd hc) (Ot s1.heap _) λh' hx'=>?_)));have I3:=I2.kept (h':=h') (t':=s1.toks) λb o e=>hx' b o (Bs (Ay e)) e;show Ar _ _ (Lp [λv=>Jh X.env y v,λv=>Jh X.env x v] [u2,u1] >>= λ_=>pure Ug) _ _ _;refine Ai (Hg (La (xY I3 hN hj (.inl hy) rw' (λs2 I4=>?_) (.inr hy))));refine Hg (La (xY I4 hN hi (.inl hx) rv (λs3 I5=>Os (Ap ?_)) (.inr hx)));rw[Ou _ _ (Fa hij)] at I5;exact⟨_,H1,I5,q1⟩
def HM (i:Af)(te:TE)(ti:TIp):TS:=λD σ H=>∃ x,σ[i]? = Ab (Ab x)/\te σ H λy H1=>ti x y H1 λz H2=>D.nx (σ.set i (Ab z)) H2
theorem TR {e:Bd}{te:TE}{op:Lh}{ti:TIp}{pos':Do}(hN:X.N.Nodup)(hi:X.N[i]? = Ab x)(hx:Loc X.env.scope x)(he:PE X e te)(ho:PIp X op ti)(hf:X.fn x=true\/X.env.scope.names.lookup x=Ab .local:=by first|exact .inl rfl|exact .inr rfl|assumption) :
  PS X (.AugAssign (.Name x pos') op e pos) (HM i te ti):=by
 intro pins s σ H D I h;obtain⟨v,e1,h⟩:=h;obtain⟨m,hn,hl⟩:=I.loc;have vis:Vis X.env.scope x:=by rcases hx with k|k;exact .inl k;exact .inr (.inl k)
 obtain⟨u,r,l⟩:=hl i x v hi e1 vis;refine wpAny_AugAssign_Name ?_;have go:Ar (Au X.prog X.w) X.A (eval e X.env) (λw s₂=>Ar (Au X.prog X.w) X.A (inplaceOp op u w) (λr s₃=>Ar (Au X.prog X.w) X.A (Xm X.env x r) (λ_=>SP X pins D .next) X.xe s₃) X.xe s₂) X.xe s:=by
  refine thn (he pins s σ H _ I h) λw s1 ⟨y,H1,I1,r1,q1⟩=>?_;refine thn (ho pins s1 σ H1 v y u w _ I1 r r1 q1) λz s2 ⟨zv,H2,I2,r2,q2⟩=>?_;exact xY I2 hN hi hx r2 (λs3 I3=>⟨_,H2,I3,q2⟩) hf
 rcases l with⟨hk,hm⟩|⟨hk,c,hc,hcell⟩
 .exact Rk I.ok.kind hk hn hm go
 .rcases hk with hk|hk
  .exact Ry I.ok.kind hk hc hcell go
  .rcases hx with k|k
   .have:X.env.scope.names.lookup x=Ab .free:=hk
    rw[k] at this;cases this
   .have:X.env.scope.names.lookup x=Ab .free:=hk
    rw[k] at this;cases this
def ipI (f:Aj->Aj->Aj):TIp:=λx y H Q=>∃ i j,x=.int i/\y=.int j/\Q (.int (f i j)) H
theorem FG:PIp X .Add (ipI λi j=>i+j):=by
 intro pins s σ H x y v u Q I r1 r2 h;obtain⟨i,j,e1,e2,q⟩:=h;subst e1;subst e2;obtain⟨t,rfl⟩:=r1;obtain⟨t',rfl⟩:=r2;exact iadd_int ⟨.int _,H,I.tok _,⟨_,rfl⟩,q⟩
end
section
variable {X:Cx}{pos:Do}
def NW (c:TT)(tb:TS):TS:=λD σ H=>∃ W:Af->St->Hp->Prop,(∃ m,W m σ H)/\∀ m σ H,W m σ H ->
 c σ H λb H1=>if b=true then ∃ N:St->Hp->Prop,(∀ σ' H',N σ' H'->∃ m',m'<m/\W m' σ' H')/\tb { D with nx:=N,ct:=N,bk:=D.nx } σ H1 else D.nx σ H1
theorem WJ {c:Bd}{body:Aa Ds}{tc:TT}{tb:TS}(hp:Mv (Au X.prog X.w) X.A X.env X.xe)(hc:PT X c tc)(hb:PSs X body tb):PS X (.While c body [] pos) (NW tc tb):=by
 intro pins s σ H D I h;obtain⟨W,⟨m0,w0⟩,turn⟩:=h;refine wpAny_While (codeAny_whileLoop (λn s'=>∃ σ' H',Inv X pins σ' H' s'/\W n σ' H') ?_ m0 ⟨σ,H,I,w0⟩);rintro n s1 ⟨σ1,H1,I1,w1⟩;refine Hw hp (thn (hc pins s1 σ1 H1 _ I1 (turn n σ1 H1 w1)) λb s2 ⟨H2,I2,q2⟩=>?_);cases b with
 |true =>
  obtain⟨N,hN,q2⟩:=q2;rw[AS rfl];refine Hw hp (thn (hb pins s2 σ1 H2 _ I2 q2) λf s3 q3=>?_);cases f with
  |next =>
   obtain⟨σ3,H3,I3,n3⟩:=q3;obtain⟨m',hm,w3⟩:=hN σ3 H3 n3;exact⟨m',hm,σ3,H3,I3,w3⟩
  |cont =>
   obtain⟨σ3,H3,I3,n3⟩:=q3;obtain⟨m',hm,w3⟩:=hN σ3 H3 n3;exact⟨m',hm,σ3,H3,I3,w3⟩
  |brk=>exact q3
  |ret v=>exact q3
 |false =>
  rw[AX Fh];exact Jz ⟨σ1,H2,I2,q2⟩
end
structure It where
 go:Af->Hp->Prop
 yld:Af->Hp->V->Hp->Prop
 stop:Af->Hp->Prop
def zX (X:Cx)(pins:Aa (Ad × Bq))(H:Hp)(b:Ad):Prop:=
 H b=none/\b≠X.env.locals/\b ∉ X.fs/\(b∈X.ex\/X.s₀.heap.objs.size<=b)/\(∀ x c,X.env.cells.lookup x=Ab c->c≠b)/\∀ p∈X.pn++pins,p.1≠b
theorem Inv.fpOk {X:Cx}{pins:Aa (Ad × Bq)}{σ:St}{H H':Hp}{s:Ag}{b:Ad}(I:Inv X pins σ H s)(hb:s.heap.objs.size<=b)(hn:H' b=none):zX X pins H' b:=by
 refine⟨hn,Iw (Aw I.lt hb),I.nofs hb,.inr (Bu I.sz hb),λx c e z=>?_,λp hp z=>?_⟩
 .obtain⟨v,q⟩:=I.cell x c e
  exact absurd (Aw q.lt (by rw[z];exact hb)) (Dr _)
 .exact absurd (Aw (Ay (I.pin p hp).1) (by rw[z];exact hb)) (Dr _)
structure Turn (P:AV)(w:Bk)(K:Ah)(tg:Bd)(J:It)(fp:Aa Ad)(it:Ad)(tn:Af->Bc->Prop):Prop where
 mem:it∈fp
 obj:∀ i h,tn i h->∀ b∈fp,∃ o,h.get? b=Ab o/\∀ v,o.data≠.cell v
 keep:∀ i h h',tn i h->(∀ b∈fp,∀ o,h.get? b=Ab o->h'.get? b=Ab o)->tn i h'
 item:∀ (X:Cx),X.prog=P->X.w=w->X.K=K->X.calm=true->∀ (i:Af) (pins:Aa (Ad × Bq)) (s:Ag) (σ : St) (H:Hp) (E:Ac->Ag->Prop),Inv X pins σ H s->(∀ b∈fp,zX X pins H b)->tn i s.heap->J.go i H ->
  Ar (Au P w) X.A (Tf (.ref it)) (λr s1=>∃ u,r=Ab u /\
   Ar (Au P w) X.A (II tg (.ref it) u) (λ_ s2=>∃ x H',Inv X pins σ H' s2/\qM x u/\J.yld i H x H'/\tn (i+1) s2.heap/\∀ b∈fp,H' b=none) E s1) E s
 done:∀ (X:Cx),X.prog=P->X.w=w->X.K=K->X.calm=true->∀ (i:Af) (pins:Aa (Ad × Bq)) (s:Ag) (σ : St) (H:Hp) (E:Ac->Ag->Prop),Inv X pins σ H s->(∀ b∈fp,zX X pins H b)->tn i s.heap->J.stop i H ->
  Ar (Au P w) X.A (Tf (.ref it)) (λr s1=>r=none/\Inv X pins σ H s1) E s
 self:∀ (A:Bh) (i:Af) (s:Ag) (Q:Ac->Ag->Prop) (E:Ac->Ag->Prop),tn i s.heap->Q (.ref it) s->Ar (Au P w) A (OL (.ref it)) Q E s
abbrev TI:=St->Hp->(It->Hp->Prop)->Prop
inductive PIE (X:Cx)(pins:Aa (Ad × Bq))(σ : St)(tg:Bd)(R:It->Hp->Prop)(itv:Ac)(s2:Ag):Prop
 |mk (it:Ad) (fp:Aa Ad) (tn:Af->Bc->Prop) (J:It) (H':Hp) (e:itv=.ref it) (I:Inv X pins σ H' s2) (t:Turn X.prog X.w X.K tg J fp it tn) (z:tn 0 s2.heap) (f:∀ b∈fp,zX X pins H' b) (q:R J H'):PIE X pins σ tg R itv s2
def PI (X:Cx)(tg iter:Bd)(wi:TI):Prop:=
 ∀ (pins:Aa (Ad × Bq)) (s:Ag) (σ : St) (H:Hp) (R:It->Hp->Prop),Inv X pins σ H s->wi σ H R ->
  Ar (Au X.prog X.w) X.A (eval iter X.env) (λv s1=>Ar (Au X.prog X.w) X.A (OL v) (PIE X pins σ tg R) X.xe s1) X.xe s
theorem nW {M:Jl}{A:Bh}{E:Ac->Ag->Prop}{s:Ag}{it:Ad}{u:Ac}{o:Bq}{n:Cs}{vs:AZ Ac}{Q:Nh->Ag->Prop}(ho:s.heap.get? it=Ab o)(hc:o.cls=.type n)(hd:o.data=.fields vs)
    (hn:["enumerate","zip","dict_itemiterator","dict_reverseitemiterator","odict_iterator","itertools.zip_longest","itertools.pairwise"].contains n=false) (hQ:Q () s):Ar M A (II tg (.ref it) u) Q E s:=by
  unfold II;cases tg <;> first
    |exact Ap hQ
    |(cases u <;> first
        |exact Ap hQ
        | (refine Ai (Ws ho ?_)
           rw[hc,hd];show Ar M A (if (["enumerate","zip","dict_itemiterator","dict_reverseitemiterator","odict_iterator","itertools.zip_longest","itertools.pairwise"].contains n&&vs[0]? == Ab (Gp _))=true then _ else _) Q E s
           rw[AX (by intro h;rw[hn,Jd] at h;cases h)]
           exact Ap hQ))
noncomputable def Itl (K:Ah)(a:Ad):It:=
 ⟨λi H=>∃ xs x,SqL K H a xs/\xs[i]? = Ab x,λi H x H'=>H'=H/\∀ xs,SqL K H a xs->xs[i]? = Ab x,λi H=>∃ xs,SqL K H a xs/\xs.length<=i⟩
noncomputable def Itt (K:Ah)(a:Ad):It:=
 ⟨λi H=>∃ xs x,SqT K H a xs/\xs[i]? = Ab x,λi H x H'=>H'=H/\∀ xs,SqT K H a xs->xs[i]? = Ab x,λi H=>∃ xs,SqT K H a xs/\xs.length<=i⟩
noncomputable def Itr (lo:Aj)(n:Af):It:=⟨λi _=>i<n,λi H x H'=>H'=H/\x=.int (lo+i),λi _=>n<=i⟩
theorem nK (a it:Ad):Turn P w K tg (Itl K a) [it] it (λi h=>h.IsListIter it a i) where
 mem:=by simp
 obj:=λi h st b hb=>by
  have e:b=it:=by simpa using hb
  subst e;obtain⟨o,e,c,d⟩:=st;exact⟨o,e,λv z=>by rw[d] at z;cases z⟩
 keep:=λi h h' st k=>st.at λo e=>k it (by simp) o e
 item:=by
  intro X hP hw hK hc i pins s σ H E I hf st hg;subst hP hw hK;obtain⟨xs,x,hq,hx⟩:=hg;obtain⟨its,rv,p,hz⟩:=I.list hq;obtain⟨u,hu,ru⟩:=rv.get hx;obtain⟨f0,f1,f2,f3,f4,f5⟩:=hf it (by simp)
  refine wpAny_pyNext_list_item st p.isList (x:=u) (by simpa using hu) λh' st' sb=>?_
  have I1:Inv X pins σ H { s with heap:=h' }:=I.turned (t':=s.toks) (λb o hb e=>(sb.2 b hb).trans e) f0 f1 f3 f4 f5
  obtain⟨o,e,c,d⟩:=id st';exact⟨u,rfl,nW (s:={ s with heap:=h' }) e c d (by decide) ⟨x,H,I1,ru,⟨rfl,λys hy=>by rw[I.list_inj hy hq];exact hx⟩,st',λb hb=>(hf b hb).1⟩⟩
 done:=by
  intro X hP hw hK hc i pins s σ H E I hf st hg;subst hP hw hK;obtain⟨xs,hq,hx⟩:=hg;obtain⟨its,rv,p,hz⟩:=I.list hq;obtain⟨f0,f1,f2,f3,f4,f5⟩:=hf it (by simp)
  have hl:=rv.length;exact wpAny_pyNext_list_end (I.ok.hd hc) st p.isList (by simp;omega) λh' eb=>⟨rfl,I.turned (t':=s.toks) (λb o hb e=>eb b o hb e) f0 f1 f3 f4 f5⟩
 self:=λ_ _ _ _ _ st h=>wpAny_pyIter_listiter st h
theorem aU (a it:Ad):Turn P w K tg (Itt K a) [it] it (λi h=>h.IsTupleIter it a i) where
 mem:=by simp
 obj:=λi h st b hb=>by
  have e:b=it:=by simpa using hb
  subst e;obtain⟨o,e,c,d⟩:=st;exact⟨o,e,λv z=>by rw[d] at z;cases z⟩
 keep:=λi h h' st k=>st.at λo e=>k it (by simp) o e
 item:=by
  intro X hP hw hK hc i pins s σ H E I hf st hg;subst hP hw hK;obtain⟨xs,x,hq,hx⟩:=hg;obtain⟨its,rv,p,hz⟩:=I.tuple hq;obtain⟨u,hu,ru⟩:=rv.get hx;obtain⟨f0,f1,f2,f3,f4,f5⟩:=hf it (by simp)
  refine wpAny_pyNext_tuple_item st (show s.heap.IsTuple a its.toArray from p) (x:=u) (by simpa using hu) λh' st' sb=>?_
  have I1:Inv X pins σ H { s with heap:=h' }:=I.turned (t':=s.toks) (λb o hb e=>(sb.2 b hb).trans e) f0 f1 f3 f4 f5
  obtain⟨o,e,c,d⟩:=id st';exact⟨u,rfl,nW (s:={ s with heap:=h' }) e c d (by decide) ⟨x,H,I1,ru,⟨rfl,λys hy=>by rw[I.tuple_inj hy hq];exact hx⟩,st',λb hb=>(hf b hb).1⟩⟩
 done:=by
  intro X hP hw hK hc i pins s σ H E I hf st hg;subst hP hw hK;obtain⟨xs,hq,hx⟩:=hg;obtain⟨its,rv,p,hz⟩:=I.tuple hq;obtain⟨f0,f1,f2,f3,f4,f5⟩:=hf it (by simp)
  have hl:=rv.length;exact wpAny_pyNext_tuple_end (I.ok.hd hc) st (show s.heap.IsTuple a its.toArray from p) (by simp;omega) λh' eb=>⟨rfl,I.turned (t':=s.toks) (λb o hb e=>eb b o hb e) f0 f1 f3 f4 f5⟩
 self:=λ_ _ _ _ _ st h=>wpAny_pyIter_tupleiter st h
theorem aS (it:Ad)(lo:Aj)(n:Af):Turn P w K tg (Itr lo n) [it] it (λi h=>Qk h it (lo+(i:Af)*1) ((n:Aj)-(i:Af)) 1) where
 mem:=by simp
 obj:=λi h st b hb=>by
  have e:b=it:=by simpa using hb
  subst e;exact⟨_,st,λv z=>by
   have z':Yt _=Data.cell v:=z;cases z'⟩
 keep:=λi h h' st k=>k it (by simp) _ st
 item:=by
  intro X hP hw hK hc i pins s σ H E I hf st hg;subst hP hw hK;obtain⟨f0,f1,f2,f3,f4,f5⟩:=hf it (by simp)
  have W:=Yu (prog:=X.prog) (w:=X.w) (I.ok.hd hc) it lo 1 n;refine W.item i s _ _ hg st λv h' tk hv st' kk=>?_;obtain⟨t,rfl⟩:=hv;have I1:Inv X pins σ H { s with heap:=h',toks:=tk }:=I.turned (λb o hb e=>kk b o (by simpa using hb) e) f0 f1 f3 f4 f5
  refine⟨_,rfl,nW (s:={ s with heap:=h',toks:=tk }) (n:="range_iterator") st' rfl rfl (by decide) ⟨.int (lo+i),H,I1,⟨t,?_⟩,⟨rfl,rfl⟩,st',λb hb=>(hf b hb).1⟩⟩
  rw[Oe]
 done:=by
  intro X hP hw hK hc i pins s σ H E I hf st hg;subst hP hw hK;obtain⟨f0,f1,f2,f3,f4,f5⟩:=hf it (by simp)
  exact Pl (I.ok.hd hc) st (by have:n<=i:=hg;omega) λh' eb=>⟨rfl,I.turned (t':=s.toks) (λb o hb e=>eb b o hb e) f0 f1 f3 f4 f5⟩
 self:=λ_ _ _ _ _ st h=>Pm st h
end _L
namespace _L
open PySem PySem.Spec PyProof.Rows
variable {pins:Aa (Ad × Bq)}{fp:Aa Ad}{s:Ag}{H:Hp}{σ:St}
section
variable {X:Cx}{tg:Bd}
theorem sC {R:It->Hp->Prop}{E:Ac->Ag->Prop}{lo hi:Aj}{t u v:Oo}{tk:Af}(I:Inv X pins σ H s)(h1 : -(2 ^ 62)<=lo)(h2:lo<2 ^ 62)(h3 : -(2 ^ 62)<=hi)(h4:hi<2 ^ 62)
  (q:R (Itr lo (hi-lo).toNat) H):Ar (Au X.prog X.w) X.A (OL (.ref s.heap.objs.size)) (PIE X pins σ tg R) E { s with heap:=s.heap.push { cls:=.type "range",data:=.fields #[.int lo t,.int hi u,.int 1 v] },toks:=tk }:=by
 refine Tj (Ql ..) (Xo h1 h2 h3 h4) ?_;have I1:Inv X pins σ H { s with heap:=s.heap.push { cls:=.type "range",data:=.fields #[.int lo t,.int hi u,.int 1 v] },toks:=tk }:=I.kept λb o e=>Ak _ e
 refine⟨(s.heap.push { cls:=.type "range",data:=.fields #[.int lo t,.int hi u,.int 1 v] }).objs.size,[(s.heap.push { cls:=.type "range",data:=.fields #[.int lo t,.int hi u,.int 1 v] }).objs.size],_,_,H,rfl,
  I1.kept (t':=tk) λb o e=>Ak _ e,aS _ lo (hi-lo).toNat,?_,λb hb=>?_,q⟩
 .have e1:lo+((0:Af):Aj)*1=lo:=by simp
  have e2:(((hi-lo).toNat:Af):Aj)-((0:Af):Aj)=Dp lo hi 1:=by rw[rangeSize_one];split <;> omega
  show Qk _ _ (lo+((0:Af):Aj)*1) ((((hi-lo).toNat:Af):Aj)-((0:Af):Aj)) 1;rw[e1,e2];exact Bb _ rfl
 .have e:b=(s.heap.push { cls:=.type "range",data:=.fields #[.int lo t,.int hi u,.int 1 v] }).objs.size:=by simpa using hb
  subst e;exact I1.fpOk (Aq _) (I1.hok.fresh (Aq _))
def HN (wi:TI)(g:TG)(tb:TS):TS:=λD σ H=>wi σ H λJ H1=>∃ W:Af->Af->St->Hp->Prop,(∃ m,W 0 m σ H1)/\∀ i m σ H,W i m σ H ->
 (J.stop i H/\D.nx σ H)\/(J.go i H/\∃ N:St->Hp->Prop,(∀ σ' H',N σ' H'->∃ m',m'<m/\W (i+1) m' σ' H')/\∀ x H',J.yld i H x H'->g x σ H' λσ2 H2=>tb { D with nx:=N,ct:=N,bk:=D.nx } σ2 H2)
noncomputable def yP (fp:Aa Ad)(h:Bc):Aa (Ad × Bq):=fp.filterMap λb=>(h.get? b).map λo=>(b,o)
theorem u0 {h:Bc}{b:Ad}{o:Bq}(hb:b∈fp)(e:h.get? b=Ab o):(b,o)∈yP fp h:=Gc.mpr ⟨b,hb,by rw[e];rfl⟩
theorem nF {h:Bc}{p:Ad × Bq}(hp:p∈yP fp h):p.1∈fp/\h.get? p.1=Ab p.2:=by
 obtain⟨b,hb,e⟩:=Gc.mp hp;cases q:h.get? b with
 |none=>rw[q] at e;cases e
 |some o =>
  rw[q] at e;have e':(b,o)=p:=Bx e;subst e';exact⟨hb,q⟩
theorem Inv.pinned (I:Inv X pins σ H s)(hf:∀ b∈fp,zX X pins H b)(ho:∀ b∈fp,∃ o,s.heap.get? b=Ab o/\∀ v,o.data≠.cell v):Inv X (pins++yP fp s.heap) σ H s:=
 I.pins_of λp hp=>(Bo.mp hp).elim (λz=>I.pin p (Bj _ z)) λz=>by
  obtain⟨hb,e⟩:=nF z;obtain⟨f0,f1,f2,_⟩:=hf p.1 hb;obtain⟨o,e',d⟩:=ho p.1 hb;rw[e] at e';cases e';exact⟨e,f0,f1,f2,d⟩
theorem Inv.unpinned {pl:Aa (Ad × Bq)}(I:Inv X (pins++pl) σ H s):Inv X pins σ H s:=I.pins_of λp hp=>I.pin p (Bj _ (Df _ hp))
inductive ForI (X:Cx)(pins:Aa (Ad × Bq))(fp:Aa Ad)(tn:Af->Bc->Prop)(W:Af->Af->St->Hp->Prop)(n:Af)(s':Ag):Prop
 |mk (i:Af) (σ' : St) (H':Hp) (I:Inv X pins σ' H' s') (t:tn i s'.heap) (f:∀ b∈fp,H' b=none) (w:W i n σ' H'):ForI X pins fp tn W n s'
theorem TU {iter:Bd}{body:Aa Ds}{wi:TI}{g:TG}{tb:TS}{pos:Do}(hp:Mv (Au X.prog X.w) X.A X.env X.xe)(hc:X.calm=true)(hi:PI X tg iter wi)(hg:PG X tg g)(hb:PSs X body tb)
  (hs:∀ x,Gq iter X.env x=pure x:=by intro _;rfl):PS X (.For tg iter body [] pos) (HN wi g tb):=by
 intro pins s σ H D I h;refine wpAny_For (thn (hi pins s σ H _ I h) λv s1 h1=>thn h1 λitv s2 h2=>?_) hs;obtain⟨it,fp,tn,J,H2,e,I2,T,st2,f2,W,⟨m0,w0⟩,turn⟩:=h2;subst e;have stat:∀ {H':Hp},(∀ b∈fp,H' b=none)->∀ b∈fp,zX X pins H' b:=λhn b hb=>⟨hn b hb,(f2 b hb).2⟩;refine codeAny_forLoop_any (ForI X pins fp tn W) ?_ m0 ⟨0,σ,H2,I2,st2,λb hb=>(f2 b hb).1,w0⟩;rintro n s3 ⟨i,σ3,H3,I3,st3,fr3,w3⟩;rcases turn i n σ3 H3 w3 with⟨stop,qn⟩|⟨go,N,hN,step⟩
 .refine Hw hp (thn (T.done X rfl rfl rfl hc i pins s3 σ3 H3 X.xe I3 (stat fr3) st3 stop) λr s4 ⟨hr,I4⟩=>?_)
  subst hr;exact Jz ⟨σ3,H3,I4,qn⟩
 .refine Hw hp (thn (T.item X rfl rfl rfl hc i pins s3 σ3 H3 X.xe I3 (stat fr3) st3 go) λr s4 ⟨u,hr,h4⟩=>?_)
  subst hr;refine Hw hp (thn h4 λ_ s5 ⟨x,H5,I5,r5,y5,st5,fr5⟩=>?_);have I5':=I5.pinned (stat fr5) (T.obj _ _ st5);refine Hw hp (thn (hg _ s5 σ3 H5 x u _ I5' r5 (step x H5 y5)) λ_ s6 ⟨σ6,H6,I6,q6⟩=>?_);refine Hw hp (thn (hb _ s6 σ6 H6 _ I6 q6) λf s7 q7=>?_);have again:∀ {σ7:St} {H7:Hp},Inv X (pins++yP fp s5.heap) σ7 H7 s7->N σ7 H7->∃ m,m<n/\ForI X pins fp tn W m s7:=λ{σ7 H7} I7 n7=>by
   obtain⟨m',hm,w7⟩:=hN σ7 H7 n7;refine⟨m',hm,i+1,σ7,H7,I7.unpinned,T.keep _ _ _ st5 λb hb o e=>(I7.pin (b,o) (Bj _ (Bj _ (u0 hb e)))).1,λb hb=>?_,w7⟩;obtain⟨o,e,d⟩:=T.obj _ _ st5 b hb;exact(I7.pin (b,o) (Bj _ (Bj _ (u0 hb e)))).2.1
  cases f with
  |next=>obtain⟨σ7,H7,I7,n7⟩:=q7;exact again I7 n7
  |cont=>obtain⟨σ7,H7,I7,n7⟩:=q7;exact again I7 n7
  |brk=>obtain⟨σ7,H7,I7,q7⟩:=q7;exact⟨σ7,H7,I7.unpinned,q7⟩
  |ret v=>obtain⟨x7,σ7,H7,I7,r7,q7⟩:=q7;exact⟨x7,σ7,H7,I7.unpinned,r7,q7⟩
end
end _L
namespace _L
open PySem PySem.Spec PyProof.Rows
variable {us:Aa Ac}{f:Ac->Ac->IT Ac}{g:Aj->Aj->Aj}
abbrev R2:=V->V->Hp->VK->Prop
def OpR (X:Cx)(f:Ac->Ac->IT Ac)(r:R2):Prop:=
 ∀ (pins:Aa (Ad × Bq)) (s:Ag) (σ : St) (H:Hp) (x y:V) (v u:Ac) (Q:VK),Inv X pins σ H s->qM x v->qM y u->r x y H Q ->
  Ar (Au X.prog X.w) X.A (f v u) (EP X pins σ Q) X.xe s
def UnR (X:Cx)(f:Ac->IT Ac)(r:V->Hp->VK->Prop):Prop:=
 ∀ (pins:Aa (Ad × Bq)) (s:Ag) (σ : St) (H:Hp) (x:V) (v:Ac) (Q:VK),Inv X pins σ H s->qM x v->r x H Q ->
  Ar (Au X.prog X.w) X.A (f v) (EP X pins σ Q) X.xe s
def uV (X:Cx)(f:Ac)(r:Aa V->Hp->VK->Prop):Prop:=
 ∀ (pins:Aa (Ad × Bq)) (s:Ag) (σ : St) (H:Hp) (xs:Aa V) (us:Aa Ac) (Q:VK),Inv X pins σ H s->qN xs us->r xs H Q ->
  Ar (Au X.prog X.w) X.A (call f us) (EP X pins σ Q) X.xe s
def E6 (X:Cx)(r:V->Hp->(Ao->Hp->Prop)->Prop):Prop:=
 ∀ (pins:Aa (Ad × Bq)) (s:Ag) (σ : St) (H:Hp) (x:V) (v:Ac) (Q:Ao->Hp->Prop),Inv X pins σ H s->qM x v->r x H Q ->
  Ar (Au X.prog X.w) X.A (truthy v) (TP X pins σ Q) X.xe s
def tOp (r:R2)(ta tb:TE):TE:=λσ H Q=>ta σ H λx H1=>tb σ H1 λy H2=>r x y H2 Q
def rI (C:Aj->Aj->Prop)(g:Aj->Aj->V):R2:=λx y H Q=>∃ i j,x=.int i/\y=.int j/\C i j/\Q (g i j) H
def rI0 (g:Aj->Aj->V):R2:=λx y H Q=>∃ i j,x=.int i/\y=.int j/\Q (g i j) H
def rU (g:Aj->V):V->Hp->VK->Prop:=λx H Q=>∃ i,x=.int i/\Q (g i) H
section
variable {X:Cx}{a b c:Bd}{ta tb tc:TE}{pos:Do}
theorem EA (ha:PE X a ta)(hb:PE X b tb){pins:Aa (Ad × Bq)}{s:Ag}{σ : St}{H:Hp}{R:V->V->Hp->Prop}(I:Inv X pins σ H s)
  (h:ta σ H λx H1=>tb σ H1 λy H2=>R x y H2) {Q:Ac->Ag->Prop} {f:Ac->Ac->IT Ac}
  (hf:∀ v u s2 x y H2,Inv X pins σ H2 s2->qM x v->qM y u->R x y H2->Ar (Au X.prog X.w) X.A (f v u) Q X.xe s2) :
  Ar (Au X.prog X.w) X.A (eval a X.env) (λv s₁=>Ar (Au X.prog X.w) X.A (eval b X.env) (λu s₂=>Ar (Au X.prog X.w) X.A (f v u) Q X.xe s₂) X.xe s₁) X.xe s:=by
 refine thn (ha pins s σ H _ I h) λv s1 ⟨x,H1,I1,r1,q1⟩=>?_;refine thn (hb pins s1 σ H1 _ I1 q1) λu s2 ⟨y,H2,I2,r2,q2⟩=>?_;exact hf v u s2 x y H2 I2 r1 r2 q2
theorem opI {f:Ac->Ac->IT Ac}{C:Aj->Aj->Prop}
  (rule:∀ (i j:Aj) (t u:Oo) (s:Ag) (Q:Ac->Ag->Prop) (E:Ac->Ag->Prop),C i j->Q (.int (g i j) s.toks) { s with toks:=s.toks+1 } -> Ar (Au X.prog X.w) X.A (f (.int i t) (.int j u)) Q E s) :
  OpR X f (rI C λi j=>.int (g i j)):=by
 intro pins s σ H x y v u Q I rx ry h;obtain⟨i,j,rfl,rfl,hc,q⟩:=h;obtain⟨t,rfl⟩:=rx;obtain⟨t',rfl⟩:=ry;exact rule i j t t' s _ _ hc ⟨.int (g i j),H,I.tok _,⟨_,rfl⟩,q⟩
theorem MY {f:Ac->Ac->IT Ac}
  (rule:∀ (i j:Aj) (t u:Oo) (s:Ag) (Q:Ac->Ag->Prop) (E:Ac->Ag->Prop),Q (.int (g i j) s.toks) { s with toks:=s.toks+1 } -> Ar (Au X.prog X.w) X.A (f (.int i t) (.int j u)) Q E s) :
  OpR X f (rI0 λi j=>.int (g i j)):=by
 intro pins s σ H x y v u Q I rx ry h;obtain⟨i,j,rfl,rfl,q⟩:=h;obtain⟨t,rfl⟩:=rx;obtain⟨t',rfl⟩:=ry;exact rule i j t t' s _ _ ⟨.int (g i j),H,I.tok _,⟨_,rfl⟩,q⟩
theorem aH {g:Aj->Aj->Ao}
  (rule:∀ (i j:Aj) (t u:Oo) (s:Ag) (Q:Ac->Ag->Prop) (E:Ac->Ag->Prop),Q (.bool (g i j)) s->Ar (Au X.prog X.w) X.A (f (.int i t) (.int j u)) Q E s) :
  OpR X f (rI0 λi j=>.bl (g i j)):=by
 intro pins s σ H x y v u Q I rx ry h;obtain⟨i,j,rfl,rfl,q⟩:=h;obtain⟨t,rfl⟩:=rx;obtain⟨t',rfl⟩:=ry;exact rule i j t t' s _ _ ⟨.bl (g i j),H,I,rfl,q⟩
def E2 (i j:Aj):Prop:=0<j/\j<1073741824
def PB (i j:Aj):Prop:=0<=j/\j<=1000000/\i.natAbs<2 ^ 64
def cE (i j:Aj):Prop:=(-(2 ^ 64)<i/\i<2 ^ 64)\/(-(2 ^ 64)<j/\j<2 ^ 64)
theorem cE.ok {i j:Aj}(h:cE i j):IntMulOk i j:=by
 rcases h with⟨h1,h2⟩|⟨h1,h2⟩
 .exact .of_left (intBits_le_64 h1 h2)
 .exact .of_right (intBits_le_64 h1 h2)
theorem MZ:OpR X (De .Add) (rI0 λi j=>.int (i+j)):=MY λ_ _ _ _ _ _ _ q=>add_int q
theorem T9:OpR X (De .Sub) (rI0 λi j=>.int (i-j)):=MY λ_ _ _ _ _ _ _ q=>sub_int q
theorem T4:OpR X (De .Mult) (rI cE λi j=>.int (i*j)):=opI λ_ _ _ _ _ _ _ hc q=>mul_int q hc.ok
theorem K9:OpR X (De .FloorDiv) (rI E2 λi j=>.int (i/j)):=opI λi j _ _ _ _ _ hc q=>by
 have h1:(0:Aj)<j:=hc.1;have h2:j<1073741824:=hc.2;exact floordiv_int om (by rw[Jo i om];exact q) (.inl (Li om))
theorem T3:OpR X (De .Mod) (rI (λ_ j=>0<j) λi j=>.int (i % j)):=opI λi j _ _ _ _ _ hc q=>by
 have h1:(0:Aj)<j:=hc;exact mod_int' om (by rw[Int.fmod_eq_emod_of_nonneg i om];exact q)
theorem T6:OpR X (De .Pow) (rI PB λi j=>.int (i ^ j.toNat)):=opI λ_ _ _ _ _ _ _ hc q=>pow_int_small hc.1 hc.2.1 hc.2.2 q
theorem T7:OpR X (De .LShift) (rI PB λi j=>.int (i*2 ^ j.toNat)):=opI λ_ _ _ _ _ _ _ hc q=>lshift_int_small hc.1 hc.2.1 hc.2.2 q
theorem unI {f:Ac->IT Ac}{g:Aj->Aj}
  (rule:∀ (i:Aj) (t:Oo) (s:Ag) (Q:Ac->Ag->Prop) (E:Ac->Ag->Prop),Q (.int (g i) s.toks) { s with toks:=s.toks+1 } -> Ar (Au X.prog X.w) X.A (f (.int i t)) Q E s) :
  UnR X f (rU λi=>.int (g i)):=by
 intro pins s σ H x v Q I rx h;obtain⟨i,rfl,q⟩:=h;obtain⟨t,rfl⟩:=rx;exact rule i t s _ _ ⟨.int (g i),H,I.tok _,⟨_,rfl⟩,q⟩
theorem L5:UnR X (Vb .USub) (rU λi=>.int (-i)):=unI λ_ _ _ _ _ q=>neg_int q
end
section
variable {X:Cx}{a b c:Bd}{ta tb tc:TE}{pos:Do}
theorem F8 {pins:Aa (Ad × Bq)}{σ:St}{H:Hp}{s:Ag}{Q:VK}{k k':Ao}(I:Inv X pins σ H s)(q:Q (.bl k) H)(e:k=k'):EP X pins σ Q (.bool k') s:=by
 subst e;exact⟨.bl k,H,I,rfl,q⟩
theorem SY:OpR X (Cp .Lt) (rI0 λi j=>.bl (decide (i<j))):=aH λ_ _ _ _ _ _ _ q=>lt_int q
theorem SX:OpR X (Cp .LtE) (rI0 λi j=>.bl (decide (i<=j))):=aH λ_ _ _ _ _ _ _ q=>le_int q
theorem SW:OpR X (Cp .Gt) (rI0 λi j=>.bl (decide (j<i))):=aH λ_ _ _ _ _ _ _ q=>gt_int q
theorem SV:OpR X (Cp .GtE) (rI0 λi j=>.bl (decide (j<=i))):=aH λ_ _ _ _ _ _ _ q=>ge_int q
theorem T1:OpR X (Cp .Is) (λx y H Q=>y=.non/\Q (.bl (decide (x=.non))) H):=by
 intro pins s σ H x y v u Q I rx ry h;obtain⟨rfl,q⟩:=h;cases ry;refine is_none_gen (F8 I q ?_);cases x <;> first
  |(cases rx;rfl)
  |(obtain⟨t,rfl⟩:=rx;rfl)
theorem OpR.or {r r':R2}(h:OpR X f r)(h':OpR X f r'):OpR X f (λx y H Q=>r x y H Q\/r' x y H Q):=by
 intro pins s σ H x y v u Q I rx ry q;rcases q with q|q
 .exact h pins s σ H x y v u Q I rx ry q
 .exact h' pins s σ H x y v u Q I rx ry q
theorem kB (b:Bd){op:Rz}(h:op≠.In:=by decide)(h2:op≠.NotIn:=by decide):Js op b=false:=by
 have e1:(op == CmpOp.In)=false:=by cases op <;> first|rfl|exact absurd rfl h
 have e2:(op == CmpOp.NotIn)=false:=by cases op <;> first|rfl|exact absurd rfl h2
 cases b <;> simp[Js,e1,e2]
def cK (K:Ah)(x:V)(H:Hp)(k:Ao):Prop:=
 match x with
 |.non=>k=false
 |.bl b=>k=b
 |.int i=>k=(i != 0)
 |.str y=>y.length<=sizeLine/\k=((y.length:Aj) != 0)
 |.byt y=>y.size<=sizeLine/\k=((y.size:Aj) != 0)
 |.ref p=>(∃ xs,SqL K H p xs/\k=!xs.isEmpty)\/(∃ xs,SqT K H p xs/\k=!xs.isEmpty)\/∃ kvs,H p=Ab (.dK kvs)/\k=!kvs.isEmpty
 |_=>Eh
theorem cZ {κ:Type}{kvs:Aa (κ × V)}{vs:Aa (κ × Ac)}(r:KV kvs vs):(!vs.isEmpty)=!kvs.isEmpty:=by
 cases r <;> rfl
theorem fL {xs:Aa V}{its:Aa Ac}(r:qN xs its):(!its.toArray.isEmpty)=!xs.isEmpty:=by
 cases r <;> simp
theorem pA:(sizeLine:Af)<2 ^ 63:=by rw[Fe];decide
theorem pH:E6 X (λx H Q=>∃ k,cK X.K x H k/\Q k H):=by
 intro pins s σ H x v Q I rx h;obtain⟨k,e,q⟩:=h;have hl:=pA;have hs:sizeLine=16777216:=Fe;cases x with
 |non =>
  cases rx;have e':k=false:=e;subst e';exact truthy_none ⟨H,I,q⟩
 |bl b =>
  cases rx;have e':k=b:=e;subst e';exact Ui ⟨H,I,q⟩
 |int i =>
  obtain⟨t,rfl⟩:=rx;have e':k=(i != 0):=e;subst e';exact PySem.P.truthy_int ⟨H,I,q⟩
 |str y =>
  obtain⟨t,rfl⟩:=rx;obtain⟨hy,e'⟩:y.length<=sizeLine/\k=((y.length:Aj) != 0):=e;subst e';exact PySem.P.truthy_str om ⟨H,I.tok _,q⟩
 |byt y =>
  obtain⟨t,rfl⟩:=rx;obtain⟨hy,e'⟩:y.size<=sizeLine/\k=((y.size:Aj) != 0):=e;subst e';exact PySem.W.truthy_bytes om ⟨H,I.tok _,q⟩
 |ref p =>
  cases rx;have e':(∃ xs,SqL X.K H p xs/\k=!xs.isEmpty)\/(∃ xs,SqT X.K H p xs/\k=!xs.isEmpty)\/∃ kvs,H p=Ab (.dK kvs)/\k=!kvs.isEmpty:=e;rcases e' with⟨xs,hx,e'⟩|⟨xs,hx,e'⟩|⟨kvs,hx,e'⟩
  .subst e'
   obtain⟨its,r,pl,hz⟩:=I.list hx;have hlen:=r.length;exact wpAny_truthy_list pl.isList (by simp only[Bf];omega) ⟨H,I.tok _,by rw[fL r];exact q⟩
  .subst e'
   obtain⟨its,r,pl,hz⟩:=I.tuple hx;have hlen:=r.length;exact truthy_tuple pl (by simp only[Bf];omega) ⟨H,I.tok _,by rw[fL r];exact q⟩
  .subst e'
   obtain⟨hz,hS,vs,r,m⟩:kvs.length<=sizeLine/\(p == Gi)=false/\∃ vs,KV kvs vs/\s.heap.DictOf (zJ X.prog X.w) p vs:=I.hok p _ hx;have hlen:kvs.length=vs.length:=Paired.length r;exact wpAny_truthy_dict hS m om ⟨H,I.tok _,by rw[cZ r];exact q⟩
 |_=>exact(show Eh from e).elim
theorem aI:OpR X (De .Add) (λx y H Q=>∃ i j,x=.str i/\y=.str j/\i.length+j.length<=sizeLine/\Q (.str (i++j)) H):=by
 intro pins s σ H x y v u Q I rx ry h;obtain⟨i,j,rfl,rfl,hz,q⟩:=h;obtain⟨t,rfl⟩:=rx;obtain⟨t',rfl⟩:=ry;exact add_str (λt' tk=>⟨.str (i++j),H,I.tok _,⟨_,rfl⟩,q⟩) hz
theorem uA {x:V}(r:qN [x] us):∃ u,us=[u]/\qM x u:=by
 cases r with
 |cons r1 r2=>cases r2;exact⟨_,rfl,r1⟩
theorem mC {x y:V}(r:qN [x,y] us):∃ u w',us=[u,w']/\qM x u/\qM y w':=by
 cases r with
 |cons r1 r2 =>
  cases r2 with
  |cons r3 r4=>cases r4;exact⟨_,_,rfl,r1,r3⟩
theorem tS:uV X (.type "int") (λxs H Q=>(∃ i,xs=[.int i]/\Q (.int i) H)\/∃ k,xs=[.bl k]/\Q (.int (if k then 1 else 0)) H):=by
 intro pins s σ H xs us Q I r h;rcases h with⟨i,rfl,q⟩|⟨k,rfl,q⟩
 .obtain⟨u,rfl,t,rfl⟩:=uA r
  exact call_int_int ⟨.int i,H,I,⟨_,rfl⟩,q⟩
 .obtain⟨u,rfl,r1⟩:=uA r
  cases r1;exact call_int_bool ⟨.int (if k then 1 else 0),H,I.tok _,⟨_,rfl⟩,q⟩
def PD (K:Ah)(x:V)(H:Hp)(n:Af):Prop:=
 match x with
 |.str y=>y.length<=sizeLine/\n=y.length
 |.byt y=>y.size<=sizeLine/\n=y.size
 |.ref p=>(∃ xs,SqL K H p xs/\n=xs.length)\/∃ xs,SqT K H p xs/\n=xs.length
 |_=>Eh
theorem ZD:uV X (.builtin "len") (λxs H Q=>∃ x n,xs=[x]/\PD X.K x H n/\Q (.int n) H):=by
 intro pins s σ H xs us Q I r h;obtain⟨x,n,rfl,e,q⟩:=h;obtain⟨u,rfl,rx⟩:=uA r;have hl:=pA;have hs:sizeLine=16777216:=Fe;cases x with
 |str y =>
  obtain⟨t,rfl⟩:=rx;obtain⟨hy,e'⟩:y.length<=sizeLine/\n=y.length:=e;subst e';exact len_str om ⟨.int _,H,I.tok _,⟨_,rfl⟩,q⟩
 |byt y =>
  obtain⟨t,rfl⟩:=rx;obtain⟨hy,e'⟩:y.size<=sizeLine/\n=y.size:=e;subst e';exact PySem.W.len_bytes om ⟨.int _,H,I.tok _,⟨_,rfl⟩,q⟩
 |ref p =>
  cases rx;have e':(∃ xs,SqL X.K H p xs/\n=xs.length)\/∃ xs,SqT X.K H p xs/\n=xs.length:=e;rcases e' with⟨xs,hx,e'⟩|⟨xs,hx,e'⟩
  .subst e'
   obtain⟨its,r',pl,hz⟩:=I.list hx;have hlen:=r'.length;exact Calls.call_len_list pl.isList (by simp only[Bf];omega) ⟨.int xs.length,H,I.tok _,⟨_,by simp only[Bf];rw[hlen]⟩,q⟩
  .subst e'
   obtain⟨its,r',pl,hz⟩:=I.tuple hx;have hlen:=r'.length;exact len_tuple pl (by simp only[Bf];omega) ⟨.int xs.length,H,I.tok _,⟨_,by simp only[Bf];rw[hlen]⟩,q⟩
 |_=>exact(show Eh from e).elim
end
end _L
namespace _L
open PySem PySem.Spec PyProof.Rows
variable {mA:An->Al Ac}
structure ObjM (h:Bc)(x dx C:Ad)(mA:An->Al Ac):Prop where
 obj:h.get? x=Ab (Pk C dx)
 ns:h.Ns1 dx mA
 ne:dx≠x
set_option tactic.hygienic true in
theorem iZ {h:Bc}{dx:Ad}(n:h.Ns1 dx mA):∃ od,h.get? dx=Ab od/\∀ name,Re name od=Ab (mA name):=by
 obtain⟨o,es,ep,ho,hd,hk,_,hm⟩:=n;refine⟨o,ho,λname=>?_⟩;have e:=hm name;unfold nsFind findBy at e;rw[<- Array.find?_toList] at e;unfold Re;rw[hd];dsimp only
 split
 .rename_i y q
  rw[q] at e;exact congrArg Ab e
 .rename_i q
  rw[q] at e;have a:es.toList.any (·.refKey)=false:=by
   rw[List.any_eq_false];intro y hy;obtain⟨z,t,hkey⟩:=hk y (Array.mem_toList_iff.mp hy);simp[DictEntry.refKey,hkey]
  have a':¬ es.toList.any (·.refKey)=true:=by rw[a];exact Fh
  rw[AX a'];exact congrArg Ab e
theorem ObjM.look {h:Bc}{x dx C:Ad}(I:ObjM h x dx C mA):∃ od,PySem.W.InstAt h x (Pk C dx) C (Ab od)/\∀ name,Re name od=Ab (mA name):=
 let ⟨od,ho,hl⟩:=iZ I.ns
 ⟨od,⟨I.obj,rfl,rfl,ho⟩,hl⟩
section
variable {P:AV}{w:Bk}{H H':Hp}{h h':Bc}{a C dx:Ad}{fs fs':Aa (An × V)}
theorem J2 (hok:HOk P w H h)(e:H a=Ab (.ins C dx fs)):∃ mA,ObjM h a dx C mA/\(∀ f,kP (fs.lookup f) (mA f))/\Ye mA (fs.map (·.1))/\fs.length<=1000/\H dx=Ab (.own a):=by
 obtain⟨d,z,ne,ob,mA,n,r,q⟩:=(show z9 P w H h a (.ins C dx fs) from hok a _ e)
 exact⟨mA,⟨ob,n,ne⟩,r,q,z,d⟩
end
structure Cls (K:Ah)(C:Ad):Prop where
 pg:Vc K C Jt=true
 hd:PySem.W.hasDictIn K C=true
 po:PySem.W.plainOver K C=true
 sa:Lb K (.ref C) "__setattr__" = Ab (Ab (.builtin "object.__setattr__"))
theorem Cls.get {K:Ah}{C:Ad}(c:Cls K C)(f:An):Vc K C f=true:=c.pg
section
variable {X:Cx}{pins:Aa (Ad × Bq)}{σ : St}{H:Hp}{s:Ag}{A:Bh}{E:Ac->Ag->Prop}{Q:Ac->Ag->Prop}{c:Ac}{b:Ao}
inductive TyOf (K:Ah)(H:Hp):V->Ac->Prop where
 |non:TyOf K H .non (.type "NoneType")
 |bl (x:Ao):TyOf K H (.bl x) (.type "bool")
 |int (i:Aj):TyOf K H (.int i) (.type "int")
 |str (x:An):TyOf K H (.str x) (.type "str")
 |flt (x:UInt64):TyOf K H (.flt x) (.type "float")
 |lst {a:Ad} {xs:Aa V} (e:H a=Ab (.lst xs)):TyOf K H (.ref a) (.type "list")
 |frz {a:Ad} {o:Bq} {xs:Aa V} (e:H a=Ab (.frz o (.lst xs))):TyOf K H (.ref a) (.type "list")
 |tup {a:Ad} {xs:Aa V} (e:H a=Ab (.tup xs)):TyOf K H (.ref a) (.type "tuple")
 |dK {a:Ad} {kvs:Aa (Key × V)} (e:H a=Ab (.dK kvs)):TyOf K H (.ref a) (.type "dict")
 |dT {a:Ad} {kvs:Aa (Aa Key × V)} (e:H a=Ab (.dT kvs)):TyOf K H (.ref a) (.type "dict")
 |ins {a C dx:Ad} {fs:Aa (An × V)} (e:H a=Ab (.ins C dx fs)) (cl:Cls K C) (ha:Lb K (.ref C) "__class__" = Ab (Ab (.builtin "object.__class__")))
   (hn:Uj K (.builtin "object.__class__") "__get__" = Ab (Ab (.builtin "getset_descriptor.__get__"))) (htk:Wb K (.builtin "object.__class__")=Ab true)
   (hm:Si K C (.type "object")=Ab true):TyOf K H (.ref a) (.ref C)
theorem iT {x:V}{u t:Ac}(I:Inv X pins σ H s)(rx:qM x u)(ty:TyOf X.K H x t)(e:Je X.K t c=Ab b)(h:∀ tk,Q (.bool b) { s with toks:=tk }) :
  Ar (Au X.prog X.w) A (call (.builtin "isinstance") [u,c]) Q E s:=by
 cases ty with
 |non=>cases (show u=Dd from rx);exact Dj Uk I.kIn Gm e (λz=>nomatch z) h
 |bl y=>cases (show u=Eb y from rx);exact Dj Ul I.kIn Gm e (λz=>nomatch z) h
 |int i=>obtain⟨t,q⟩:=(show ∃ t,u=Hd i t from rx);cases q;exact Dj Vd I.kIn Gm e (λz=>nomatch z) h
 |str y=>obtain⟨t,q⟩:=(show ∃ t,u=Qi y t from rx);cases q;exact Dj Ve I.kIn Gm e (λz=>nomatch z) h
 |flt y=>obtain⟨t,q⟩:=(show ∃ t,u=Ys y t from rx);cases q;exact Dj PySem.W.kitx_float I.kIn Gm e (λz=>nomatch z) h
 |@lst a xs ea =>
  cases (show u=Bn a from rx)
  obtain⟨_,_,n,_,h1⟩:=(show z9 X.prog X.w H s.heap a (.lst xs) from I.hok a _ ea)
  exact Dj Hy I.kIn ⟨_,h1,rfl⟩ e (λz=>nomatch z) h
 |@frz a ob xs ea =>
  cases (show u=Bn a from rx)
  obtain⟨_,_,_,n,_,h1⟩:=(show z9 X.prog X.w H s.heap a (.frz ob (.lst xs)) from I.hok a _ ea)
  exact Dj Hy I.kIn ⟨_,h1,rfl⟩ e (λz=>nomatch z) h
 |@tup a xs ea =>
  cases (show u=Bn a from rx)
  obtain⟨_,_,_,p⟩:=(show z9 X.prog X.w H s.heap a (.tup xs) from I.hok a _ ea)
  obtain⟨o,h1,h2,_⟩:=p;exact Dj Km I.kIn ⟨o,h1,h2⟩ e (λz=>nomatch z) h
 |@dK a kvs ea =>
  cases (show u=Bn a from rx)
  obtain⟨_,_,vs,_,p⟩:=(show z9 X.prog X.w H s.heap a (.dK kvs) from I.hok a _ ea)
  obtain⟨o,es,ep,h1,h2,_⟩:=p;exact Dj Ld I.kIn ⟨o,h1,h2.1⟩ e (λz=>nomatch z) h
 |@dT a kvs ea =>
  cases (show u=Bn a from rx)
  obtain⟨_,_,xs,_,o,es,ep,h1,h2,_⟩:=(show z9 X.prog X.w H s.heap a (.dT kvs) from I.hok a _ ea)
  exact Dj Ld I.kIn ⟨o,h1,h2.1⟩ e (λz=>nomatch z) h
 |@ins a C dx fs ea cl ha hn htk hm =>
  cases (show u=Bn a from rx)
  obtain⟨mA,O,_⟩:=J2 I.hok ea;obtain⟨od,J,_⟩:=O.look;exact Dj (PySem.W.kitx_own (cl.get _) cl.hd ha hn htk hm) I.kIn J e (λz=>nomatch z) h
end
end _L
namespace _L
open PySem PySem.Spec PyProof.Rows
variable {P:AV}{ps:Aa An}{f:Ad}{K:Ah}{mg:An->Al Ac}{kindOf:An->Al Gd}{A:Bh}{w:Bk}{scope:Di}
structure Room (k:Af)(A:Bh):Prop where
 hd:A.handled=none
 dp:A.depth+3*k+5<Nn
 un:A.units+16*k+200<Hz
 gd:A.guards=Ab []
theorem Room.mono {j k:Af}(r:Room k A)(h:j<=k):Room j A:=⟨r.hd,by have:=r.dp;omega,by have:=r.un;omega,r.gd⟩
theorem Room.deeper {k:Af}(r:Room (k+1) A)(env:Gv):Room k (A.deeper env):=
 ⟨r.hd,by have:=r.dp;show A.depth+1+3*k+5<_;omega,by have:=r.un;show A.units+3+16*k+200<_;omega,r.gd⟩
theorem Room.depth {k:Af}(r:Room k A):A.depth<Nn:=by have:=r.dp;omega
theorem Room.units {k:Af}(r:Room k A):A.units+64<Hz:=by have:=r.un;omega
def HR:TA:=λ_ H Q=>Q [] H
section
variable {X:Cx}{e:Bd}{es:Aa Bd}{te:TE}{t:TA}{pos:Do}
theorem TB:PA X [] HR:=λ_ _ _ _ H Q I h=>IU ⟨[],H,I,.nil,h⟩
def HV (t:TA):TE:=λσ H Q=>t σ H λxs H1=>xs.length<=sizeLine/\∀ p,H1 p=none->Q (.ref p) (upd H1 p (.tup xs))
def HQ (t:TA):TE:=λσ H Q=>t σ H λxs H1=>xs.length<=sizeLine/\∀ p,H1 p=none->Q (.ref p) (upd H1 p (.lst xs))
theorem TK  (h:PA X es t):PE X (.Tuple es x1 pos) (HV t):=by
 intro pins s σ H Q I hq;refine wpAny_Tuple_spliced (thn (h pos pins s σ H _ I hq) λus s1 ⟨xs,H1,I1,r,z,q⟩=>⟨by rw[<- r.length];exact z,?_⟩)
 have hf:H1 s1.heap.objs.size=none:=I1.hok.fresh (Aq _);refine⟨.ref s1.heap.objs.size,upd H1 s1.heap.objs.size (.tup xs),I1.laid (t':=s1.toks) (λb u e=>Ak _ e) (Aq _) ?_,rfl,q _ hf⟩;exact⟨z,us,r,⟨_,Bb _ rfl,rfl,_,rfl⟩⟩
theorem oJ (h:PA X es t):PE X (.List es pos) (HQ t):=by
 intro pins s σ H Q I hq;refine wpAny_List_spliced (thn (h pos pins s σ H _ I hq) λus s1 ⟨xs,H1,I1,r,z,q⟩=>⟨by rw[<- r.length];exact z,?_⟩)
 have hf:H1 s1.heap.objs.size=none:=I1.hok.fresh (Aq _);refine⟨.ref s1.heap.objs.size,upd H1 s1.heap.objs.size (.lst xs),I1.laid (t':=s1.toks) (λb u e=>Ak _ e) (Aq _) ?_,rfl,q _ hf⟩;exact⟨z,us,0,r,Bb _ rfl⟩
end
abbrev Sp:=Aa V->Hp->VK->XK->Prop
abbrev CXT:=Aa Gv->Hp->Ag->XK->Ac->Ag->Prop
variable {CX:CXT}
structure Env0 (P:AV)(w:Bk)(K:Ah)(mg:An->Al Ac)(base:Bc)(A:Bh)(outer:Aa Gv)(s:Ag)(H:Hp):Prop where
 frames:A.frames=Ab outer
 mod:Mod K mg base
 bs:∀ b o,base.get? b=Ab o->s.heap.get? b=Ab o/\H b=none
 bsz:base.objs.size<=s.heap.objs.size
 funs:s.heap.FunFrames base outer
 frf:∀ b∈frs outer,H b=none
 hok:HOk P w H s.heap
 bare:Lo s.gens
def CE (outer:Aa Gv)(P:AV)(w:Bk)(H:Hp)(s:Ag)(Q:VK)(u:Ac)(s':Ag):Prop:=
 ∃ v H',s'.os=s.os/\Lo s'.gens/\Un (frs outer) [] H H' s.heap s'.heap/\HOk P w H' s'.heap/\qM v u/\Q v H'
def CR (CX:CXT)(outer:Aa Gv)(P:AV)(w:Bk)(H:Hp)(s:Ag)(Q:VK)(E:XK)(r:Vf)(s':Ag):Prop:=
 match r with
 |.ok (.ret u)=>CE outer P w H s Q u s'
 |.ok _=>Eh
 |.error e=>CX outer H s E e s'
structure FnOk (P:AV)(w:Bk)(K:Ah)(mg:An->Al Ac)(base:Bc)(CX:CXT)(k:Af)(f:Ad)(fd:Ej)(ps:Aa An)(sp:Sp):Prop where
 len:∀ vs H Q E,sp vs H Q E->vs.length=ps.length
 run:∀ (A:Bh) (outer:Aa Gv) (s:Ag) (H:Hp) (args:Args) (us:Aa Ac) (vs:Aa V) (Q:VK) (E:XK),Room k A->Env0 P w K mg base A outer s H->Lr s fd args (ps.zip us)->qN vs us->sp vs H Q E ->
  Hi (Au P w) A (.call (.ref f) args) (CR CX outer P w H s Q E) s
theorem FnOk.mono {base:Bc}{j k:Af}{fd:Ej}{sp:Sp}(F:FnOk P w K mg base CX j f fd ps sp)(h:j<=k) :
  FnOk P w K mg base CX k f fd ps sp:=⟨F.len,λA outer s H args us vs Q E hr=>F.run A outer s H args us vs Q E (hr.mono h)⟩
section
variable {X:Cx}{pins:Aa (Ad × Bq)}{σ : St}{H:Hp}{s s':Ag}
theorem Inv.env0 (I:Inv X pins σ H s):Env0 X.prog X.w X.K X.mg X.base X.A X.stack s H:=
 ⟨I.ok.frames,I.ok.mod,I.bs,Bu I.ok.bsz I.sz,I.stack,I.stkFree,I.hok,I.bare⟩
theorem Inv.after {Q:VK}{u:Ac}(I:Inv X pins σ H s)(h:CE X.stack X.prog X.w H s Q u s'):EP X pins σ Q u s':=by
 obtain⟨v,H',os,bare,un,hok,r,q⟩:=h;obtain⟨hh,g,d,t,os'⟩:=s';obtain rfl:os'=s.os:=os;exact⟨v,H',I.call (h':=hh) (g':=g) (d':=d) (t':=t) (ch:=[]) un hok bare (λb z=>absurd z (by simp)),r,q⟩
end
def vI (K:Ah)(fd:Ej)(ps:Aa An)(ds:Aa Ac):Prop:=
 ∀ (s:Ag) (us:Aa Ac),K.In s.heap->(us++ds).length=ps.length->Lr s fd ⟨us,[]⟩ (ps.zip (us++ds))
theorem vI.all {fd:Ej}(h:∀ us:Aa Ac,us.length=ps.length->Po fd ⟨us,[]⟩=pure (ps.zip us)):vI K fd ps []:=λs us _ hl=>by
 rw[Eu] at hl ⊢;exact .of_eq (h us hl)
structure FnScope (N P:Aa An)(sc:Di):Prop where
 kind:sc.kind=.function
 co:sc.isCoroutine=false
 gen:sc.isGenerator=false
 nd:N.Nodup
 pre:N.take P.length=P
 par:∀ x∈P,sc.names.lookup x=Ab .local \/ sc.names.lookup x=Ab .cell
 nofree:∀ y∈sc.names,y.2≠.free
theorem tQ {x:An}:∀ {binds:Aa (An × Ac)} {m:An->Al Ac},(∀ v,(x,v) ∉ binds)->Sj kindOf binds m x=m x
 |[],_,_=>rfl
 |(n,v)::r,m,h=>by
  unfold Sj;rw[tQ λw hw=>h w (AT _ hw)]
  split
  .have:x≠n:=by rintro rfl;exact h v Bp
   simp[this]
  .rfl
theorem tO {x:An}:∀ {binds:Aa (An × Ac)} {m:An->Al Ac},(∀ v,(x,v) ∉ binds)->Sk kindOf binds m x=m x
 |[],_,_=>rfl
 |(n,v)::r,m,h=>by
  unfold Sk;rw[tO λw hw=>h w (AT _ hw)]
  split
  .rfl
  .have:x≠n:=by rintro rfl;exact h v Bp
   simp[this]
theorem tP {x:An}{v:Ac}:∀ {P:Aa An} {vs:Aa Ac} {i:Af} {m:An->Al Ac},P.Nodup->P[i]? = Ab x->vs[i]? = Ab v->kindOf x=Ab .local ->
  Sj kindOf (P.zip vs) m x=Ab v
 |[],_,_,_,_,h,_,_=>by simp at h
 |_::_,[],_,_,_,_,h,_=>by simp at h
 |p::P,w::vs,0,m,nd,h1,h2,hk=>by
  simp at h1 h2;subst h1;subst h2;show Sj kindOf ((p,w)::P.zip vs) m p=_;unfold Sj;rw[tQ λv hv=>(Dy.mp nd).1 (Ka hv).1,AS hk];simp
 |p::P,w::vs,i+1,m,nd,h1,h2,hk=>by
  show Sj kindOf ((p,w)::P.zip vs) m x=_;unfold Sj;exact tP (i:=i) (Dy.mp nd).2 (by simpa using h1) (by simpa using h2) hk
theorem tN {x:An}{v:Ac}:∀ {P:Aa An} {vs:Aa Ac} {i:Af} {m:An->Al Ac},P.Nodup->P[i]? = Ab x->vs[i]? = Ab v->kindOf x≠Ab .local ->
  Sk kindOf (P.zip vs) m x=Ab v
 |[],_,_,_,_,h,_,_=>by simp at h
 |_::_,[],_,_,_,_,h,_=>by simp at h
 |p::P,w::vs,0,m,nd,h1,h2,hk=>by
  simp at h1 h2;subst h1;subst h2;show Sk kindOf ((p,w)::P.zip vs) m p=_;unfold Sk;rw[tO λv hv=>(Dy.mp nd).1 (Ka hv).1,AX hk];simp
 |p::P,w::vs,i+1,m,nd,h1,h2,hk=>by
  show Sk kindOf ((p,w)::P.zip vs) m x=_;unfold Sk;exact tN (i:=i) (Dy.mp nd).2 (by simpa using h1) (by simpa using h2) hk
noncomputable def xM (N:Aa An)(vs:Aa V):St:=vs.map Ab++Bw (N.length-vs.length) none
noncomputable def mM (CX:CXT)(P:AV)(w:Bk)(K:Ah)(mg:An->Al Ac)(base:Bc)(N:Aa An)(qual:An)(scope:Di)(f:Ad)(cd:Ac)(A:Bh)(outer:Aa Gv)(s:Ag)(H:Hp)(E:XK):Cx where
 prog:=P
 w:=w
 K:=K
 mg:=mg
 base:=base
 A:=A.deeper (EQ qual scope s.heap.objs.size f cd)
 N:=N
 s₀:=s
 H₀:=H
 env:=EQ qual scope s.heap.objs.size f cd
 outer:=outer
 stack:=EQ qual scope s.heap.objs.size f cd::outer
 ex:=[]
 calm:=true
 fn:=λ_=>true
 pn:=[]
 xe:=λe s'=>Ar (Au P w) (A.deeper (EQ qual scope s.heap.objs.size f cd)) (leaving (EQ qual scope s.heap.objs.size f cd) e) (λ_ s''=>CX outer H s E e s'') (λe' s''=>CX outer H s E e' s'') s'
theorem lH {sc:Di}{n:Af}{x:An}(h:sc.names.lookup x=Ab .cell):∃ c,(Fx n sc.names []).lookup x=Ab c:=by
 have q:=IJ sc.names n [] (.inl h);exact Ik.mp q
theorem n6 {base:Bc}{N:Aa An}{qual:An}{cd:Ac}{outer:Aa Gv}{s s1:Ag}{H:Hp}{E:XK}{us:Aa Ac}{vs:Aa V}
  (S:FnScope N ps scope) (hd:A.handled=none) (e0:Env0 P w K mg base A outer s H) (hl:vs.length=ps.length) (r:qN vs us)
  (x:InCallC s s.heap.objs.size (Sj (EQ qual scope s.heap.objs.size f cd).kindOf (ps.zip us) λ_=>none) (Fx (s.heap.objs.size+1) scope.names []) (Sk (EQ qual scope s.heap.objs.size f cd).kindOf (ps.zip us) λ_=>none) s1) :
  Inv (mM CX P w K mg base N qual scope f cd A outer s H E) [] (xM N vs) H s1:=by
 have hpl:ps.length<=N.length:=by have:=congrArg Ls S.pre;rw[Ey] at this;omega
 obtain⟨h1,tk,rfl,hk⟩:=x.done;have noA:∀ b:Ad,b ∉ (mM CX P w K mg base N qual scope f cd A outer s H E).ex:=λb z=>absurd (show b∈([]:Aa Ad) from z) (by simp)
 refine⟨⟨e0.mod,S.kind,rfl,rfl,Aq _,λy z c h1 h2=>?_,λy hy=>?_,λy c _ h=>?_,λ_=>hd,Mn e0.frames,.inr ⟨rfl,rfl⟩,λb z=>absurd z (noA b),e0.bs,e0.bsz,λb _ _=>noA b,λb z=>absurd z (noA b),e0.funs,e0.frf⟩,
  rfl,e0.bare,Un.kept hk,⟨_,x.toInCall.ns,λi y v h1 h2 h3=>?_⟩,λy c h=>⟨_,x.cell y c h⟩,e0.hok.fresh (Aq _),λy c h=>?_,λp hp=>absurd (show p∈([]:Aa (Ad × Bq)) from hp) (by simp),e0.hok.kept hk,?_⟩
 .exact name_of_addr x.apart (Ec h1) (Ec h2)
 .have hy:scope.names.lookup y=Ab .cell\/scope.names.lookup y=Ab .free:=hy
  rcases hy with hy|hy
  .exact lH hy
  .exact absurd rfl (S.nofree _ (Ec hy))
 .exact Ee (x.above y c (Ec h))
 .have hi:i<vs.length:=by
   unfold xM at h2;by_cases hi:i<vs.length
   .exact hi
   .rw[Ct (by simpa using hi)] at h2
    rw[Ix] at h2
    split at h2 <;> cases h2
  have ha:vs[i]? = Ab v:=by
   unfold xM at h2;rw[Bz (by simpa using hi),Dt] at h2
   cases e:vs[i]? with
   |none=>rw[e] at h2;cases h2
   |some a=>rw[e] at h2;cases h2;rfl
  obtain⟨u,hu,rv⟩:=r.get ha;have hp:ps[i]? = Ab y:=by
   rw[<- S.pre,OE om];exact h1
  have ndP:ps.Nodup:=by rw[<- S.pre];exact S.nd.sublist (List.take_sublist _ _)
  refine⟨u,rv,?_⟩;rcases S.par y (Cn hp) with k|k
  .exact .inl ⟨k,tP ndP hp hu k⟩
  .obtain⟨c,e⟩:=lH (n:=s.heap.objs.size+1) k
   refine .inr ⟨.inl k,c,e,?_⟩;have q:=x.cell y c e;rw[tN ndP hp hu (by show scope.names.lookup y≠_;rw[k];decide)] at q
   exact q
 .exact e0.hok.fresh (Ee (x.above y c (Ec h)))
 .unfold xM
  show _=N.length;rw[Dg,Ba,Qm];omega
theorem DP {base:Bc}{k:Af}{name qual:An}{params:Mw}{body:Aa Ds}{dV kV doc pm cdv ct oc:Ac}{an od:Al Ad}
  {osl:AZ (Al Ac)} {N ps:Aa An} {sp:Sp} (lk:K.lookup f=Ab ⟨oc,od,.func (Fd name qual params body scope dV kV doc pm an cdv ct),osl⟩) (hcd:Jf K cdv qual=true) (S:FnScope N ps scope)
  (len:∀ vs H Q E,sp vs H Q E->vs.length=ps.length)
  (hbody:∀ (A:Bh) (outer:Aa Gv) (s:Ag) (H:Hp) (vs:Aa V) (Q:VK) (E:XK),Room k (A.deeper (EQ qual scope s.heap.objs.size f cdv))->sp vs H Q E ->
   ∃ t,PSs (mM CX P w K mg base N qual scope f cdv A outer s H E) body t/\t { nx:=λ_ H'=>Q .non H',rt:=Q } (xM N vs) H) :
  FnOk P w K mg base CX (k+1) f (Fd name qual params body scope dV kV doc pm an cdv ct) ps sp:=by
 refine⟨len,λA outer s H args us vs Q E hr e0 hb r hsp=>?_⟩;have hl:=len _ _ _ _ hsp;have KX:K.In s.heap:=e0.mod.kin.keeps λb o e=>(e0.bs b o e).1;have lim:s.heap.NoLimit:=e0.mod.nolimit.keeps λb o e=>(e0.bs b o e).1;have hkind:∀ y∈ps.zip us,scope.names.lookup y.1=Ab .local \/ (scope.names.lookup y.1=Ab .cell/\((Fx (s.heap.objs.size+1) scope.names []).lookup y.1).isSome=true):=λ⟨n,v⟩ hy=>by
  rcases S.par n (Ka hy).1 with q|q
  .exact .inl q
  .exact .inr ⟨q,IJ _ _ _ (.inl q)⟩
 refine Qn hr.depth (KX _ _ lk) rfl S.co S.gen rfl (Tk KX hcd) (hb _ _ _ _ ?_);refine Of S.kind hkind λenv he s1 x=>?_;subst he;refine⟨lim.keeps x.toInCall.keep,codeAny_func ?_⟩;obtain⟨t,ht,hq⟩:=hbody A outer s H vs Q E (hr.deeper _) hsp;have I:Inv (mM CX P w K mg base N qual scope f cdv A outer s H E) [] (xM N vs) H s1:=n6 S hr.hd e0 hl r x;refine Gj (ht [] s1 (xM N vs) H _ I hq) (λfl s' hs=>?_) λe s' hs=>hs;have fin:∀ {σ' : St} {H':Hp} {v:V} {u:Ac},Inv (mM CX P w K mg base N qual scope f cdv A outer s H E) [] σ' H' s'->qM v u->Q v H'->CE outer P w H s Q u s':=
  λ{σ' H' v u} J rv q=>⟨v,H',J.os,J.bare,J.base,J.hok,rv,q⟩
 cases fl with
 |ret u =>
  obtain⟨v,σ',H',J,rv,q⟩:=hs;exact fin J rv q
 |next =>
  obtain⟨σ',H',J,q⟩:=hs;exact fin (v:=V.non) (u:=Dd) J rfl q
 |brk =>
  obtain⟨_,_,_,q⟩:=hs;exact Am q
 |cont =>
  obtain⟨_,_,_,q⟩:=hs;exact Am q
end _L
namespace _H
open PySem PyProof.Rows
variable {Q:Ac->Ag->Prop}{lo hi:Al Aj}
noncomputable def lexLt:Aa Aj->Aa Aj->Ao
 |[],[]=>false
 |[],_::_=>true
 |_::_,[]=>false
 |x::xs,y::ys=>if x=y then lexLt xs ys else decide (x<y)
theorem P8:lexLt [] []=false:=rfl
section
variable {prog:AV}{w:Bk}{A:Bh}{E:Ac->Ag->Prop}{s:Ag}
theorem cat_tup {t b:Ad}{vs ws:Aa Ac}(ht:Qj s.heap t vs.toArray)(hb:Qj s.heap b ws.toArray)(hv:vs≠[])
  (h1:ws=[]->Q (.ref t) s) (h2:ws≠[]->Q (.ref s.heap.objs.size) { s with heap:=s.heap.push { cls:=.type "tuple",data:=.seq (vs++ws).toArray } })
  (hsz:vs.length+ws.length<=sizeLine):Ar (Au prog w) A (De .Add (.ref t) (.ref b)) Q E s:=by
 obtain⟨⟨cls,dd,data,sl⟩,ho,hc,n,hd⟩:=id ht;obtain⟨⟨cls2,dd2,data2,sl2⟩,ho2,hc2,n2,hd2⟩:=id hb;simp only at hc hd hc2 hd2;subst hc hd hc2 hd2;have e:vs.toArray++ws.toArray=(vs++ws).toArray:=by simp
 by_cases hw:ws=[]
 .exact Tt ⟨_,ho,rfl⟩ ⟨_,ho2,rfl⟩ OM Sl Lj Ks (Kk _ _)
   (tuple_addW1 t b vs.toArray ws.toArray n n2 dd dd2 sl sl2 (by simpa using hv) (by simp[hw])) ⟨ho,ho2,h1 hw⟩
 .refine Tt ⟨_,ho,rfl⟩ ⟨_,ho2,rfl⟩ OM Sl Lj Ks (Kk _ _)
   (tuple_addW2 t b vs.toArray ws.toArray n n2 dd dd2 sl sl2 (by simpa using hv) (by simpa using hw) (by rw[Bf,Bf];exact hsz)) ⟨ho,ho2,?_⟩
  rw[e];exact h2 hw
noncomputable def sIx (n d:Af):Al Aj->Af
 |none=>d
 |some v=>if v<0 then (v+(n:Aj)).toNat else min v.toNat n
theorem NN (n d:Af)(hd:d<=n)(o:Al Aj):sIx n d o<=n:=by
 cases o with
 |none=>exact hd
 |some v =>
  show (if v<0 then (v+(n:Aj)).toNat else min v.toNat n)<=n
  by_cases hv:v<0
  .rw[AS hv];omega
  .rw[AX hv];exact Nat.min_le_right _ _
theorem rP (v:Aj)(n d:Af):(if v<0 then max (v+(n:Aj)) 0 else min v (n:Aj))=((sIx n d (Ab v):Af):Aj):=by
 show (if v<0 then max (v+(n:Aj)) 0 else min v (n:Aj))=(((if v<0 then (v+(n:Aj)).toNat else min v.toNat n):Af):Aj)
 by_cases hv:v<0
 .simp only[AS hv];omega
 .simp only[AX hv];omega
theorem cM (lo hi:Al Aj)(n:Af):Ek lo hi 1 (n:Aj)=(((sIx n 0 lo:Af):Aj),((sIx n n hi:Af):Aj)):=by
 have h1:¬ ((1:Aj)<0):=by omega
 unfold Ek;simp only[h1,Ff];refine Prod.ext ?_ ?_
 .cases lo with
  |none=>rfl
  |some v=>exact rP v n 0
 .cases hi with
  |none=>rfl
  |some v=>exact rP v n n
theorem aK (i j:Af):Fb (i:Aj) (j:Aj) 1=j-i:=by
 unfold Fb;have h1:(1:Aj)>0:=by omega
 simp only[h1,Cq,Int.ediv_one]
 split <;> omega
theorem mB {v:Ac}{o:Al Aj}{Q:Al Aj->Ag->Prop}(p:Og v o)(h:Q o s):Ar (Au prog w) A (Wt v) Q E s:=by
 cases p with
 |none=>exact No h
 |int i t=>exact slicePart_int h
theorem uS {sl:Ad}{vl vu:Ac}{n:Af}{Q:Aj × Aj × Af->Ag->Prop}(hs:s.heap.IsSliceOf sl vl vu .none)(pl:Og vl lo)(pu:Og vu hi)
  (h:Q (((sIx n 0 lo:Af):Aj),1,sIx n n hi-sIx n 0 lo) s):Ar (Au prog w) A (Hm (.ref sl) (pure (n:Aj))) Q E s:=by
 obtain⟨os,hos,hcs,hds⟩:=id hs;unfold Hm Ov;refine Ai (Ai (Dv hos hds (x:=vl) rfl (Ai (Dv hos hds (x:=vu) rfl (Ai (Dv hos hds (x:=.none) rfl (Ap ?_)))))));refine Ai (No ?_);show Ar _ _ (if ((1:Aj) == 0)=true then _ else _) _ _ s
 rw[AX (by decide)]
 refine Ai (mB pl (Ai (mB pu (Ai (Ap ?_)))));show Ar _ _ (match Ek lo hi 1 (n:Aj) with|(lo,hi)=>pure (lo,(1:Aj),Fb lo hi 1)) _ _ s
 rw[cM lo hi n];show Ar _ _ (pure (((sIx n 0 lo:Af):Aj),(1:Aj),Fb ((sIx n 0 lo:Af):Aj) ((sIx n n hi:Af):Aj) 1)) _ _ s;rw[aK];exact Ap h
theorem WG (xs:AZ Ac)(i k:Af):((Cw k).filterMap λ(m:Af)=>xs[((i:Aj)+(m:Aj)*1).toNat]?).toArray=((xs.toList.drop i).take k).toArray:=by
 have e:(λ(m:Af)=>xs[((i:Aj)+(m:Aj)*1).toNat]?)=λm=>xs[i+m]?:=by
  funext m
  have:((i:Aj)+(m:Aj)*1).toNat=i+m:=by omega
  rw[this]
 rw[e];have:=pick_run xs i k;rw[List.filterMap_map] at this;have e2:((λx=>xs[x]?)∘λx=>i+x)=λm=>xs[i+m]?:=rfl;rw[e2] at this;rw[this]
theorem getItem_tuple_cut {t sl:Ad}{items:AZ Ac}{vl vu:Ac}(ht:Qj s.heap t items)(hs:s.heap.IsSliceOf sl vl vu .none)(pl:Og vl lo)(pu:Og vu hi)
  (hw:¬ (sIx items.size 0 lo=0/\sIx items.size items.size hi=items.size))
  (h:Q (.ref s.heap.objs.size) { s with heap:=s.heap.push { cls:=.type "tuple",data:=.seq ((items.toList.drop (sIx items.size 0 lo)).take (sIx items.size items.size hi-sIx items.size 0 lo)).toArray } })
  (hsz:items.size<=sizeLine):Ar (Au prog w) A (Lu (.ref t) (.ref sl)) Q E s:=by
 have htake:sizeOk (.seq ((items.toList.drop (sIx items.size 0 lo)).take (sIx items.size items.size hi-sIx items.size 0 lo)).toArray):=by
  show ((items.toList.drop (sIx items.size 0 lo)).take (sIx items.size items.size hi-sIx items.size 0 lo)).toArray.size<=sizeLine;rw[Bf,Ey,Im,Bm];omega
 have hj:sIx items.size items.size hi<=items.size:=NN _ _ (Aq _) hi;obtain⟨os,hos,hcs,hds⟩:=id hs;have hTs:s.TypeIs (.ref sl) "slice":=⟨os,hos,hcs⟩;unfold Lu
 try with_reducible refine Fo ?_
 first|refine Ai (Ap ?_)|skip
 refine Ai (Ow ht.typeIs (by decide) ?_)
 refine Ai (Ev (name:=Ji "__getitem__") ht.typeIs Ch
  (Fy Ch ht.typeIs Ni ?_ (Nz _ _)))
 show Ar _ _ (Jp (.ref t) >>= _) _ _ s;refine Ai (Sm ht ?_);refine Ai (OT hTs ?_);rw[AS (by decide)]
 refine Ai (uS hs pl pu ?_);have hno:¬ ((((sIx items.size 0 lo:Af):Aj) == 0&&(1:Aj) == 1&&(sIx items.size items.size hi-sIx items.size 0 lo) == items.size)=true):=by
  intro q;rw[As,As] at q;have q1:((sIx items.size 0 lo:Af):Aj)=0:=eq_of_beq q.1.1;have q2:sIx items.size items.size hi-sIx items.size 0 lo=items.size:=eq_of_beq q.2;exact hw ⟨by omega,by omega⟩
 show Ar _ _ (if (((sIx items.size 0 lo:Af):Aj) == 0&&(1:Aj) == 1&&(sIx items.size items.size hi-sIx items.size 0 lo) == items.size)=true then _ else _) _ _ s
 rw[AX hno,WG]
 first
  |exact Ai (m:=Dx _) (Cz (Ap ⟨_,rfl,Ap h⟩) htake)
  |exact Ai (m:=Dx _) (Cz (Ai (Ap (Ap ⟨_,rfl,Ap h⟩))) htake)
  |exact Ai (Ai (m:=Dx _) (Cz (Ap (Ap ⟨_,rfl,Ap h⟩)) htake))
  |exact Ai (Ai (m:=Dx _) (Cz (Ap ⟨_,rfl,Ap h⟩) htake))
end
end _H
namespace _L
open PySem PySem.Spec PyProof.Rows
abbrev TO:=St->Hp->(Al Aj->Hp->Prop)->Prop
def PO (X:Cx)(e:Al Bd)(t:TO):Prop:=
 ∀ (pins:Aa (Ad × Bq)) (s:Ag) (σ : St) (H:Hp) (Q:Al Aj->Hp->Prop),Inv X pins σ H s->t σ H Q ->
  Ar (Au X.prog X.w) X.A (evalPart e X.env) (λu s'=>∃ o H',Inv X pins σ H' s'/\Og u o/\Q o H') X.xe s
def GM:TO:=λ_ H Q=>Q none H
def RN (t:TE):TO:=λσ H Q=>t σ H λx H1=>∃ i,x=.int i/\Q (Ab i) H1
section
variable {X:Cx}{e:Bd}{te:TE}{lo hi:Al Bd}{tl th:TO}{pos p2:Do}
theorem KJ:PO X none GM:=by
 intro pins s σ H Q I h;rw[Sn];exact Ap ⟨none,H,I,.none,h⟩
theorem KL (h:PE X e te):PO X (Ab e) (RN te):=by
 intro pins s σ H Q I hw;rw[evalPart_some];refine thn (h pins s σ H _ I hw) λu s1 ⟨x,H1,I1,r1,q1⟩=>?_;obtain⟨i,rfl,q⟩:=q1;obtain⟨t,rfl⟩:=r1;exact⟨Ab i,H1,I1,.int i t,q⟩
def SlR (X:Cx)(r:V->Al Aj->Al Aj->Hp->VK->Prop):Prop:=
 ∀ (pins:Aa (Ad × Bq)) (s:Ag) (σ : St) (H:Hp) (x:V) (v vl vu:Ac) (lo hi:Al Aj) (sl:Ad) (Q:VK),Inv X pins σ H s->qM x v->s.heap.IsSliceOf sl vl vu .none->Og vl lo->Og vu hi->r x lo hi H Q ->
  ∃ T id,typeLookup (.type T) "__getitem__" = pure (Ab (.builtin id))/\s.TypeIs v T/\Ar (Au X.prog X.w) X.A (Lu v (.ref sl)) (EP X pins σ Q) X.xe s
theorem SlR.or {r r':V->Al Aj->Al Aj->Hp->VK->Prop}(h:SlR X r)(h':SlR X r'):SlR X (λx lo hi H Q=>r x lo hi H Q\/r' x lo hi H Q):=by
 intro pins s σ H x v vl vu lo hi sl Q I rx hs pl pu q;rcases q with q|q
 .exact h pins s σ H x v vl vu lo hi sl Q I rx hs pl pu q
 .exact h' pins s σ H x v vl vu lo hi sl Q I rx hs pl pu q
def tSl (r:V->Al Aj->Al Aj->Hp->VK->Prop)(te:TE)(tl th:TO):TE:=λσ H Q=>te σ H λx H1=>tl σ H1 λl H2=>th σ H2 λu H3=>r x l u H3 Q
theorem WD {r:V->Al Aj->Al Aj->Hp->VK->Prop}(hr:SlR X r)(he:PE X e te)(hl:PO X lo tl)(hu:PO X hi th):PE X (.Subscript e (.Slice lo hi none p2) pos) (tSl r te tl th):=by
 intro pins s σ H Q I h;refine Wu (thn (he pins s σ H _ I h) λv s1 ⟨x,H1,I1,r1,q1⟩=>?_);refine wpAny_Slice (thn (hl pins s1 σ H1 _ I1 q1) λvl s2 ⟨l,H2,I2,pl,q2⟩=>thn (hu pins s2 σ H2 _ I2 q2) λvu s3 ⟨u,H3,I3,pu,q3⟩=>?_);rw[Sn];refine Ap ?_;have I4:Inv X pins σ H3 { s3 with heap:=s3.heap.push { cls:=.type "slice",data:=.fields #[vl,vu,.none] } }:=I3.kept (t':=s3.toks) λb ob q=>Ak _ q
 obtain⟨T,id,hT,ht,hg⟩:=hr pins { s3 with heap:=s3.heap.push { cls:=.type "slice",data:=.fields #[vl,vu,.none] } } σ H3 x v vl vu l u s3.heap.objs.size Q I4 r1 (Tl ..) pl pu q3
 show Ar (Au X.prog X.w) X.A (So e (.Slice lo hi none p2) v (.ref s3.heap.objs.size)) (EP X pins σ Q) X.xe { s3 with heap:=s3.heap.push { cls:=.type "slice",data:=.fields #[vl,vu,.none] } }
 exact tail_any (ops:=[.ref s3.heap.objs.size,v]) ht hT hg (by with_unfolding_all rfl)
noncomputable def gV (xs:Aa V)(lo hi:Al Aj):Aa V:=(xs.drop (_H.sIx xs.length 0 lo)).take (_H.sIx xs.length xs.length hi-_H.sIx xs.length 0 lo)
theorem b9 (xs:Aa V)(lo hi:Al Aj):(gV xs lo hi).length<=xs.length:=by
 unfold gV;rw[Ey,Im];omega
def HF (K:Ah):V->Al Aj->Al Aj->Hp->VK->Prop:=λx lo hi H Q=>∃ a xs,x=.ref a/\SqT K H a xs /\
 ¬ (_H.sIx xs.length 0 lo=0/\_H.sIx xs.length xs.length hi=xs.length)/\∀ p,H p=none->Q (.ref p) (upd H p (.tup (gV xs lo hi)))
theorem NP:SlR X (HF X.K):=by
 intro pins s σ H x v vl vu lo hi sl Q I rx hs pl pu h;obtain⟨a,xs,rfl,hx,hw,q⟩:=h;cases rx;obtain⟨its,r,ht,hz⟩:=I.tuple hx;have hlen:its.toArray.size=xs.length:=by rw[Bf];exact r.length.symm
 refine⟨"tuple",_,Ch.lookup,ht.typeIs,?_⟩;refine _H.getItem_tuple_cut ht hs pl pu (by rw[hlen];exact hw) ?_ (by rw[hlen];exact hz)
 rw[hlen];refine⟨.ref s.heap.objs.size,_,I.laid (t':=s.toks) (o:=.tup (gV xs lo hi)) (λb ob q=>Ak _ q) (Aq _) ?_,rfl,q _ (I.hok.fresh (Aq _))⟩;exact⟨Bu (b9 xs lo hi) hz,_,(r.drop (_H.sIx xs.length 0 lo)).take (_H.sIx xs.length xs.length hi-_H.sIx xs.length 0 lo),Ot _ _⟩
end
end _L
namespace _L
open PySem PySem.Spec PyProof.Rows
variable {pins:Aa (Ad × Bq)}{s:Ag}{H:Hp}{σ:St}
noncomputable def ixN (n:Af)(i:Aj):Al Af:=if 0<=i then (if i<n then Ab i.toNat else none) else if -(n:Aj)<=i then Ab (i+n).toNat else none
noncomputable def atI {α:Type}(xs:Aa α)(i:Aj):Al α:=(ixN xs.length i).bind λj=>xs[j]?
theorem eF {n:Af}{i:Aj}{j:Af}(h:ixN n i=Ab j):seqIndex? i n=Ab j/\j<n /\ -(n:Aj)<=i/\i<n:=by
 unfold ixN at h;by_cases h0:0<=i
 .rw[AS h0] at h
  by_cases h1:i<n
  .rw[AS h1] at h
   have e:i.toNat=j:=Bx h;exact⟨by rw[Vg h0 h1,e],by omega,by omega,h1⟩
  .rw[AX h1] at h;cases h
 .rw[AX h0] at h
  by_cases h1 : -(n:Aj)<=i
  .rw[AS h1] at h
   have e:(i+n).toNat=j:=Bx h;exact⟨by rw[seqIndex_neg om h1,e],by omega,h1,by omega⟩
  .rw[AX h1] at h;cases h
theorem rM {α:Type}{xs:Aa α}{i:Aj}{v:α}(h:atI xs i=Ab v):∃ j,seqIndex? i xs.length=Ab j/\xs[j]? = Ab v/\j<xs.length /\ -(xs.length:Aj)<=i/\i<xs.length:=by
 unfold atI at h;cases e:ixN xs.length i with
 |none=>rw[e] at h;cases h
 |some j =>
  rw[e] at h;obtain⟨h1,h2,h3,h4⟩:=eF e;exact⟨j,h1,h,h2,h3,h4⟩
def mJ (b:Bd):Prop:=∀ o i,subscripted b false o i=operate [o,i] (Lu o i)
def IxR (X:Cx)(r:R2):Prop:=
 ∀ (value slice:Bd) (pins:Aa (Ad × Bq)) (s:Ag) (σ : St) (H:Hp) (x y:V) (v u:Ac) (Q:VK),Inv X pins σ H s->qM x v->qM y u->r x y H Q ->
  subscripted slice false v u=operate [v,u] (Lu v u)->Ar (Au X.prog X.w) X.A (So value slice v u) (EP X pins σ Q) X.xe s
def MtR (X:Cx)(id:Cs)(r:V->Aa V->Hp->VK->Prop):Prop:=
 ∀ (pins:Aa (Ad × Bq)) (s:Ag) (σ : St) (H:Hp) (x:V) (xs:Aa V) (v:Ac) (us:Aa Ac) (Q:VK),Inv X pins σ H s->qM x v->qN xs us->r x xs H Q ->
  Ar (Au X.prog X.w) X.A (call (.builtin id) (v::us)) (EP X pins σ Q) X.xe s
section
variable {X:Cx}{a b:Bd}{ta tb:TE}{pos:Do}
theorem IxR.or {r r':R2}(h:IxR X r)(h':IxR X r'):IxR X (λx y H Q=>r x y H Q\/r' x y H Q):=by
 intro value slice pins s σ H x y v u Q I rx ry q hs;rcases q with q|q
 .exact h value slice pins s σ H x y v u Q I rx ry q hs
 .exact h' value slice pins s σ H x y v u Q I rx ry q hs
theorem MtR.or {id:Cs}{r r':V->Aa V->Hp->VK->Prop}(h:MtR X id r)(h':MtR X id r'):MtR X id (λx xs H Q=>r x xs H Q\/r' x xs H Q):=by
 intro pins s σ H x xs v us Q I rx rs q;rcases q with q|q
 .exact h pins s σ H x xs v us Q I rx rs q
 .exact h' pins s σ H x xs v us Q I rx rs q
theorem R0 {r:R2}(hr:IxR X r)(ha:PE X a ta)(hb:PE X b tb)(hs:mJ b):PE X (.Subscript a b pos) (tOp r ta tb):=by
 intro pins s σ H Q I h;exact Wu (EA ha hb I h λv u s2 x y H2 I2 rx ry q=>hr a b pins s2 σ H2 x y v u Q I2 rx ry q (hs _ _))
def HB (K:Ah):R2:=λx y H Q=>∃ p xs i v,x=.ref p/\y=.int i/\SqL K H p xs/\atI xs i=Ab v/\Q v H
def HC (K:Ah):R2:=λx y H Q=>∃ p xs i v,x=.ref p/\y=.int i/\SqT K H p xs/\atI xs i=Ab v/\Q v H
theorem eG:IxR X (HB X.K):=by
 intro value slice pins s σ H x y v u Q I rx ry h hs;obtain⟨p,xs,i,z,rfl,rfl,hq,he,q⟩:=h;cases rx;obtain⟨t,rfl⟩:=ry;obtain⟨its,r,pl,hz⟩:=I.list hq;obtain⟨j,h1,h2,h3,h4,h5⟩:=rM he;obtain⟨w,ew,rw'⟩:=r.get h2;have hl:=r.length;have hn:=pA;have fin:EP X pins σ Q w s:=⟨z,H,I,rw',q⟩;by_cases h0:0<=i
 .have hj:i.toNat=j:=by
   rw[Vg h0 h5] at h1;exact Bx h1
  exact item_listR pl.isList h0 om (by rw[hj];simpa using ew) fin hs
 .have hj:(i+(its.toArray.size:Aj)).toNat=j:=by
   rw[seqIndex_neg om h4] at h1;rw[Bf,<- hl];exact Bx h1
  exact Pp (x:=w) pl.isList.typeIs Um.lookup
   (wpAny_getItem_list_neg (Q:=λr s'=>r=w/\EP X pins σ Q r s') pl.isList om (by rw[Bf] <;> omega) om (by rw[hj];simpa using ew) ⟨rfl,fin⟩) hs
theorem FM:IxR X (HC X.K):=by
 intro value slice pins s σ H x y v u Q I rx ry h hs;obtain⟨p,xs,i,z,rfl,rfl,hq,he,q⟩:=h;cases rx;obtain⟨t,rfl⟩:=ry;obtain⟨its,r,pl,hz⟩:=I.tuple hq;obtain⟨j,h1,h2,h3,h4,h5⟩:=rM he;obtain⟨w,ew,rw'⟩:=r.get h2;have hl:=r.length;have hn:=pA;have fin:EP X pins σ Q w s:=⟨z,H,I,rw',q⟩;exact Pp (x:=w) pl.typeIs slot_tuple_getitem.lookup
  (getItem_tuple (j:=j) (Q:=λr s'=>r=w/\EP X pins σ Q r s') pl om om (by rw[Bf,<- hl];exact h1) (by simpa using ew) ⟨rfl,fin⟩) hs
theorem aD (its:Aa Ac)(n j:Af)(u:Ac):Gn (·.setIfInBounds j u) { cls:=.type "list",data:=.seq its.toArray n } = { cls:=.type "list",data:=.seq (its.set j u).toArray n }:=by
 simp[Gn]
theorem Inv.lst {p:Ad}{xs:Aa V}(I:Inv X pins σ H s)(h:H p=Ab (.lst xs)) :
  ∃ (its:Aa Ac) (n:Af),qN xs its/\s.heap.get? p=Ab { cls:=.type "list",data:=.seq its.toArray n } /\ xs.length<=sizeLine:=by
 obtain⟨z,its,n,r,e⟩:=I.hok p _ h;exact⟨its,n,r,e,z⟩
theorem Inv.lstUpd {p:Ad}{xs ys:Aa V}{its its':Aa Ac}{n n':Af}{f:Bq->Bq}(I:Inv X pins σ H s)(h:H p=Ab (.lst xs))
  (ho:s.heap.get? p=Ab { cls:=.type "list",data:=.seq its.toArray n }) (hf:f { cls:=.type "list",data:=.seq its.toArray n } = { cls:=.type "list",data:=.seq its'.toArray n' }) (r:qN ys its') (hz:ys.length<=sizeLine) (t:Af) :
  Inv X pins σ (upd H p (.lst ys)) { s with heap:=s.heap.update p f,toks:=t }:=by
 have e:(s.heap.update p f).get? p=Ab { cls:=.type "list",data:=.seq its'.toArray n' }:=by
  rw[Qo f ho (by rw[hf] <;> rfl),hf]
 refine I.write (x:=p) (e:=p) (by rw[h];trivial) (.inl rfl) (λb u hb q=>(Hb _ _ (Fa hb)).trans q) ⟨_,e⟩ ?_
 exact⟨hz,its',n',r,e⟩
def RB:V->V->V->Hp->(Hp->Prop)->Prop:=λo i v H Q=>∃ p xs k j,o=.ref p/\i=.int k/\H p=Ab (.lst xs)/\ixN xs.length k=Ab j/\Q (upd H p (.lst (xs.set j v)))
theorem Y2:lB X RB:=by
 intro pins s σ H o i v ov iv u Q I ro ri rv h;obtain⟨p,xs,k,j,rfl,rfl,hp,hj,q⟩:=h;cases ro;obtain⟨t,rfl⟩:=ri;obtain⟨its,n,r,ho,hz⟩:=I.lst hp;obtain⟨h1,h2,h3,h4⟩:=eF hj;have hl:=r.length;have hn:=pA;have I':Inv X pins σ (upd H p (.lst (xs.set j v))) { s with heap:=s.heap.update p (Gn (·.setIfInBounds j u)) }:=
  I.lstUpd hp ho (aD its n j u) (r.set rv j) (by rw[Pq];exact hz) s.toks
 by_cases h0:0<=k
 .have hk:k.toNat=j:=by
   rw[Vg h0 h4] at h1;exact Bx h1
  exact PySem.W.ki_setAt ho h0 om (by rw[Bf,<- hl];exact h4) (by rw[hk];exact⟨_,I',q⟩)
 .have hk:(k+(its.toArray.size:Aj)).toNat=j:=by
   rw[seqIndex_neg om h3] at h1;rw[Bf,<- hl];exact Bx h1
  exact PySem.W.ki_setBack ho om (by rw[Bf,<- hl];exact h3) om (by rw[hk];exact⟨_,I',q⟩)
theorem sN (lo hi:Al Aj)(n:Af):(Kb lo hi none n).1=((_H.sIx n 0 lo:Af):Aj)/\(Kb lo hi none n).2.1=((_H.sIx n n hi:Af):Aj)/\(Kb lo hi none n).2.2=1:=by
 refine⟨?_,?_,rfl⟩
 .cases lo with
  |none=>simp[Kb,_H.sIx]
  |some i =>
   simp only[Kb,_H.sIx,Vh,show (1:Aj)>0 by decide,Cq]
   by_cases h:i<0
   .simp only[h,Cq] <;> omega
   .simp only[h,Ff] <;> omega
 .cases hi with
  |none=>simp[Kb,_H.sIx]
  |some i =>
   simp only[Kb,_H.sIx,Vh,show (1:Aj)>0 by decide,Cq]
   by_cases h:i<0
   .simp only[h,Cq] <;> omega
   .simp only[h,Ff] <;> omega
theorem nM (its:Aa Ac)(lo hi:Al Aj):slicePick its.toArray lo hi none=((its.drop (_H.sIx its.length 0 lo)).take (_H.sIx its.length its.length hi-_H.sIx its.length 0 lo)).toArray:=by
 obtain⟨h1,h2,h3⟩:=sN lo hi its.toArray.size;unfold slicePick;rw[h1,h2,h3];simp only[sliceRange_one,pick_run,Bf] <;> rfl
def HE (K:Ah):V->Al Aj->Al Aj->Hp->VK->Prop:=λx lo hi H Q=>∃ a xs,x=.ref a/\SqL K H a xs/\∀ p,H p=none->Q (.ref p) (upd H p (.lst (gV xs lo hi)))
theorem hZ:SlR X (HE X.K):=by
 intro pins s σ H x v vl vu lo hi sl Q I rx hs pl pu h;obtain⟨a,xs,rfl,hx,q⟩:=h;cases rx;obtain⟨its,r,ht,hz⟩:=I.list hx;have hlen:=r.length;refine⟨"list",_,Um.lookup,ht.isList.typeIs,?_⟩;refine wpAny_getItem_list_slice ht.isList hs pl pu .none (by simp) ?_ (by rw[Bf] <;> omega)
 rw[nM,<- hlen];refine⟨.ref s.heap.objs.size,_,I.laid (t':=s.toks) (o:=.lst (gV xs lo hi)) (λb ob q=>Ak _ q) (Aq _) ?_,rfl,q _ (I.hok.fresh (Aq _))⟩;exact⟨Bu (b9 xs lo hi) hz,_,0,(r.drop (_H.sIx xs.length 0 lo)).take (_H.sIx xs.length xs.length hi-_H.sIx xs.length 0 lo),Bb _ rfl⟩
theorem uV.or {f:Ac}{r r':Aa V->Hp->VK->Prop}(h:uV X f r)(h':uV X f r'):uV X f (λxs H Q=>r xs H Q\/r' xs H Q):=by
 intro pins s σ H xs us Q I rs q;rcases q with q|q
 .exact h pins s σ H xs us Q I rs q
 .exact h' pins s σ H xs us Q I rs q
theorem gT:uV X (.type "list") (λxs H Q=>∃ p ys,xs=[.ref p]/\(SqL X.K H p ys\/SqT X.K H p ys)/\∀ l,H l=none->Q (.ref l) (upd H l (.lst ys))):=by
 intro pins s σ H xs us Q I r h;obtain⟨p,ys,rfl,hq,q⟩:=h;obtain⟨u,rfl,rx⟩:=uA r;cases rx;have fin:∀ (its:Aa Ac),qN ys its->ys.length<=sizeLine->∀ (h':Bc) (c':Af),(∀ b o',s.heap.get? b=Ab o'->h'.get? b=Ab o') ->
   h'.get? s.heap.objs.size=Ab { cls:=.type "list",dict:=none,data:=.seq its.toArray c',slots:=#[] } -> EP X pins σ Q (.ref s.heap.objs.size) { s with heap:=h' }:=λits r' hz h' c' kp e =>
  ⟨.ref s.heap.objs.size,_,I.laid (t':=s.toks) kp (Aq _) (show z9 X.prog X.w _ h' _ (.lst ys) from⟨hz,its,c',r',e⟩),rfl,q _ (I.hok.fresh (Aq _))⟩
 rcases hq with hq|hq
 .obtain⟨its,r',pl,hz⟩:=I.list hq
  have hlen:=r'.length;obtain⟨o,ho,hc,n,hd⟩:=pl.isList;exact call_list_seq p (.inl rfl) ho hc hd (λh' c' kp e=>fin its r' hz h' c' kp e) (by simp only[Bf] <;> omega)
 .obtain⟨its,r',pl,hz⟩:=I.tuple hq
  have hlen:=r'.length;obtain⟨o,ho,hc,n,hd⟩:=pl;exact call_list_seq p (.inr rfl) ho hc hd (λh' c' kp e=>fin its r' hz h' c' kp e) (by simp only[Bf] <;> omega)
theorem gN:uV X (.type "tuple") (λxs H Q=>∃ p ys,xs=[.ref p]/\((SqL X.K H p ys/\∀ l,H l=none->Q (.ref l) (upd H l (.tup ys)))\/(SqT X.K H p ys/\Q (.ref p) H))):=by
 intro pins s σ H xs us Q I r h;obtain⟨p,ys,rfl,h⟩:=h;obtain⟨u,rfl,rx⟩:=uA r;cases rx;rcases h with⟨hq,q⟩|⟨hq,q⟩
 .obtain⟨its,r',pl,hz⟩:=I.list hq
  have hlen:=r'.length;refine call_tuple_list pl.isList (λh' kp=>?_) (by simp only[Bf] <;> omega)
  have I1:Inv X pins σ H { s with heap:=h' }:=I.kept (t':=s.toks) kp
  have I2:Inv X pins σ (upd H h'.objs.size (.tup ys)) { s with heap:=h'.push { cls:=.type "tuple",data:=.seq its.toArray } }:=
   I1.laid (t':=s.toks) (λb o e=>Ak _ e) (Aq _) (show z9 X.prog X.w _ _ _ (.tup ys) from⟨hz,its,r',Ot _ _⟩)
  exact⟨.ref h'.objs.size,_,I2,rfl,q _ (I1.hok.fresh (Aq _))⟩
 .obtain⟨its,r',pl,hz⟩:=I.tuple hq
  exact call_tuple_same pl ⟨.ref p,H,I,rfl,q⟩
def tyV (K:Ah)(T:Cs)(x:V)(H:Hp):Prop:=match x with
 |.str _=>T = "str"
 |.int _=>T = "int"
 |.ref p=>(T = "list" /\ ∃ xs,SqL K H p xs)\/(T = "tuple" /\ ∃ o,K.lookup p=Ab o/\o.cls=.type "tuple" /\ o.dict=none) \/
   (T = "dict" /\ ((∃ kvs,H p=Ab (.dK kvs))\/∃ kvs,H p=Ab (.dT kvs)))\/(T = "set" /\ ∃ S n,H p=Ab (.set S n))
 |_=>Eh
theorem sU {T:Cs}{x:V}{v:Ac}(I:Inv X pins σ H s)(r:qM x v)(ty:tyV X.K T x H) :
  s.TypeIs v T/\∀ a,v=.ref a->∃ ob,s.heap.get? a=Ab ob/\ob.dict=none:=by
 cases x with
 |str z =>
  obtain⟨t,rfl⟩:=r;cases (show T = "str" from ty)
  exact⟨typeIs_str s z t,λ_ e=>nomatch e⟩
 |int i =>
  obtain⟨t,rfl⟩:=r;cases (show T = "int" from ty)
  exact⟨Wv s i t,λ_ e=>nomatch e⟩
 |ref p =>
  cases r;rcases ty with⟨rfl,xs,hq⟩|⟨rfl,o,hk,hc,hd⟩|⟨rfl,hk⟩|⟨rfl,S,n,hk⟩
  .obtain⟨its,_,pl,_⟩:=I.list hq
   refine⟨pl.isList.typeIs,λa e=>?_⟩;cases e;obtain⟨o,n,e,c,hd,_⟩:=pl;exact⟨o,e,hd⟩
  .refine⟨⟨o,I.kIn p o hk,hc⟩,λa e=>?_⟩
   cases e;exact⟨o,I.kIn _ o hk,hd⟩
  .have z:∃ o,s.heap.get? p=Ab o/\o.ExactDict:=by
    rcases hk with⟨kvs,hk⟩|⟨kvs,hk⟩
    .obtain⟨_,_,_,_,o,_,_,e,ex,_⟩:=I.hok p _ hk
     exact⟨o,e,ex⟩
    .obtain⟨_,_,_,_,o,_,_,e,ex,_⟩:=I.hok p _ hk
     exact⟨o,e,ex⟩
   obtain⟨o,e,ex⟩:=z;refine⟨⟨o,e,ex.1⟩,λa e2=>?_⟩;cases e2;exact⟨o,e,ex.2.1⟩
  .obtain⟨o,_,_,_,e,ex,_⟩:=I.hok p _ hk
   refine⟨⟨o,e,ex.1⟩,λa e2=>?_⟩;cases e2;exact⟨o,e,ex.2.1⟩
 |_=>exact Am ty
variable {o e:Bd}{es:Aa Bd}{to:TE}{t:TA}{name:An}{apos cpos:Do}{T id:Cs}{r:V->Aa V->Hp->VK->Prop}
/- xs.append(e),list.index on a module's tuple .. are MtR facts of 06m -/
end
end _L
namespace _L
open PySem PySem.Spec PyProof.Rows
variable {us:Aa Ac}
theorem qN.one {x:V}(h:qN [x] us):∃ u,us=[u]/\qM x u:=uA h
theorem qN.two {x y:V}(h:qN [x,y] us):∃ u v,us=[u,v]/\qM x u/\qM y v:=mC h
theorem qN.rep {xs:Aa V}(h:qN xs us):∀ k:Af,qN (Bw k xs).flatten (Bw k us).flatten
 |0=>.nil
 |k+1=>by
  rw[Fu,Fu,HT,HT];exact qN.append h (qN.rep h k)
theorem tY (its:Aa Ac):∀ (k:Af) (acc:Aa Ac),
  Ww (λx1 x2=>x1++x2) acc.toArray (Bw k its.toArray)=(acc++(Bw k its).flatten).toArray
 |0,acc=>by simp
 |k+1,acc=>by
  have e:acc.toArray++its.toArray=(acc++its).toArray:=by simp
  have e2:(acc++its)++(Bw k its).flatten=acc++(Bw (k+1) its).flatten:=by
   rw[Fu,HT,By]
  rw[<- e2,<- tY its k (acc++its),<- e,Fu,Wc]
section
variable {X:Cx}{pins:Aa (Ad × Bq)}{σ : St}{H:Hp}{s:Ag}{l b:Ad}{xs ys zs:Aa V}
theorem W5 {n:Af}(h:n<=sizeLine):Kl n=false:=by
 unfold Kl;exact Cj om
end
section
variable {X:Cx}
theorem JR {α:Type}(xs:Aa α)(k:Af):(Bw k xs).flatten.length=k*xs.length:=by
 induction k with
 |zero=>simp
 |succ k ih=>rw[Fu,HT,Dg,ih,Yg,Tu]
end
end _L
namespace _L
open PySem PySem.Spec PyProof.Rows
variable {xs:Aa (Aa Key × Ad × Ac)}{kvs:Aa (Aa Key × V)}{H':Hp}
section
variable {κ : Type}[DecidableEq κ]
noncomputable def yE (kvs:Aa (κ × V))(k:κ):Al V:=(kvs.find? λkv=>decide (kv.1=k)).map (·.2)
noncomputable def yR (kvs:Aa (κ × V))(k:κ)(v:V):Aa (κ × V):=
 if (kvs.any λkv=>decide (kv.1=k))=true then kvs.map (λkv=>if kv.1=k then (kv.1,v) else kv) else kvs++[(k,v)]
theorem bX {p:κ × V}{r:Aa (κ × V)}{k:κ}(e:p.1=k):yE (p::r) k=Ab p.2:=by simp[yE,Hx,e]
theorem bW {p:κ × V}{r:Aa (κ × V)}{k:κ}(e:¬ p.1=k):yE (p::r) k=yE r k:=by simp[yE,Hx,e]
theorem sY (k:κ):∀ kvs:Aa (κ × V),(kvs.any λkv=>decide (kv.1=k))=(yE kvs k).isSome
 |[]=>rfl
 |p::r=>by
  rw[IK];by_cases e:p.1=k
  .simp only[bX e,Cu e,Tv,Tn]
  .rw[bW e,Cj e,Xp];exact sY k r
theorem bA (kvs:Aa (κ × V))(k:κ)(v:V):(yR kvs k v).length<=kvs.length+1:=by
 unfold yR
 split
 .rw[Ba];omega
 .rw[Dg,Bv,Ew];omega
theorem kP.isSome_eq {o:Al V}{u:Al Ac}(r:kP o u):o.isSome=u.isSome:=by
 cases o with
 |none=>cases u with
  |none=>rfl
  |some _=>exact(show Eh from r).elim
 |some _=>cases u with
  |none=>exact(show Eh from r).elim
  |some _=>rfl
theorem kP.getD {o:Al V}{u:Al Ac}{d:V}{d':Ac}(r:kP o u)(rd:qM d d'):qM (o.getD d) (u.getD d'):=by
 cases o with
 |none=>cases u with
  |none=>exact rd
  |some _=>exact(show Eh from r).elim
 |some _=>cases u with
  |none=>exact(show Eh from r).elim
  |some _=>exact r
theorem KV.val {kvs:Aa (κ × V)}{vs:Aa (κ × Ac)}(r:KV kvs vs)(k:κ):kP (yE kvs k) (Sr vs k):=by
 unfold KV at r
 induction r with
 |nil=>exact Gm
 |@cons p q ps qs h t ih =>
  obtain⟨h1,h2⟩:=h;by_cases e:p.1=k
  .have e':q.1=k:=h1.symm.trans e
   have b:Sr (q::qs) k=Ab q.2:=by simp[Sr,Hx,e']
   rw[bX e,b];exact h2
  .have e':¬ q.1=k:=λz=>e (h1.trans z)
   have b:Sr (q::qs) k=Sr qs k:=by simp[Sr,Hx,e']
   rw[bW e,b];exact ih
theorem KV.any {kvs:Aa (κ × V)}{vs:Aa (κ × Ac)}(r:KV kvs vs)(k:κ):(kvs.any λkv=>decide (kv.1=k))=vs.any λkv=>decide (kv.1=k):=by
 unfold KV at r
 induction r with
 |nil=>rfl
 |cons h t ih=>rw[IK,IK,ih,h.1]
theorem KV.repl {kvs:Aa (κ × V)}{vs:Aa (κ × Ac)}(r:KV kvs vs)(k:κ){y:V}{u:Ac}(ry:qM y u) :
  KV (kvs.map λkv=>if kv.1=k then (kv.1,y) else kv) (vs.map λkv=>if kv.1=k then (kv.1,u) else kv):=by
 unfold KV at r ⊢
 induction r with
 |nil=>exact .nil
 |@cons p q ps qs h t ih =>
  rw[Bt,Bt];refine .cons ?_ ih;obtain⟨h1,h2⟩:=h;by_cases e:p.1=k
  .rw[AS e,AS (h1.symm.trans e)];exact⟨h1,ry⟩
  .rw[AX e,AX (λz=>e (h1.trans z))];exact⟨h1,h2⟩
theorem KV.put {kvs:Aa (κ × V)}{vs:Aa (κ × Ac)}(r:KV kvs vs)(k:κ){y:V}{u:Ac}(ry:qM y u):KV (yR kvs k y) (stored vs k u):=by
 unfold yR stored;rw[r.any k];by_cases e:(vs.any λkv=>decide (kv.1=k))=true
 .rw[AS e,AS e];exact r.repl k ry
 .rw[AX e,AX e];exact Paired.snoc r ⟨rfl,ry⟩
theorem KV.keys {kvs:Aa (κ × V)}{vs:Aa (κ × Ac)}(r:KV kvs vs):kvs.map (·.1)=vs.map (·.1):=by
 unfold KV at r
 induction r with
 |nil=>rfl
 |cons h t ih=>rw[Bt,Bt,ih,h.1]
theorem KV.length {kvs:Aa (κ × V)}{vs:Aa (κ × Ac)}(r:KV kvs vs):kvs.length=vs.length:=Paired.length r
end
theorem fO {P:AV}{w:Bk}{k:Key}{u:Ac}(r:qM (kV k) u):(zJ P w).is k u=true:=by
 cases k with
 |inl i=>obtain⟨t,e⟩:=(show ∃ t,u=Hd i t from r);subst e;exact rC P w i t
 |inr x=>obtain⟨t,e⟩:=(show ∃ t,u=Qi x t from r);subst e;exact rD P w x t
theorem n9 {P:AV}{w:Bk}:∀ {ks:Aa Key} {us:Aa Ac},qN (ks.map kV) us->ItemsAre (zJ P w) ks us
 |[],_,r=>by rw[Yh] at r;cases r;exact .nil
 |k::ks,_,r=>by
  rw[Bt] at r;cases r with
  |cons h t=>exact .cons (fO h) (n9 t)
abbrev KT (H:Hp):Aa (Aa Key × V)->Aa (Aa Key × Ad × Ac)->Prop:=Paired λp q=>p.1=q.1/\H q.2.1=Ab (.tup (p.1.map kV))/\qM p.2 q.2.2
theorem KT.val {H:Hp}(r:KT H kvs xs)(k:Aa Key):kP (yE kvs k) ((Uo xs k).map (·.2)):=by
 induction r with
 |nil=>exact Gm
 |@cons p q ps qs h t ih =>
  obtain⟨h1,_,h2⟩:=h;by_cases e:p.1=k
  .have e':q.1=k:=h1.symm.trans e
   have b:Uo (q::qs) k=Ab q.2:=by simp[Uo,Hx,e']
   rw[bX e,b];exact h2
  .have e':¬ q.1=k:=λz=>e (h1.trans z)
   have b:Uo (q::qs) k=Uo qs k:=by simp[Uo,Hx,e']
   rw[bW e,b];exact ih
theorem KT.repl {H:Hp}(r:KT H kvs xs)(k:Aa Key){y:V}{u:Ac}(ry:qM y u) :
  KT H (kvs.map λkv=>if kv.1=k then (kv.1,y) else kv) (xs.map (putAt k u)):=by
 induction r with
 |nil=>exact .nil
 |@cons p q ps qs h t ih =>
  rw[Bt,Bt];refine .cons ?_ ih;obtain⟨h1,h2,h3⟩:=h;unfold putAt;by_cases e:p.1=k
  .rw[AS e,AS (h1.symm.trans e)];exact⟨h1,h2,ry⟩
  .rw[AX e,AX (λz=>e (h1.trans z))];exact⟨h1,h2,h3⟩
theorem KT.put {H:Hp}(r:KT H kvs xs)(k:Aa Key){b:Ad}{y:V}{u:Ac}(hb:H b=Ab (.tup (k.map kV)))(ry:qM y u) :
  KT H (yR kvs k y) (storedH xs k b u):=by
 have e:(kvs.any λkv=>decide (kv.1=k))=(Uo xs k).isSome:=by
  rw[sY,(r.val k).isSome_eq,Option.isSome_map]
 unfold yR storedH;rw[e];by_cases q:(Uo xs k).isSome=true
 .rw[AS q,AS q];exact r.repl k ry
 .rw[AX q,AX q];exact Paired.snoc r ⟨rfl,hb,ry⟩
theorem KT.keeps {H:Hp}(r:KT H kvs xs)(ht:∀ b ys,H b=Ab (.tup ys)->H' b=Ab (.tup ys)):KT H' kvs xs:=
 Paired.mapP r λ_ _ z=>⟨z.1,ht _ _ z.2.1,z.2.2⟩
section
variable {P:AV}{w:Bk}{H:Hp}{h:Bc}{a:Ad}
theorem V6 {u:HO}(ok:HOk P w H h)(e:Rd H a u):z9 P w H h a u:=e.ok ok
theorem YL {kvs:Aa (Key × V)}(ok:HOk P w H h)(e:Rd H a (.dK kvs)):kvs.length<=sizeLine/\(a == Gi)=false/\∃ vs,KV kvs vs/\h.DictOf (zJ P w) a vs:=
 show z9 P w H h a (.dK kvs) from V6 ok e
theorem cT {kvs:Aa (Key × V)}(ok:HOk P w H h)(e:H a=Ab (.dK kvs)):kvs.length<=sizeLine/\(a == Gi)=false/\∃ vs,KV kvs vs/\h.DictOf (zJ P w) a vs:=YL ok (.inl e)
theorem uL {ks:Aa Key}(ok:HOk P w H h)(e:H a=Ab (.tup (ks.map kV))):(Op (zJ P w)).is h ks a:=by
 obtain⟨_,its,r,o,h1,h2,n,h3⟩:=(show z9 P w H h a (.tup (ks.map kV)) from ok a _ e)
 exact⟨o,its.toArray,n,h1,h2,h3,by simpa using n9 r⟩
theorem YM (ok:HOk P w H h)(e:Rd H a (.dT kvs)):kvs.length<=sizeLine/\(a == Gi)=false /\
  ∃ xs,KT H kvs xs/\h.DictOfH (Op (zJ P w)) a xs:=by
 obtain⟨z,y,xs,r,o,es,ep,h1,h2,h3,h4,h5⟩:=(show z9 P w H h a (.dT kvs) from V6 ok e)
 refine⟨z,y,xs,r,o,es,ep,h1,h2,h3,h4,λx hx=>?_,h5⟩;have all:∀ {l:Aa (Aa Key × V)} {m:Aa (Aa Key × Ad × Ac)},KT H l m->∀ x∈m,(Op (zJ P w)).is h x.1 x.2.1:=by
  intro l m q
  induction q with
  |nil=>intro x hx;exact nomatch hx
  |@cons p q ps qs hq t ih =>
   intro x hx;rcases Bg.mp hx with e|hx
   .subst e
    exact uL ok (by rw[<- hq.1];exact hq.2.1)
   .exact ih x hx
 exact all r x hx
theorem DH (ok:HOk P w H h)(e:H a=Ab (.dT kvs)):kvs.length<=sizeLine/\(a == Gi)=false /\
  ∃ xs,KT H kvs xs/\h.DictOfH (Op (zJ P w)) a xs:=YM ok (.inl e)
end
def mG (H:Hp)(a:Ad)(y:V)(r:Al V):Prop:=
 (∃ kvs k,Rd H a (.dK kvs)/\y=kV k/\r=yE kvs k)\/∃ kvs k b,Rd H a (.dT kvs)/\y=.ref b/\H b=Ab (.tup (k.map kV))/\r=yE kvs k
def mH (H:Hp)(a:Ad)(y v:V)(H':Hp):Prop:=
 (∃ kvs k,H a=Ab (.dK kvs)/\y=kV k/\kvs.length<sizeLine/\H'=upd H a (.dK (yR kvs k v))) \/
 ∃ kvs k b,H a=Ab (.dT kvs)/\y=.ref b/\H b=Ab (.tup (k.map kV))/\kvs.length<sizeLine/\H'=upd H a (.dT (yR kvs k v))
theorem mG.k {H:Hp}{a:Ad}{kvs:Aa (Key × V)}{k:Key}(e:H a=Ab (.dK kvs)):mG H a (kV k) (yE kvs k):=.inl ⟨kvs,k,.inl e,rfl,rfl⟩
theorem mG.t {H:Hp}{a b:Ad}{k:Aa Key}(e:H a=Ab (.dT kvs))(eb:H b=Ab (.tup (k.map kV))):mG H a (.ref b) (yE kvs k):=.inr ⟨kvs,k,b,.inl e,rfl,eb,rfl⟩
theorem mH.k {H:Hp}{a:Ad}{kvs:Aa (Key × V)}{k:Key}{v:V}(e:H a=Ab (.dK kvs))(hl:kvs.length<sizeLine):mH H a (kV k) v (upd H a (.dK (yR kvs k v))):=.inl ⟨kvs,k,e,rfl,hl,rfl⟩
theorem mH.t {H:Hp}{a b:Ad}{k:Aa Key}{v:V}(e:H a=Ab (.dT kvs))(eb:H b=Ab (.tup (k.map kV)))(hl:kvs.length<sizeLine) :
  mH H a (.ref b) v (upd H a (.dT (yR kvs k v))):=.inr ⟨kvs,k,b,e,rfl,eb,hl,rfl⟩
section
variable {X:Cx}{pins:Aa (Ad × Bq)}{σ : St}{H:Hp}{s:Ag}{a:Ad}{y v:V}{u r:Ac}{o:Al V}{A:Bh}{E:Ac->Ag->Prop}
theorem Inv.big (I:Inv X pins σ H s):Gi<s.heap.objs.size:=by
 have h:Br<s.heap.objs.size:=(I.mod.glob.keeps I.bk).lt;exact Jj (by decide) h
theorem rS {h':Bc}{t':Af}{ob:HO}(I:Inv X pins σ H s)(mu:Mut (H a))(hs:Hs a s.heap h')(he:∃ q,h'.get? a=Ab q)(new:z9 X.prog X.w (upd H a ob) h' a ob) :
  Inv X pins σ (upd H a ob) { s with heap:=h',toks:=t' }:=
 I.write (x:=a) (e:=a) mu (.inl rfl) (λb q hb z=>(hs.2 b hb).trans z) he new
theorem BP {P:AV}{w:Bk}{h':Bc}{kvs:Aa (Key × V)}{vs:Aa (Key × Ac)}(z:kvs.length<=sizeLine)(hd:(a == Gi)=false)(rel:KV kvs vs)(dd:h'.DictOf (zJ P w) a vs) :
  z9 P w H' h' a (.dK kvs):=⟨z,hd,vs,rel,dd⟩
theorem iB {Q:Nh->Ag->Prop}(hu:A.units+1<Hz)(I:Inv X pins σ H s)(g:mH H a y v H')(ry:qM y u)(rv:qM v r)(h:∀ s',Inv X pins σ H' s'->Q () s') :
  Ar (Au X.prog X.w) A (Xn (.ref a) u r) Q E s:=by
 rcases g with⟨kvs,k,e,ey,l,eH⟩|⟨kvs,k,b,e,ey,eb,l,eH⟩
 .subst ey eH
  obtain⟨z,hd,vs,rel,dd⟩:=cT I.hok e;have hz:vs.length<=sizeLine:=by rw[<- rel.length];exact z
  have hl:(yR kvs k v).length<=sizeLine:=by have:=bA kvs k v;omega
  refine wpAny_setItem_pairs (hsz:=hz) (fO ry) dd λh' dd' hs=>h _ ?_;have he:∃ q,h'.get? a=Ab q:=let ⟨q,_,_,hq,_⟩:=dd';⟨q,hq⟩
  exact rS I (by rw[e];exact Gm) hs he (BP hl hd (rel.put k rv) dd')
 .subst ey eH
  cases (show u=Bn b from ry)
  obtain⟨z,hd,xs,rel,dd⟩:=DH I.hok e;have hz:xs.length<=sizeLine:=by rw[<- Paired.length rel];exact z
  have hl:(yR kvs k v).length<=sizeLine:=by have:=bA kvs k v;omega
  refine wpAny_setItem_heap (hsz:=hz) (To hu) (uL I.hok eb) dd λh' dd' hs=>h _ ?_;obtain⟨q,es,ep,hq,h2,h3,h4,_,h5⟩:=dd';refine rS I (by rw[e];exact Gm) hs ⟨q,hq⟩ ⟨hl,hd,_,(rel.put k eb rv).keeps λc ys ec=>?_,q,es,ep,hq,h2,h3,h4,h5⟩
  rw[qH (SE ec e (λz=>nomatch z))];exact ec
end
theorem ZW {P:AV}{w:Bk}{H:Hp}(h:Bc)(hb:Gi<h.objs.size):z9 P w H (h.push { cls:=.type "dict",data:=.dict #[] }) h.objs.size (.dK []):=
 ⟨Hn _,Jr.mpr (Fa (Bs hb)),[],.nil,Heap.DictOf.new h⟩
def NU:TE:=λ_ H Q=>∀ p,H p=none->Q (.ref p) (upd H p (.dK []))
section
variable {X:Cx}{pos:Do}
theorem dR:PE X (.Dict [] [] pos) NU:=λpins s σ H Q I h =>
 wpAny_Dict_empty ⟨.ref s.heap.objs.size,_,I.laid (a:=s.heap.objs.size) (o:=.dK []) (t':=s.toks) (λ_ _ q=>Ak _ q) (Aq _) (ZW s.heap I.big),rfl,h _ (I.hok.fresh (Aq _))⟩
end
section
variable {X:Cx}{pins:Aa (Ad × Bq)}{σ : St}{H:Hp}{s:Ag}{a:Ad}{y d:V}{u r:Ac}{o:Al V}{A:Bh}{E:Ac->Ag->Prop}
theorem B3 {Q:Ac->Ag->Prop}(hu:A.units+1<Hz)(I:Inv X pins σ H s)(g:mG H a y o)(ry:qM y u)(rd:qM d r)(h:∀ w' s',Inv X pins σ H s'->qM (o.getD d) w'->Q w' s') :
  Ar (Au X.prog X.w) A (call (.builtin "dict.get") [.ref a,u,r]) Q E s:=by
 rcases g with⟨kvs,k,e,ey,l⟩|⟨kvs,k,b,e,ey,eb,l⟩
 .subst ey
  obtain⟨z,hd,vs,rel,dd⟩:=YL I.hok e;refine Tw IV dd.typeIs Pr (OU _ _ _) (meets_dict_get_default (zJ X.prog X.w) a (fO ry) hd r) ⟨_,dd.mapOf,h _ _ (I.tok _) ?_⟩;rw[l];exact(rel.val k).getD rd
 .subst ey
  cases (show u=Bn b from ry)
  obtain⟨z,hd,xs,rel,dd⟩:=YM I.hok e;refine Tw IV dd.typeIs Pr (OU _ _ _) (meetsH_dict_get_default (Op (zJ X.prog X.w)) a b hd r) ⟨To hu,k,xs,uL I.hok eb,dd,h _ _ (I.tok _) ?_⟩;rw[l];exact(rel.val k).getD rd
end
end _L
namespace _A
open PySem PySem.W PySem.Calls PyProof.Rows
theorem fK {P:Params}{h:Bc}:∀ (ns:Aa Aj) (vs:Aa Ac),WellAll P h vs (ns.map Zg)->Vi vs ns:=by
 intro ns
 induction ns with
 |nil =>
  intro vs w;rw[Yh] at w;cases w;exact .nil
 |cons n ns ih =>
  intro vs w;rw[Bt] at w;cases w with
  |cons a b =>
   cases a;exact .cons _ _ (ih _ b)
theorem QL {l:OpenLaw}{n:Af}(hn:l.most=Ab n){P:Params}{h:Bc}{args:Aa WData}{vals:Aa Ac}
  (hpre:l.row.toRowW.claim.pre args=true) (hwl:WellAll P h vals args) :
  ∃ a vs ns,vals=[Bn a]/\args=[WData.list (ns.map Zg)]/\h.get? a=Ab { cls:=.type "list",data:=.seq vs.toArray } /\ Vi vs ns/\ns.length<=n:=by
 have hsh:WShape.hasAll [] args [.list .int]=true:=(pre_splitW hpre).1;have hc:l.pre.holds [] { args:=args } = true:=(pre_splitW hpre).2;obtain⟨d,r,rfl,h1,h2⟩:=hasAllW_cons hsh;obtain rfl:=hasAllW_nil h2;obtain⟨xs,rfl,h3⟩:=hasW_list h1;obtain⟨ns,rfl⟩:=items_int h3;have hlen:ns.length<=n:=by
  unfold OpenLaw.pre at hc;have h4:(WTm.not (.lt (.lit (.int (n:Aj))) (.len (.arg 0)))).holds [] { args:=[.list (ns.map .int)] } = true:=by
   have h4:=(holds_andW hc).1;rw[hn] at h4;exact h4
  have h5:=condW_of h4 (w_not (w_lt w_lit (w_len_list (w_arg rfl))));rw[Ba] at h5;refine ON λq=>?_;have q':(n:Aj)<((ns.length:Af):Aj):=by omega
  first
   |(rw[Cu q'] at h5;exact absurd h5 (by decide))
   |(simp at h5;omega)
 cases hwl with
 |cons w1 w2 =>
  cases w2;cases w1 with
  |list ho hall=>exact⟨_,_,ns,rfl,rfl,ho,fK ns _ hall,hlen⟩
theorem oM (l:OpenLaw)(args:Aa WData):l.row.toRowW.claim.post args (.bool true) args=true:=
 postW_of (r:=l.row.toRowW) (X:=(true == true))
  (show Zc [] (.bool true) .bool=true by first|rfl|decide|simp[Zc,WShape.arms,WShape.armsAll])
  (show (WTm.eq .res (.lit (.bool true))).value [] { args:=args,res:=Ab (.bool true),after:=args } = Ab (.bool (true == true)) from w_eq_bool (w_res rfl) w_lit) rfl
theorem attach_call {l:OpenLaw}{n:Af}{q:AV}{loose:Aa An}{XP:(An->Al Ac)->Bc->Prop}{YP:Bk->Bc->Prop}{d:DefRec}
  (hn:l.most=Ab n) (hdf:d.params.defaults=[])
  (call:∀ (w:Bk) (s₀ s₁:Ag) (mg mb:An->Al Ac) (fa:Ad) (o:Bq) (pm cd doc:Ac) (a:Ad) (vs:Aa Ac) (ns:Aa Aj),
   Ground q loose [] XP w s₀ mg mb s₁.heap->YP w s₁.heap ->
   s₁.heap.get? fa=Ab o->o.data=.func (docDef d.name d.params d.body d.scope pm cd doc)->s₁.heap.CodeRec cd d.name->mg d.name=Ab (.ref fa) ->
   s₁.heap.get? a=Ab { cls:=.type "list",data:=.seq vs.toArray } -> Vi vs ns->ns.length<=n->s₁.gens=#[] ->
   Hi (Au l.prog w) Ox (.call (.ref fa) ⟨[.ref a],[]⟩) (λr s'=>r=.ok (.ret (.bool true))/\OldK s₁.heap s'.heap/\s'.os=s₁.os/\Lo s'.gens) s₁) :
  WalkO q loose XP YP l.row.toRowW d [] (λf vs=>Wx f vs):=by
 intro w s₀ s₁ mg mb G Y fa o pm cd doc dV kV ho hd hcd hD hmg hg args vals as hpre hlay hrd hwl hlo;obtain rfl:dV=.none:=Dflts.none hD hdf;obtain rfl:kV=.none:=Dflts.noKw hD;obtain⟨a,vs,ns,rfl,rfl,hobj,hints,hlen⟩:=QL hn hpre hwl;refine enter_call (OV (call w s₀ s₁ mg mb fa o pm cd doc a vs ns G Y ho (fd_plain hd) hcd hmg hobj hints hlen hg) λr s' hq=>?_);obtain⟨rfl,h2,h3,h4⟩:=hq;exact⟨.inl ⟨.bool true,.bool true,[],rfl,λ_=>rfl,.bool true,oM l _,λ_=>⟨Oy,λ_ hm=>(nomatch hm)⟩⟩,h2,h3,h4⟩
end _A
namespace _L
open PySem PySem.Spec PyProof.Rows
theorem QV {vs:Aa Ac}{ns:Aa Aj}(h:Vi vs ns):qN (ns.map V.int) vs:=by
 induction h with
 |nil=>exact .nil
 |cons n t h ih=>exact .cons ⟨t,rfl⟩ ih
def SqX (K:Ah)(H:Hp)(a:Ad)(xs:Aa V):Prop:=
 Rd H a (.lst xs)\/∃ (its:Aa Ac) (n:Af),K.lookup a=Ab { cls:=.type "list",data:=.seq its.toArray n } /\ xs.length<=sizeLine/\qN xs its
theorem SqX.l {K:Ah}{H:Hp}{a:Ad}{xs:Aa V}(h:SqX K H a xs):SqL K H a xs:=by
 rcases h with h|⟨its,n,e,l,v⟩
 .exact .inl h
 .exact .inr ⟨_,its.toArray,n,e,rfl,rfl,rfl,by rw[Bf,<- v.length];exact l,by simpa using v⟩
end _L
namespace _L
open PySem PySem.Spec PyProof.Rows
variable {ps:Aa An}{f:Ad}{x qual:An}{H:Hp}
noncomputable def wQ (s:Ds):Mw:=match s with
 |.FunctionDef _ a _ _ _ _ _ _ _ _=>a
 |_=>{ posonlyargs:=[],args:=[],vararg:=none,kwonlyargs:=[],kw_defaults:=[],kwarg:=none,defaults:=[] }
noncomputable def zI (s:Ds):Aa Ds:=match s with
 |.FunctionDef _ _ b _ _ _ _ _ _ _=>b
 |_=>[]
noncomputable def qG (s:Ds):Di:=match s with
 |.FunctionDef _ _ _ _ _ _ sc _ _ _=>sc
 |_=>{ kind:=.function,names:=[],isGenerator:=false,isCoroutine:=false }
abbrev CX0:CXT:=λ_ _ _ _ _ _=>Eh
structure Fun (K:Ah)(x qual:An)(st:Ds)(f:Ad)(fd:Ej):Prop where
 ex:∃ (oc:Ac) (od:Al Ad) (kV doc pm:Ac) (an:Al Ad) (cdv ct:Ac) (osl:AZ (Al Ac)),
  fd=Fd x qual (wQ st) (zI st) (qG st) .none kV doc pm an cdv ct/\K.lookup f=Ab ⟨oc,od,.func fd,osl⟩/\Jf K cdv qual=true
 kp:Dz K (.ref f)=true
section
variable {P:AV}{w:Bk}{K:Ah}{mg:An->Al Ac}{base:Bc}
theorem Fun.ok {st:Ds}{fd:Ej}{N:Aa An}{k:Af}{sp:Sp}(F:Fun K x qual st f fd)(S:FnScope N ps (qG st))(len:∀ vs H Q E,sp vs H Q E->vs.length=ps.length)
  (hbody:∀ (cdv:Ac) (A:Bh) (outer:Aa Gv) (s:Ag) (H:Hp) (vs:Aa V) (Q:VK) (E:XK),Room k (A.deeper (EQ qual (qG st) s.heap.objs.size f cdv))->sp vs H Q E ->
   ∃ t,PSs (mM CX0 P w K mg base N qual (qG st) f cdv A outer s H E).nox (zI st) t/\t { nx:=λ_ H'=>Q .non H',rt:=Q } (xM N vs) H):FnOk P w K mg base CX0 (k+1) f fd ps sp:=by
 obtain⟨oc,od,kV,doc,pm,an,cdv,ct,osl,rfl,lk,hcd⟩:=F.ex;refine DP lk hcd S len λA outer s H vs Q E hr hsp=>?_;obtain⟨t,h,q⟩:=hbody cdv A outer s H vs Q E hr hsp;exact⟨t,h.nox,q⟩
theorem Fun.binds {st:Ds}{fd:Ej}(F:Fun K x qual st f fd)
  (h:∀ (kV doc pm:Ac) (an:Al Ad) (cdv ct:Ac) (us:Aa Ac),us.length=ps.length->Po (Fd x qual (wQ st) (zI st) (qG st) .none kV doc pm an cdv ct) ⟨us,[]⟩=pure (ps.zip us)):vI K fd ps []:=by
 obtain⟨oc,od,kV,doc,pm,an,cdv,ct,osl,rfl,lk,hcd⟩:=F.ex;exact .all (h kV doc pm an cdv ct)
theorem FD {st:Ds}{oc:Ac}{od an:Al Ad}{osl:AZ (Al Ac)}{kV doc pm cdv ct:Ac}(l:K.lookup f=Ab ⟨oc,od,.func (Fd x qual (wQ st) (zI st) (qG st) .none kV doc pm an cdv ct),osl⟩)
  (c:Jf K cdv qual=true) (k:Dz K (.ref f)=true):Fun K x qual st f (Fd x qual (wQ st) (zI st) (qG st) .none kV doc pm an cdv ct):=⟨⟨oc,od,kV,doc,pm,an,cdv,ct,osl,rfl,l,c⟩,k⟩
end
def qF (H H':Hp):Prop:=∀ b o,H b=Ab o->H' b=Ab o
theorem qF.refl (H:Hp):qF H H:=λ_ _ h=>h
theorem qF.trans {H1 H2:Hp}(a:qF H H1)(b:qF H1 H2):qF H H2:=λc o h=>b c o (a c o h)
theorem qF.free {H':Hp}(e:qF H H'){l:Ad}(h:H' l=Yv):H l=Yv:=by
 cases q:H l with
 |none=>rfl
 |some o =>
  rw[e l o q] at h;cases h
theorem qF.seq {K:Ah}{H':Hp}{a:Ad}{xs:Aa V}(e:qF H H')(h:SqL K H a xs):SqL K H' a xs:=by
 rcases h with (h|⟨o,h⟩)|h
 .exact .inl (.inl (e _ _ h))
 .exact .inl (.inr ⟨o,e _ _ h⟩)
 .exact .inr h
end _L
end
section
namespace _D
open PySem PySem.Spec PyProof.Rows _L
inductive D where
 |non|bl (b:Ao)|int (i:Aj)|str (x:An)|ty (n:Cs)|obj (a:Ad)|tup (xs:Aa D)|lst (xs:Aa D)|dct0|loc (i:Af)|exn (c:Ac)|fd (ks:Aa Key) (ds:Aa D)|clo (a:Ad) (vs:Aa V) (ds:Aa D)
noncomputable def lQ (a:Ad)(c:Ac):HO:=.ext λh=>∃ ob,h.get? a=Ab ob/\ob.cls=c
inductive MO where
 |dead|lst (xs:Aa D)|dct (kvs:Aa (Key × D))|dcT (kvs:Aa (Aa Aj × D))|ins (C:Ad) (fs:Aa (An × D))
abbrev Sto:=Aa MO
inductive Res (β : Type) where
 |ok (d:β) (S:Sto)|ex (c:Ac) (x:D) (S:Sto)|bad
@[inline] def Res.bind {β γ:Type}(r:Res β)(f:β->Sto->Res γ) : Res γ:=
 match r with
 |.ok d S=>f d S
 |.ex c x S=>.ex c x S
 |.bad=>.bad
theorem Res.bind_ok {β γ:Type}(d:β)(S:Sto)(f:β->Sto->Res γ) : (Res.ok d S).bind f=f d S:=rfl
section
variable (K:Ah)(P:Hp)(α : Aa Ad)
mutual
def Rep:D->V->Prop
 |.non,v=>v=.non
 |.bl b,v=>v=.bl b
 |.int i,v=>v=.int i
 |.str x,v=>v=.str x
 |.ty n,v=>v=.ty n
 |.obj a,v=>v=.ref a/\Dz K (.ref a)=true
 |.tup ds,v=>∃ a vs,v=.ref a/\SqT K P a vs/\qE ds vs
 |.lst ds,v=>∃ a vs,v=.ref a/\SqX K P a vs/\qE ds vs
 |.dct0,v=>∃ a,v=.ref a/\P a=Ab (.dK [])
 |.loc i,v=>∃ a,v=.ref a/\α[i]? = Ab a
 |.exn c,v=>∃ a,v=.ref a/\P a=Ab (lQ a c)
 |.fd ks ds,v=>∃ a o vs,v=.ref a/\P a=Ab (.frz o (.dK (ks.zip vs)))/\ks.length=vs.length/\qE ds vs
 |.clo a vs ds,v=>v=.ref a/\qE ds vs
def qE:Aa D->Aa V->Prop
 |[],vs=>vs=[]
 |d::ds,vs=>∃ w ws,vs=w::ws/\Rep d w/\qE ds ws
end
end
section
variable {K:Ah}{P P':Hp}{α α':Aa Ad}
theorem yC (e:qF P P'){a:Ad}{xs:Aa V}(h:SqT K P a xs):SqT K P' a xs:=by
 rcases h with (h|⟨o,h⟩)|h
 .exact .inl (.inl (e _ _ h))
 .exact .inl (.inr ⟨o,e _ _ h⟩)
 .exact .inr h
theorem eW (e:qF P P'){a:Ad}{u:HO}(h:Rd P a u):Rd P' a u:=by
 rcases h with h|⟨o,h⟩
 .exact .inl (e _ _ h)
 .exact .inr ⟨o,e _ _ h⟩
theorem xF (e:qF P P'){a:Ad}{xs:Aa V}(h:SqX K P a xs):SqX K P' a xs:=by
 rcases h with h|h
 .exact .inl (eW e h)
 .exact .inr h
theorem pV {i:Af}{a:Ad}(h:α<+:α')(e:α[i]? = Ab a):α'[i]? = Ab a:=by
 obtain⟨r,rfl⟩:=h;rw[Bz (Bl.mp e).1];exact e
mutual
theorem Rep.mono (e:qF P P')(h:α<+:α'):∀ (d:D) (v:V),Rep K P α d v->Rep K P' α' d v
 |.non,_,r=>by simpa only [Rep] using r
 |.bl _,_,r=>by simpa only [Rep] using r
 |.int _,_,r=>by simpa only [Rep] using r
 |.str _,_,r=>by simpa only [Rep] using r
 |.ty _,_,r=>by simpa only [Rep] using r
 |.obj _,_,r=>by simpa only [Rep] using r
 |.tup ds,v,r=>by
  simp only[Rep] at r ⊢;obtain⟨a,vs,rfl,q,t⟩:=r;exact⟨a,vs,rfl,yC e q,qE.mono e h ds vs t⟩
 |.lst ds,v,r=>by
  simp only[Rep] at r ⊢;obtain⟨a,vs,rfl,q,t⟩:=r;exact⟨a,vs,rfl,xF e q,qE.mono e h ds vs t⟩
 |.dct0,v,r=>by
  simp only[Rep] at r ⊢;obtain⟨a,rfl,q⟩:=r;exact⟨a,rfl,e _ _ q⟩
 |.loc i,v,r=>by
  simp only[Rep] at r ⊢;obtain⟨a,rfl,q⟩:=r;exact⟨a,rfl,pV h q⟩
 |.exn c,v,r=>by
  simp only[Rep] at r ⊢;obtain⟨a,rfl,q⟩:=r;exact⟨a,rfl,e _ _ q⟩
 |.fd ks ds,v,r=>by
  simp only[Rep] at r ⊢;obtain⟨a,o,vs,rfl,q,hl,t⟩:=r;exact⟨a,o,vs,rfl,e _ _ q,hl,qE.mono e h ds vs t⟩
 |.clo a vs ds,v,r=>by
  simp only[Rep] at r ⊢;exact⟨r.1,qE.mono e h ds vs r.2⟩
theorem qE.mono (e:qF P P')(h:α<+:α'):∀ (ds:Aa D) (vs:Aa V),qE K P α ds vs->qE K P' α' ds vs
 |[],vs,r=>by simpa only [qE] using r
 |d::ds,vs,r=>by
  simp only[qE] at r ⊢;obtain⟨w,ws,rfl,r1,r2⟩:=r;exact⟨w,ws,rfl,Rep.mono e h d w r1,qE.mono e h ds ws r2⟩
end
theorem qE.nil:qE K P α [] []:=by simp only[qE]
theorem qE.cons {d:D}{v:V}{ds:Aa D}{vs:Aa V}(r:Rep K P α d v)(t:qE K P α ds vs):qE K P α (d::ds) (v::vs):=by
 simp only[qE];exact⟨v,vs,rfl,r,t⟩
theorem qE.nil_inv {vs:Aa V}(r:qE K P α [] vs):vs=[]:=by simpa only [qE] using r
theorem qE.cons_inv {d:D}{ds:Aa D}{vs:Aa V}(r:qE K P α (d::ds) vs):∃ w ws,vs=w::ws/\Rep K P α d w/\qE K P α ds ws:=by simpa only [qE] using r
theorem qE.length:∀ {ds:Aa D} {vs:Aa V},qE K P α ds vs->ds.length=vs.length
 |[],vs,r=>by rw[r.nil_inv];rfl
 |d::ds,vs,r=>by
  obtain⟨w,ws,rfl,_,t⟩:=r.cons_inv;rw[Bv,Bv,t.length]
theorem qE.append:∀ {ds es:Aa D} {vs ws:Aa V},qE K P α ds vs->qE K P α es ws->qE K P α (ds++es) (vs++ws)
 |[],es,vs,ws,r,t=>by rw[r.nil_inv];exact t
 |d::ds,es,vs,ws,r,t=>by
  obtain⟨w,us,rfl,r1,r2⟩:=r.cons_inv;exact .cons r1 (r2.append t)
theorem qE.get:∀ {ds:Aa D} {vs:Aa V} {i:Af} {d:D},qE K P α ds vs->ds[i]? = Ab d->∃ v,vs[i]? = Ab v/\Rep K P α d v
 |[],_,_,_,_,e=>by simp at e
 |d::ds,vs,i,d',r,e=>by
  obtain⟨w,ws,rfl,r1,r2⟩:=r.cons_inv;cases i with
  |zero=>simp at e;subst e;exact⟨w,rfl,r1⟩
  |succ i =>
   obtain⟨v,h1,h2⟩:=r2.get (i:=i) (d:=d') (by simpa using e)
   exact⟨v,by simpa using h1,h2⟩
theorem qE.drop:∀ {ds:Aa D} {vs:Aa V} (n:Af),qE K P α ds vs->qE K P α (ds.drop n) (vs.drop n)
 |ds,vs,0,r=>by simpa using r
 |[],vs,n+1,r=>by rw[r.nil_inv];exact .nil
 |d::ds,vs,n+1,r=>by
  obtain⟨w,ws,rfl,_,r2⟩:=r.cons_inv;simpa using r2.drop n
theorem qE.take:∀ {ds:Aa D} {vs:Aa V} (n:Af),qE K P α ds vs->qE K P α (ds.take n) (vs.take n)
 |ds,vs,0,r=>by simpa using qE.nil
 |[],vs,n+1,r=>by rw[r.nil_inv];exact .nil
 |d::ds,vs,n+1,r=>by
  obtain⟨w,ws,rfl,r1,r2⟩:=r.cons_inv;simpa using qE.cons r1 (r2.take n)
theorem qE.set {d:D}{v:V}(q:Rep K P α d v):∀ {ds:Aa D} {vs:Aa V} (n:Af),qE K P α ds vs->qE K P α (ds.set n d) (vs.set n v)
 |[],vs,n,r=>by rw[r.nil_inv];exact .nil
 |e::ds,vs,0,r=>by
  obtain⟨w,ws,rfl,r1,r2⟩:=r.cons_inv;exact .cons q r2
 |e::ds,vs,n+1,r=>by
  obtain⟨w,ws,rfl,r1,r2⟩:=r.cons_inv;exact .cons r1 (r2.set q n)
end
abbrev qD:=Aa (Al D)
def qZ (K:Ah)(P:Hp)(α : Aa Ad)(σ : _L.St)(env:qD):Prop:=env.length=σ.length/\∀ (i:Af) (d:D),env[i]? = Ab (Ab d)->∃ v,σ[i]? = Ab (Ab v)/\Rep K P α d v
def KVs (K:Ah)(P:Hp)(α : Aa Ad){κ : Type}:Aa (κ × D)->Aa (κ × V)->Prop:=Paired λ(p:κ × D) (q:κ × V)=>p.1=q.1/\Rep K P α p.2 q.2
noncomputable def DU (ns:Aa Aj):Aj:=reduceHash (Xq (ns.map hashInt))
def E4 (a:Ad)(xs:Aa (Aa Aj × Ad × V))(h:Bc):Prop:=∃ us:Aa (Aa Aj × Ad × Ac),Paired (λ(p:Aa Aj × Ad × V) (q:Aa Aj × Ad × Ac)=>p.1=q.1/\p.2.1=q.2.1/\qM p.2.2 q.2.2) xs us /\
 ∃ o es ep,h.get? a=Ab o/\o.ExactDict/\o.data=.dict es ep/\es.toList=us.map λx=>⟨DU x.1,.ref x.2.1,x.2.2⟩
noncomputable abbrev dtO (a:Ad)(xs:Aa (Aa Aj × Ad × V)):HO:=.ext (E4 a xs)
def DTs (K:Ah)(P:Hp)(α : Aa Ad):Aa (Aa Aj × D)->Aa (Aa Aj × Ad × V)->Prop:=Paired λ(p:Aa Aj × D) (q:Aa Aj × Ad × V)=>p.1=q.1/\SqT K P q.2.1 (q.1.map V.int)/\Rep K P α p.2 q.2.2
def MOk (K:Ah)(H P:Hp)(α : Aa Ad)(a:Ad):MO->Prop
 |.dead=>Mm
 |.lst ds=>∃ vs,H a=Ab (.lst vs)/\qE K P α ds vs
 |.dct kvs=>∃ vs,H a=Ab (.dK vs)/\KVs K P α kvs vs
 |.dcT kvs=>∃ xs,H a=Ab (dtO a xs)/\(a == Gi)=false/\xs.length<=sizeLine/\(xs.map (·.1)).Nodup/\DTs K P α kvs xs
 |.ins C fs=>∃ dx vs,H a=Ab (.ins C dx vs)/\KVs K P α fs vs
inductive TbAt (x:An)(H P:Hp)(α : Aa Ad)(T:Ad):Prop
 |mk (ps:AZ Ac) (e:H T=Ab (.tbl ps)) (pn:P T=none) (an:T ∉ α) (ok:Ju ps.toList) (cd:∀ pos cv,Mx pos ps.toList=Ab cv->∃ c oc vs t,cv=.ref c/\H c=Ab (.frz oc (.frz oc (.own 0)))/\oc.data=.fields vs/\vs[1]? = Ab (.str (x ++ ".<locals>." ++ "<lambda>") t)):TbAt x H P α T
def cJ (K:Ah)(H P:Hp)(α : Aa Ad):Prop:=∀ x∈xX,∀ c T,Co K x=Ab (c,T)->TbAt x H P α T
def FK (u:HO):Prop:=(∃ ps,u=.tbl ps)\/∃ o,u=.frz o (.frz o (.own 0))
theorem cJ.keep {K:Ah}{H H' P P':Hp}{α α':Aa Ad}(r:cJ K H P α)(e:∀ b u,H b=Ab u->FK u->H' b=Ab u)(hp:∀ b u,H b=Ab u->FK u->P b=none->b ∉ α->P' b=none/\b ∉ α'):cJ K H' P' α':=λx hx c T h =>
 let ⟨ps,e1,pn,an,ok,cd⟩:=r x hx c T h
 let z:=hp _ _ e1 (.inl ⟨_,rfl⟩) pn an
 ⟨ps,e _ _ e1 (.inl ⟨_,rfl⟩),z.1,z.2,ok,λpos cv q=>let ⟨c,oc,vs,t,a,b,d⟩:=cd pos cv q;⟨c,oc,vs,t,a,e _ _ b (.inr ⟨_,rfl⟩),d⟩⟩
structure Rel (K:Ah)(H P:Hp)(α : Aa Ad)(S:Sto):Prop where
 tb:cJ K H P α
 sub:qF P H
 len:α.length=S.length
 nd:α.Nodup
 sep:∀ (i:Af) (a:Ad) (o:MO),α[i]? = Ab a->S[i]? = Ab o->o≠.dead->P a=none
 at':∀ (i:Af) (a:Ad) (o:MO),α[i]? = Ab a->S[i]? = Ab o->MOk K H P α a o
 own:∀ (i:Af) (a:Ad),α[i]? = Ab a->H a≠none
section
variable {K:Ah}{H P P':Hp}{α α':Aa Ad}{S:Sto}
theorem qZ.mono {σ : _L.St}{env:qD}(e:qF P P')(h:α<+:α')(r:qZ K P α σ env):qZ K P' α' σ env:=
 ⟨r.1,λi d q=>let ⟨v,h1,h2⟩:=r.2 i d q;⟨v,h1,Rep.mono e h d v h2⟩⟩
theorem KVs.mono {κ : Type}(e:qF P P')(h:α<+:α'){kvs:Aa (κ × D)}{vs:Aa (κ × V)}(r:KVs K P α kvs vs):KVs K P' α' kvs vs:=by
 refine Paired.mapP r λp q z=>⟨z.1,Rep.mono e h _ _ z.2⟩
theorem DTs.mono (e:qF P P')(h:α<+:α'){kvs:Aa (Aa Aj × D)}{xs:Aa (Aa Aj × Ad × V)}(r:DTs K P α kvs xs):DTs K P' α' kvs xs:=
 Paired.mapP r λp q z=>⟨z.1,yC e z.2.1,Rep.mono e h _ _ z.2.2⟩
theorem MOk.mono {a:Ad}(e:qF P P')(h:α<+:α'):∀ {o:MO},MOk K H P α a o->MOk K H P' α' a o
 |.dead,_=>trivial
 |.lst _,⟨vs,q,r⟩=>⟨vs,q,qE.mono e h _ _ r⟩
 |.dct _,⟨vs,q,r⟩=>⟨vs,q,r.mono e h⟩
 |.dcT _,⟨vs,q,d,l,n,r⟩=>⟨vs,q,d,l,n,r.mono e h⟩
 |.ins _ _,⟨dx,vs,q,r⟩=>⟨dx,vs,q,r.mono e h⟩
theorem Rel.grow {H':Hp}(r:Rel K H P α S)(e:qF H H'):Rel K H' P α S where
 tb:=r.tb.keep (λb u q _=>e _ _ q) λ_ _ _ _ p n=>⟨p,n⟩
 sub:=r.sub.trans e
 len:=r.len
 nd:=r.nd
 sep:=r.sep
 at':=λi a o q1 q2=>by
  have m:=r.at' i a o q1 q2;cases o with
  |dead=>trivial
  |lst ds=>obtain⟨vs,q,t⟩:=m;exact⟨vs,e _ _ q,t⟩
  |dct kvs=>obtain⟨vs,q,t⟩:=m;exact⟨vs,e _ _ q,t⟩
  |dcT kvs=>obtain⟨vs,q,t⟩:=m;exact⟨vs,e _ _ q,t⟩
  |ins C fs=>obtain⟨dx,vs,q,t⟩:=m;exact⟨dx,vs,e _ _ q,t⟩
 own:=λi a q=>by
  have m:=r.own i a q;cases z:H a with
  |none=>exact absurd z m
  |some o=>rw[e _ _ z];intro w;cases w
theorem bT {H:Hp}{a:Ad}{o:HO}(h:H a=none):qF H (upd H a o):=λb u e=>by rw[qH (qS e h)];exact e
theorem Rel.pure {a:Ad}{o:HO}(r:Rel K H P α S)(h:H a=none):Rel K (upd H a o) (upd P a o) α S/\qF P (upd P a o):=by
 have hP:P a=none:=by
  cases z:P a with
  |none=>rfl
  |some u=>rw[r.sub _ _ z] at h;cases h
 have sP:qF P (upd P a o):=bT hP;have r1:=r.grow (bT (o:=o) h);refine⟨⟨r.tb.keep (λb u q _=>(qH (qS q h)).trans q) λb u q _ p n=>⟨(qH (qS q h)).trans p,n⟩,λb u e=>?_,r.len,r.nd,λi b u q1 q2 q3=>?_,λi b u q1 q2=>(r1.at' i b u q1 q2).mono sP (AU _),r1.own⟩,sP⟩
 .by_cases hb:b=a
  .subst hb;rw[qX] at e ⊢;exact e
  .rw[qH hb] at e ⊢;exact r.sub _ _ e
 .have hb:b≠a:=by rintro rfl;exact r.own i b q1 h
  rw[qH hb];exact r.sep i b u q1 q2 q3
theorem Rel.new {a:Ad}{o:HO}{m:MO}(r:Rel K H P α S)(h:H a=none)(hm:MOk K (upd H a o) P (α ++ [a]) a m):Rel K (upd H a o) P (α ++ [a]) (S++[m]):=by
 have hP:P a=none:=by
  cases z:P a with
  |none=>rfl
  |some u=>rw[r.sub _ _ z] at h;cases h
 have r1:=r.grow (bT (o:=o) h);have hp:α<+:α++[a]:=Fi _ _;have split:∀ (i:Af) (b:Ad),(α++[a])[i]? = Ab b->(i<α.length/\α[i]? = Ab b)\/(i=α.length/\b=a):=λi b q=>by
  by_cases hi:i<α.length
  .rw[Bz hi] at q;exact .inl ⟨hi,q⟩
  .rw[Ct om] at q
   cases hk:i-α.length with
   |zero=>rw[hk] at q;simp at q;exact .inr ⟨by omega,q.symm⟩
   |succ k=>rw[hk] at q;simp at q
 refine⟨r.tb.keep (λb u q _=>(qH (qS q h)).trans q) λb u q _ p n=>⟨p,λz=>(Bo.mp z).elim n λw=>qS q h (by simpa using w)⟩,r1.sub,by simp[r.len],?_,λi b u q1 q2 q3=>?_,λi b u q1 q2=>?_,λi b q=>?_⟩
 .rw[Ia]
  refine⟨r.nd,by simp,λb hb c hc e=>?_⟩
  simp at hc;subst hc;subst e;obtain⟨i,hi,e⟩:=Fm.mp hb;exact r.own i b (by rw[AW hi,e]) h
 .rcases split i b q1 with⟨hi,z⟩|⟨hi,rfl⟩
  .rw[Bz (by rw[<- r.len];exact hi)] at q2
   exact r.sep i b u z q2 q3
  .exact hP
 .rcases split i b q1 with⟨hi,z⟩|⟨hi,rfl⟩
  .rw[Bz (by rw[<- r.len];exact hi)] at q2
   exact(r1.at' i b u z q2).mono (qF.refl _) hp
  .rw[hi,r.len,Ct (Aq _)] at q2
   simp at q2;subst q2;exact hm
 .rcases split i b q with⟨_,z⟩|⟨_,rfl⟩
  .exact r1.own i b z
  .rw[qX];intro z;cases z
theorem oB {N:Aa Ad}(hN:N.Nodup){i j:Af}{x:Ad}(a:N[i]? = Ab x)(b:N[j]? = Ab x):i=j:=by
 obtain⟨h1,e1⟩:=Bl.mp a;obtain⟨h2,e2⟩:=Bl.mp b;exact(OJ hN).mp (e1.trans e2.symm)
theorem Rel.put {a:Ad}{i:Af}{o:HO}{m m':MO}(r:Rel K H P α S)(ha:α[i]? = Ab a)(hs:S[i]? = Ab m)(hd:m≠.dead)(hm:MOk K (upd H a o) P α a m'):Rel K (upd H a o) P α (S.set i m'):=by
 have hP:=r.sep i a m ha hs hd;have hi:i<S.length:=(Bl.mp hs).1;refine⟨r.tb.keep (λb u q hu=>?_) λ_ _ _ _ p n=>⟨p,n⟩,λb u e=>?_,by simp[r.len],r.nd,λj b u q1 q2 q3=>?_,λj b u q1 q2=>?_,λj b q=>?_⟩
 .refine(qH ?_).trans q
  rintro rfl;have z:=r.at' i _ m ha hs;cases m with
  |dead=>exact hd rfl
  |lst ds=>obtain⟨vs,z,_⟩:=z;rw[q] at z;rcases hu with⟨_,rfl⟩|⟨_,rfl⟩ <;> cases z
  |dct kvs=>obtain⟨vs,z,_⟩:=z;rw[q] at z;rcases hu with⟨_,rfl⟩|⟨_,rfl⟩ <;> cases z
  |dcT kvs=>obtain⟨vs,z,_⟩:=z;rw[q] at z;rcases hu with⟨_,rfl⟩|⟨_,rfl⟩ <;> cases z
  |ins C fs=>obtain⟨dx,vs,z,_⟩:=z;rw[q] at z;rcases hu with⟨_,rfl⟩|⟨_,rfl⟩ <;> cases z
 .have hb:b≠a:=by rintro rfl;rw[hP] at e;cases e
  rw[qH hb];exact r.sub _ _ e
 .by_cases hj:j=i
  .subst hj;rw[ha] at q1;cases q1;exact hP
  .rw[Dk (Fa hj)] at q2;exact r.sep j b u q1 q2 q3
 .by_cases hj:j=i
  .subst hj;rw[ha] at q1;cases q1
   rw[Ez hi] at q2;cases q2;exact hm
  .rw[Dk (Fa hj)] at q2
   have hb:b≠a:=by rintro rfl;exact hj (oB r.nd q1 ha)
   have z:=r.at' j b u q1 q2;cases u with
   |dead=>trivial
   |lst ds=>obtain⟨vs,q,t⟩:=z;exact⟨vs,by rw[qH hb];exact q,t⟩
   |dct kvs=>obtain⟨vs,q,t⟩:=z;exact⟨vs,by rw[qH hb];exact q,t⟩
   |dcT kvs=>obtain⟨vs,q,t⟩:=z;exact⟨vs,by rw[qH hb];exact q,t⟩
   |ins C fs=>obtain⟨dx,vs,q,t⟩:=z;exact⟨dx,vs,by rw[qH hb];exact q,t⟩
 .by_cases hb:b=a
  .subst hb;rw[qX];intro z;cases z
  .rw[qH hb];exact r.own j b q
end
theorem nn {β : Type}{a:β}{p:Prop}(h:(none:Al β) = Ab a):p:=by cases h
theorem g6 {β : Type}{c:Prop}[Iu c]{a b:β}(h:(if c then Ab a else none)=Ab b):c/\a=b:=by
 by_cases z:c
 .rw[AS z] at h;exact⟨z,Bx h⟩
 .rw[AX z] at h;exact nn h
end _D
end
namespace _D
open PySem PySem.Spec PyProof.Rows _L
variable {sl:AZ (Al Ac)}{more:Aa (Ad × Bq)}{us args cs:Aa Ac}{body:Aa Ds}{vs:Aa V}{u vv:Ac}{p C:Ad}{od:Al Ad}{np:Do}{R:It->Hp->Prop}{M:Jl}{sp:Sp}{S S1:Sto}{Q:VK}
abbrev DE:=qD->Sto->Res D
abbrev DT:=qD->Sto->Res Ao
abbrev DA:=qD->Sto->Res (Aa D)
inductive Out where
 |nx (env:qD) (S:Sto)|rt (d:D) (S:Sto)|bk (env:qD) (S:Sto)|ct (env:qD) (S:Sto)|ex (c:Ac) (x:D) (env:qD) (S:Sto)|bad
abbrev DS:=qD->Sto->Out
def Old (X:Cx)(pins:Aa (Ad × Bq))(H:Hp)(b:Ad):Prop:=
 (∃ o,X.s₀.heap.get? b=Ab o)\/H b≠none\/(∃ p∈X.pn++pins,p.1=b)\/∃ x,X.env.cells.lookup x=Ab b
def Cv (X:Cx)(pins:Aa (Ad × Bq))(H:Hp)(B h:Bc):Prop:=∀ b o,h.get? b=Ab o->Old X pins H b->b ∉ frs X.stack->B.get? b=Ab o
inductive FlyX (X:Cx)(pins:Aa (Ad × Bq))(H:Hp)(c:Ac)(e:Ad)(h:Bc):Prop where
 |new (g:Bc) (args:Aa Ac):Rf g h e c args->g.FunFrames X.base X.stack->(∀ b o,h.get? b=Ab o->Old X pins H b->g.get? b=Ab o)->FlyX X pins H c e h
 |fly (B:Bc) (a0:Ac):Nd B X.stack e c a0 h->Cv X pins H B h->FlyX X pins H c e h
inductive XOk (X:Cx)(P:Hp)(α : Aa Ad)(c:Ac)(x:D)(S:Sto)(u:Ac)(s:Ag):Prop
 |mk (e:Ad) (pins:Aa (Ad × Bq)) (σ : _L.St) (H:Hp) (P':Hp) (α' : Aa Ad) (e1:u=.ref e) (I:Inv X pins σ H s) (r:Rel X.K H P' α' S) (q1:qF P P') (q2:α<+:α') (q3:X.ex=[]/\X.stack=X.env::X.outer/\X.env.frame=Ab X.env.locals) (q4:FlyX X pins H c e s.heap):XOk X P α c x S u s
theorem XOk.base {X:Cx}{P P1:Hp}{α α1:Aa Ad}{c:Ac}{x:D}{s:Ag}(e:qF P P1)(h:α<+:α1)(k:XOk X P1 α1 c x S u s):XOk X P α c x S u s:=by
 obtain⟨a,pins,σ,H,P',α',e1,I,r,q1,q2,q3,q4⟩:=k;exact⟨a,pins,σ,H,P',α',e1,I,r,e.trans q1,h.trans q2,q3,q4⟩
section
variable (X:Cx)
def qJ {β:Type}(P:Hp)(α : Aa Ad)(r:Res β)(Ok:β->Sto->Prop):Prop:=
 match r with
 |.ok d S'=>Ok d S'
 |.ex c x S'=>∀ u s',XOk X P α c x S' u s'->X.xe u s'
 |.bad=>Eh
def OkV (P:Hp)(α : Aa Ad)(Q:VK)(d:D)(S':Sto):Prop:=∀ v H' P' α',Rel X.K H' P' α' S'->qF P P'->α<+:α'->Rep X.K P' α' d v->Q v H'
def OkT (P:Hp)(α : Aa Ad)(Q:Ao->Hp->Prop)(b:Ao)(S':Sto):Prop:=∀ H' P' α',Rel X.K H' P' α' S'->qF P P'->α<+:α'->Q b H'
def OkA (P:Hp)(α : Aa Ad)(Q:Aa V->Hp->Prop)(ds:Aa D)(S':Sto):Prop:=∀ vs H' P' α',Rel X.K H' P' α' S'->qF P P'->α<+:α'->qE X.K P' α' ds vs->Q vs H'
abbrev qU (P:Hp)(α : Aa Ad)(r:Res D)(Q:VK):Prop:=qJ X P α r (OkV X P α Q)
abbrev wD (P:Hp)(α : Aa Ad)(r:Res Ao)(Q:Ao->Hp->Prop):Prop:=qJ X P α r (OkT X P α Q)
abbrev gR (P:Hp)(α : Aa Ad)(r:Res (Aa D))(Q:Aa V->Hp->Prop):Prop:=qJ X P α r (OkA X P α Q)
def z0 (P:Hp)(α : Aa Ad)(r:Out)(D:Ends):Prop:=
 match r with
 |.nx env' S'=>∀ σ' H' P' α',Rel X.K H' P' α' S'->qZ X.K P' α' σ' env'->qF P P'->α<+:α'->D.nx σ' H'
 |.bk env' S'=>∀ σ' H' P' α',Rel X.K H' P' α' S'->qZ X.K P' α' σ' env'->qF P P'->α<+:α'->D.bk σ' H'
 |.ct env' S'=>∀ σ' H' P' α',Rel X.K H' P' α' S'->qZ X.K P' α' σ' env'->qF P P'->α<+:α'->D.ct σ' H'
 |.rt d S'=>∀ v H' P' α',Rel X.K H' P' α' S'->qF P P'->α<+:α'->Rep X.K P' α' d v->D.rt v H'
 |.ex c x _ S'=>∀ u s',XOk X P α c x S' u s'->X.xe u s'
 |.bad=>Eh
inductive tD (f:DE)(σ : _L.St)(H:Hp)(Q:VK):Prop
 |mk (P:Hp) (α : Aa Ad) (env:qD) (S:Sto) (r:Rel X.K H P α S) (re:qZ X.K P α σ env) (af:qU X P α (f env S) Q):tD f σ H Q
inductive tDT (f:DT)(σ : _L.St)(H:Hp)(Q:Ao->Hp->Prop):Prop
 |mk (P:Hp) (α : Aa Ad) (env:qD) (S:Sto) (r:Rel X.K H P α S) (re:qZ X.K P α σ env) (af:wD X P α (f env S) Q):tDT f σ H Q
inductive tDA (f:DA)(σ : _L.St)(H:Hp)(Q:Aa V->Hp->Prop):Prop
 |mk (P:Hp) (α : Aa Ad) (env:qD) (S:Sto) (r:Rel X.K H P α S) (re:qZ X.K P α σ env) (af:gR X P α (f env S) Q):tDA f σ H Q
inductive tDS (f:DS)(D:Ends)(σ : _L.St)(H:Hp):Prop
 |mk (P:Hp) (α : Aa Ad) (env:qD) (S:Sto) (r:Rel X.K H P α S) (re:qZ X.K P α σ env) (af:z0 X P α (f env S) D):tDS f D σ H
end
section
variable {X:Cx}{P P1:Hp}{α α1:Aa Ad}
theorem qU.base {r:Res D}(e:qF P P1)(h:α<+:α1)(k:qU X P α r Q):qU X P1 α1 r Q:=by
 cases r with
 |ok d S=>exact λv H' P' α' r q1 q2 q3=>k v H' P' α' r (e.trans q1) (h.trans q2) q3
 |ex c x S=>exact λu s' q=>k u s' (q.base e h)
 |bad=>exact k
theorem wD.base {r:Res Ao}{Q:Ao->Hp->Prop}(e:qF P P1)(h:α<+:α1)(k:wD X P α r Q):wD X P1 α1 r Q:=by
 cases r with
 |ok d S=>exact λH' P' α' r q1 q2=>k H' P' α' r (e.trans q1) (h.trans q2)
 |ex c x S=>exact λu s' q=>k u s' (q.base e h)
 |bad=>exact k
theorem gR.base {r:Res (Aa D)}{Q:Aa V->Hp->Prop}(e:qF P P1)(h:α<+:α1)(k:gR X P α r Q):gR X P1 α1 r Q:=by
 cases r with
 |ok d S=>exact λv H' P' α' r q1 q2 q3=>k v H' P' α' r (e.trans q1) (h.trans q2) q3
 |ex c x S=>exact λu s' q=>k u s' (q.base e h)
 |bad=>exact k
theorem z0.base {r:Out}{D:Ends}(e:qF P P1)(h:α<+:α1)(k:z0 X P α r D):z0 X P1 α1 r D:=by
 cases r with
 |nx env S=>exact λv H' P' α' r q0 q1 q2=>k v H' P' α' r q0 (e.trans q1) (h.trans q2)
 |bk env S=>exact λv H' P' α' r q0 q1 q2=>k v H' P' α' r q0 (e.trans q1) (h.trans q2)
 |ct env S=>exact λv H' P' α' r q0 q1 q2=>k v H' P' α' r q0 (e.trans q1) (h.trans q2)
 |rt d S=>exact λv H' P' α' r q1 q2 q3=>k v H' P' α' r (e.trans q1) (h.trans q2) q3
 |ex c x env S=>exact λu s' q=>k u s' (q.base e h)
 |bad=>exact k
theorem xr {v:V}{H:Hp}{d:D}(k:OkV X P α Q d S)(r:Rel X.K H P α S)(q:Rep X.K P α d v):Q v H:=k v H P α r (qF.refl _) (AU _) q
end
section
variable {X:Cx}{a b e:Bd}{pos:Do}
theorem peW {t t':TE}(h:PE X e t)(w:∀ σ H Q,t' σ H Q->t σ H Q):PE X e t':=λpins s σ H Q I q=>h pins s σ H Q I (w σ H Q q)
theorem psW {st:Ds}{t t':TS}(h:PS X st t)(w:∀ D σ H,t' D σ H->t D σ H):PS X st t':=λpins s σ H D I q=>h pins s σ H D I (w D σ H q)
theorem TX {st:Aa Ds}{t t':TS}(h:PSs X st t)(w:∀ D σ H,t' D σ H->t D σ H):PSs X st t':=λpins s σ H D I q=>h pins s σ H D I (w D σ H q)
theorem paW {es:Aa Bd}{t t':TA}(h:PA X es t)(w:∀ σ H Q,t' σ H Q->t σ H Q):PA X es t':=λpos pins s σ H Q I q=>h pos pins s σ H Q I (w σ H Q q)
structure Got (X:Cx)(pins:Aa (Ad × Bq))(σ : _L.St)(env:qD)(P:Hp)(α : Aa Ad)(u:Ac)(s1:Ag)(v:V)(H1 P1:Hp)(α1:Aa Ad)(d:D)(S1:Sto):Prop where
 inv:Inv X pins σ H1 s1
 val:qM v u
 rel:Rel X.K H1 P1 α1 S1
 env:qZ X.K P1 α1 σ env
 rep:Rep X.K P1 α1 d v
 same:qF P P1
 pre:α<+:α1
inductive GotG (X:Cx)(pins:Aa (Ad × Bq))(σ : _L.St)(env:qD)(P:Hp)(α : Aa Ad)(u:Ac)(s1:Ag){γ : Type}(g:D->Sto->Res γ)(Ok:γ->Sto->Prop):Prop
 |mk (v:V) (H1 P1:Hp) (α1:Aa Ad) (d:D) (S1:Sto) (G:Got X pins σ env P α u s1 v H1 P1 α1 d S1) (q:qJ X P α (g d S1) Ok):GotG X pins σ env P α u s1 g Ok
inductive GotAG (X:Cx)(pins:Aa (Ad × Bq))(σ : _L.St)(env:qD)(P:Hp)(α : Aa Ad)(us:Aa Ac)(s1:Ag){γ : Type}(g:Aa D->Sto->Res γ)(Ok:γ->Sto->Prop):Prop
 |mk (vs:Aa V) (H1 P1:Hp) (α1:Aa Ad) (ds:Aa D) (S1:Sto) (I:Inv X pins σ H1 s1) (rv:qN vs us) (r:Rel X.K H1 P1 α1 S1) (re:qZ X.K P1 α1 σ env) (rp:qE X.K P1 α1 ds vs) (e1:qF P P1) (e2:α<+:α1) (q:qJ X P α (g ds S1) Ok):GotAG X pins σ env P α us s1 g Ok
inductive GotT (X:Cx)(pins:Aa (Ad × Bq))(σ : _L.St)(env:qD)(P:Hp)(α : Aa Ad)(b:Ao)(s1:Ag){γ : Type}(g:Ao->Sto->Res γ)(Ok:γ->Sto->Prop):Prop
 |mk (H1 P1:Hp) (α1:Aa Ad) (S1:Sto) (I:Inv X pins σ H1 s1) (r:Rel X.K H1 P1 α1 S1) (re:qZ X.K P1 α1 σ env) (e1:qF P P1) (e2:α<+:α1) (q:qJ X P α (g b S1) Ok):GotT X pins σ env P α b s1 g Ok
theorem zM {γ:Type}{f:DE}{g:D->Sto->Res γ}{Ok:γ->Sto->Prop}{pins:Aa (Ad × Bq)}{s:Ag}{σ:_L.St}{H P:Hp}{α:Aa Ad}{env:qD}(he:PE X e (tD X f))(I:Inv X pins σ H s)(r:Rel X.K H P α S)
  (re:qZ X.K P α σ env) (af:qJ X P α ((f env S).bind g) Ok) :
  Ar (Au X.prog X.w) X.A (eval e X.env) (λu s1=>GotG X pins σ env P α u s1 g Ok) X.xe s:=by
 refine thn (he pins s σ H (λv H1=>∃ P1 α1 d S1,Rel X.K H1 P1 α1 S1/\qZ X.K P1 α1 σ env/\Rep X.K P1 α1 d v/\qF P P1/\α<+:α1/\qJ X P α (g d S1) Ok) I ⟨P,α,env,S,r,re,?_⟩) λu s1 ⟨v,H1,I1,rv,P1,α1,d,S1,q1,q2,q3,q4,q5,q6⟩=>⟨v,H1,P1,α1,d,S1,⟨I1,rv,q1,q2,q3,q4,q5⟩,q6⟩;cases q:f env S with
 |bad=>rw[q] at af;exact af
 |ex c x S'=>rw[q] at af;exact af
 |ok d S' =>
  rw[q] at af;exact λv H' P' α' r' e1 e2 rp=>⟨P',α',d,S',r',re.mono e1 e2,rp,e1,e2,af⟩
theorem w5 {γ:Type}{es:Aa Bd}{f:DA}{g:Aa D->Sto->Res γ}{Ok:γ->Sto->Prop}{pins:Aa (Ad × Bq)}{s:Ag}{σ:_L.St}{H P:Hp}{α:Aa Ad}{env:qD}(he:PA X es (tDA X f))(I:Inv X pins σ H s)(r:Rel X.K H P α S)
  (re:qZ X.K P α σ env) (af:qJ X P α ((f env S).bind g) Ok) (pos:Do) :
  Ar (Au X.prog X.w) X.A (spliced (Eo pos (Az es X.env))) (λus s1=>GotAG X pins σ env P α us s1 g Ok) X.xe s:=by
 refine thn (he pos pins s σ H (λvs H1=>∃ P1 α1 ds S1,Rel X.K H1 P1 α1 S1/\qZ X.K P1 α1 σ env/\qE X.K P1 α1 ds vs/\qF P P1/\α<+:α1/\qJ X P α (g ds S1) Ok) I ⟨P,α,env,S,r,re,?_⟩) λu s1 ⟨v,H1,I1,rv,P1,α1,d,S1,q1,q2,q3,q4,q5,q6⟩=>⟨v,H1,P1,α1,d,S1,I1,rv,q1,q2,q3,q4,q5,q6⟩;cases q:f env S with
 |bad=>rw[q] at af;exact af
 |ex c x S'=>rw[q] at af;exact af
 |ok d S' =>
  rw[q] at af;exact λv H' P' α' r' e1 e2 rp=>⟨P',α',d,S',r',re.mono e1 e2,rp,e1,e2,af⟩
theorem jY {γ:Type}{f:DT}{g:Ao->Sto->Res γ}{Ok:γ->Sto->Prop}{pins:Aa (Ad × Bq)}{s:Ag}{σ:_L.St}{H P:Hp}{α:Aa Ad}{env:qD}{m:IT Ao}
  (he:∀ (Q:Ao->Hp->Prop),tDT X f σ H Q->Ar (Au X.prog X.w) X.A m (TP X pins σ Q) X.xe s) (r:Rel X.K H P α S) (re:qZ X.K P α σ env) (af:qJ X P α ((f env S).bind g) Ok) :
  Ar (Au X.prog X.w) X.A m (λb s1=>GotT X pins σ env P α b s1 g Ok) X.xe s:=by
 refine thn (he (λb H1=>∃ P1 α1 S1,Rel X.K H1 P1 α1 S1/\qZ X.K P1 α1 σ env/\qF P P1/\α<+:α1/\qJ X P α (g b S1) Ok) ⟨P,α,env,S,r,re,?_⟩) λb s1 ⟨H1,I1,P1,α1,S1,q1,q2,q4,q5,q6⟩=>⟨H1,P1,α1,S1,I1,q1,q2,q4,q5,q6⟩;cases q:f env S with
 |bad=>rw[q] at af;exact af
 |ex c x S'=>rw[q] at af;exact af
 |ok d S' =>
  rw[q] at af;exact λH' P' α' r' e1 e2=>⟨P',α',S',r',re.mono e1 e2,e1,e2,af⟩
noncomputable def dC (d:D):DE:=λ_ S=>.ok d S
noncomputable def qB (i:Af):DE:=λenv S=>match env[i]? with
 |some (Ab d)=>.ok d S
 |_=>.bad
theorem BD:PE X (.Constant (.int i) j pos) (tD X (dC (.int i))):=peW TC λσ H Q ⟨P,α,env,S,r,re,af⟩=>xr af r (by simp only[Rep])
theorem D4:PE X (.Constant (.bool i) j pos) (tD X (dC (.bl i))):=peW SZ λσ H Q ⟨P,α,env,S,r,re,af⟩=>xr af r (by simp only[Rep])
theorem BI:PE X (.Constant (.str i) j pos) (tD X (dC (.str i))):=peW TJ λσ H Q ⟨P,α,env,S,r,re,af⟩=>xr af r (by simp only[Rep])
theorem BF:PE X (.Constant .none j pos) (tD X (dC .non)):=peW TF λσ H Q ⟨P,α,env,S,r,re,af⟩=>xr af r (by simp only[Rep])
set_option tactic.hygienic true in
theorem GN {i:Af}{σ:_L.St}{H:Hp}(h:tD X (qB i) σ H Q):NV i σ H Q:=by
 obtain⟨P,α,env,S,r,re,af⟩:=h;unfold qB at af
 split at af
 .rename_i d q
  obtain⟨v,h1,h2⟩:=re.2 i d q;exact⟨v,h1,xr af r h2⟩
 .exact Am af
theorem dv (i:Af){x:An}(hN:X.N[i]? = Ab x:=by rfl)(hv:Vis X.env.scope x:=by first|exact Xg rfl|exact Vj (Xg rfl)|exact Vj (Vj rfl))(hd:(x == ("__debug__" : An))=false:=by decide)
  (hcd:(x == ("__classdict__" : An))=false:=by decide):PE X (.Name x pos) (tD X (qB i)):=peW (oK hN hv hd hcd) λσ H Q h=>GN h
theorem rT {x:An}{d:D}{v:V}(hg:Gl X x)(hm:X.mg x=Ab u)(r:qM v u)(q:∀ P α,Rep X.K P α d v)(hd:(x == ("__debug__" : An))=false:=by decide):PE X (.Name x pos) (tD X (dC d)):=
 peW (KC hg hm r hd) λσ H Q ⟨P,α,env,S,r,re,af⟩=>xr af r (q _ _)
theorem U0 {x:An}{n:Cs}(hg:Gl X x)(hm:X.mg x=none)(hv:El x=Ab (.type n))(hn:x ≠ "__name__":=by decide)(hd:(x == ("__debug__" : An))=false:=by decide):PE X (.Name x pos) (tD X (dC (.ty n))):=
 peW (KB (v:=.ty n) hg hm hv rfl hn hd) λσ H Q ⟨P,α,env,S,r,re,af⟩=>xr af r (by simp only[Rep])
abbrev G2:=D->D->Sto->Res D
def OpD (X:Cx)(f:Ac->Ac->IT Ac)(g:G2):Prop:=
 ∀ (pins:Aa (Ad × Bq)) (σ : _L.St) (H:Hp) (s:Ag) (P:Hp) (α : Aa Ad) (S:Sto) (v u:V) (vv uu:Ac) (a b:D) (Q:VK),Inv X pins σ H s->Rel X.K H P α S->qM v vv->qM u uu->Rep X.K P α a v->Rep X.K P α b u->qU X P α (g a b S) Q ->
  Ar (Au X.prog X.w) X.A (f vv uu) (EP X pins σ Q) X.xe s
theorem OpD.of {f:Ac->Ac->IT Ac}{r:R2}{g:G2}(h:OpR X f r)(w:∀ H P α S v u a b Q,Rel X.K H P α S->Rep X.K P α a v->Rep X.K P α b u->qU X P α (g a b S) Q->r v u H Q):OpD X f g:=
 λpins σ H s P α S v u vv uu a b Q I rl r1 r2 p1 p2 af=>h pins s σ H v u vv uu Q I r1 r2 (w H P α S v u a b Q rl p1 p2 af)
def UnD (X:Cx)(f:Ac->IT Ac)(g:D->Sto->Res D):Prop:=
 ∀ (pins:Aa (Ad × Bq)) (σ : _L.St) (H:Hp) (s:Ag) (P:Hp) (α : Aa Ad) (S:Sto) (v:V) (vv:Ac) (a:D) (Q:VK),Inv X pins σ H s->Rel X.K H P α S->qM v vv->Rep X.K P α a v->qU X P α (g a S) Q ->
  Ar (Au X.prog X.w) X.A (f vv) (EP X pins σ Q) X.xe s
def IxD (X:Cx)(g:G2):Prop:=
 ∀ (value slice:Bd) (pins:Aa (Ad × Bq)) (σ : _L.St) (H:Hp) (s:Ag) (P:Hp) (α : Aa Ad) (S:Sto) (v u:V) (vv uu:Ac) (a b:D) (Q:VK),Inv X pins σ H s->Rel X.K H P α S->qM v vv->qM u uu->Rep X.K P α a v->Rep X.K P α b u->qU X P α (g a b S) Q ->
  subscripted slice false vv uu=operate [vv,uu] (Lu vv uu)->Ar (Au X.prog X.w) X.A (So value slice vv uu) (EP X pins σ Q) X.xe s
def xJ (X:Cx)(f:Ac)(g:Aa D->Sto->Res D):Prop:=
 ∀ (pins:Aa (Ad × Bq)) (σ : _L.St) (H:Hp) (s:Ag) (P:Hp) (α : Aa Ad) (S:Sto) (vs:Aa V) (us:Aa Ac) (ds:Aa D) (Q:VK),Inv X pins σ H s->Rel X.K H P α S->qN vs us->qE X.K P α ds vs->qU X P α (g ds S) Q ->
  Ar (Au X.prog X.w) X.A (call f us) (EP X pins σ Q) X.xe s
noncomputable def d2 (g:G2)(fa fb:DE):DE:=λenv S=>(fa env S).bind λx S1=>(fb env S1).bind λy S2=>g x y S2
noncomputable def d1 (g:D->Sto->Res D)(fa:DE):DE:=λenv S=>(fa env S).bind g
variable {fa fb:DE}
theorem lO {g:G2}{f:Ac->Ac->IT Ac}{pins:Aa (Ad × Bq)}{s:Ag}{σ:_L.St}{H:Hp}(ho:OpD X f g)(ha:PE X a (tD X fa))(hb:PE X b (tD X fb))(I:Inv X pins σ H s)(h:tD X (d2 g fa fb) σ H Q) :
  Ar (Au X.prog X.w) X.A (eval a X.env) (λv s₁=>Ar (Au X.prog X.w) X.A (eval b X.env) (λu s₂=>Ar (Au X.prog X.w) X.A (f v u) (EP X pins σ Q) X.xe s₂) X.xe s₁) X.xe s:=by
 obtain⟨P,α,env,S,r,re,af⟩:=h;refine thn (zM ha I r re af) λvv s1 ⟨v,H1,P1,α1,d,S1,G1,af1⟩=>?_;refine thn (zM hb G1.inv G1.rel G1.env (P:=P1) (α:=α1) (Ok:=OkV X P1 α1 Q) (g:=λy S2=>g d y S2) ?_) λuu s2 ⟨u,H2,P2,α2,d',S2,G2,af2⟩=>?_
 .exact qU.base G1.same G1.pre af1
 .exact ho pins σ H2 s2 P2 α2 S2 v u vv uu d d' Q G2.inv G2.rel G1.val G2.val (Rep.mono G2.same G2.pre _ _ G1.rep) G2.rep (qU.base G2.same G2.pre af2)
theorem D8 {op:Lh}{g:G2}(ho:OpD X (De op) g)(ha:PE X a (tD X fa))(hb:PE X b (tD X fb)):PE X (.BinOp a op b pos) (tD X (d2 g fa fb)):=
 λpins s σ H Q I h=>wpAny_BinOp (lO ho ha hb I h)
theorem BA {op:Rz}{g:G2}(ho:OpD X (Cp op) g)(ha:PE X a (tD X fa))(hb:PE X b (tD X fb))(hm:Js op b=false:=by first|exact kB _|with_unfolding_all rfl):PE X (.Compare a [op] [b] pos) (tD X (d2 g fa fb)):=
 λpins s σ H Q I h=>wpAny_Compare1 (lO ho ha hb I h) hm
theorem D9 {op:UnaryOp}{g:D->Sto->Res D}(ho:UnD X (Vb op) g)(ha:PE X a (tD X fa)):PE X (.UnaryOp op a pos) (tD X (d1 g fa)):=by
 intro pins s σ H Q I h;obtain⟨P,α,env,S,r,re,af⟩:=h;exact UnaryOp_ (thn (zM ha I r re af) λvv s1 ⟨v,H1,P1,α1,d,S1,G1,af1⟩=>ho pins σ H1 s1 P1 α1 S1 v vv d Q G1.inv G1.rel G1.val G1.rep (qU.base G1.same G1.pre af1))
theorem D7 {g:G2}(ho:IxD X g)(ha:PE X a (tD X fa))(hb:PE X b (tD X fb))(hs:mJ b:=by intro _ _;rfl):PE X (.Subscript a b pos) (tD X (d2 g fa fb)):=by
 intro pins s σ H Q I h;obtain⟨P,α,env,S,r,re,af⟩:=h;have IxR':IxR X (λx y H Q=>∃ P α S a b,Rel X.K H P α S/\Rep X.K P α a x/\Rep X.K P α b y/\qU X P α (g a b S) Q):=λvalue slice pins s σ H x y v u Q I rx ry ⟨P,α,S,a,b,r,p1,p2,af⟩ hsl =>
  ho value slice pins σ H s P α S x y v u a b Q I r rx ry p1 p2 af hsl
 refine peW (R0 IxR' ha hb hs) (t':=tD X (d2 g fa fb)) (λσ H Q h=>?_) pins s σ H Q I ⟨P,α,env,S,r,re,af⟩;obtain⟨P,α,env,S,r,re,af⟩:=h;refine⟨P,α,env,S,r,re,?_⟩;unfold d2 at af;cases q:fa env S with
 |bad=>rw[q] at af;exact af
 |ex c x S'=>rw[q] at af;exact af
 |ok d S1 =>
  rw[q] at af;intro v H1 P1 α1 r1 e1 e2 rp;refine⟨P1,α1,env,S1,r1,re.mono e1 e2,?_⟩;have af':qU X P α ((fb env S1).bind λy S2=>g d y S2) Q:=af;cases q2:fb env S1 with
  |bad=>rw[q2] at af';exact af'
  |ex c x S'=>rw[q2] at af';exact λu s' z=>af' u s' (z.base e1 e2)
  |ok d' S2 =>
   rw[q2] at af';intro u H2 P2 α2 r2 e3 e4 rp2;exact⟨P2,α2,S2,d,d',r2,Rep.mono e3 e4 _ _ rp,rp2,qU.base (e1.trans e3) (e2.trans e4) af'⟩
noncomputable def qC:DA:=λ_ S=>.ok [] S
noncomputable def qA (f:DE)(g:DA):DA:=λenv S=>(f env S).bind λx S1=>(g env S1).bind λxs S2=>.ok (x::xs) S2
theorem B4:PA X [] (tDA X qC):=paW TB λσ H Q ⟨P,α,env,S,r,re,af⟩=>af [] H P α r (qF.refl _) (AU _) .nil
theorem VZ {es:Aa Bd}{g:DA}(ha:PE X e (tD X fa))(hr:PA X es (tDA X g))(hs:Az (e::es) X.env=(false,eval e X.env)::Az es X.env:=by rfl):PA X (e::es) (tDA X (qA fa g)):=by
 intro pos pins s σ H Q I h;obtain⟨P,α,env,S,r,re,af⟩:=h;rw[hs];show Ar _ _ (spliced ((false,eval e X.env)::Eo pos (Az es X.env))) _ _ s;refine ID (thn (zM ha I r re af) λu s1 ⟨x,H1,P1,α1,d,S1,G1,af1⟩=>?_);refine thn (w5 hr G1.inv G1.rel G1.env (P:=P1) (α:=α1) (Ok:=OkA X P1 α1 Q) (gR.base G1.same G1.pre af1) pos) λus s2 ⟨xs,H2,P2,α2,ds,S2,I2,rv,r2,re2,rp2,e1,e2,af2⟩=>?_;exact⟨x::xs,H2,I2,.cons G1.val rv,af2 _ _ _ _ r2 e1 e2 (.cons (Rep.mono e1 e2 _ _ G1.rep) rp2)⟩
noncomputable def lim:Af:=16777216
theorem zQ:lim=sizeLine:=Fe.symm
noncomputable def xP (f:DA):DE:=λenv S=>(f env S).bind λxs S1=>if xs.length<=lim then .ok (.tup xs) S1 else .bad
noncomputable def zU (f:DA):DE:=λenv S=>(f env S).bind λxs S1=>if xs.length<=lim then .ok (.lst xs) S1 else .bad
noncomputable def nR (f:DA):DE:=λenv S=>(f env S).bind λxs S1=>if xs.length<=lim then .ok (.loc S1.length) (S1++[.lst xs]) else .bad
theorem eX {K:Ah}{P:Hp}{α:Aa Ad}{a:Ad}{ds:Aa D}(h:SqT K P a vs)(r:qE K P α ds vs):Rep K P α (.tup ds) (.ref a):=by simp only[Rep];exact⟨a,vs,rfl,h,r⟩
theorem pX {K:Ah}{P:Hp}{α:Aa Ad}{a:Ad}{ds:Aa D}(h:SqX K P a vs)(r:qE K P α ds vs):Rep K P α (.lst ds) (.ref a):=by simp only[Rep];exact⟨a,vs,rfl,h,r⟩
theorem uP {H P:Hp}{α:Aa Ad}{ds:Aa D}(r:Rel X.K H P α S)(hp:H p=none)(rp:qE X.K P α ds vs)(af:OkV X P α Q (.tup ds) S):Q (.ref p) (upd H p (.tup vs)):=by
 obtain⟨r1,e1⟩:=r.pure (o:=.tup vs) hp;exact af _ _ _ α r1 e1 (AU _) (eX (.of qX) (qE.mono e1 (AU _) _ _ rp))
theorem wK {H P:Hp}{α:Aa Ad}{ds:Aa D}(r:Rel X.K H P α S)(hp:H p=none)(rp:qE X.K P α ds vs)(af:OkV X P α Q (.lst ds) S):Q (.ref p) (upd H p (.lst vs)):=by
 obtain⟨r1,e1⟩:=r.pure (o:=.lst vs) hp;exact af _ _ _ α r1 e1 (AU _) (pX (.inl (.inl qX)) (qE.mono e1 (AU _) _ _ rp))
theorem tE {H P:Hp}{α:Aa Ad}{ds:Aa D}(r:Rel X.K H P α S)(hp:H p=none)(rp:qE X.K P α ds vs)(af:OkV X P α Q (.loc S.length) (S++[.lst ds])):Q (.ref p) (upd H p (.lst vs)):=by
 have hpre:α<+:α++[p]:=Fi _ _;have r1:=r.new (o:=.lst vs) (m:=.lst ds) hp ⟨vs,qX,qE.mono (qF.refl _) hpre _ _ rp⟩;refine af _ _ _ _ r1 (qF.refl _) hpre ?_;simp only[Rep];exact⟨p,rfl,by rw[<- r.len];simp⟩
theorem mR {f:DA}{σ:_L.St}{H:Hp}{G:Aa D->Sto->Res D}{mk:Aa V->HO}(h:tD X (λenv S=>(f env S).bind λxs S1=>if xs.length<=lim then G xs S1 else .bad) σ H Q)
  (k:∀ H1 P1 α1 S1 ds vs p,Rel X.K H1 P1 α1 S1->H1 p=none->qE X.K P1 α1 ds vs->qU X P1 α1 (G ds S1) Q->Q (.ref p) (upd H1 p (mk vs))) :
  tDA X f σ H λvs H1=>vs.length<=sizeLine/\∀ p,H1 p=none->Q (.ref p) (upd H1 p (mk vs)):=by
 obtain⟨P,α,env,S,r,re,af⟩:=h;refine⟨P,α,env,S,r,re,?_⟩;have af':qU X P α ((f env S).bind λxs S1=>if xs.length<=lim then G xs S1 else .bad) Q:=af
 cases q:f env S with
 |bad=>rw[q] at af';exact af'
 |ex c x S'=>rw[q] at af';exact af'
 |ok ds S1 =>
  rw[q] at af';intro vs H1 P1 α1 r1 e1 e2 rp;have af2:qU X P α (if ds.length<=lim then G ds S1 else .bad) Q:=af'
  by_cases hl:ds.length<=lim
  .rw[AS hl] at af2
   exact⟨by rw[<- rp.length,<- zQ];exact hl,λp hp=>k H1 P1 α1 S1 ds vs p r1 hp rp (qU.base e1 e2 af2)⟩
  .rw[AX hl] at af2;exact Am af2
theorem BJ {es:Aa Bd}{f:DA} {x1} (h:PA X es (tDA X f)):PE X (.Tuple es x1 pos) (tD X (xP f)):=
 peW (TK h) λσ H Q q=>mR (G:=λxs S1=>.ok (.tup xs) S1) (mk:=.tup) q λH1 P1 α1 S1 ds vs p r hp rp af=>uP r hp rp af
theorem BE {es:Aa Bd}{f:DA}(h:PA X es (tDA X f)):PE X (.List es pos) (tD X (zU f)):=
 peW (oJ h) λσ H Q q=>mR (G:=λxs S1=>.ok (.lst xs) S1) (mk:=.lst) q λH1 P1 α1 S1 ds vs p r hp rp af=>wK r hp rp af
theorem U5 {es:Aa Bd}{f:DA}(h:PA X es (tDA X f)):PE X (.List es pos) (tD X (nR f)):=
 peW (oJ h) λσ H Q q=>mR (G:=λxs S1=>.ok (.loc S1.length) (S1++[MO.lst xs])) (mk:=.lst) q λH1 P1 α1 S1 ds vs p r hp rp af=>tE r hp rp af
end
section
variable {X:Cx}{a b c e:Bd}{pos:Do}{fa fb fc:DE}{ta tb:DT}
noncomputable def x9:D->Sto->Al Ao
 |.non,_=>Ab false
 |.bl b,_=>Ab b
 |.int i,_=>Ab (i != 0)
 |.str x,_=>if x.length<=lim then Ab ((x.length:Aj) != 0) else none
 |.tup xs,_=>Ab (!xs.isEmpty)
 |.lst xs,_=>Ab (!xs.isEmpty)
 |.dct0,_=>Ab false
 |.loc i,S=>match S[i]? with
  |some (.lst xs)=>Ab (!xs.isEmpty)
  |some (.dct kvs)=>Ab (!kvs.isEmpty)
  |_=>none
 |_,_=>none
theorem qE.isEmpty {K:Ah}{P:Hp}{α:Aa Ad}{ds:Aa D}(r:qE K P α ds vs):(!ds.isEmpty)=!vs.isEmpty:=by
 cases ds with
 |nil=>rw[r.nil_inv];rfl
 |cons d ds=>obtain⟨w,ws,rfl,_,_⟩:=r.cons_inv;rfl
theorem xA {K:Ah}{H P:Hp}(e:qF P H){a:Ad}{xs:Aa V}(h:SqT K P a xs):SqT K H a xs:=yC e h
theorem uF {H P:Hp}{α:Aa Ad}{v:V}{d:D}{k:Ao}(r:Rel X.K H P α S)(p:Rep X.K P α d v)(h:x9 d S=Ab k):cK X.K v H k:=by
 cases d with
 |non=>simp only[Rep] at p;subst p;cases h;rfl
 |bl b=>simp only[Rep] at p;subst p;cases h;rfl
 |int i=>simp only[Rep] at p;subst p;cases h;rfl
 |str x =>
  simp only[Rep] at p;subst p;obtain⟨hl,rfl⟩:=g6 h;exact⟨by rw[<- zQ];exact hl,rfl⟩
 |tup xs =>
  simp only[Rep] at p;obtain⟨a,vs,rfl,q,t⟩:=p;cases h;exact .inr (.inl ⟨vs,xA r.sub q,t.isEmpty⟩)
 |lst xs =>
  simp only[Rep] at p;obtain⟨a,vs,rfl,q,t⟩:=p;cases h;exact .inl ⟨vs,(xF r.sub q).l,t.isEmpty⟩
 |dct0 =>
  simp only[Rep] at p;obtain⟨a,rfl,q⟩:=p;cases h;exact .inr (.inr ⟨[],r.sub _ _ q,rfl⟩)
 |loc i =>
  simp only[Rep] at p;obtain⟨a,rfl,q⟩:=p;have h:(match S[i]? with|some (.lst xs)=>Ab (!xs.isEmpty)|some (.dct kvs)=>Ab (!kvs.isEmpty)|_=>none)=Ab k:=h
  cases hs:S[i]? with
  |none=>rw[hs] at h;exact nn h
  |some m =>
   rw[hs] at h;cases m with
   |lst xs =>
    cases h;obtain⟨vs,z,t⟩:=r.at' i a _ q hs;exact .inl ⟨vs,.of z,t.isEmpty⟩
   |dct kvs =>
    cases h;obtain⟨vs,z,t⟩:=r.at' i a _ q hs;refine .inr (.inr ⟨vs,z,?_⟩);cases t <;> rfl
   |_=>exact nn h
 |ty n=>exact nn h
 |obj a=>exact nn h
 |exn c=>exact nn h
 |fd ks ds=>exact nn h
 |clo a vs ds=>exact nn h
theorem V9 {pins:Aa (Ad × Bq)}{s:Ag}{σ:_L.St}{H P:Hp}{α:Aa Ad}{v:V}{d:D}{k:Ao}{Q:Ao->Hp->Prop}(I:Inv X pins σ H s)(r:Rel X.K H P α S)(rv:qM v vv)(p:Rep X.K P α d v)(h:x9 d S=Ab k)(q:Q k H) :
  Ar (Au X.prog X.w) X.A (truthy vv) (TP X pins σ Q) X.xe s:=pH pins s σ H v vv Q I rv ⟨k,uF r p h,q⟩
noncomputable def vV (o:Al Ao)(S:Sto):Res Ao:=match o with
 |some b=>.ok b S
 |none=>.bad
noncomputable def dTr (f:DE):DT:=λenv S=>(f env S).bind λd S1=>vV (x9 d S1) S1
theorem tI {o:Al Ao}{P:Hp}{α:Aa Ad}{Ok:Ao->Sto->Prop}(h:qJ X P α (vV o S) Ok):∃ b,o=Ab b/\Ok b S:=by
 cases o with
 |none=>exact Am h
 |some b=>exact⟨b,rfl,h⟩
theorem F2 (ha:PE X a (tD X fa))(he:∀ whole,isTrue a X.env whole=(do let v <- whole;O0 a.pos;holding [v] (truthy v)):=by intro _;rfl):PT X a (tDT X (dTr fa)):=by
 intro pins s σ H Q I h;obtain⟨P,α,env,S,r,re,af⟩:=h;refine isTrue_plain (thn (zM ha I r re af) λvv s1 ⟨v,H1,P1,α1,d,S1,G1,af1⟩=>?_) (he _);obtain⟨k,e1,q⟩:=tI af1;exact V9 G1.inv G1.rel G1.val G1.rep e1 (q H1 P1 α1 G1.rel G1.same G1.pre)
theorem F0 {op:Rz}{g:G2}(ho:OpD X (Cp op) g)(ha:PE X a (tD X fa))(hb:PE X b (tD X fb))(hm:Js op b=false:=by first|exact kB _|with_unfolding_all rfl):PT X (.Compare a [op] [b] pos) (tDT X (dTr (d2 g fa fb))):=by
 intro pins s σ H Q I h;obtain⟨P,α,env,S,r,re,af⟩:=h;refine wpAny_isTrue_Compare1 ?_ hm;have key:tD X (d2 g fa fb) σ H (λv H1=>∃ k,cK X.K v H1 k/\Q k H1):=by
  refine⟨P,α,env,S,r,re,?_⟩;have af':qJ X P α ((d2 g fa fb env S).bind λd S1=>vV (x9 d S1) S1) (OkT X P α Q):=af;cases q:d2 g fa fb env S with
  |bad=>rw[q] at af';exact af'
  |ex c x S'=>rw[q] at af';exact af'
  |ok d S1 =>
   rw[q] at af';obtain⟨k,e1,qk⟩:=tI (X:=X) af';exact λv H1 P1 α1 r1 e3 e4 rp=>⟨k,uF r1 rp e1,qk H1 P1 α1 r1 e3 e4⟩
 exact thn (lO ho ha hb I key) λv s1 h1=>thn h1 λu s2 h2=>thn h2 λx s3 ⟨y,H3,I3,r3,k,tk,qk⟩=>pH pins s3 σ H3 y x Q I3 r3 ⟨k,tk,qk⟩
noncomputable def wF (g g':G2)(fa fb fc:DE):DE:=λenv S=>(fa env S).bind λx S1=>(fb env S1).bind λy S2=>(g x y S2).bind λz S3 =>
 match x9 z S3 with
 |some true=>(fc env S3).bind λw S4=>g' y w S4
 |some false=>.ok z S3
 |none=>.bad
inductive GotO (X:Cx)(pins:Aa (Ad × Bq))(σ : _L.St)(P:Hp)(α : Aa Ad)(w:Ac)(s1:Ag){γ : Type}(k:D->Sto->Res γ)(Ok:γ->Sto->Prop):Prop
 |mk (y:V) (H1 P1:Hp) (α1:Aa Ad) (d:D) (S1:Sto) (I:Inv X pins σ H1 s1) (rv:qM y w) (r:Rel X.K H1 P1 α1 S1) (rp:Rep X.K P1 α1 d y) (e1:qF P P1) (e2:α<+:α1) (q:qJ X P α (k d S1) Ok):GotO X pins σ P α w s1 k Ok
theorem dP {γ:Type}{f:Ac->Ac->IT Ac}{g:G2}{k:D->Sto->Res γ}{Ok:γ->Sto->Prop}{pins:Aa (Ad × Bq)}{σ:_L.St}{H:Hp}{s:Ag}{P:Hp}{α:Aa Ad}{v u:V}{uu:Ac}{a b:D}(ho:OpD X f g)(I:Inv X pins σ H s)(r:Rel X.K H P α S)
  (rv:qM v vv) (ru:qM u uu) (pa:Rep X.K P α a v) (pb:Rep X.K P α b u) (af:qJ X P α ((g a b S).bind k) Ok) :
  Ar (Au X.prog X.w) X.A (f vv uu) (λw s1=>GotO X pins σ P α w s1 k Ok) X.xe s:=by
 refine thn (ho pins σ H s P α S v u vv uu a b (λy H1=>∃ P1 α1 d S1,Rel X.K H1 P1 α1 S1/\Rep X.K P1 α1 d y/\qF P P1/\α<+:α1/\qJ X P α (k d S1) Ok) I r rv ru pa pb ?_) λw s1 ⟨y,H1,I1,r1,P1,α1,d,S1,q1,q2,q3,q4,q5⟩=>⟨y,H1,P1,α1,d,S1,I1,r1,q1,q2,q3,q4,q5⟩;cases q:g a b S with
 |bad=>rw[q] at af;exact af
 |ex c x S'=>rw[q] at af;exact af
 |ok d S' =>
  rw[q] at af;exact λv H' P' α' r' e1 e2 rp=>⟨P',α',d,S',r',rp,e1,e2,af⟩
theorem qJ.base' {β:Type}{P P1:Hp}{α α1:Aa Ad}{r:Res β}{Ok Ok1:β->Sto->Prop}(e:qF P P1)(h:α<+:α1)(ho:∀ d S,Ok d S->Ok1 d S)(k:qJ X P α r Ok):qJ X P1 α1 r Ok1:=by
 cases r with
 |ok d S=>exact ho d S k
 |ex c x S=>exact λu s' q=>k u s' (q.base e h)
 |bad=>exact k
theorem ZQ {op op':Rz}{g g':G2}(ho:OpD X (Cp op) g)(ho':OpD X (Cp op') g')(ha:PE X a (tD X fa))(hb:PE X b (tD X fb))(hc:PE X c (tD X fc))
  (hm:Up [op,op'] [b,c]=false:=by with_unfolding_all rfl):PE X (.Compare a [op,op'] [b,c] pos) (tD X (wF g g' fa fb fc)):=by
 intro pins s σ H Q I h;obtain⟨P,α,env,S,r,re,af⟩:=h;refine Compare_chain (thn (zM ha I r re af) λvv s1 ⟨v,H1,P1,α1,d,S1,G1,af1⟩=>chain_link (thn (zM hb G1.inv G1.rel G1.env (qU.base G1.same G1.pre af1)) λuu s2 ⟨u,H2,P2,α2,d',S2,G2,af2⟩ =>
  thn (dP ho G2.inv G2.rel G1.val G2.val (Rep.mono G2.same G2.pre _ _ G1.rep) G2.rep (qU.base G2.same G2.pre af2)) λw s3 ⟨y,H3,P3,α3,z,S3,I3,r3,rl3,rp3,e3,e4,af3⟩=>?_)) hm
 cases ht:x9 z S3 with
 |none=>simp only[ht] at af3;exact Am af3
 |some k =>
  simp only[ht] at af3;have tv:=uF rl3 rp3 ht;refine thn (pH pins s3 σ H3 y w (λk' H'=>k'=k/\H'=H3) I3 r3 ⟨k,tv,rfl,rfl⟩) λk' s4 ⟨H4,I4,hk,hH⟩=>?_;subst hk;subst hH;cases k' with
  |false=>exact ite_ff ⟨y,H4,I4,r3,af3 y H4 P3 α3 rl3 e3 e4 rp3⟩
  |true =>
   refine ite_tt (chain_last (thn (zM hc I4 rl3 (G2.env.mono e3 e4) (qU.base e3 e4 af3)) λww s5 ⟨w',H5,P5,α5,d5,S5,G5,af5⟩=>?_));exact ho' pins σ H5 s5 P5 α5 S5 u w' uu ww d' d5 Q G5.inv G5.rel G2.val G5.val (Rep.mono (e3.trans G5.same) (e4.trans G5.pre) _ _ G2.rep) G5.rep (qU.base G5.same G5.pre af5)
theorem X0 {op op':Rz}{g g':G2}(ho:OpD X (Cp op) g)(ho':OpD X (Cp op') g')(ha:PE X a (tD X fa))(hb:PE X b (tD X fb))(hc:PE X c (tD X fc))
  (hm:Up [op,op'] [b,c]=false:=by with_unfolding_all rfl):PT X (.Compare a [op,op'] [b,c] pos) (tDT X (dTr (wF g g' fa fb fc))):=by
 intro pins s σ H Q I h;obtain⟨P,α,env,S,r,re,af⟩:=h;have af':qJ X P α ((wF g g' fa fb fc env S).bind λd S1=>vV (x9 d S1) S1) (OkT X P α Q):=af;have assoc:(wF g g' fa fb fc env S).bind (λd S1=>vV (x9 d S1) S1)=(fa env S).bind λx S1=>(fb env S1).bind λy S2=>(g x y S2).bind λz S3 =>
   match x9 z S3 with
   |some true=>((fc env S3).bind λw S4=>g' y w S4).bind λd S1=>vV (x9 d S1) S1
   |some false=>.ok false S3
   |none=>.bad:=by
  unfold wF;cases fa env S with
  |bad=>rfl
  |ex _ _ _=>rfl
  |ok x S1 =>
   show Res.bind (Res.bind (fb env S1) _) _=Res.bind (fb env S1) _;cases fb env S1 with
   |bad=>rfl
   |ex _ _ _=>rfl
   |ok y S2 =>
    show Res.bind (Res.bind (g x y S2) _) _=Res.bind (g x y S2) _;cases g x y S2 with
    |bad=>rfl
    |ex _ _ _=>rfl
    |ok z S3 =>
     show Res.bind (match x9 z S3 with|some true=>(fc env S3).bind λw S4=>g' y w S4|some false=>.ok z S3|none=>.bad) _=_
     cases ht:x9 z S3 with
     |none=>simp only[ht,Res.bind]
     |some k=>cases k <;> simp only[ht,Res.bind,vV]
 rw[assoc] at af';refine isTrue_chain (thn (zM ha I r re af') λvv s1 ⟨v,H1,P1,α1,d,S1,G1,af1⟩=>test_link (thn (zM hb G1.inv G1.rel G1.env (wD.base G1.same G1.pre af1)) λuu s2 ⟨u,H2,P2,α2,d',S2,G2,af2⟩ =>
  thn (dP ho G2.inv G2.rel G1.val G2.val (Rep.mono G2.same G2.pre _ _ G1.rep) G2.rep (wD.base G2.same G2.pre af2)) λw s3 ⟨y,H3,P3,α3,z,S3,I3,r3,rl3,rp3,e3,e4,af3⟩=>?_)) hm
 cases ht:x9 z S3 with
 |none=>simp only[ht] at af3;exact Am af3
 |some k =>
  simp only[ht] at af3;have tv:=uF rl3 rp3 ht;refine thn (pH pins s3 σ H3 y w (λk' H'=>k'=k/\H'=H3) I3 r3 ⟨k,tv,rfl,rfl⟩) λk' s4 ⟨H4,I4,hk,hH⟩=>?_;subst hk;subst hH;cases k' with
  |false=>exact ite_ff ⟨H4,I4,af3 H4 P3 α3 rl3 e3 e4⟩
  |true =>
   have af4:qJ X P2 α2 ((fc env S3).bind λw S4=>(g' d' w S4).bind λd S1=>vV (x9 d S1) S1) (OkT X P2 α2 Q):=by
    have e:((fc env S3).bind λw S4=>(g' d' w S4).bind λd S1=>vV (x9 d S1) S1)=(((fc env S3).bind λw S4=>g' d' w S4).bind λd S1=>vV (x9 d S1) S1):=by
     cases fc env S3 <;> rfl
    rw[e];exact af3
   refine ite_tt (test_last (thn (zM hc I4 rl3 (G2.env.mono e3 e4) (wD.base e3 e4 af4)) λww s5 ⟨w',H5,P5,α5,d5,S5,G5,af5⟩ =>
    thn (dP ho' G5.inv G5.rel G2.val G5.val (Rep.mono (e3.trans G5.same) (e4.trans G5.pre) _ _ G2.rep) G5.rep (wD.base G5.same G5.pre af5)) λx6 s6 ⟨y6,H6,P6,α6,d6,S6,I6,r6,rl6,rp6,e5,e6,af6⟩=>?_))
   obtain⟨k6,q6,z6⟩:=tI af6;exact V9 I6 rl6 r6 rp6 q6 (z6 H6 P6 α6 rl6 e5 e6)
noncomputable def yL (t:DT):DT:=λenv S=>(t env S).bind λb S1=>.ok (!b) S1
noncomputable def y8 (t u:DT):DT:=λenv S=>(t env S).bind λb S1=>if b then u env S1 else .ok false S1
noncomputable def jH (t u:DT):DT:=λenv S=>(t env S).bind λb S1=>if b then .ok true S1 else u env S1
theorem F1 (ha:PT X a (tDT X ta)):PT X (.UnaryOp .Not a pos) (tDT X (yL ta)):=by
 intro pins s σ H Q I h;obtain⟨P,α,env,S,r,re,af⟩:=h;refine isTrue_not (thn (jY (λQ' q=>ha pins s σ H Q' I q) r re af) λb s1 ⟨H1,P1,α1,S1,I1,r1,re1,e1,e2,af1⟩=>⟨H1,I1,af1 H1 P1 α1 r1 e1 e2⟩)
def PWD (X:Cx)(e:Bd)(t:DT):Prop:=PW X e (tDT X t)
theorem PWD.pt {t:DT}(h:PWD X e t):PT X e (tDT X t):=h _
theorem UL (ha:PT X a (tDT X ta)):PWD X (.BoolOp .And [a] pos) ta:=KP ha
theorem F4 (ha:PT X a (tDT X ta)):PWD X (.BoolOp .Or [a] pos) ta:=TZ ha
theorem F3 {qL:Aa Bd}(ha:PT X a (tDT X ta))(hb:PWD X (.BoolOp .And (b::qL) pos) tb):PWD X (.BoolOp .And (a::b::qL) pos) (y8 ta tb):=by
 intro wh pins s σ H Q I h;obtain⟨P,α,env,S,r,re,af⟩:=h;refine isTrue_and (thn (jY (λQ' q=>ha pins s σ H Q' I q) r re af) λk s1 ⟨H1,P1,α1,S1,I1,r1,re1,e1,e2,af1⟩=>?_);cases k with
 |true=>exact hb wh pins s1 σ H1 Q I1 ⟨P1,α1,env,S1,r1,re1,wD.base e1 e2 af1⟩
 |false=>exact⟨H1,I1,af1 H1 P1 α1 r1 e1 e2⟩
theorem DJ {qL:Aa Bd}(ha:PT X a (tDT X ta))(hb:PWD X (.BoolOp .Or (b::qL) pos) tb):PWD X (.BoolOp .Or (a::b::qL) pos) (jH ta tb):=by
 intro wh pins s σ H Q I h;obtain⟨P,α,env,S,r,re,af⟩:=h;refine isTrue_or (thn (jY (λQ' q=>ha pins s σ H Q' I q) r re af) λk s1 ⟨H1,P1,α1,S1,I1,r1,re1,e1,e2,af1⟩=>?_);cases k with
 |true=>exact⟨H1,I1,af1 H1 P1 α1 r1 e1 e2⟩
 |false=>exact hb wh pins s1 σ H1 Q I1 ⟨P1,α1,env,S1,r1,re1,wD.base e1 e2 af1⟩
noncomputable def gW (f g:DE):DE:=λenv S=>(f env S).bind λx S1=>match x9 x S1 with
 |some true=>g env S1
 |some false=>.ok x S1
 |none=>.bad
noncomputable def ZN (f:DE):DE:=λenv S=>(f env S).bind λx S1=>match x9 x S1 with
 |some b=>.ok (.bl (!b)) S1
 |none=>.bad
theorem BH  (h:PE X a (tD X fa)):PE X (.BoolOp op [a] pos) (tD X fa):=TH h
theorem NY {pins:Aa (Ad × Bq)}{s:Ag}{σ:_L.St}{H:Hp}{v:V}{k:Ao}{R:Ao->Ag->Prop}(I:Inv X pins σ H s)(rv:qM v vv)(t:cK X.K v H k)(h:∀ s',Inv X pins σ H s'->R k s') :
  Ar (Au X.prog X.w) X.A (truthy vv) R X.xe s:=thn (pH pins s σ H v vv (λk' H'=>k'=k/\H'=H) I rv ⟨k,t,rfl,rfl⟩) λk' s4 ⟨H4,I4,hk,hH⟩=>by subst hk;subst hH;exact h s4 I4
theorem B6 {qL:Aa Bd}(ha:PE X a (tD X fa))(hb:PE X (.BoolOp .And (b::qL) pos) (tD X fb)):PE X (.BoolOp .And (a::b::qL) pos) (tD X (gW fa fb)):=by
 intro pins s σ H Q I h;obtain⟨P,α,env,S,r,re,af⟩:=h;refine BoolOp_and (thn (zM ha I r re af) λvv s1 ⟨v,H1,P1,α1,d,S1,G1,af1⟩=>?_);cases ht:x9 d S1 with
 |none=>simp only[ht] at af1;exact Am af1
 |some k =>
  simp only[ht] at af1;refine NY G1.inv G1.val (uF G1.rel G1.rep ht) λs2 I2=>?_;cases k with
  |true=>exact hb pins s2 σ H1 Q I2 ⟨P1,α1,env,S1,G1.rel,G1.env,qU.base G1.same G1.pre af1⟩
  |false=>exact⟨v,H1,I2,G1.val,af1 v H1 P1 α1 G1.rel G1.same G1.pre G1.rep⟩
theorem BG (ha:PE X a (tD X fa)):PE X (.UnaryOp .Not a pos) (tD X (ZN fa)):=by
 intro pins s σ H Q I h;obtain⟨P,α,env,S,r,re,af⟩:=h;refine UnaryOp_ (thn (zM ha I r re af) λvv s1 ⟨v,H1,P1,α1,d,S1,G1,af1⟩=>?_);cases ht:x9 d S1 with
 |none=>simp only[ht] at af1;exact Am af1
 |some k =>
  simp only[ht] at af1;exact not_of (NY G1.inv G1.val (uF G1.rel G1.rep ht) λs2 I2=>⟨.bl (!k),H1,I2,rfl,af1 (.bl (!k)) H1 P1 α1 G1.rel G1.same G1.pre (by simp only[Rep])⟩)
noncomputable def dIf (t:DT)(f g:DE):DE:=λenv S=>(t env S).bind λb S1=>if b then f env S1 else g env S1
theorem D6 (hc:PT X c (tDT X ta))(ha:PE X a (tD X fa))(hb:PE X b (tD X fb)):PE X (.IfExp c a b pos) (tD X (dIf ta fa fb)):=by
 intro pins s σ H Q I h;obtain⟨P,α,env,S,r,re,af⟩:=h;refine wpAny_IfExp (thn (jY (λQ' q=>hc pins s σ H Q' I q) r re af) λk s1 ⟨H1,P1,α1,S1,I1,r1,re1,e1,e2,af1⟩=>?_);cases k with
 |true=>exact ha pins s1 σ H1 Q I1 ⟨P1,α1,env,S1,r1,re1,qU.base e1 e2 af1⟩
 |false=>exact hb pins s1 σ H1 Q I1 ⟨P1,α1,env,S1,r1,re1,qU.base e1 e2 af1⟩
end
@[inline] def Res.toS {β:Type}(env:qD)(r:Res β)(k:β->Sto->Out):Out:=
 match r with
 |.ok d S=>k d S
 |.ex c x S=>.ex c x env S
 |.bad=>.bad
section
variable {X:Cx}{a b c e:Bd}{pos:Do}{fa fb fc:DE}{ta tb:DT}{f g:DS}{st:Ds}{qL:Aa Ds}
noncomputable def zB:DS:=λenv S=>.nx env S
noncomputable def qO (f g:DS):DS:=λenv S=>match f env S with
 |.nx env1 S1=>g env1 S1
 |o=>o
theorem BU:PSs X [] (tDS X zB):=TX KN λD σ H ⟨P,α,env,S,r,re,af⟩=>af σ H P α r re (qF.refl _) (AU _)
theorem UF (h1:PS X st (tDS X f))(h2:PSs X qL (tDS X g)):PSs X (st::qL) (tDS X (qO f g)):=TX (WK h1 h2) λD σ H ⟨P,α,env,S,r,re,af⟩=>by
 refine⟨P,α,env,S,r,re,?_⟩;unfold qO at af;cases q:f env S with
 |nx env1 S1 =>
  rw[q] at af;exact λσ' H' P' α' r' re' e1 e2=>⟨P',α',env1,S1,r',re',z0.base e1 e2 af⟩
 |rt d S1=>rw[q] at af;exact af
 |bk env1 S1=>rw[q] at af;exact af
 |ct env1 S1=>rw[q] at af;exact af
 |ex c x env1 S1=>rw[q] at af;exact af
 |bad=>rw[q] at af;exact af
theorem BV (h1:PS X st (tDS X f)):PSs X [st] (tDS X f):=KO h1
noncomputable def fZ:DS:=λenv S=>.bk env S
theorem ZX:PS X (.Break pos) (tDS X fZ):=psW WI λD σ H ⟨P,α,env,S,r,re,af⟩=>af σ H P α r re (qF.refl _) (AU _)
theorem xN {β:Type}{P:Hp}{α:Aa Ad}{env:qD}{r:Res β}{k:β->Sto->Out}{D:Ends}(h:z0 X P α (r.toS env k) D):qJ X P α r λd S=>z0 X P α (k d S) D:=by
 cases r with
 |ok d S=>exact h
 |ex c x S=>exact h
 |bad=>exact h
inductive GotS (X:Cx)(pins:Aa (Ad × Bq))(σ : _L.St)(env:qD)(P:Hp)(α : Aa Ad)(u:Ac)(s1:Ag)(k:D->Sto->Out)(E:Ends):Prop
 |mk (v:V) (H1 P1:Hp) (α1:Aa Ad) (d:D) (S1:Sto) (G:Got X pins σ env P α u s1 v H1 P1 α1 d S1) (q:z0 X P1 α1 (k d S1) E):GotS X pins σ env P α u s1 k E
theorem fB {k:D->Sto->Out}{pins:Aa (Ad × Bq)}{s:Ag}{σ:_L.St}{H P:Hp}{α:Aa Ad}{env:qD}{D:Ends}(he:PE X e (tD X fa))(I:Inv X pins σ H s)(r:Rel X.K H P α S)
  (re:qZ X.K P α σ env) (af:z0 X P α ((fa env S).toS env k) D) :
  Ar (Au X.prog X.w) X.A (eval e X.env) (λu s1=>GotS X pins σ env P α u s1 k D) X.xe s:=by
 have af1:qJ X P α ((fa env S).bind λd S=>.ok d S) λd S=>z0 X P α (k d S) D:=by
  have:=xN af;cases q:fa env S <;> rw[q] at this <;> exact this
 exact thn (zM he I r re af1) λu s1 ⟨v,H1,P1,α1,d,S1,G,q⟩=>⟨v,H1,P1,α1,d,S1,G,z0.base G.same G.pre q⟩
noncomputable def yV (f:DE):DS:=λenv S=>(f env S).toS env λ_ S1=>.nx env S1
theorem UG (he:PE X e (tD X fa))(hs:Qp e none pos.line X.env=pure false:=by rfl):PS X (.Expr e pos) (tDS X (yV fa)):=by
 intro pins s σ H D I h;obtain⟨P,α,env,S,r,re,af⟩:=h;exact wpAny_Expr_any (thn (fB he I r re af) λv s1 ⟨x,H1,P1,α1,d,S1,G,q⟩=>⟨σ,H1,G.inv,q σ H1 P1 α1 G.rel G.env (qF.refl _) (AU _)⟩) I.quiet hs
noncomputable def qT (f:DE):DS:=λenv S=>(f env S).toS env λd S1=>.rt d S1
theorem BX (he:PE X e (tD X fa)):PS X (.Return (Ab e) pos) (tDS X (qT fa)):=by
 intro pins s σ H D I h;obtain⟨P,α,env,S,r,re,af⟩:=h;exact wpAny_Return_some (thn (fB he I r re af) λv s1 ⟨x,H1,P1,α1,d,S1,G,q⟩=>⟨x,σ,H1,G.inv,G.val,q x H1 P1 α1 G.rel (qF.refl _) (AU _) G.rep⟩)
noncomputable def sIf (t:DT)(f g:DS):DS:=λenv S=>(t env S).toS env λb S1=>if b then f env S1 else g env S1
theorem DD {as bs:Aa Ds}(hc:PT X c (tDT X ta))(ha:PSs X as (tDS X f))(hb:PSs X bs (tDS X g)):PS X (.If c as bs pos) (tDS X (sIf ta f g)):=by
 intro pins s σ H D I h;obtain⟨P,α,env,S,r,re,af⟩:=h;have af1:qJ X P α ((ta env S).bind λd S=>.ok d S) λb S=>z0 X P α (if b then f env S else g env S) D:=by
  have:=xN af;cases q:ta env S <;> rw[q] at this <;> exact this
 refine wpAny_If (thn (jY (λQ' q=>hc pins s σ H Q' I q) r re af1) λk s1 ⟨H1,P1,α1,S1,I1,r1,re1,e1,e2,af2⟩=>?_);cases k with
 |true=>exact ha pins s1 σ H1 D I1 ⟨P1,α1,env,S1,r1,re1,z0.base e1 e2 af2⟩
 |false=>exact hb pins s1 σ H1 D I1 ⟨P1,α1,env,S1,r1,re1,z0.base e1 e2 af2⟩
abbrev DG:=D->qD->Sto->Res qD
abbrev DGs:=Aa D->qD->Sto->Res qD
def OkE (X:Cx)(P:Hp)(α : Aa Ad)(Q:_L.St->Hp->Prop)(env':qD)(S':Sto):Prop:=∀ σ' H' P' α',Rel X.K H' P' α' S'->qZ X.K P' α' σ' env'->qF P P'->α<+:α'->Q σ' H'
def tDG (X:Cx)(g:DG):TG:=λv σ H Q=>∃ P α env S d,Rel X.K H P α S/\qZ X.K P α σ env/\Rep X.K P α d v/\qJ X P α (g d env S) (OkE X P α Q)
def sQ (X:Cx)(g:DGs):TGs:=λvs σ H Q=>∃ P α env S ds,Rel X.K H P α S/\qZ X.K P α σ env/\qE X.K P α ds vs/\qJ X P α (g ds env S) (OkE X P α Q)
theorem qZ.set {K:Ah}{P:Hp}{α:Aa Ad}{σ:_L.St}{env:qD}{d:D}{v:V}(re:qZ K P α σ env)(i:Af)(rp:Rep K P α d v):qZ K P α (σ.set i (Ab v)) (env.set i (Ab d)):=by
 refine⟨by simp[re.1],λj d' e=>?_⟩
 by_cases hj:i=j
 .subst hj
  by_cases hi:i<env.length
  .rw[Ez hi] at e
   cases e;exact⟨v,by rw[Ez (by rw[<- re.1];exact hi)],rp⟩
  .rw[Lv (by simp;omega)] at e;cases e
 .rw[Dk hj] at e ⊢
  exact re.2 j d' e
noncomputable def gNm (i:Af):DG:=λd env S=>.ok (env.set i (Ab d)) S
theorem UA {i:Af}{x:An}(hN:X.N.Nodup)(hi:X.N[i]? = Ab x:=by rfl)(hx:Loc X.env.scope x:=by first|exact Xg rfl|exact Vj rfl)(hf:X.fn x=true\/X.env.scope.names.lookup x=Ab .local:=by first|exact .inl rfl|exact .inr rfl|assumption):PG X (.Name x pos) (tDG X (gNm i)):=by
 intro pins s σ H v u Q I rv h;obtain⟨P,α,env,S,d,r,re,rp,af⟩:=h;exact KD hN hi hx hf pins s σ H v u Q I rv (af _ H P α r (re.set i rp) (qF.refl _) (AU _))
noncomputable def vZ:DGs:=λds env S=>match ds with
 |[]=>.ok env S
 |_=>.bad
noncomputable def xD (g:DG)(gs:DGs):DGs:=λds env S=>match ds with
 |d::r=>(g d env S).bind λenv1 S1=>gs r env1 S1
 |[]=>.bad
theorem UB:PGs X [] (sQ X vZ):=by
 intro pins s σ H vs us Q I rv h;obtain⟨P,α,env,S,ds,r,re,rp,af⟩:=h;cases ds with
 |nil=>exact KE pins s σ H vs us Q I rv ⟨rp.nil_inv,af σ H P α r re (qF.refl _) (AU _)⟩
 |cons d ds=>exact Am af
theorem ZU {es:Aa Bd}{g:DG}{gs:DGs}(h1:PG X e (tDG X g))(h2:PGs X es (sQ X gs))(hs:(Fk (e::es) X.env).map (·.2)=assign e X.env::(Fk es X.env).map (·.2):=by rfl):PGs X (e::es) (sQ X (xD g gs)):=by
 intro pins s σ H vs us Q I rv h;obtain⟨P,α,env,S,ds,r,re,rp,af⟩:=h;cases ds with
 |nil=>exact Am af
 |cons d ds =>
  obtain⟨w,ws,rfl,p1,p2⟩:=rp.cons_inv;refine WE h1 h2 hs pins s σ H _ us Q I rv ⟨w,ws,rfl,P,α,env,S,d,r,re,p1,?_⟩;have af':qJ X P α ((g d env S).bind λenv1 S1=>gs ds env1 S1) (OkE X P α Q):=af;cases q:g d env S with
  |bad=>rw[q] at af';exact af'
  |ex c x S'=>rw[q] at af';exact af'
  |ok env1 S1 =>
   rw[q] at af';intro σ' H' P' α' r' re' e1 e2;refine⟨P',α',env1,S1,ds,r',re',qE.mono e1 e2 _ _ p2,qJ.base' e1 e2 (λenv' S' ok σ2 H2 P2 α2 r2 re2 e3 e4=>ok σ2 H2 P2 α2 r2 re2 (e1.trans e3) (e2.trans e4)) af'⟩
noncomputable def gTp (n:Af)(gs:DGs):DG:=λd env S=>match d with
 |.tup xs=>if xs.length=n then gs xs env S else .bad
 |_=>.bad
set_option tactic.hygienic true in
theorem BM {es:Aa Bd}{k:Af}{gs:DGs}{n:Af}(hc:X.calm=true)(h:PGs X es (sQ X gs))(hn:(Fk es X.env).length=n:=by rfl)(hst:(Fk es X.env).findIdx? (·.1)=none:=by rfl):PG X (.Tuple es k pos) (tDG X (gTp n gs)):=by
 intro pins s σ H v u Q I rv hw;obtain⟨P,α,env,S,d,r,re,rp,af⟩:=hw;cases d with
 |tup xs =>
  simp only[Rep] at rp;obtain⟨a,vs,rfl,q,t⟩:=rp;simp only[gTp] at af
  split at af
  .rename_i hl
   exact TM hc h hn hst pins s σ H _ u Q I rv ⟨a,vs,rfl,xA r.sub q,by rw[<- t.length];exact hl,P,α,env,S,xs,r,re,t,af⟩
  .exact Am af
 |_=>exact Am af
abbrev G3:=D->D->D->Sto->Res Nh
def OkU (X:Cx)(P:Hp)(α : Aa Ad)(Q:Hp->Prop)(_:Nh)(S':Sto):Prop:=∀ H' P' α',Rel X.K H' P' α' S'->qF P P'->α<+:α'->Q H'
def l9 (X:Cx)(g:G3):Z7:=λo i v H Q=>∃ P α S a b d,Rel X.K H P α S/\Rep X.K P α a o/\Rep X.K P α b i/\Rep X.K P α d v/\qJ X P α (g a b d S) (OkU X P α Q)
noncomputable def gSb (fo fi:DE)(g:G3):DG:=λd env S=>(fo env S).bind λo S1=>(fi env S1).bind λi S2=>(g o i d S2).bind λ_ S3=>.ok env S3
theorem BL {o i:Bd}{fo fi:DE}{g:G3}(ho:PE X o (tD X fo))(hi:PE X i (tD X fi))(hs:lB X (l9 X g))
  (ha:∀ v,assign (.Subscript o i pos) X.env v=(do
   let ov <- holding [v] (eval o X.env)
   let iv <- holding [v,ov] (eval i X.env)
   O0 pos
   holding [v,ov,iv] (Xn ov iv v)
   release [v,ov,iv] []):=by intro _;rfl):PG X (.Subscript o i pos) (tDG X (gSb fo fi g)):=by
 intro pins s σ H v u Q I rv h;obtain⟨P,α,env,S,d,r,re,rp,af⟩:=h;rw[ha];refine Ai (Fo (thn (zM ho I r re af) λov s1 ⟨x,H1,P1,α1,d1,S1,G1,af1⟩=>?_));refine Ai (Fo (thn (zM hi G1.inv G1.rel G1.env (P:=P1) (α:=α1) (Ok:=OkE X P1 α1 Q) (qJ.base' G1.same G1.pre (λenv' S' ok σ2 H2 P2 α2 r2 re2 e3 e4=>ok σ2 H2 P2 α2 r2 re2 (G1.same.trans e3) (G1.pre.trans e4)) af1)) λiv s2 ⟨y,H2,P2,α2,d2,S2,G2,af2⟩=>?_));refine Ai (Lq (Ai (Fo (thn (hs pins s2 σ H2 x y v ov iv u (λH3=>Q σ H3) G2.inv G1.val G2.val rv ⟨P2,α2,S2,d1,d2,d,G2.rel,Rep.mono G2.same G2.pre _ _ G1.rep,G2.rep,Rep.mono (G1.same.trans G2.same) (G1.pre.trans G2.pre) _ _ rp,?_⟩) λ_ s3 ⟨H3,I3,q3⟩=>?_))))
 .cases q:g d1 d2 d S2 with
  |bad=>rw[q] at af2;exact af2
  |ex c x S'=>rw[q] at af2;exact λu s' z=>af2 u s' (z.base G2.same G2.pre)
  |ok w S3 =>
   rw[q] at af2;exact λH' P' α' r' e1 e2=>af2 σ H' P' α' r' (G2.env.mono e1 e2) (G2.same.trans e1) (G2.pre.trans e2)
 .exact wpAny_release ⟨σ,H3,I3,q3⟩
noncomputable def qV (f:DE)(g:DG):DS:=λenv S=>(f env S).toS env λd S1=>(g d env S1).toS env λenv' S2=>.nx env' S2
theorem aZ {g:DG}{d:D}{env:qD}{P:Hp}{α:Aa Ad}{D':Ends}(h:z0 X P α ((g d env S).toS env λenv' S2=>.nx env' S2) D'):qJ X P α (g d env S) (OkE X P α D'.nx):=by
 cases q:g d env S with
 |bad=>rw[q] at h;exact h
 |ex c x S'=>rw[q] at h;exact h
 |ok env1 S1=>rw[q] at h;exact h
theorem BQ {tg:Bd}{g:DG}(he:PE X e (tD X fa))(hg:PG X tg (tDG X g))(hs:Gz [tg] e pos.line X.env=pure false:=by rfl)(hw:Gy [tg] e X.env=pure none:=by rfl)
  (h1:(Fk [tg] X.env).map (·.2)=[assign tg X.env]:=by rfl):PS X (.Assign [tg] e pos) (tDS X (qV fa g)):=by
 intro pins s σ H D I h;obtain⟨P,α,env,S,r,re,af⟩:=h;refine wpAny_Assign_stores (thn (fB he I r re af) λv s1 ⟨x,H1,P1,α1,d,S1,G,q⟩=>?_) hs hw;rw[h1];exact thn (hg pins s1 σ H1 x v _ G.inv G.val ⟨P1,α1,env,S1,d,G.rel,G.env,G.rep,aZ q⟩) λ_ s2 q=>q
theorem BY {i:Af}{x:An}{pos':Do}(hN:X.N.Nodup)(he:PE X e (tD X fa))(hi:X.N[i]? = Ab x:=by rfl)(hx:Loc X.env.scope x:=by first|exact Xg rfl|exact Vj rfl)(hs:Qp e (Ab (.Name x pos')) pos.line X.env=pure false:=by rfl)
  (hf:X.fn x=true\/X.env.scope.names.lookup x=Ab .local:=by first|exact .inl rfl|exact .inr rfl|assumption):PS X (.Assign [.Name x pos'] e pos) (tDS X (qV fa (gNm i))):=by
 intro pins s σ H D I h;obtain⟨P,α,env,S,r,re,af⟩:=h;refine wpAny_Assign_Name (thn (fB he I r re af) λv s1 ⟨y,H1,P1,α1,d,S1,G,q⟩=>?_) hs;exact xY G.inv hN hi hx G.val (λs2 I2=>⟨_,H1,I2,q _ H1 P1 α1 G.rel (G.env.set i G.rep) (qF.refl _) (AU _)⟩) hf
noncomputable def dQ (i j:Af)(env:qD)(S1:Sto):Aa D->Out
 |[x,y]=>.nx ((env.set i (Ab x)).set j (Ab y)) S1
 |_=>.bad
noncomputable def bR (i j:Af)(f:DA):DS:=λenv S=>(f env S).toS env λds S1=>dQ i j env S1 ds
theorem BW {i j:Af}{x y:An}{f:DA}{px py pt:Do} {kt k2 pt2} (hc:X.calm=true) (hN:X.N.Nodup) (ha:PA X [a,b] (tDA X f)) (hi:X.N[i]? = Ab x:=by rfl) (hj:X.N[j]? = Ab y:=by rfl) (hij:i≠j:=by decide)
  (hx:X.env.scope.names.lookup x=Ab .local:=by rfl) (hy:X.env.scope.names.lookup y=Ab .local:=by rfl)
  (hw:Gy [.Tuple [.Name x px,.Name y py] kt pt] (.Tuple [a,b] k2 pt2) X.env=pure (Ab [x,y]):=by rfl)
  (hs:Gz [.Tuple [.Name x px,.Name y py] kt pt] (.Tuple [a,b] k2 pt2) pos.line X.env=pure false:=by rfl) :
  PS X (.Assign [.Tuple [.Name x px,.Name y py] kt pt] (.Tuple [a,b] k2 pt2) pos) (tDS X (bR i j f)):=psW (TV hc hN hi hj hij hx hy ha hw hs) λD σ H ⟨P,α,env,S,r,re,af⟩=>by
 refine⟨P,α,env,S,r,re,?_⟩;have af1:=xN af;cases q:f env S with
 |bad=>rw[q] at af1;exact af1
 |ex c x S'=>rw[q] at af1;exact af1
 |ok ds S1 =>
  rw[q] at af1;intro vs H' P' α' r' e1 e2 rp;have af2:z0 X P α (dQ i j env S1 ds) D:=af1;cases ds with
  |nil=>exact Am af2
  |cons d ds=>cases ds with
   |nil=>exact Am af2
   |cons d' ds=>cases ds with
    |cons _ _=>exact Am af2
    |nil =>
     obtain⟨w,ws,rfl,p1,t⟩:=rp.cons_inv;obtain⟨w',ws',rfl,p2,t⟩:=t.cons_inv;rw[t.nil_inv];exact⟨w,w',rfl,af2 _ _ P' α' r' (((re.mono e1 e2).set i p1).set j p2) e1 e2⟩
end
structure ItD (K:Ah)(J:It)(P:Hp)(α : Aa Ad)(ds:Aa D):Prop where
 go:∀ i H P1 α1 S,i<ds.length->Rel K H P1 α1 S->qF P P1->α<+:α1->J.go i H
 yld:∀ i H x H' P1 α1 S,i<ds.length->Rel K H P1 α1 S->qF P P1->α<+:α1->J.yld i H x H'->∃ P2 d,ds[i]? = Ab d/\Rel K H' P2 α1 S/\qF P1 P2/\Rep K P2 α1 d x
 stop:∀ i H P1 α1 S,ds.length<=i->Rel K H P1 α1 S->qF P P1->α<+:α1->J.stop i H
abbrev DI:=qD->Sto->Res (Aa D)
def OkI (X:Cx)(P:Hp)(α : Aa Ad)(R:It->Hp->Prop)(ds:Aa D)(S':Sto):Prop:=∀ J H' P' α',Rel X.K H' P' α' S'->qF P P'->α<+:α'->ItD X.K J P' α' ds->R J H'
inductive tDI (X:Cx)(f:DI)(σ : _L.St)(H:Hp)(R:It->Hp->Prop):Prop
 |mk (P:Hp) (α : Aa Ad) (env:qD) (S:Sto) (r:Rel X.K H P α S) (re:qZ X.K P α σ env) (af:qJ X P α (f env S) (OkI X P α R)):tDI X f σ H R
noncomputable def vW {β:Type}(o:Al β)(S:Sto):Res β:=match o with
 |some b=>.ok b S
 |none=>.bad
theorem uD {X:Cx}{β:Type}{o:Al β}{P:Hp}{α:Aa Ad}{Ok:β->Sto->Prop}(h:qJ X P α (vW o S) Ok):∃ b,o=Ab b/\Ok b S:=by
 cases o with
 |none=>exact Am h
 |some b=>exact⟨b,rfl,h⟩
theorem xT {X:Cx}{β:Type}{c:Prop}[Iu c]{r:Res β}{P:Hp}{α : Aa Ad}{Ok:β->Sto->Prop}(h:qJ X P α (if c then r else .bad) Ok):c/\qJ X P α r Ok:=by
 by_cases z:c
 .rw[AS z] at h;exact⟨z,h⟩
 .rw[AX z] at h;exact Am h
theorem fU {X:Cx}{β:Type}{ds:Aa D}{g:D->Res β}{P:Hp}{α:Aa Ad}{Ok:β->Sto->Prop}(h:qJ X P α (match ds with|[d]=>g d|_=>.bad) Ok):∃ d,ds=[d]/\qJ X P α (g d) Ok:=by
 cases ds with
 |nil=>exact Am h
 |cons d ds =>
  cases ds with
  |nil=>exact⟨d,rfl,h⟩
  |cons _ _=>exact Am h
theorem tB {β:Type}{i:Af}{f:Aa D->Al β}{g:Aa (Key × D)->Al β}{b:β}(h:(match S[i]? with|some (.lst xs)=>f xs|some (.dct kvs)=>g kvs|_=>none)=Ab b):(∃ xs,S[i]? = Ab (.lst xs)/\f xs=Ab b)\/∃ kvs,S[i]? = Ab (.dct kvs)/\g kvs=Ab b:=by
 cases e:S[i]? with
 |none=>rw[e] at h;exact nn h
 |some m =>
  rw[e] at h;cases m with
  |lst xs=>exact .inl ⟨xs,rfl,h⟩
  |dct kvs=>exact .inr ⟨kvs,rfl,h⟩
  |_=>exact nn h
theorem M3 {β:Type}{i:Af}{f:Aa D->Al β}{b:β}(h:(match S[i]? with|some (.lst xs)=>f xs|_=>none)=Ab b):∃ xs,S[i]? = Ab (.lst xs)/\f xs=Ab b:=by
 cases e:S[i]? with
 |none=>rw[e] at h;exact nn h
 |some m =>
  rw[e] at h;cases m with
  |lst xs=>exact⟨xs,rfl,h⟩
  |_=>exact nn h
inductive ItV (d:D)(xs:Aa D):Prop
 |tup (e:d=.tup xs)
 |lst (e:d=.lst xs)
noncomputable def V1 {β:Type}(S:Sto)(n:Af)(f:Aa D->Res β) : Res β:=match S[n]? with
 |some (.lst xs)=>f xs
 |_=>.bad
theorem gD {X:Cx}{β:Type}{n:Af}{f:Aa D->Res β}{P:Hp}{α:Aa Ad}{Ok:β->Sto->Prop}(h:qJ X P α (V1 S n f) Ok):∃ xs,S[n]? = Ab (.lst xs)/\qJ X P α (f xs) Ok:=by
 unfold V1 at h;cases e:S[n]? with
 |none=>rw[e] at h;exact Am h
 |some m =>
  rw[e] at h;cases m with
  |lst xs=>exact⟨xs,rfl,h⟩
  |_=>exact Am h
noncomputable def zH:D->Al (Aa D)
 |.tup xs=>Ab xs
 |.lst xs=>Ab xs
 |_=>none
theorem itV {d:D}{xs:Aa D}(h:zH d=Ab xs):ItV d xs:=by
 cases d with
 |tup ys=>exact .tup (congrArg D.tup (Bx h))
 |lst ys=>exact .lst (congrArg D.lst (Bx h))
 |_=>exact nn h
noncomputable def w4 (f:DE):DI:=λenv S=>(f env S).bind λd S1=>vW (zH d) S1
section
variable {X:Cx}{K:Ah}{tg e:Bd}{fa:DE}{pos:Do}
theorem XD {P:Hp}{α:Aa Ad}{a:Ad}{ds:Aa D}(q:SqL K P a vs)(t:qE K P α ds vs):ItD K (Itl K a) P α ds where
 go:=λi H P1 α1 S hi r e _=>⟨vs,vs[i]'(by rw[<- t.length];exact hi),(e.trans r.sub).seq q,by simp⟩
 yld:=λi H x H' P1 α1 S hi r e e2 y=>by
  obtain⟨rfl,y⟩:=y;have hx:=y vs ((e.trans r.sub).seq q);obtain⟨v,h1,h2⟩:=t.get (AW hi);rw[hx] at h1;cases h1;exact⟨P1,_,AW hi,r,qF.refl _,Rep.mono e e2 _ _ h2⟩
 stop:=λi H P1 α1 S hi r e _=>⟨vs,(e.trans r.sub).seq q,by rw[<- t.length];exact hi⟩
theorem JG {P:Hp}{α:Aa Ad}{a:Ad}{ds:Aa D}(q:SqT K P a vs)(t:qE K P α ds vs):ItD K (Itt K a) P α ds where
 go:=λi H P1 α1 S hi r e _=>⟨vs,vs[i]'(by rw[<- t.length];exact hi),yC (e.trans r.sub) q,by simp⟩
 yld:=λi H x H' P1 α1 S hi r e e2 y=>by
  obtain⟨rfl,y⟩:=y;have hx:=y vs (yC (e.trans r.sub) q);obtain⟨v,h1,h2⟩:=t.get (AW hi);rw[hx] at h1;cases h1;exact⟨P1,_,AW hi,r,qF.refl _,Rep.mono e e2 _ _ h2⟩
 stop:=λi H P1 α1 S hi r e _=>⟨vs,yC (e.trans r.sub) q,by rw[<- t.length];exact hi⟩
theorem lZ {pins:Aa (Ad × Bq)}{σ:_L.St}{H P:Hp}{α:Aa Ad}{s:Ag}{v:V}{d:D}{ds:Aa D}(I:Inv X pins σ H s)(r:Rel X.K H P α S)(rv:qM v vv)(rp:Rep X.K P α d v)(hd:zH d=Ab ds)
  (q:OkI X P α R ds S):Ar (Au X.prog X.w) X.A (OL vv) (PIE X pins σ tg R) X.xe s:=by
 cases d with
 |tup xs =>
  cases hd;simp only[Rep] at rp;obtain⟨a,vs,rfl,sq,t⟩:=rp;cases rv;obtain⟨its,rv,p,hz⟩:=I.tuple (xA r.sub sq);refine Hj (show s.heap.IsTuple a its.toArray from p) ?_
  refine⟨s.heap.objs.size,[s.heap.objs.size],_,_,H,rfl,I.kept (t':=s.toks) λb o e=>Ak _ e,aU a _,⟨_,Bb _ rfl,rfl,rfl⟩,λb hb=>?_,q _ _ P α r (qF.refl _) (AU _) (JG sq t)⟩;have e:b=s.heap.objs.size:=by simpa using hb
  subst e;exact I.fpOk (Aq _) (I.hok.fresh (Aq _))
 |lst xs =>
  cases hd;simp only[Rep] at rp;obtain⟨a,vs,rfl,sq,t⟩:=rp;cases rv;obtain⟨its,rv,p,hz⟩:=I.list ((xF r.sub sq).l);refine Gr p.isList ?_;refine⟨s.heap.objs.size,[s.heap.objs.size],_,_,H,rfl,I.kept (t':=s.toks) λb o e=>Ak _ e,nK a _,⟨_,Bb _ rfl,rfl,rfl⟩,λb hb=>?_,q _ _ P α r (qF.refl _) (AU _) (XD sq.l t)⟩;have e:b=s.heap.objs.size:=by simpa using hb
  subst e;exact I.fpOk (Aq _) (I.hok.fresh (Aq _))
 |_=>cases hd
theorem OkI.base {P P1:Hp}{α α1:Aa Ad}{ds:Aa D}(e:qF P P1)(h:α<+:α1)(k:OkI X P α R ds S):OkI X P1 α1 R ds S:=λJ H' P' α' r q1 q2 q3=>k J H' P' α' r (e.trans q1) (h.trans q2) q3
theorem BN (ha:PE X e (tD X fa)):PI X tg e (tDI X (w4 fa)):=by
 intro pins s σ H R I h;obtain⟨P,α,env,S,r,re,af⟩:=h;refine thn (zM ha I r re af) λvv s1 ⟨v,H1,P1,α1,d,S1,G1,af1⟩=>?_;obtain⟨ds,e1,q⟩:=uD af1;exact lZ G1.inv G1.rel G1.val G1.rep e1 (q.base G1.same G1.pre)
noncomputable def xE (lo:Aj)(n:Af):Aa D:=(Cw n).map λ(i:Af)=>D.int (lo+(i:Aj))
theorem yS (lo:Aj)(n:Af):(xE lo n).length=n:=by simp[xE]
theorem n8 {P:Hp}{α:Aa Ad}{lo:Aj}{n:Af}:ItD K (Itr lo n) P α (xE lo n) where
 go:=λi H P1 α1 S hi r e _=>by rw[yS] at hi;exact hi
 yld:=λi H x H' P1 α1 S hi r e e2 y=>by
  obtain⟨rfl,rfl⟩:=y;rw[yS] at hi;exact⟨P1,.int (lo+i),by simp[xE,hi],r,qF.refl _,by simp only[Rep]⟩
 stop:=λi H P1 α1 S hi r e _=>by rw[yS] at hi;exact hi
noncomputable def yU (ds:Aa D):Al (Aa D):=match ds with
 |[.int j]=>if -(2 ^ 62)<=j/\j<2 ^ 62 then Ab (xE 0 j.toNat) else none
 |[.int i,.int j]=>if -(2 ^ 62)<=i/\i<2 ^ 62 /\ -(2 ^ 62)<=j/\j<2 ^ 62 then Ab (xE i (j-i).toNat) else none
 |_=>none
noncomputable def mP (f:DA):DI:=λenv S=>(f env S).bind λds S1=>vW (yU ds) S1
noncomputable def asI:D->Al Aj
 |.int i=>Ab i
 |_=>none
theorem bD {d:D}{i:Aj}(h:asI d=Ab i):d=.int i:=by
 cases d with
 |int k=>exact congrArg D.int (Bx h)
 |_=>exact nn h
inductive RngV:Aa D->Aa D->Prop
 |one (j:Aj) (h : -(2 ^ 62)<=j/\j<2 ^ 62):RngV [.int j] (xE 0 j.toNat)
 |two (i j:Aj) (h : -(2 ^ 62)<=i/\i<2 ^ 62 /\ -(2 ^ 62)<=j/\j<2 ^ 62):RngV [.int i,.int j] (xE i (j-i).toNat)
theorem RC (d:D):yU [d]=(asI d).bind λj=>if -(2 ^ 62)<=j/\j<2 ^ 62 then Ab (xE 0 j.toNat) else none:=by cases d <;> rfl
theorem RD (d d':D):yU [d,d']=(asI d).bind λi=>(asI d').bind λj=>if -(2 ^ 62)<=i/\i<2 ^ 62 /\ -(2 ^ 62)<=j/\j<2 ^ 62 then Ab (xE i (j-i).toNat) else none:=by
 cases d with
 |int i=>cases d' <;> rfl
 |_=>rfl
theorem eZ {ds its:Aa D}(h:yU ds=Ab its):RngV ds its:=by
 cases ds with
 |nil=>exact nn h
 |cons d ds =>
  cases ds with
  |nil =>
   obtain⟨j,e,h⟩:=Dq.mp ((RC d).symm.trans h);obtain⟨c,rfl⟩:=g6 h;rw[bD e];exact .one j c
  |cons d' ds =>
   cases ds with
   |nil =>
    obtain⟨i,e,h⟩:=Dq.mp ((RD d d').symm.trans h);obtain⟨j,e',h⟩:=Dq.mp h;obtain⟨c,rfl⟩:=g6 h;rw[bD e,bD e'];exact .two i j c
   |cons _ _ =>
    have h0:∀ d'' t,yU (d::d'::d''::t)=none:=λd'' t=>by cases d <;> first|rfl|(cases d' <;> rfl)
    exact nn ((h0 _ _).symm.trans h)
theorem wU {P:Hp}{α:Aa Ad}{i:Aj}{ds:Aa D}(r:qE K P α (.int i::ds) vs):∃ ws,vs=.int i::ws/\qE K P α ds ws:=by
 obtain⟨w,ws,rfl,p,t⟩:=r.cons_inv;exact⟨ws,congrArg (· :: ws) (by simpa only [Rep] using p),t⟩
theorem PI.weak {iter:Bd}{t t':TI}(h:PI X tg iter t)(w:∀ σ H R,t' σ H R->t σ H R):PI X tg iter t':=λpins s σ H R I q=>h pins s σ H R I (w σ H R q)
end
section
variable {X:Cx}{tg a b:Bd}{f:DA}{p pos:Do}
theorem ZV {e:Bd}{es:Aa Bd}(hg:Gl X "range")(hm:X.mg "range" = none)(ha:PA X (e::es) (tDA X f))(hs:Az (e::es) X.env=(false,eval e X.env)::Az es X.env:=by rfl)(hpl:(Eo pos (Az es X.env)).any (·.1)=false:=by rfl) :
  PI X tg (.Call (.Name "range" p) (e::es) [] pos) (tDI X (mP f)):=by
 intro pins s σ H R I h;obtain⟨P,α,env,S,r,re,af⟩:=h;refine Xr (wX I hg hm Wy (DL (thn (w5 ha I r re af pos) λus s1 ⟨vs,H1,P1,α1,ds,S1,I1,rv,r1,re1,rp,e1,e2,af1⟩=>?_) hs hpl));obtain⟨its,hi,q⟩:=uD af1;cases eZ hi with
 |one j c =>
  obtain⟨ws,rfl,t1⟩:=wU rp;cases t1.nil_inv;obtain⟨u,rfl,t,rfl⟩:=uA rv;refine call_range_1 (sC I1 om om c.1 c.2 ?_);have z:=q (Itr 0 j.toNat) H1 P1 α1 r1 e1 e2 n8;rw[Tx];exact z
 |two i j c =>
  obtain⟨ws,rfl,t1⟩:=wU rp;obtain⟨ws2,rfl,t2⟩:=wU t1;cases t2.nil_inv;obtain⟨u,u',rfl,⟨t,rfl⟩,t',rfl⟩:=mC rv;exact call_range_2 (sC I1 c.1 c.2.1 c.2.2.1 c.2.2.2 (q (Itr i (j-i).toNat) H1 P1 α1 r1 e1 e2 n8))
noncomputable def xI (g:DG)(f:DS):Aa D->qD->Sto->Out
 |[],env,S=>.nx env S
 |d::ds,env,S=>(g d env S).toS env λenv1 S1=>match f env1 S1 with
  |.nx env2 S2=>xI g f ds env2 S2
  |.ct env2 S2=>xI g f ds env2 S2
  |.bk env2 S2=>.nx env2 S2
  |o=>o
noncomputable def wW (fi:DI)(g:DG)(f:DS):DS:=λenv S=>(fi env S).toS env λds S1=>xI g f ds env S1
inductive LoopW (X:Cx)(P1:Hp)(α1:Aa Ad)(g:DG)(f:DS)(ds:Aa D)(D:Ends)(i m:Af)(σ : _L.St)(H:Hp):Prop
 |mk (hi:i<=ds.length) (hm:m=ds.length-i) (P2:Hp) (α2:Aa Ad) (env2:qD) (S2:Sto) (r:Rel X.K H P2 α2 S2) (re:qZ X.K P2 α2 σ env2) (e1:qF P1 P2) (e2:α1<+:α2) (af:z0 X P2 α2 (xI g f (ds.drop i) env2 S2) D):LoopW X P1 α1 g f ds D i m σ H
theorem BS {iter:Bd}{fi:DI}{g:DG}{f:DS}(hp:Mv (Au X.prog X.w) X.A X.env X.xe)(hc:X.calm=true)(hi:PI X tg iter (tDI X fi))(hg:PG X tg (tDG X g))(hb:PSs X body (tDS X f))
  (hs:∀ x,Gq iter X.env x=pure x:=by intro _;rfl):PS X (.For tg iter body [] pos) (tDS X (wW fi g f)):=psW (TU hp hc hi hg hb hs) λD σ H ⟨P,α,env,S,r,re,af⟩=>by
 refine⟨P,α,env,S,r,re,?_⟩;have af1:=xN af;cases q:fi env S with
 |bad=>rw[q] at af1;exact af1
 |ex c x S'=>rw[q] at af1;exact af1
 |ok ds S1 =>
  rw[q] at af1;have af2:z0 X P α (xI g f ds env S1) D:=af1;intro J H1 P1 α1 r1 e1 e2 it;refine⟨LoopW X P1 α1 g f ds D,
   ⟨ds.length,Hn _,rfl,P1,α1,env,S1,r1,re.mono e1 e2,qF.refl _,AU _,z0.base e1 e2 af2⟩,?_⟩
  rintro i m σ2 H2 ⟨hi,rfl,P2,α2,env2,S2,r2,re2,e3,e4,af3⟩;by_cases hlt:i<ds.length
  .refine .inr ⟨it.go i H2 P2 α2 S2 hlt r2 e3 e4,LoopW X P1 α1 g f ds D (i+1) (ds.length-(i+1)),λσ' H' w=>⟨_,?_,w⟩,λx H3 y=>?_⟩
   .omega
   .obtain⟨P3,d,hd,r3,e5,rp⟩:=it.yld i H2 x H3 P2 α2 S2 hlt r2 e3 e4 y
    have hdr:ds.drop i=d::ds.drop (i+1):=by
     rw[Fz hlt];rw[AW hlt] at hd;rw[Bx hd]
    rw[hdr] at af3;have af4:=xN (z0.base e5 (AU _) af3);refine⟨P3,α2,env2,S2,d,r3,re2.mono e5 (AU _),rp,?_⟩;cases q2:g d env2 S2 with
    |bad=>rw[q2] at af4;exact af4
    |ex c x S'=>rw[q2] at af4;exact af4
    |ok env3 S3 =>
     rw[q2] at af4;intro σ4 H4 P4 α4 r4 re4 e6 e7;refine⟨P4,α4,env3,S3,r4,re4,?_⟩;have af5:=z0.base e6 e7 af4;cases q3:f env3 S3 with
     |bad=>simp only[q3] at af5;exact af5
     |ex c x env4 S4=>simp only[q3] at af5;exact af5
     |rt d4 S4=>simp only[q3] at af5;exact af5
     |bk env4 S4=>simp only[q3] at af5;exact af5
     |nx env4 S4 =>
      simp only[q3] at af5;exact λσ5 H5 P5 α5 r5 re5 e8 e9=>⟨hlt,rfl,P5,α5,env4,S4,r5,re5,((e3.trans e5).trans e6).trans e8,(e4.trans e7).trans e9,z0.base e8 e9 af5⟩
     |ct env4 S4 =>
      simp only[q3] at af5;exact λσ5 H5 P5 α5 r5 re5 e8 e9=>⟨hlt,rfl,P5,α5,env4,S4,r5,re5,((e3.trans e5).trans e6).trans e8,(e4.trans e7).trans e9,z0.base e8 e9 af5⟩
  .have hdr:ds.drop i=[]:=Ps om
   rw[hdr] at af3;exact .inl ⟨it.stop i H2 P2 α2 S2 om r2 e3 e4,af3 σ2 H2 P2 α2 r2 re2 (qF.refl _) (AU _)⟩
end
abbrev DF:=Aa D->Sto->Res D
section
variable {X:Cx}{x:An}{p pos:Do}{e:Bd}{es:Aa Bd}{F:DF}{fa:DA}
noncomputable def qQ (F:DF)(fa:DA):DE:=λenv S=>(fa env S).bind λds S1=>F ds S1
theorem tR {pins:Aa (Ad × Bq)}{s1:Ag}{σ:_L.St}{H1 P P1:Hp}{α α1:Aa Ad}{ds:Aa D}(hc:xJ X u F)(I1:Inv X pins σ H1 s1)(r1:Rel X.K H1 P1 α1 S1)(rv:qN vs us)
  (rp:qE X.K P1 α1 ds vs) (e1:qF P P1) (e2:α<+:α1) (af:qJ X P α (F ds S1) (OkV X P α Q)):Ar (Au X.prog X.w) X.A (call u us) (EP X pins σ Q) X.xe s1:=hc pins σ H1 s1 P1 α1 S1 vs us ds Q I1 r1 rv rp (qU.base e1 e2 af)
theorem ZO {id:Cs}(hc:xJ X (.builtin id) F)(hg:Gl X x)(hm:X.mg x=none)(hv:El x=Ab (.builtin id))(ha:PA X (e::es) (tDA X fa))(hn:x ≠ "__name__":=by decide)(hdb:(x == ("__debug__" : An))=false:=by decide)
  (he:Az (e::es) X.env=(false,eval e X.env)::Az es X.env:=by rfl) (hpl:(Eo pos (Az es X.env)).any (·.1)=false:=by rfl):PE X (.Call (.Name x p) (e::es) [] pos) (tD X (qQ F fa)):=by
 intro pins s σ H Q I h;obtain⟨P,α,env,S,r,re,af⟩:=h;refine Ge (wX I hg hm hv ?_ hn hdb);exact Ml (thn (w5 ha I r re af pos) λus s1 ⟨vs,H1,P1,α1,ds,S1,I1,rv,r1,re1,rp,e1,e2,af1⟩=>tR hc I1 r1 rv rp e1 e2 af1) he hpl
theorem iF {T:Cs}(hc:xJ X (.type T) F)(hg:Gl X x)(hm:X.mg x=none)(hv:El x=Ab (.type T))(ha:PA X (e::es) (tDA X fa))(hn:x ≠ "__name__":=by decide)(hdb:(x == ("__debug__" : An))=false:=by decide)
  (he:Az (e::es) X.env=(false,eval e X.env)::Az es X.env:=by rfl) (hpl:(Eo pos (Az es X.env)).any (·.1)=false:=by rfl):PE X (.Call (.Name x p) (e::es) [] pos) (tD X (qQ F fa)):=by
 intro pins s σ H Q I h;obtain⟨P,α,env,S,r,re,af⟩:=h;refine Ge (wX I hg hm hv ?_ hn hdb);exact DL (thn (w5 ha I r re af pos) λus s1 ⟨vs,H1,P1,α1,ds,S1,I1,rv,r1,re1,rp,e1,e2,af1⟩=>tR hc I1 r1 rv rp e1 e2 af1) he hpl
end
theorem z9.there {P:AV}{w:Bk}{H:Hp}{h:Bc}{a:Ad}{o:HO}(x:z9 P w H h a o):∃ ob,h.get? a=Ab ob:=by
 cases o with
 |lst xs=>obtain⟨_,_,_,_,e⟩:=x;exact⟨_,e⟩
 |tup xs=>obtain⟨_,_,_,ob,e,_⟩:=x;exact⟨_,e⟩
 |dK kvs=>obtain⟨_,_,_,_,o,_,_,e,_⟩:=x;exact⟨_,e⟩
 |dT kvs=>obtain⟨_,_,_,_,o,_,_,e,_⟩:=x;exact⟨_,e⟩
 |set S n=>obtain⟨o,_,_,_,e,_⟩:=x;exact⟨_,e⟩
 |ins C dx fs=>obtain⟨_,_,_,e,_⟩:=x;exact⟨_,e⟩
 |own y=>obtain⟨_,e⟩:=x;exact⟨_,e⟩
 |xd fs=>obtain⟨_,⟨_,_,_,e,_⟩,_⟩:=x;exact⟨_,e⟩
 |rng lo hi=>obtain⟨_,_,_,e⟩:=x;exact⟨_,e⟩
 |frz ob u=>obtain⟨e,_⟩:=x;exact⟨_,e⟩
 |tbl ps=>exact⟨_,show h.get? a=Ab _ from x⟩
 |met f y=>exact⟨_,show h.get? a=Ab _ from x⟩
 |ext φ => obtain⟨_,e,_⟩:=x;exact e
section
variable {X:Cx}{pins:Aa (Ad × Bq)}{σ : _L.St}{H:Hp}{s:Ag}{B h':Bc}
abbrev Fn1 (X:Cx):Prop:=X.ex=[]/\X.stack=X.env::X.outer/\X.env.frame=Ab X.env.locals
theorem Fn1.mem (F:Fn1 X){b:Ad}:b∈frs X.stack↔b=X.env.locals\/b∈X.fs:=by
 rw[F.2.1];unfold frs;rw[Gx,F.2.2];exact Bg
theorem Old.there (I:Inv X pins σ H s)(F:Fn1 X){b:Ad}(o:Old X pins H b):∃ ob,s.heap.get? b=Ab ob:=by
 rcases o with⟨o,e⟩|e|⟨p,hp,rfl⟩|⟨x,e⟩
 .exact I.base.there b o e (by rw[F.1];simp)
 .cases q:H b with
  |none=>exact absurd q e
  |some u=>exact z9.there (I.hok b u q)
 .exact⟨_,(I.pin p hp).1⟩
 .obtain⟨v,ob,ho,_⟩:=I.cell x b e
  exact⟨ob,ho⟩
theorem Inv.fly (I:Inv X pins σ H s)(F:Fn1 X)(cv:Cv X pins H B s.heap)(st:B.StaysIn h')(up:s.heap.UpToSlots h'):Inv X pins σ H { s with heap:=h' } /\ Cv X pins H B h':=by
 have kp:∀ b o,s.heap.get? b=Ab o->Old X pins H b->b ∉ frs X.stack->h'.get? b=Ab o:=λb o e q n=>st b o (cv b o e q n);have neL:∀ b o,X.s₀.heap.get? b=Ab o->b≠X.env.locals:=λb o e=>Bs (Aw (Ay e) I.ok.above);have nofr:∀ b o,X.s₀.heap.get? b=Ab o->b ∉ X.fs->b ∉ frs X.stack:=λb o e n z=>(F.mem.mp z).elim (neL b o e) n;have nx:∀ b,b ∉ X.ex:=λb=>by rw[F.1];simp
 have frU:∀ b,b∈frs X.stack->∀ o,s.heap.get? b=Ab o->∃ sl,h'.get? b=Ab { o with slots:=sl }:=λb hb o e=>by
  obtain⟨_,o',e',nf⟩:=I.stack.mem hb;rw[e] at e';cases e';exact up b o e nf
 have cellK:∀ x c,X.env.cells.lookup x=Ab c->∀ v,s.heap.IsCell c v->h'.IsCell c v:=λx c e v ⟨o,ho,hd⟩=>by
  obtain⟨sl,q⟩:=up c o ho λvs z=>by rw[hd] at z;cases z
  exact⟨_,q,hd⟩
 refine⟨⟨I.ok,I.os,I.bare,⟨λb o e n hb hx=>?_,λb o e n hb hx=>?_,I.base.free,λb o e hx=>?_,I.base.tups,I.base.frzs,I.base.tbls⟩,?_,λx c e=>?_,I.free,I.freeC,λp hp=>?_,λa o e=>?_,I.len⟩,λb o e q n=>?_⟩
 .exact kp b o (I.base.keep b o e n hb hx) (.inl ⟨o,e⟩) (nofr b o e hb)
 .obtain⟨sl,e1⟩:=I.base.slot b o e n hb hx
  obtain⟨sl',e2⟩:=frU b (F.mem.mpr (.inr hb)) _ e1;exact⟨sl',e2⟩
 .obtain⟨o',e1⟩:=I.base.there b o e hx
  by_cases hb:b∈frs X.stack
  .obtain⟨sl,e2⟩:=frU b hb _ e1
   exact⟨_,e2⟩
  .exact⟨o',kp b o' e1 (.inl ⟨o,e⟩) hb⟩
 .obtain⟨m,hn,hl⟩:=I.loc
  refine⟨m,up.ns hn,λi x v e1 e2 e3=>?_⟩;obtain⟨u,r,l⟩:=hl i x v e1 e2 e3;refine⟨u,r,?_⟩;rcases l with l|⟨k,c,e,z⟩
  .exact .inl l
  .exact .inr ⟨k,c,e,cellK x c e _ z⟩
 .obtain⟨v,z⟩:=I.cell x c e
  exact⟨v,cellK x c e v z⟩
 .obtain⟨e,n,ne,nf,d⟩:=I.pin p hp
  exact⟨kp p.1 p.2 e (.inr (.inr (.inl ⟨p,hp,rfl⟩))) λz=>(F.mem.mp z).elim ne nf,n,ne,nf,d⟩
 .refine(I.hok a o e).stay (λb u hb q=>?_) (λ_ q=>q) λ_ _ q=>q
  have hn:H b≠none:=by
   rcases hb with rfl|hb
   .rw[e];intro z;cases z
   .rw[hb];intro z;cases z
  exact kp b u q (.inr (.inl hn)) λz=>hn (I.stkFree b z)
 .obtain⟨o1,e1⟩:=Old.there I F q
  have e2:=cv b o1 e1 q n;have e3:=st b o1 e2;rw[e] at e3;cases e3;exact e2
theorem o7 {c:Ac}{e:Ad}{g:Bc}(I:Inv X pins σ H s)(hm:Rf g s.heap e c args)(hf:g.FunFrames X.base X.stack)(hk:∀ b o,s.heap.get? b=Ab o->Old X pins H b->g.get? b=Ab o) :
  (Mt g (frs X.stack)).StaysIn g/\g.FunFrames (Mt g (frs X.stack)) X.stack/\Cv X pins H (Mt g (frs X.stack)) s.heap:=
 ⟨λb o q=>Ti _ q,PySem.W.funFrames_hide hf λenv he a ha=>Gc.mpr ⟨env,he,ha⟩,λb o e q n=>Rx _ (hk b o e q) n⟩
theorem iY {M:Jl}{A:Bh}{E:Ac->Ag->Prop}{c:Ac}{e:Ad}{Q:Nh->Ag->Prop}(I:Inv X pins σ H s)(F:Fn1 X)(hA:A.frames=Ab X.stack)(f:FlyX X pins H c e s.heap)
  (hQ:∀ h' B a0,Nd B X.outer e c a0 h'->Inv X pins σ H { s with heap:=h' } -> Cv X pins H B h'->Q () { s with heap:=h' }) : Ar M A (leaving X.env (.ref e)) Q E s:=by
 cases f with
 |new g args hm hf hk =>
  obtain⟨k1,k2,k3⟩:=o7 I hm hf hk;rw[F.2.1] at hA;refine wpAny_leaves_madeW hA F.2.2 k1 (by rw[<- F.2.1];exact k2) hm λh' t x1 x2 x3 x4=>?_
  obtain⟨I1,cv1⟩:=Inv.fly I F k3 x1.1 x4;exact hQ h' _ _ x1 I1 cv1
 |fly B a0 fl cv =>
  rw[F.2.1] at hA;refine wpAny_leaves_onW hA F.2.2 (by rw[<- F.2.1];exact fl) λh' x1 x2=>?_
  obtain⟨I1,cv1⟩:=Inv.fly I F cv x1.1 x2;exact hQ h' _ _ x1 I1 cv1
end
def CXd (P:AV)(w:Bk):CXT:=λouter H s E u s' =>
 ∃ e c H' B a0,u=.ref e/\s'.os=s.os/\Lo s'.gens/\Un (frs outer) [] H H' s.heap s'.heap/\HOk P w H' s'.heap/\Nd B outer e c a0 s'.heap /\
  (∀ b o,s'.heap.get? b=Ab o->((∃ o,s.heap.get? b=Ab o)\/H' b≠none)->b ∉ frs outer->B.get? b=Ab o)/\E c none H'
section
variable {X:Cx}{pins:Aa (Ad × Bq)}{σ : _L.St}{H:Hp}{s s':Ag}
theorem F9 {E:XK}(I:Inv X pins σ H s)(F:Fn1 X)(h:CXd X.prog X.w X.stack H s E u s'):∃ e c H',u=.ref e/\Inv X pins σ H' s'/\FlyX X pins H' c e s'.heap/\E c none H':=by
 obtain⟨e,c,H',B,a0,rfl,os,bare,un,hok,fl,cov,q⟩:=h;have I':Inv X pins σ H' s':=Inv.call' I os un hok bare (ch:=[]) λb z=>absurd z (by simp)
 refine⟨e,c,H',rfl,I',.fly B a0 fl λb o eb old n=>cov b o eb ?_ n,q⟩;rcases old with⟨o,z⟩|z|⟨p,hp,rfl⟩|⟨x,z⟩
 .exact .inl (I.base.there b o z (by rw[F.1];simp))
 .exact .inr z
 .exact .inl ⟨_,(I.pin p hp).1⟩
 .obtain⟨v,ob,ho,_⟩:=I.cell x b z
  exact .inl ⟨ob,ho⟩
end
structure RoomC (cm:Ao)(k:Af)(A:Bh):Prop where
 hd:cm=true->A.handled=none
 dp:A.depth+3*k+5<Nn
 un:A.units+16*k+200<Hz
 gd:A.guards=Ab []
theorem RoomC.mono {cm:Ao}{j k:Af}{A:Bh}(r:RoomC cm k A)(h:j<=k:=by decide):RoomC cm j A:=⟨r.hd,by have:=r.dp;omega,by have:=r.un;omega,r.gd⟩
theorem RoomC.deeper {cm:Ao}{k:Af}{A:Bh}(r:RoomC cm (k+1) A)(env:Gv):RoomC cm k (A.deeper env):=
 ⟨r.hd,by have:=r.dp;show A.depth+1+3*k+5<_;omega,by have:=r.un;show A.units+3+16*k+200<_;omega,r.gd⟩
theorem RoomC.depth {cm:Ao}{k:Af}{A:Bh}(r:RoomC cm k A):A.depth<Nn:=by have:=r.dp;omega
theorem RoomC.units {cm:Ao}{k:Af}{A:Bh}(r:RoomC cm k A):A.units+64<Hz:=by have:=r.un;omega
theorem RoomC.of {k:Af}{A:Bh}(r:Room k A):RoomC true k A:=⟨λ_=>r.hd,r.dp,r.un,r.gd⟩
theorem RoomC.any {cm:Ao}{k:Af}{A:Bh}(r:RoomC cm k A):RoomC false k A:=⟨(λz=>nomatch z),r.dp,r.un,r.gd⟩
theorem RoomC.mark {cm:Ao}{k:Af}{A:Bh}(r:RoomC cm k A)(h:Al Ac):RoomC false k (A.mark h):=⟨(λz=>nomatch z),r.dp,r.un,r.gd⟩
abbrev Cx.re (X:Cx)(A:Bh)(cm:Ao)(E:Ac->Ag->Prop):Cx:={ X with A:=A,calm:=cm,xe:=E }
theorem Inv.re {X:Cx}{pins:Aa (Ad × Bq)}{σ:_L.St}{H:Hp}{s:Ag}(I:Inv X pins σ H s)(A:Bh)(cm:Ao)(E:Ac->Ag->Prop)(hf:A.frames=Ab X.stack)(hh:cm=true->A.handled=none):Inv (Cx.re X A cm E) pins σ H s:=
 ⟨⟨I.ok.mod,I.ok.kind,I.ok.glob,I.ok.blt,I.ok.above,I.ok.inj,I.ok.has,I.ok.cab,hh,hf,I.ok.stk,I.ok.exf,I.ok.bs,I.ok.bsz,I.ok.noex,I.ok.exfs,I.ok.funs,I.ok.frf⟩,I.os,I.bare,I.base,I.loc,I.cell,I.free,I.freeC,I.pin,I.hok,I.len⟩
theorem Inv.unre {X:Cx}{pins:Aa (Ad × Bq)}{σ:_L.St}{H:Hp}{s:Ag}{A:Bh}{cm:Ao}{E:Ac->Ag->Prop}(I:Inv (Cx.re X A cm E) pins σ H s)(hf:X.A.frames=Ab X.stack)(hh:X.calm=true->X.A.handled=none):Inv X pins σ H s:=
 ⟨⟨I.ok.mod,I.ok.kind,I.ok.glob,I.ok.blt,I.ok.above,I.ok.inj,I.ok.has,I.ok.cab,hh,hf,I.ok.stk,I.ok.exf,I.ok.bs,I.ok.bsz,I.ok.noex,I.ok.exfs,I.ok.funs,I.ok.frf⟩,I.os,I.bare,I.base,I.loc,I.cell,I.free,I.freeC,I.pin,I.hok,I.len⟩
structure FnX (P:AV)(w:Bk)(K:Ah)(mg:An->Al Ac)(base:Bc)(cm:Ao)(k:Af)(f:Ad)(fd:Ej)(ps:Aa An)(sp:Sp):Prop where
 len:∀ vs H Q E,sp vs H Q E->vs.length=ps.length
 run:∀ (A:Bh) (outer:Aa Gv) (s:Ag) (H:Hp) (args:Args) (us:Aa Ac) (vs:Aa V) (Q:VK) (E:XK),RoomC cm k A->Env0 P w K mg base A outer s H->Lr s fd args (ps.zip us)->qN vs us->sp vs H Q E ->
  Hi (Au P w) A (.call (.ref f) args) (CR (CXd P w) outer P w H s Q E) s
theorem FnX.ok {P:AV}{w:Bk}{K:Ah}{mg:An->Al Ac}{base:Bc}{k:Af}{f:Ad}{fd:Ej}{ps:Aa An}(F:FnX P w K mg base true k f fd ps sp):FnOk P w K mg base (CXd P w) k f fd ps sp:=
 ⟨F.len,λA outer s H args us vs Q E hr=>F.run A outer s H args us vs Q E (.of hr)⟩
theorem FnX.any {P:AV}{w:Bk}{K:Ah}{mg:An->Al Ac}{base:Bc}{cm:Ao}{k:Af}{f:Ad}{fd:Ej}{ps:Aa An}(F:FnX P w K mg base false k f fd ps sp):FnX P w K mg base cm k f fd ps sp:=
 ⟨F.len,λA outer s H args us vs Q E hr=>F.run A outer s H args us vs Q E hr.any⟩
theorem FnX.imp {P:AV}{w:Bk}{K:Ah}{mg:An->Al Ac}{base:Bc}{cm:Ao}{k:Af}{f:Ad}{fd:Ej}{ps:Aa An}{sp':Sp}(F:FnX P w K mg base cm k f fd ps sp)
  (h:∀ vs H Q E,sp' vs H Q E->sp vs H Q E):FnX P w K mg base cm k f fd ps sp':=
 ⟨λvs H Q E q=>F.len vs H Q E (h _ _ _ _ q),λA outer s H args us vs Q E hr he hb hv hs=>F.run A outer s H args us vs Q E hr he hb hv (h _ _ _ _ hs)⟩
noncomputable def cxC (cm:Ao)(P:AV)(w:Bk)(K:Ah)(mg:An->Al Ac)(base:Bc)(N:Aa An)(qual:An)(scope:Di)(f:Ad)(cd:Ac)(A:Bh)(outer:Aa Gv)(s:Ag)(H:Hp)(E:XK):Cx where
 prog:=P
 w:=w
 K:=K
 mg:=mg
 base:=base
 A:=A.deeper (EQ qual scope s.heap.objs.size f cd)
 N:=N
 s₀:=s
 H₀:=H
 env:=EQ qual scope s.heap.objs.size f cd
 outer:=outer
 stack:=EQ qual scope s.heap.objs.size f cd::outer
 ex:=[]
 calm:=cm
 fn:=λ_=>true
 pn:=[]
 xe:=λe s'=>Ar (Au P w) (A.deeper (EQ qual scope s.heap.objs.size f cd)) (leaving (EQ qual scope s.heap.objs.size f cd) e) (λ_ s''=>CXd P w outer H s E e s'') (λe' s''=>CXd P w outer H s E e' s'') s'
section
variable {P:AV}{w:Bk}{K:Ah}{mg:An->Al Ac}{base:Bc}{cm:Ao}{N:Aa An}{qual:An}{scope:Di}{f:Ad}{cd:Ac}{A:Bh}{outer:Aa Gv}{s:Ag}{H:Hp}{E:XK}
theorem ZL:Mv (Au P w) (A.deeper (EQ qual scope s.heap.objs.size f cd)) (EQ qual scope s.heap.objs.size f cd) (cxC cm P w K mg base N qual scope f cd A outer s H E).xe:=PassesOwn.leaving (Q₁:=λe s''=>CXd P w outer H s E e s'')
abbrev xeL (P:AV)(w:Bk)(A:Bh)(env:Gv)(outer:Aa Gv)(H:Hp)(s:Ag)(E:XK):Ac->Ag->Prop:=λe s'=>Ar (Au P w) (A.deeper env) (leaving env e) (λ_ s''=>CXd P w outer H s E e s'') (λe' s''=>CXd P w outer H s E e' s'') s'
theorem lN {X:Cx}{P0:Hp}{α:Aa Ad}{c:Ac}{x:D}{s':Ag}(hA:X.A=A.deeper X.env)(k:XOk X P0 α c x S u s')
  (q:∀ H' P' α',Rel X.K H' P' α' S->qF P0 P'->α<+:α'->E c none H'):xeL X.prog X.w A X.env X.outer X.H₀ X.s₀ E u s':=by
 obtain⟨e,pins,σ,H1,P1,α1,rfl,I,r,e1,e2,F,fl⟩:=k;unfold xeL;rw[<- hA];refine iY I F I.ok.frames fl λh' B a0 x1 I1 cv=>?_;refine⟨e,c,H1,B,a0,rfl,I1.os,I1.bare,by have z:=I1.base;rw[F.1] at z;exact z,I1.hok,x1,λb o eb hb n=>cv b o eb ?_ λz=>?_,q H1 P1 α1 r e1 e2⟩
 .rcases hb with z|z
  .exact .inl z
  .exact .inr (.inl z)
 .rcases (Fn1.mem F).mp z with z|z
  .subst z
   rcases hb with⟨o',e'⟩|z
   .exact absurd (Ay e') (Ss.mpr I1.ok.above)
   .exact z I1.free
  .exact n z
theorem cY {ps:Aa An}{s1:Ag}(S:FnScope N ps scope)(hd:cm=true->A.handled=none)(e0:Env0 P w K mg base A outer s H)(hl:vs.length=ps.length)(r:qN vs us)
  (x:InCallC s s.heap.objs.size (Sj (EQ qual scope s.heap.objs.size f cd).kindOf (ps.zip us) λ_=>none) (Fx (s.heap.objs.size+1) scope.names []) (Sk (EQ qual scope s.heap.objs.size f cd).kindOf (ps.zip us) λ_=>none) s1) :
  Inv (cxC cm P w K mg base N qual scope f cd A outer s H E) [] (_L.xM N vs) H s1:=by
 have I:=n6 (CX:=CXd P w) (E:=E) (A:={ A with handled:=none }) S rfl ⟨e0.frames,e0.mod,e0.bs,e0.bsz,e0.funs,e0.frf,e0.hok,e0.bare⟩ hl r x
 have J:=Inv.re I (A.deeper (EQ qual scope s.heap.objs.size f cd)) cm (cxC cm P w K mg base N qual scope f cd A outer s H E).xe (Mn e0.frames) hd;exact J
end
theorem iO {P:AV}{w:Bk}{K:Ah}{mg:An->Al Ac}{base:Bc}{cm:Ao}{k:Af}{f:Ad}{qual:An}{params:Mw}{scope:Di}{oc:Ac}{an:Al Ad}{osl:AZ (Al Ac)}{x:An}{kV doc pm cdv ct:Ac}{N ps:Aa An}
  {A:Bh} {outer:Aa Gv} {s:Ag} {H:Hp} {args:Args} {us:Aa Ac} {vs:Aa V} {Q:VK} {E:XK} (lk:K.lookup f=Ab ⟨oc,od,.func (Fd x qual params body scope .none kV doc pm an cdv ct),osl⟩) (hcd:Jf K cdv qual=true) (S:FnScope N ps scope) (hl:vs.length=ps.length) (hr:RoomC cm (k+1) A)
  (e0:Env0 P w K mg base A outer s H) (hb:Lr s (Fd x qual params body scope .none kV doc pm an cdv ct) args (ps.zip us)) (r:qN vs us)
  (hbody:∃ t,PSs (cxC cm P w K mg base N qual scope f cdv A outer s H E) body t/\t { nx:=λ_ H'=>Q .non H',rt:=Q } (_L.xM N vs) H) :
  Hi (Au P w) A (.call (.ref f) args) (CR (CXd P w) outer P w H s Q E) s:=by
 have KX:K.In s.heap:=e0.mod.kin.keeps λb o e=>(e0.bs b o e).1;have lim:s.heap.NoLimit:=e0.mod.nolimit.keeps λb o e=>(e0.bs b o e).1;have hkind:∀ y∈ps.zip us,scope.names.lookup y.1=Ab .local \/ (scope.names.lookup y.1=Ab .cell/\((Fx (s.heap.objs.size+1) scope.names []).lookup y.1).isSome=true):=λ⟨n,v⟩ hy=>by
  rcases S.par n (Ka hy).1 with q|q
  .exact .inl q
  .exact .inr ⟨q,IJ _ _ _ (.inl q)⟩
 refine Qn hr.depth (KX _ _ lk) rfl S.co S.gen rfl (Tk KX hcd) (hb _ _ _ _ ?_);refine Of S.kind hkind λenv he s1 x=>?_;subst he;refine⟨lim.keeps x.toInCall.keep,codeAny_func ?_⟩;obtain⟨t,ht,hq⟩:=hbody;have I:Inv (cxC cm P w K mg base N qual scope f cdv A outer s H E) [] (_L.xM N vs) H s1:=cY S hr.hd e0 hl r x;refine Gj (ht [] s1 (_L.xM N vs) H _ I hq) (λfl s' hs=>?_) λe s' hs=>hs;have fin:∀ {σ' : _L.St} {H':Hp} {v:V} {u:Ac},Inv (cxC cm P w K mg base N qual scope f cdv A outer s H E) [] σ' H' s'->qM v u->Q v H'->CE outer P w H s Q u s':=
  λ{σ' H' v u} J rv q=>⟨v,H',J.os,J.bare,J.base,J.hok,rv,q⟩
 cases fl with
 |ret u =>
  obtain⟨v,σ',H',J,rv,q⟩:=hs;exact fin J rv q
 |next =>
  obtain⟨σ',H',J,q⟩:=hs;exact fin (v:=V.non) (u:=Dd) J rfl q
 |brk =>
  obtain⟨_,_,_,q⟩:=hs;exact Am q
 |cont =>
  obtain⟨_,_,_,q⟩:=hs;exact Am q
def kO (K:Ah)(x:An)(cdv:Ac):Prop:=∀ c T,Co K x=Ab (c,T)->cdv=.ref c
theorem FA {P:AV}{w:Bk}{K:Ah}{mg:An->Al Ac}{base:Bc}{cm:Ao}{k:Af}{f:Ad}{x qual:An}{st:Ds}{fd:Ej}{N ps:Aa An}(F:Fun K x qual st f fd)(S:FnScope N ps (qG st))
  (len:∀ vs H Q E,sp vs H Q E->vs.length=ps.length)
  (hbody:∀ (cdv:Ac) (A:Bh) (outer:Aa Gv) (s:Ag) (H:Hp) (vs:Aa V) (Q:VK) (E:XK),fd.code=cdv/\Mod K mg base->RoomC cm k (A.deeper (EQ qual (qG st) s.heap.objs.size f cdv))->sp vs H Q E ->
   ∃ t,PSs (cxC cm P w K mg base N qual (qG st) f cdv A outer s H E) (zI st) t/\t { nx:=λ_ H'=>Q .non H',rt:=Q } (_L.xM N vs) H) :
  FnX P w K mg base cm (k+1) f fd ps sp:=by
 obtain⟨oc,od,kV,doc,pm,an,cdv,ct,osl,rfl,lk,hcd⟩:=F.ex;exact⟨len,λA outer s H args us vs Q E hr e0 hb r hsp=>iO lk hcd S (len _ _ _ _ hsp) hr e0 hb r (hbody cdv A outer s H vs Q E ⟨rfl,e0.mod⟩ (hr.deeper _) hsp)⟩
noncomputable def xV (n:Af)(ds:Aa D):qD:=ds.map Ab++Bw (n-ds.length) none
noncomputable def aJ:Out->Res D
 |.rt d S=>.ok d S
 |.nx _ S=>.ok .non S
 |.ex c x _ S=>.ex c x S
 |_=>.bad
noncomputable def qP (n:Af)(g:DS):DF:=λds S=>aJ (g (xV n ds) S)
def spR (K:Ah)(P:Hp)(α : Aa Ad)(R:Res D)(Q:VK)(E:XK):Prop:=match R with
 |.ok d S'=>∀ v H' P' α',Rel K H' P' α' S'->qF P P'->α<+:α'->Rep K P' α' d v->Q v H'
 |.ex c _ S'=>∀ H' P' α',Rel K H' P' α' S'->qF P P'->α<+:α'->E c none H'
 |.bad=>Eh
def spD (K:Ah)(n:Af)(F:DF):Sp:=λvs H Q E=>vs.length=n/\∃ P α ds S,Rel K H P α S/\qE K P α ds vs/\spR K P α (F ds S) Q E
theorem aL {K:Ah}{P:Hp}{α:Aa Ad}{N:Aa An}{ds:Aa D}(r:qE K P α ds vs):qZ K P α (_L.xM N vs) (xV N.length ds):=by
 refine⟨by simp[xV,_L.xM,r.length],λi d e=>?_⟩
 unfold xV at e;unfold _L.xM;by_cases hi:i<ds.length
 .rw[Bz (by simpa using hi),Dt] at e
  rw[Bz (by rw[Ba,<- r.length];exact hi),Dt]
  cases q:ds[i]? with
  |none=>rw[q] at e;cases e
  |some d' =>
   rw[q] at e;cases e;obtain⟨v,h1,h2⟩:=r.get q;exact⟨v,by rw[h1];rfl,h2⟩
 .rw[Ct (by simpa using hi),Ix] at e
  split at e <;> cases e
section
variable {P:AV}{w:Bk}{K:Ah}{mg:An->Al Ac}{base:Bc}{cm:Ao}
theorem lE {qual:An}{scope:Di}{f:Ad}{cdv:Ac}{A:Bh}{outer:Aa Gv}{s:Ag}{H P':Hp}{E:XK}{N:Aa An}{g:DS}{α:Aa Ad}{ds:Aa D}{S':Sto}(hb:PSs (cxC cm P w K mg base N qual scope f cdv A outer s H E) body (tDS (cxC cm P w K mg base N qual scope f cdv A outer s H E) g))
  (r:Rel K H P' α S') (rp:qE K P' α ds vs) (af:spR K P' α (qP N.length g ds S') Q E):∃ t,PSs (cxC cm P w K mg base N qual scope f cdv A outer s H E) body t/\t { nx:=λ_ H'=>Q .non H',rt:=Q } (_L.xM N vs) H:=by
 refine⟨_,hb,P',α,xV N.length ds,S',r,aL rp,?_⟩;unfold qP at af;cases q:g (xV N.length ds) S' with
 |rt d S1=>rw[q] at af;exact λv H' P1 α1 r1 e1 e2 p1=>af v H' P1 α1 r1 e1 e2 p1
 |nx env S1=>rw[q] at af;exact λσ' H' P1 α1 r1 re1 e1 e2=>af .non H' P1 α1 r1 e1 e2 (by simp only[Rep])
 |bk env S1=>rw[q] at af;exact Am af
 |ct env S1=>rw[q] at af;exact Am af
 |ex c x env S1=>rw[q] at af;exact λu s' z=>lN (A:=A) rfl z λH' P1 α1 r1 e1 e2=>af H' P1 α1 r1 e1 e2
 |bad=>rw[q] at af;exact Am af
theorem fnX {x qual:An}{st:Ds}{f:Ad}{fd:Ej}{N ps:Aa An}{k:Af}{g:DS}(F:Fun K x qual st f fd)(S:FnScope N ps (qG st))
  (hbody:∀ (cdv:Ac) (A:Bh) (outer:Aa Gv) (s:Ag) (H:Hp) (E:XK),fd.code=cdv/\Mod K mg base->RoomC cm k (A.deeper (EQ qual (qG st) s.heap.objs.size f cdv)) ->
   PSs (cxC cm P w K mg base N qual (qG st) f cdv A outer s H E) (zI st) (tDS (cxC cm P w K mg base N qual (qG st) f cdv A outer s H E) g)) :
  FnX P w K mg base cm (k+1) f fd ps (spD K ps.length (qP N.length g)):=by
 refine FA F S (λvs H Q E h=>h.1) λcdv A outer s H vs Q E hc hr h=>?_;obtain⟨hl,P',α,ds,S',r,rp,af⟩:=h;exact lE (hbody cdv A outer s H E hc hr) r rp af
end
section
variable {X:Cx}{cm:Ao}{k:Af}{f:Ad}{fd:Ej}{ps:Aa An}{F:DF}{x:An}{p pos:Do}{e:Bd}{es:Aa Bd}{fa:DA}{n:Af}
noncomputable def qI (n:Af)(F:DF)(fa:DA):DE:=λenv S=>(fa env S).bind λds S1=>if ds.length=n then F ds S1 else .bad
def EX (X:Cx)(P:Hp)(α : Aa Ad)(R:Res D):XK:=λc _ H'=>match R with
 |.ex c' _ S'=>c=c'/\∃ P' α',Rel X.K H' P' α' S'/\qF P P'/\α<+:α'
 |_=>Eh
theorem sO {P:Hp}{α:Aa Ad}{R:Res D}(af:qU X P α R Q):spR X.K P α R Q (EX X P α R):=by
 cases R with
 |ok d S'=>exact af
 |ex c x S'=>exact λH' P' α' r' e1 e2=>⟨rfl,P',α',r',e1,e2⟩
 |bad=>exact af
theorem bF {pins:Aa (Ad × Bq)}{σ:_L.St}{H:Hp}{s:Ag}{P:Hp}{α:Aa Ad}{R:Res D}(hF:(∃ c x S',R=.ex c x S')->Fn1 X)(I:Inv X pins σ H s)(af:qU X P α R Q)
  (h:Hi (Au X.prog X.w) X.A (.call u ⟨us,[]⟩) (CR (CXd X.prog X.w) X.stack X.prog X.w H s Q (EX X P α R)) s):Ar (Au X.prog X.w) X.A (call u us) (EP X pins σ Q) X.xe s:=by
 refine Su (OV h λr s' hq=>?_);cases r with
 |error u =>
  have hq:CXd X.prog X.w X.stack H s (EX X P α R) u s':=hq;cases R with
  |ok d S'=>obtain⟨_,_,_,_,_,_,_,_,_,_,_,_,q⟩:=hq;exact Am q
  |bad=>exact Am af
  |ex c' x' S' =>
   have hG:=hF ⟨_,_,_,rfl⟩;obtain⟨a,c,H',rfl,I',fl,rfl,P',α',r',e1,e2⟩:=F9 I hG hq;exact af _ _ ⟨a,pins,σ,H',P',α',rfl,I',r',e1,e2,hG,fl⟩
 |ok fl =>
  cases fl with
  |ret u=>exact I.after hq
  |next=>exact Am hq
  |brk=>exact Am hq
  |cont=>exact Am hq
theorem GI {pins:Aa (Ad × Bq)}{σ:_L.St}{H:Hp}{s:Ag}{P:Hp}{α:Aa Ad}{ds:Aa D}(G:FnX X.prog X.w X.K X.mg X.base cm k f fd ps (spD X.K n F))(hr:RoomC cm k X.A)(hb:vI X.K fd ps [])(hF:Fn1 X)
  (I:Inv X pins σ H s) (r:Rel X.K H P α S) (rv:qN vs us) (rp:qE X.K P α ds vs) (hn:ds.length=n) (af:qU X P α (F ds S) Q):Ar (Au X.prog X.w) X.A (call (.ref f) us) (EP X pins σ Q) X.xe s:=by
 have hsp:spD X.K n F vs H Q (EX X P α (F ds S)):=⟨by rw[<- rp.length];exact hn,P,α,ds,S,r,rp,sO af⟩
 have hl:us.length=ps.length:=by rw[<- rv.length];exact G.len _ _ _ _ hsp
 have hb':=hb s us I.kIn (by rw[Eu];exact hl)
 rw[Eu] at hb';exact bF (λ_=>hF) I af (G.run X.A X.stack s H ⟨us,[]⟩ us vs Q _ hr I.env0 hb' rv hsp)
theorem tW {env:qD}{S:Sto}{P:Hp}{α:Aa Ad}{ds:Aa D}{Ok:D->Sto->Prop}(h:qJ X P α (if ds.length=n then F ds S1 else .bad) Ok):ds.length=n/\qJ X P α (F ds S1) Ok:=by
 by_cases hn:ds.length=n
 .rw[AS hn] at h;exact⟨hn,h⟩
 .rw[AX hn] at h;exact Am h
theorem U1 (G:FnX X.prog X.w X.K X.mg X.base cm k f fd ps (spD X.K n F))(hr:RoomC cm k X.A)(hF:Fn1 X)(hg:Gl X x)(hm:X.mg x=Ab (.ref f))(hk:Dz X.K (.ref f)=true)(hb:vI X.K fd ps [])
  (ha:PA X (e::es) (tDA X fa)) (hdb:(x == ("__debug__" : An))=false:=by decide) (he:Az (e::es) X.env=(false,eval e X.env)::Az es X.env:=by rfl) (hpl:(Eo pos (Az es X.env)).any (·.1)=false:=by rfl) :
  PE X (.Call (.Name x p) (e::es) [] pos) (tD X (qI n F fa)):=by
 intro pins s σ H Q I h;obtain⟨P,α,env,S,r,re,af⟩:=h;refine Ge (uC I hg hm ?_ hdb);refine NE (h₀:=X.base) I.ok.mod.kin hk (thn (w5 ha I r re af pos) λus s1 ⟨vs,H1,P1,α1,ds,S1,I1,rv,r1,re1,rp,e1,e2,af1⟩=>⟨I1.kIn,?_⟩) he hpl;obtain⟨hn,af2⟩:=tW (env:=env) (S:=S) af1;exact GI G hr hb hF I1 r1 rv rp hn (qU.base e1 e2 af2)
end
noncomputable abbrev lD:Aa Ac:=[.type "ValueError",.type "Exception",.type "BaseException",.type "object"]
noncomputable def DW:Ac->Ao
 |.str _ _=>true
 |_=>false
noncomputable def kI (K:Ah)(N:Ad):Ao:=(match Lw N K with
 |some o=>match o.data with
  |.dict es _=>es.toList.all λe=>DW e.key
  |_=>false
 |none=>false)&&decide (Cy K N "__init__" = Ab none)
theorem wR {K:Ah}{N:Ad}(h:kI K N=true):WP K N=true/\Cy K N "__init__" = Ab none:=by
 unfold kI at h;rw[As,Ax] at h;refine⟨?_,h.2⟩;have h1:=h.1;unfold WP;cases e:Lw N K with
 |none=>rw[e] at h1;cases h1
 |some o =>
  rw[e] at h1;obtain⟨oc,od,dt,sl⟩:=o;cases dt with
  |dict es ep =>
   simp only at h1 ⊢;rw[Array.all_toList] at h1;refine Eq.trans (congrArg (λf=>Array.all es f) (funext λe=>?_)) h1;cases e.key <;> rfl
  |_=>cases h1
noncomputable def l0 (K:Ah)(C:Ad)(f:Ac->Uq->AZ (Al Ac)->Ao):Ao:=match Lw C K with
 |some o=>(match o.data with|.cls cd=>f o.cls cd o.slots|_=>false)
 |none=>false
theorem dO {K:Ah}{f:Ac->Uq->AZ (Al Ac)->Ao}(h:l0 K C f=true):∃ oc od cd sl,Lw C K=Ab ⟨oc,od,.cls cd,sl⟩/\f oc cd sl=true:=by
 unfold l0 at h;cases e:Lw C K with
 |none=>rw[e] at h;exact Hc h
 |some o =>
  rw[e] at h;obtain⟨oc,od,dt,sl⟩:=o;cases dt with
  |cls cd=>exact⟨oc,od,cd,sl,rfl,h⟩
  |_=>exact Hc h
noncomputable def bH (K:Ah)(C A:Ad):Ao:=l0 K C λoc cd sl=>l0 K A λ_ ca _=>decide (oc=.type "type")&&(decide (cd.mro=.ref C::.ref A::lD)&&(!cd.hasDel&&(kI K cd.ns&&(kI K ca.ns&&(decide (sl.toList.length=6)&&decide (sl.toList[4]? = Ab (Ab (.builtin "ValueError.__new__"))))))))
inductive ExcO (h:Bc)(C:Ad):Prop
 |mk (nm q:An) (N:Ad) (bs bm:Aa Ac) (hdct:Ao) (sn:Aa An) (sub:Aa Ac) (ab:Ao) (col:Al Ao) (dd:Al Ad) (k0 k1 k2 k3 k5:Al Ac) (mN:An->Al Ac) (hC:h.get? C=Ab (excClassObj nm q C N bs bm hdct sn sub ab col dd k0 k1 k2 k3 k5 "ValueError.__new__")) (hN:h.Ns N mN) (hni:mN "__init__" = none) (T:OwnTail h lD bm):ExcO h C
theorem tG {β:Type}{l:Aa β}{n:Af}(h:l.length=n+1):∃ a t,l=a::t/\t.length=n:=by
 cases l with
 |nil=>exact Wd h
 |cons a t=>exact⟨a,t,rfl,Tz h⟩
theorem six {β:Type}{l:Aa β}(h:l.length=6):∃ a b c d e f,l=[a,b,c,d,e,f]:=by
 obtain⟨a,t,e1,h⟩:=tG h;obtain⟨b,t2,e2,h⟩:=tG h;obtain⟨c,t3,e3,h⟩:=tG h;obtain⟨d,t4,e4,h⟩:=tG h;obtain⟨e,t5,e5,h⟩:=tG h;obtain⟨f,t6,e6,h⟩:=tG h;exact⟨a,b,c,d,e,f,by rw[e1,e2,e3,e4,e5,e6,Kt.mp h]⟩
theorem MN {cd:Uq}{tl:Aa Ac}{k0 k1 k2 k3 k4 k5:Al Ac}{n:Cs}(hm:cd.mro=.ref C::tl)(hd:cd.hasDel=false)(hs:sl.toList=[k0,k1,k2,k3,k4,k5])(hn:sl.toList[4]? = Ab (Ab (.builtin n))) :
  (⟨.type "type",od,.cls cd,sl⟩:Bq)=excClassObj cd.name cd.qualname C cd.ns cd.bases tl cd.hasDict cd.slotNames cd.subclasses cd.abstract cd.collection od k0 k1 k2 k3 k5 n:=by
 rw[hs] at hn;cases hn;cases cd;cases sl;cases hm;cases hd;cases hs;rfl
theorem UN {K:Ah}{h:Bc}{A:Ad}{cd:Uq}(KI:K.In h)(e:Lw C K=Ab ⟨.type "type",od,.cls cd,sl⟩)(h2:cd.mro=.ref C::.ref A::lD)(h3:cd.hasDel=false)(h4:kI K cd.ns=true)(h6:sl.toList.length=6)(h7:sl.toList[4]? = Ab (Ab (.builtin "ValueError.__new__")))(T:OwnTail h lD (.ref A::lD)):ExcO h C:=by
 obtain⟨k0,k1,k2,k3,x,k5,es⟩:=six h6;exact⟨_,_,_,_,_,_,_,_,_,_,_,k0,k1,k2,k3,k5,_,(KI _ _ e).trans (congrArg Ab (MN h2 h3 es h7)),.of_isNs (Tp KI (wR h4).1),OF KI (wR h4).1 (wR h4).2,T⟩
theorem UO {K:Ah}{h:Bc}{A:Ad}(KI:K.In h)(z:bH K C A=true):ExcO h C:=by
 obtain⟨oc,od,cd,sl,e,z⟩:=dO z;obtain⟨qc,qd,ca,ql,e2,z⟩:=dO z;have a1:=Ex.mp z;have a2:=Ex.mp a1.2;have a3:=Ex.mp a2.2;have a4:=Ex.mp a3.2;have a5:=Ex.mp a4.2;have a6:=Ex.mp a5.2;rw[Bi a1.1] at e;exact UN KI e (Bi a2.1) (Ib _▸a3.1) a4.1 (Bi a6.1) (Bi a6.2) (.own (KI _ _ e2) (.of_isNs (Tp KI (wR a5.1).1)) (OF KI (wR a5.1).1 (wR a5.1).2) .base)
section
variable {X:Cx}{pos:Do}{fa:DA}
noncomputable def wY (c:Ac)(fa:DA):DS:=λenv S=>(fa env S).toS env λds S1=>if ds.length<=lim then .ex c .non env S1 else .bad
inductive GotAS (X:Cx)(pins:Aa (Ad × Bq))(σ : _L.St)(env:qD)(P:Hp)(α : Aa Ad)(us:Aa Ac)(s1:Ag)(k:Aa D->Sto->Out)(E:Ends):Prop
 |mk (vs:Aa V) (H1 P1:Hp) (α1:Aa Ad) (ds:Aa D) (S1:Sto) (I:Inv X pins σ H1 s1) (rv:qN vs us) (r:Rel X.K H1 P1 α1 S1) (re:qZ X.K P1 α1 σ env) (rp:qE X.K P1 α1 ds vs) (e1:qF P P1) (e2:α<+:α1) (q:z0 X P1 α1 (k ds S1) E):GotAS X pins σ env P α us s1 k E
theorem rR {es:Aa Bd}{k:Aa D->Sto->Out}{pins:Aa (Ad × Bq)}{s:Ag}{σ:_L.St}{H P:Hp}{α:Aa Ad}{env:qD}{D:Ends}(he:PA X es (tDA X fa))(I:Inv X pins σ H s)(r:Rel X.K H P α S)
  (re:qZ X.K P α σ env) (af:z0 X P α ((fa env S).toS env k) D) (pos:Do) :
  Ar (Au X.prog X.w) X.A (spliced (Eo pos (Az es X.env))) (λus s1=>GotAS X pins σ env P α us s1 k D) X.xe s:=by
 have af1:qJ X P α ((fa env S).bind λd S=>.ok d S) λd S=>z0 X P α (k d S) D:=by
  have:=xN af;cases q:fa env S <;> rw[q] at this <;> exact this
 exact thn (w5 he I r re af1 pos) λu s1 ⟨vs,H1,P1,α1,ds,S1,I1,rv,r1,re1,rp,e1,e2,q⟩=>⟨vs,H1,P1,α1,ds,S1,I1,rv,r1,re1,rp,e1,e2,z0.base e1 e2 q⟩
theorem ZY {x:An}{Ae:Ad}{e₀:Bd}{qL:Aa Bd}{np cpos:Do}(hc:X.calm=true)(hF:Fn1 X)(hg:Gl X x)(hm:X.mg x=Ab (.ref C))(hx:bH X.K C Ae=true)(ha:PA X (e₀::qL) (tDA X fa))
  (hdb:(x == ("__debug__" : An))=false:=by decide) (he:Az (e₀::qL) X.env=(false,eval e₀ X.env)::Az qL X.env:=by rfl) (hpl:(Eo cpos (Az qL X.env)).any (·.1)=false:=by rfl) :
  PS X (.Raise (Ab (.Call (.Name x np) (e₀::qL) [] cpos)) none pos) (tDS X (wY (.ref C) fa)):=by
 intro pins s σ H D I h;obtain⟨P,α,env,S,r,re,af⟩:=h;obtain⟨nm,qn,N,bs,tl,hdct,sn,sub,ab,col,dd,k0,k1,k2,k3,k5,mN,hC,hN,hni,T⟩:=UO I.mod.kin hx;refine wpAny_Raise_call_subT (C:=C) (nm:=nm) (q:=qn) (N:=N) (bs:=bs) (bm:=tl) (hdct:=hdct) (sn:=sn) (sub:=sub) (ab:=ab) (col:=col) (dd:=dd) (k0:=k0) (k1:=k1) (k2:=k2) (k3:=k3) (k5:=k5)
  Oh (mN:=mN) (T.hasType Oh.hasBase) (I.ok.hd hc) (by rw[he];show (false||(Eo cpos (Az qL X.env)).any (·.1))=false;rw[hpl];rfl) hni (uC I hg hm ⟨rfl,?_⟩ hdb)
 have run:=rR ha I r re af cpos;rw[he] at run ⊢;refine Rl (thn run λus s2 ⟨vs,H1,P1,α1,ds,S1,I1,rv,r1,re1,rp,e1,e2,q⟩=>?_);have hl:us.length=ds.length:=by rw[rp.length,rv.length]
 by_cases hz:ds.length<=lim
 .rw[AS hz] at q
  refine⟨rfl,by rw[hl,<- zQ];exact hz,I1.bk _ _ hC,hN.keeps I1.bk,T.keeps I1.bk,λh' e hm=>q _ _ ⟨e,pins,σ,H1,P1,α1,rfl,I1.kept (t':=s2.toks) hm.keeps,r1,qF.refl _,AU _,hF,.new s2.heap us hm I1.stack λb o eb old=>?_⟩⟩
  obtain⟨o1,q1⟩:=Old.there I1 hF old;have q2:=hm.keeps b o1 q1;rw[eb] at q2;cases q2;exact q1
 .rw[AX hz] at q;exact Am q
end
section
variable {X:Cx}{pins:Aa (Ad × Bq)}{σ : _L.St}{H:Hp}{s:Ag}
theorem aA {M:Jl}{A:Bh}{E:Ac->Ag->Prop}{base h:Bc}{env:Gv}{outer:Aa Gv}{L e:Ad}{cls:Ac}{Q:Nh->Ag->Prop}
  (hfr:A.frames=Ab (env::outer)) (hf:env.frame=Ab L) (hkb:base.StaysIn h) (hl:h.FunFrames base (env::outer)) (hx:Rf h s.heap e cls args)
  (hQ:∀ h' a0,Zd base (env::outer) e cls a0 L h'->s.heap.UpToSlots h'->Q () { s with heap:=h' }) : Ar M A (O1 (.ref e) env) Q E s:=by
 obtain⟨t,he,htn,ht⟩:=hx.there;have fresh:∀ b,h.get? b=none->base.get? b=none:=λb hb=>by
  cases hq:base.get? b with
  |none=>rfl
  |some o'=>have z:=hkb b o' hq;rw[hb] at z;cases z
 unfold O1;simp only[hf];refine Ai (Dv he rfl (x:=.none) rfl ?_);rw[AX (by decide)]
 refine wpAny_entryW hfr (hl.of_keeps λb o hb _=>⟨o,hx.keeps b o hb,rfl⟩) hf he (λb o hb=>hx.keeps b o (hkb b o hb)) (fresh e hx.new) rfl (by simp) (a0:=.ref t) rfl λh' hN=>?_
 obtain⟨n1,n2,n3,n4⟩:=hN;exact hQ h' (.ref t) ⟨n1,fresh e hx.new,n2,n3⟩ n4
theorem XQ {M:Jl}{A:Bh}{E:Ac->Ag->Prop}{c:Ac}{e:Ad}{Q:Nh->Ag->Prop}(I:Inv X pins σ H s)(F:Fn1 X)(hA:A.frames=Ab X.stack)(f:FlyX X pins H c e s.heap)
  (hQ:∀ h' B a0,Nd B X.stack e c a0 h'->Inv X pins σ H { s with heap:=h' } -> Cv X pins H B h'->Q () { s with heap:=h' }) :
  Ar M A (O1 (.ref e) X.env) (λ_ s₂=>Ar M A (Ur (.ref e) none) Q E s₂) E s:=by
 have land:∀ (B:Bc) (a0:Ac) (h1:Bc),Cv X pins H B s.heap->Zd B X.stack e c a0 X.env.locals h1->s.heap.UpToSlots h1->Ar M A (Ur (.ref e) none) Q E { s with heap:=h1 }:=λB a0 h1 cv hh up=>by
  refine wpAny_landsW (s:={ s with heap:=h1 }) hh λh2 f2 u2=>?_
  obtain⟨I2,cv2⟩:=Inv.fly I F cv f2.1 (up.trans u2);exact hQ h2 B a0 f2 I2 cv2
 cases f with
 |new g args hm hf hk =>
  obtain⟨k1,k2,k3⟩:=o7 I hm hf hk;rw[F.2.1] at hA;exact aA hA F.2.2 k1 (by rw[<- F.2.1];exact k2) hm λh' a0 x1 x2=>land _ a0 h' k3 (F.2.1▸x1) x2
 |fly B a0 fl cv =>
  rw[F.2.1] at hA;exact wpAny_looks_onW hA F.2.2 (by rw[<- F.2.1];exact fl) λh' x1 x2=>land B a0 h' cv (by rw[F.2.1];exact x1) x2
theorem rY {B:Bc}{c a0:Ac}{e:Ad}(I:Inv X pins σ H s)(F:Fn1 X)(fl:Nd B X.stack e c a0 s.heap)(cv:Cv X pins H B s.heap):¬ Old X pins H e/\e ∉ frs X.stack/\∃ ob,s.heap.get? e=Ab ob/\ob.cls=c:=by
 obtain⟨oe,vs,he,hc,hd,_⟩:=fl.first
 have nf:e ∉ frs X.stack:=λz=>by
  obtain⟨_,o,ho,hn⟩:=I.stack.mem z;rw[he] at ho;cases ho;exact hn vs hd
 refine⟨λz=>?_,nf,oe,he,hc⟩;have q:=cv e oe he z nf;rw[fl.2.1] at q;cases q
theorem Inv.track {e:Ad}{c:Ac}{ob:Bq}(I:Inv X pins σ H s)(F:Fn1 X)(no:¬ Old X pins H e)(nf:e ∉ frs X.stack)(he:s.heap.get? e=Ab ob)(hc:ob.cls=c):Inv X pins σ (upd H e (lQ e c)) s:=by
 have hn:H e=none:=by
  cases q:H e with
  |none=>rfl
  |some u=>exact absurd (.inr (.inl (by rw[q];intro z;cases z))) no
 have nL:e≠X.env.locals:=λz=>nf (F.mem.mpr (.inl z));have n0:∀ b o,X.s₀.heap.get? b=Ab o->b≠e:=λb o q z=>no (.inl ⟨o,z▸q⟩);refine⟨I.ok,I.os,I.bare,⟨I.base.keep,I.base.slot,λb o q n hx=>?_,I.base.there,λb xs q=>?_,λb o xs q=>?_,λb ps q=>?_⟩,I.loc,I.cell,?_,λx k q=>?_,λp hp=>?_,λb u q=>?_,I.len⟩
 .rw[qH (n0 b o q)];exact I.base.free b o q n hx
 .have z:=I.base.tups b xs q
  rw[qH (qS z hn)];exact z
 .have z:=I.base.frzs b o xs q
  rw[qH (qS z hn)];exact z
 .obtain⟨m,z⟩:=I.base.tbls b ps q
  exact⟨m,by rw[qH (qS z hn)];exact z⟩
 .rw[qH (Fa nL)];exact I.free
 .have z:k≠e:=λz=>no (.inr (.inr (.inr ⟨x,z▸q⟩)))
  rw[qH z];exact I.freeC x k q
 .obtain⟨a1,a2,a3,a4,a5⟩:=I.pin p hp
  have z:p.1≠e:=λz=>no (.inr (.inr (.inl ⟨p,hp,z⟩)));exact⟨a1,by rw[qH z];exact a2,a3,a4,a5⟩
 .by_cases hb:b=e
  .subst hb
   rw[qX] at q;cases q;refine⟨⟨ob,he,hc⟩,⟨ob,he⟩,λh1 h2 ⟨o,q1,q2⟩ k=>⟨o,k o q1,q2⟩⟩
  .rw[qH hb] at q
   exact(I.hok b u q).stay (λ_ _ _ z=>z) (λk z=>by rw[qH (qS z hn)];exact z) λk xs z=>by rw[qH (qS z hn)];exact z
theorem Inv.gone {i t':Af}{n:An}{h':Bc}(I:Inv X pins σ H s)(hN:X.N.Nodup)(hi:X.N[i]? = Ab n){m:An->Al Ac}{v:Al Ac}(hl:∀ (j:Af) (y:An) (w:V),X.N[j]? = Ab y->σ[j]? = Ab (Ab w)->Vis X.env.scope y->∃ u,qM w u/\PF X.env s.heap m y u)(hv:h'.Ns X.env.locals λy=>if y=n then v else m y)(sb:Hs X.env.locals s.heap h') :
  Inv X pins (σ.set i none) H { s with heap:=h',toks:=t' }:=by
 have neL:∀ b o,X.s₀.heap.get? b=Ab o->b≠X.env.locals:=λb o e=>Bs (Aw (Ay e) I.ok.above);have kp:∀ b o,b≠X.env.locals->s.heap.get? b=Ab o->h'.get? b=Ab o:=λb o n e=>(sb.2 b n).trans e;refine⟨I.ok,I.os,I.bare,⟨λb o e n hb hx=>kp b o (neL b o e) (I.base.keep b o e n hb hx),λb o e n hb hx=>?_,I.base.free,λb o e hx=>?_,I.base.tups,I.base.frzs,I.base.tbls⟩,⟨_,hv,λj y w e1 e2 e3=>?_⟩,λx c e=>?_,I.free,I.freeC,λp hp=>?_,λb u q=>?_,by simpa using I.len⟩
 .obtain⟨sl,q⟩:=I.base.slot b o e n hb hx
  exact⟨sl,kp b _ (neL b o e) q⟩
 .obtain⟨o',q⟩:=I.base.there b o e hx
  exact⟨o',kp b o' (neL b o e) q⟩
 .have hj:i≠j:=λz=>by
   subst z;by_cases hs:i<σ.length
   .rw[Ez hs] at e2;cases e2
   .rw[Lv (by simp;omega)] at e2;cases e2
  rw[Dk hj] at e2;obtain⟨u,r,l⟩:=hl j y w e1 e2 e3;refine⟨u,r,?_⟩;rcases l with⟨k,z⟩|⟨k,c,z,zc⟩
  .refine .inl ⟨k,?_⟩
   have:y≠n:=λz=>hj (bP hN hi (z▸e1));simp[this,z]
  .exact .inr ⟨k,c,z,zc.sameBut sb (I.cne y c z)⟩
 .obtain⟨w,z⟩:=I.cell x c e
  exact⟨w,z.sameBut sb (I.cne x c e)⟩
 .obtain⟨e,n,ne,nf,d⟩:=I.pin p hp
  exact⟨kp p.1 p.2 ne e,n,ne,nf,d⟩
 .refine(I.hok b u q).stay (λc w hc z=>kp c w ?_ z) (λ_ z=>z) λ_ _ z=>z
  rintro rfl;rcases hc with rfl|hc
  .rw[I.free] at q;cases q
  .rw[I.free] at hc;cases hc
theorem eA {A:Bh}{E:Ac->Ag->Prop}{i:Af}{n:An}{pos:Do}{Q:Nh->Ag->Prop}(I:Inv X pins σ H s)(hN:X.N.Nodup)(hi:X.N[i]? = Ab n)(hlo:X.env.scope.names.lookup n=Ab .local)
  (h:∀ s',Inv X pins (σ.set i none) H s'->Q () s'):Ar M A (do Jh X.env n .none;unbindBehindTheSuite X.env n pos) Q E s:=by
 obtain⟨m,hm,hl⟩:=id I.loc;exact wpAny_nameGoes_keeps hlo hm (by rw[I.ok.kind];rfl) λh' v hv sb=>h _ (Inv.gone I hN hi hl hv sb)
end
abbrev Cx.tryIn (X:Cx)(E:Ac->Ag->Prop)(pn:Aa (Ad × Bq)):Cx:={ X with xe:=E,pn:=pn }
abbrev Cx.suite (X:Cx)(e:Ad):Cx:=Cx.re X (X.A.mark (Ab (.ref e))) false λ_ _=>Eh
noncomputable def bS (N i:Af)(cs:Aa Ac)(f g:DS):DS:=λenv S=>match f env S with
 |.ex c x env1 S1=>if cs.contains c then (match g ((Bw N none).set i (Ab (.exn c))) S1 with
   |.rt d S2=>.rt d S2
   |.nx env2 S2=>.nx (env2.set i none) S2
   |_=>.bad) else .bad
 |o=>o
section
variable {X:Cx}{pins:Aa (Ad × Bq)}{σ : _L.St}{H:Hp}{s:Ag}
theorem Inv.inTry (I:Inv X pins σ H s)(E:Ac->Ag->Prop):Inv (Cx.tryIn X E (X.pn++pins)) [] σ H s:=
 ⟨⟨I.ok.mod,I.ok.kind,I.ok.glob,I.ok.blt,I.ok.above,I.ok.inj,I.ok.has,I.ok.cab,I.ok.hd,I.ok.frames,I.ok.stk,I.ok.exf,I.ok.bs,I.ok.bsz,I.ok.noex,I.ok.exfs,I.ok.funs,I.ok.frf⟩,I.os,I.bare,I.base,I.loc,I.cell,I.free,I.freeC,λp hp=>I.pin p (by simpa using hp),I.hok,I.len⟩
theorem Inv.outTry {E:Ac->Ag->Prop}(I:Inv (Cx.tryIn X E (X.pn++pins)) more σ H s):Inv X pins σ H s:=
 ⟨⟨I.ok.mod,I.ok.kind,I.ok.glob,I.ok.blt,I.ok.above,I.ok.inj,I.ok.has,I.ok.cab,I.ok.hd,I.ok.frames,I.ok.stk,I.ok.exf,I.ok.bs,I.ok.bsz,I.ok.noex,I.ok.exfs,I.ok.funs,I.ok.frf⟩,I.os,I.bare,I.base,I.loc,I.cell,I.free,I.freeC,λp hp=>I.pin p (Df _ hp),I.hok,I.len⟩
theorem SP.outTry {E:Ac->Ag->Prop}{D:Ends}{f:Flow}{s':Ag}(h:SP (Cx.tryIn X E (X.pn++pins)) [] D f s'):SP X pins D f s':=by
 cases f with
 |next=>obtain⟨σ',H',I,q⟩:=h;exact⟨σ',H',Inv.outTry I,q⟩
 |brk=>obtain⟨σ',H',I,q⟩:=h;exact⟨σ',H',Inv.outTry I,q⟩
 |cont=>obtain⟨σ',H',I,q⟩:=h;exact⟨σ',H',Inv.outTry I,q⟩
 |ret u=>obtain⟨v,σ',H',I,r,q⟩:=h;exact⟨v,σ',H',Inv.outTry I,r,q⟩
theorem FlyX.outTry {E:Ac->Ag->Prop}{c:Ac}{e:Ad}{h:Bc}(f:FlyX (Cx.tryIn X E (X.pn++pins)) more H c e h):FlyX X pins H c e h:=by
 have old:∀ b,Old X pins H b->Old (Cx.tryIn X E (X.pn++pins)) more H b:=λb o=>by
  rcases o with o|o|⟨p,hp,z⟩|o
  .exact .inl o
  .exact .inr (.inl o)
  .exact .inr (.inr (.inl ⟨p,Df _ hp,z⟩))
  .exact .inr (.inr (.inr o))
 cases f with
 |new g args hm hf hk=>exact .new g args hm hf λb o e q=>hk b o e (old b q)
 |fly B a0 fl cv=>exact .fly B a0 fl λb o e q n=>cv b o e (old b q) n
theorem Q8 {K:Ah}{P:Hp}{α:Aa Ad}{n:Af}(h:σ.length=n):qZ K P α σ (Bw n none):=by
 refine⟨by simp[h],λi d e=>?_⟩
 rw[Ix] at e
 split at e <;> cases e
theorem qZ.unset {K:Ah}{P:Hp}{α:Aa Ad}{env:qD}(re:qZ K P α σ env)(i:Af):qZ K P α (σ.set i none) (env.set i none):=by
 refine⟨by simp[re.1],λj d e=>?_⟩
 by_cases hj:i=j
 .subst hj
  by_cases hi:i<env.length
  .rw[Ez hi] at e;cases e
  .rw[Lv (by simp;omega)] at e;cases e
 .rw[Dk hj] at e ⊢
  exact re.2 j d e
end
section
variable {X:Cx}{pos:Do}{f g:DS}
theorem FE {pins:Aa (Ad × Bq)}{D:Ends}{c:Ac}{e C0:Ad}{s':Ag}{σ:_L.St}{H P:Hp}{α:Aa Ad}{x n:An}{i:Af}{b₀:Ds}{suite:Aa Ds}{hpos:Do}
  (F:Fn1 X) (hg:Gl X x) (hm:X.mg x=Ab (.ref C0)) (hcs:∀ c∈cs,Il X.K c (.ref C0)=Ab true) (hN:X.N.Nodup) (hi:X.N[i]? = Ab n) (hlo:X.env.scope.names.lookup n=Ab .local)
  (hs:∀ e,PSs (Cx.suite X e) (b₀::suite) (tDS (Cx.suite X e) g)) (hc:cs.contains c=true) (I:Inv X pins σ H s') (r:Rel X.K H P α S1) (fl:FlyX X pins H c e s'.heap)
  (af:z0 X P α (match g ((Bw X.N.length none).set i (Ab (.exn c))) S1 with|.rt d S2=>.rt d S2|.nx env2 S2=>.nx (env2.set i none) S2|_=>.bad) D) (hdb:(x == ("__debug__" : An))=false) :
  Ar (Au X.prog X.w) X.A (O1 (.ref e) X.env) (λ_ s₂=>Ar (Au X.prog X.w) X.A (Ur (.ref e) none) (λ_ s₃ =>
   Ar (Au X.prog X.w) X.A (handleBy (.ref e) X.env [.ExceptHandler (Ab (.Name x np)) (Ab n) (b₀::suite) hpos]) (SP X pins D) X.xe s₃) X.xe s₂) X.xe s':=by
 have hcs':Il X.K c (.ref C0)=Ab true:=hcs c (by simpa using hc)
 have Z:∀ {σ : _L.St} {H:Hp} {s:Ag},Inv X pins σ H s->Inv (Cx.suite X e) pins σ H s:=λI=>Inv.re I _ false _ I.ok.frames λz=>nomatch z;refine XQ I F I.ok.frames fl λh5 B a0 f5 I5 cv5=>?_;refine wpAny_handleBy_cons (codeAny_handlers_test (A:=X.A.mark (Ab (.ref e))) (uC (X:=Cx.suite X e) (Z I5) hg hm ?_ hdb)) (by intro q;cases q)
 obtain⟨no5,nf5,ob5,he5,hc5⟩:=rY I5 F f5 cv5;refine(PySem.W.exm_one I5.kIn (by subst hc5;exact(Zh he5).andThen .now) hcs').at ?_
 refine codeAny_handlers_suite_as ?_;refine lands_againW (s:={ s' with heap:=h5 }) f5 λh6 f6 u6=>?_
 obtain⟨I6,cv6⟩:=Inv.fly I5 F cv5 f6.1 u6;obtain⟨no6,nf6,ob6,he6,hc6⟩:=rY I6 F f6 cv6;have J6:Inv X pins σ (upd H e (lQ e c)) { s' with heap:=h6 }:=Inv.track I6 F no6 nf6 he6 hc6
 have hn:H e=none:=by
  cases q:H e with
  |none=>rfl
  |some u=>exact absurd (.inr (.inl (by rw[q];intro z;cases z))) no6
 obtain⟨r1,sP⟩:=r.pure (o:=lQ e c) hn;refine xY (X:=Cx.suite X e) (v:=.ref e) (Z J6) hN hi (.inl hlo) rfl (λs7 I7=>?_) (.inr hlo);have re7:qZ X.K (upd P e (lQ e c)) α (σ.set i (Ab (.ref e))) ((Bw X.N.length none).set i (Ab (.exn c))):=(Q8 I.len).set i (by simp only[Rep];exact⟨e,rfl,qX⟩)
 refine Gj (hs e pins s7 _ _ { nx:=λσ' H'=>D.nx (σ'.set i none) H',rt:=D.rt } I7 ⟨_,α,_,S1,r1,re7,?_⟩) (λfl s8 q=>?_) λ_ _ z=>Am z
 .cases q:g ((Bw X.N.length none).set i (Ab (.exn c))) S1 with
  |rt d S2=>rw[q] at af;exact λv H' P' α' r' e1 e2 rp=>af v H' P' α' r' (sP.trans e1) e2 rp
  |nx env2 S2=>rw[q] at af;exact λσ' H' P' α' r' re' e1 e2=>af _ H' P' α' r' (qZ.unset re' i) (sP.trans e1) e2
  |bk env2 S2=>rw[q] at af;exact Am af
  |ct env2 S2=>rw[q] at af;exact Am af
  |ex c' x' env2 S2=>rw[q] at af;exact Am af
  |bad=>rw[q] at af;exact Am af
 .cases fl with
  |next =>
   obtain⟨σ',H',I8,q⟩:=q;exact eA (Inv.unre I8 I.ok.frames I.ok.hd) hN hi hlo λs9 I9=>⟨_,H',I9,q⟩
  |brk =>
   obtain⟨_,_,_,q⟩:=q;exact Am q
  |cont =>
   obtain⟨_,_,_,q⟩:=q;exact Am q
  |ret u =>
   obtain⟨v,σ',H',I8,rv,q⟩:=q;exact eA (Inv.unre I8 I.ok.frames I.ok.hd) hN hi hlo λs9 I9=>⟨v,_,H',I9,rv,q⟩
set_option tactic.hygienic true in
theorem BZ {x n:An}{C0:Ad}{i:Af}{b₀:Ds}{suite:Aa Ds}{np hpos:Do}(F:Fn1 X)(hb:∀ E pn,Mv (Au X.prog X.w) X.A X.env E->PSs (Cx.tryIn X E pn) body (tDS (Cx.tryIn X E pn) f))
  (hs:∀ e,PSs (Cx.suite X e) (b₀::suite) (tDS (Cx.suite X e) g)) (hg:Gl X x) (hm:X.mg x=Ab (.ref C0)) (hcs:∀ c∈cs,Il X.K c (.ref C0)=Ab true) (hN:X.N.Nodup) (hi:X.N[i]? = Ab n:=by rfl) (hlo:X.env.scope.names.lookup n=Ab .local:=by rfl)
  (hdb:(x == ("__debug__" : An))=false:=by decide):PS X (.Try body [.ExceptHandler (Ab (.Name x np)) (Ab n) (b₀::suite) hpos] [] [] pos) (tDS X (bS X.N.length i cs f g)):=by
 intro pins s σ H D I h;obtain⟨P,α,env,S,r,re,af⟩:=h;refine wpAny_Try_except ?_;refine Gj (hb _ (X.pn++pins) (PassesOwn.looking (K:=λe s₂=>Ar (Au X.prog X.w) X.A (Ur e none) (λ_ s₃=>Ar (Au X.prog X.w) X.A (handleBy e X.env [.ExceptHandler (Ab (.Name x np)) (Ab n) (b₀::suite) hpos]) (SP X pins D) X.xe s₃) X.xe s₂) (E₁:=X.xe))
  [] s σ H D (Inv.inTry I _) ⟨P,α,env,S,r,re,?_⟩) (λfl s1 q=>?_) λ_ _ z=>z
 .unfold bS at af
  cases q:f env S with
  |rt d S2=>rw[q] at af;exact af
  |nx env2 S2=>rw[q] at af;exact af
  |bk env2 S2=>rw[q] at af;exact af
  |ct env2 S2=>rw[q] at af;exact af
  |bad=>rw[q] at af;exact af
  |ex c x' env2 S2 =>
   rw[q] at af;dsimp only at af;intro u s' k;obtain⟨e,pins',σ',H',P',α',rfl,I',r',e1,e2,F',fl⟩:=k
   split at af
   .rename_i hc
    exact FE F hg hm hcs hN hi hlo hs hc (Inv.outTry I') r' (FlyX.outTry fl) (z0.base e1 e2 af) hdb
   .exact Am af
 .have q':=SP.outTry q
  cases fl with
  |next=>exact Jz q'
  |brk=>exact q'
  |cont=>exact q'
  |ret u=>exact q'
end
end _D
namespace _D
open PySem PySem.Spec PyProof.Rows _L PySem.W
variable {R:Vf->Ag->Prop}
structure ExnK (K:Ah)(C:Ad):Prop where
 ga:findIn K (.ref C) "__getattribute__" = Ab (Ab (.builtin "BaseException.__getattribute__"))
 hk:findIn K (.ref C) "__getattr__" = Ab none
 cl:findIn K (.ref C) "__class__" = Ab (Ab (.builtin "object.__class__"))
 sp:specialIn K (.builtin "object.__class__") "__get__" = Ab (Ab (.builtin "getset_descriptor.__get__"))
 tk:takesIn K (.builtin "object.__class__")=Ab true
 mo:mroIn K C (.type "object")=Ab true
 mb:mroIn K C (.type "BaseException")=Ab true
 isC:(clsIn K C).isSome=true
section
variable {prog:AV}{w:Bk}{A:Bh}{E:Ac->Ag->Prop}{s:Ag}{K:Ah}{x C:Ad}
abbrev vJ (x C:Ad)(h:Bc):Prop:=∃ ob,h.get? x=Ab ob/\ob.cls=.ref C
theorem vJ.type {M:Jl}{h:Bc}(I:vJ x C h):Looks M h (Xh (.ref x)) (.ref C):=by
 obtain⟨ob,e,c⟩:=I;rw[<- c];exact(Looks.ld e).andThen .now
theorem X4 {M:Jl}{h:Bc}(X:K.In h)(Z:ExnK K C):Looks M h (Yi (.ref x) (.ref C) "__class__") (.bind (.builtin "getset_descriptor.__get__") (.builtin "object.__class__")):=by
 have l1:=T0 (M:=M) X Z.cl;have l2:Looks M h (Yd (Ab (.builtin "object.__class__"))) (Ab (.builtin "getset_descriptor.__get__")):=looks_specialIn X Z.sp;have l3:=looks_takesIn (M:=M) X Z.tk;have l4:Looks M h (TD (Ab (.builtin "object.__class__")) (Ab (.builtin "getset_descriptor.__get__"))) (Ab (.builtin "getset_descriptor.__get__",.builtin "object.__class__")):=l3.andThen .now;exact l1.andThen (l2.andThen (l4.andThen (Looks.tag .now)))
theorem UP {tp:Ac}(X:K.In s.heap)(Z:ExnK K C)(I:vJ x C s.heap)(h:R (.ok (.ret (.ref C))) s) :
  Hi (Au prog w) A (.call (.builtin "getset_descriptor.__get__") ⟨[.builtin "object.__class__",.ref x,tp],[]⟩) R s:=by
 have LT:=vJ.type (M:=Au prog w) I;have LM:=looks_mroIn (M:=Au prog w) X Z.mo;cases s;refine Rm KF.slot_gs.plain KF.entry_gs (KF.slot_gs.check _ _ _ _ _ _ _ _ KF.type_class (KF.args_gs _ _ _) ?_);unfold Lx.«getset_descriptor.__get__» TW;rw[dga_obj];refine Ai (Ap ?_);unfold Sw Pi Pu isInstance;simp only[KF.owner_class]
 repeat lk
 refine⟨Code.quiet_builtin _ (by decide +kernel),Kc KF.entry_class ?_⟩
 unfold Lx.«object.__class__» shownTypeOf
 repeat lk
 exact h
theorem F6 {tk:Oo}(X:K.In s.heap)(Z:ExnK K C)(I:vJ x C s.heap)(h:R (.ok (.ret (.ref C))) s) :
  Hi (Au prog w) A (.call (.builtin "BaseException.__getattribute__") ⟨[.ref x,.str "__class__" tk],[]⟩) R s:=by
 have LT:=vJ.type (M:=Au prog w) I;have LM:=looks_mroIn (M:=Au prog w) X Z.mb;have LF:=X4 (M:=Au prog w) (x:=x) X Z;have hk:builtinKind "BaseException.__getattribute__" = Ab .slot:=by decide +kernel
 have hsp:splitId "BaseException.__getattribute__" = Ab ("BaseException","__getattribute__"):=by decide +kernel
 have chk:∀ (A:Bh) (Q:Nh->Ag->Prop) (E:Ac->Ag->Prop),Q () s->Ar (Au prog w) A (Vk "BaseException.__getattribute__" ⟨[.ref x,.str "__class__" tk],[]⟩) Q E s:=by
  intro A Q E hq;have ha:=PySem.F.args_bexc_ga (.ref x) (.str "__class__" tk);simp only[Vk,hk,hsp];unfold isInstance;refine Ai (Ai (LT.here (LM.here ?_)))
  repeat (any_goals (first|assumption|wp_step))
 refine Rm OW.ga.plain PySem.F.entry_bexc_ga (chk _ _ _ ?_);cases s;unfold Lx.«object.__getattribute__»;refine Ai (Vl (show slotArgs "__getattribute__" 1 ⟨[.ref x,.str "__class__" tk],[]⟩=pure (.ref x,[.str "__class__" tk]) from by kernel_rfl) ?_)
 refine Ai (Ap (Ai (LT.at (Ai (LF.at ?_)))));show Ar _ _ (O6 _ _ _ _) _ _ _;unfold O6;dsimp only;exact Ai (Fo (Su (UP X Z I (Ap h))))
theorem iM {Q:Al Ac->Ag->Prop}(X:K.In s.heap)(Z:ExnK K C)(I:vJ x C s.heap)(h:Q (Ab (.ref C)) { s with toks:=s.toks+1 }) : Ar (Au prog w) A (getAttr? (.ref x) "__class__") Q E s:=by
 have LT:=vJ.type (M:=Au prog w) I;have L1:=T0 (M:=Au prog w) X Z.ga;have lk2:=T0 (M:=Au prog w) X Z.hk;unfold getAttr? getAttrBy? getAttrBy;cases s;refine Ai (wpAny_mkText (Ai (Ly (Fo (Ai (LT.at (Ai (L1.at ?_))))))));dsimp only;have hx2:(Xs "BaseException.__getattribute__" == Xs "object.__getattribute__")=false:=by decide +kernel
 rw[hx2,Rg,AX Fh];unfold getAttrByItsOwn hookBefore;rw[AS (show onTheHeap (.ref C)=true from rfl)]
 refine Ai (lk2.at (Ai (Ly (Fo ?_))));unfold callGetattribute;rw[Jd,AX Fh];unfold boundAndCalled;refine Ai (Vl (OW.ga.bind (.ref x)) ?_);refine Su (F6 X Z I ?_);show Ar _ _ (handedOut (.ref C)) _ _ _;exact Ap (Ap h)
set_option tactic.hygienic true in
theorem d9 (Z:ExnK K C):KitX K (.ref x) (.ref C) (vJ x C) where
 ty:=λ_ _ _ I=>I.type
 it:=λM h X _=>by
  have z:=Z.isC;unfold clsIn at z
  split at z
  .rename_i ho
   intro A' Q' E' s' k q;unfold isType loadHead;exact Ai (wpAny_loadPart (k _ _ (X _ _ ho)) (Ap q))
  .cases z
 ne:=λh tp dd its n sl X htp=>by
  have z:=Z.isC;unfold clsIn at z
  split at z
  .rename_i ho
   cases hq:(Bn C == Bn tp) with
   |false=>rfl
   |true =>
    obtain rfl:C=tp:=Value.ref.inj (Nj.mp hq);have y:=(X _ _ ho).symm.trans htp;cases y
  .cases z
 ca:=λX I k=>iM X Z I k
end
end _D
namespace _D
open PySem PySem.Spec PyProof.Rows _L
variable {cells:Aa (An × Ad)}{α α1:Aa Ad}{ds:Aa D}{E:Ac->Ag->Prop}{C:Ad}{s:Ag}{K:Ah}{w:Bk}{o:Bq}{H P P1:Hp}{S S1:Sto}
theorem bU {α:Type}{t:IT α}{Q Q':α->Ag->Prop}{M:Jl}{A:Bh}(h:Ar M A t Q (λ_ _=>Eh) s)(hQ:∀ a s,Q a s->Q' a s):Ar M A t Q' E s:=Gj h hQ λ_ _ x=>x.elim
noncomputable def uU (ifs:Aa Bd)(env:Gv):IT Ao:=forIn ifs true λc r=>if r=true then do let ok <- Yj c env (eval c env);pure (IL ok) else pure (IL r)
def PTs (X:Cx)(ifs:Aa Bd)(t:DT):Prop:=
 ∀ (pins:Aa (Ad × Bq)) (s:Ag) (σ : _L.St) (H:Hp) (Q:Ao->Hp->Prop),Inv X pins σ H s->tDT X t σ H Q->Ar (Au X.prog X.w) X.A (uU ifs X.env) (TP X pins σ Q) X.xe s
noncomputable def vB:DT:=λ_ S=>.ok true S
section
variable {X:Cx}
theorem bC {prog:AV}{A:Bh}{env:Gv}{Q:Ao->Ag->Prop}:∀ (ifs:Aa Bd) {s:Ag},Q false s ->
  Ar (Au prog w) A (forIn ifs false λc r=>if r=true then do let ok <- Yj c env (eval c env);pure (IL ok) else pure (IL r)) Q E s
 |[],s,h=>by rw[Lc];exact Ap h
 |c::cs,s,h=>by
  rw[Ke];rw[AX (by simp)]
  refine Ai (Ap ?_);exact bC cs h
theorem UK:PTs X [] vB:=λpins s σ H Q I ⟨P,α,env,S,r,re,af⟩=>by
 unfold uU;rw[Lc];exact Ap ⟨H,I,af H P α r (qF.refl _) (AU _)⟩
theorem X1 {c:Bd}{cs:Aa Bd}{t u:DT}(h1:PT X c (tDT X t))(h2:PTs X cs u):PTs X (c::cs) (y8 t u):=λpins s σ H Q I ⟨P,α,env,S,r,re,af⟩=>by
 unfold uU;rw[Ke,AS rfl];refine Ai (Ai (thn (jY (λQ' q=>h1 pins s σ H Q' I q) r re af) λb s1 ⟨H1,P1,α1,S1,I1,r1,re1,e1,e2,af1⟩=>Ap ?_));cases b with
 |true=>exact h2 pins s1 σ H1 Q I1 ⟨P1,α1,env,S1,r1,re1,wD.base e1 e2 af1⟩
 |false=>exact bC cs ⟨H1,I1,af1 H1 P1 α1 r1 e1 e2⟩
theorem H8 {e:Bd}{f:DE}{pins:Aa (Ad × Bq)}{σ:_L.St}{env:qD}{d:D}(he:PE X e (tD X f))(I:Inv X pins σ H s)(r:Rel X.K H P α S)(re:qZ X.K P α σ env)(q:f env S=.ok d S1) :
  Ar (Au X.prog X.w) X.A (eval e X.env) (λu s1=>∃ v H1 P1 α1,Got X pins σ env P α u s1 v H1 P1 α1 d S1) X.xe s:=by
 refine thn (zM (g:=λd S=>Res.ok d S) (Ok:=λd' S'=>d'=d/\S'=S1) he I r re (by rw[q];exact⟨rfl,rfl⟩)) λu s1 ⟨v,H1,P1,α1,d',S',G,h1,h2⟩=>?_
 have e1:d'=d:=h1;have e2:S'=S1:=h2;subst e1;subst e2;exact⟨v,H1,P1,α1,G⟩
theorem R6 {ifs:Aa Bd}{t:DT}{pins:Aa (Ad × Bq)}{σ:_L.St}{env:qD}{b:Ao}(he:PTs X ifs t)(I:Inv X pins σ H s)(r:Rel X.K H P α S)(re:qZ X.K P α σ env)(q:t env S=.ok b S1) :
  Ar (Au X.prog X.w) X.A (uU ifs X.env) (λb' s1=>b'=b/\∃ H1 P1 α1,Inv X pins σ H1 s1/\Rel X.K H1 P1 α1 S1/\qZ X.K P1 α1 σ env/\qF P P1/\α<+:α1) X.xe s:=by
 refine thn (he pins s σ H (λb' H1=>b'=b/\∃ P1 α1,Rel X.K H1 P1 α1 S1/\qZ X.K P1 α1 σ env/\qF P P1/\α<+:α1) I ⟨P,α,env,S,r,re,?_⟩) λb' s1 ⟨H1,I1,e,P1,α1,q1,q2,q3,q4⟩=>⟨e,H1,P1,α1,I1,q1,q2,q3,q4⟩;rw[q];exact λH' P' α' r' e1 e2=>⟨rfl,P',α',r',re.mono e1 e2,e1,e2⟩
theorem H9 {tg:Bd}{g:DG}{pins:Aa (Ad × Bq)}{σ:_L.St}{env env1:qD}{d:D}{v:V}{u:Ac}(hg:PG X tg (tDG X g))(I:Inv X pins σ H s)(r:Rel X.K H P α S)(re:qZ X.K P α σ env)(rv:qM v u)
  (rp:Rep X.K P α d v) (q:g d env S=.ok env1 S1) :
  Ar (Au X.prog X.w) X.A (assign tg X.env u) (λ_ s1=>∃ σ1 H1 P1 α1,Inv X pins σ1 H1 s1/\Rel X.K H1 P1 α1 S1/\qZ X.K P1 α1 σ1 env1/\qF P P1/\α<+:α1) X.xe s:=by
 refine thn (hg pins s σ H v u (λσ1 H1=>∃ P1 α1,Rel X.K H1 P1 α1 S1/\qZ X.K P1 α1 σ1 env1/\qF P P1/\α<+:α1) I rv ⟨P,α,env,S,d,r,re,rp,?_⟩) λ_ s1 ⟨σ1,H1,I1,P1,α1,q1,q2,q3,q4⟩=>⟨σ1,H1,P1,α1,I1,q1,q2,q3,q4⟩;rw[q];exact λσ' H' P' α' r' re' e1 e2=>⟨P',α',r',re',e1,e2⟩
def gQ (K:Ah)(P:Hp)(α : Aa Ad)(ds:Aa D)(o:Bq):Prop:=∃ (its:Aa Ac) (n:Af) (vs:Aa V),o={ cls:=.type "list",data:=.seq its.toArray n } /\ qN vs its/\qE K P α ds vs/\ds.length<=lim
theorem gQ.mono (e:qF P P1)(h:α<+:α1)(a:gQ K P α ds o):gQ K P1 α1 ds o:=by
 obtain⟨its,n,vs,q1,q2,q3,q4⟩:=a;exact⟨its,n,vs,q1,q2,qE.mono e h _ _ q3,q4⟩
theorem gQ.cell (a:gQ K P α ds o):∀ v,o.data≠.cell v:=by
 obtain⟨its,n,vs,rfl,_⟩:=a;intro v z;cases z
theorem Inv.pin1 {pins:Aa (Ad × Bq)}{σ:_L.St}{a:Ad}(I:Inv X pins σ H s)(f:zX X pins H a)(e:s.heap.get? a=Ab o)(d:∀ v,o.data≠.cell v):Inv X (pins++[(a,o)]) σ H s:=
 I.pins_of λp hp=>(Bo.mp hp).elim (λz=>I.pin p (Bj _ z)) λz=>by
  have e':p=(a,o):=by simpa using z
  subst e';exact⟨e,f.1,f.2.1,f.2.2.1,d⟩
theorem Inv.pinned1 {pins:Aa (Ad × Bq)}{σ:_L.St}{a:Ad}(I:Inv X (pins++[(a,o)]) σ H s):s.heap.get? a=Ab o/\H a=none:=by
 have:=I.pin (a,o) (Bj _ (Bj _ (by simp)))
 exact⟨this.1,this.2.1⟩
end
structure Acc where
 m:Ao
 O:Ah->Hp->Aa Ad->Aa D->Bq->Prop
 mono:∀ {K:Ah} {P P1:Hp} {α α1:Aa Ad} {ds:Aa D} {o:Bq},qF P P1->α<+:α1->O K P α ds o->O K P1 α1 ds o
 cell:∀ {K:Ah} {P:Hp} {α : Aa Ad} {ds:Aa D} {o:Bq},O K P α ds o->∀ v,o.data≠.cell v
@[reducible] def accL:Acc:=⟨false,gQ,gQ.mono,gQ.cell⟩
noncomputable def xO (m:Ao)(elt:Bd)(gens:Aa Dm)(scope:Di)(pos:Do):Bd:=match m with
 |false=>.ListComp elt gens scope pos
 |true=>.SetComp elt gens scope pos
structure TurnSt (B:Acc)(Y:Cx)(pins:Aa (Ad × Bq))(P1:Hp)(α1:Aa Ad)(fp:Aa Ad)(acc:Ad)(env:qD)(S:Sto)(ds:Aa D)(s:Ag)(σ : _L.St)(H P:Hp)(α : Aa Ad)(o:Bq):Prop where
 inv:Inv Y pins σ H s
 rel:Rel Y.K H P α S
 env:qZ Y.K P α σ env
 same:qF P1 P
 pre:α1<+:α
 fpn:∀ b∈fp,H b=none
 acn:H acc=none
 at':s.heap.get? acc=Ab o
 acc:B.O Y.K P α ds o
noncomputable def wC (cells:Aa (An × Ad)):Aa (An × Gd)->Aa (An × Ad)->Aa (An × Ad)
 |[],cs=>cs
 |(n,k)::r,cs=>wC cells r (if k == .free then (n,(cells.lookup n).getD 0)::cs else cs)
theorem gO {env:Gv}{scope:Di}(h:∀ y∈scope.names,y.2=.free->∃ c,env.cells.lookup y.1=Ab c):OO scope env=pure (wC env.cells scope.names []):=by
 have go:∀ (l:Aa (An × Gd)) (cs:Aa (An × Ad)),(∀ y∈l,y.2=.free->∃ c,env.cells.lookup y.1=Ab c) ->
   (forIn l cs λx cs=>match x with|(name,kind)=>if (kind == Fc)=true then do let a <- cellOf env name;pure (IL ((name,a)::cs)) else pure (IL cs):IT (Aa (An × Ad)))=pure (wC env.cells l cs):=by
  intro l
  induction l with
  |nil=>intro cs _;rfl
  |cons y r ih =>
   intro cs hl;obtain⟨n,k⟩:=y;rw[Ke];by_cases hk:k=.free
   .subst hk
    obtain⟨c,hc⟩:=hl (n,.free) Bp rfl;have hc':env.cells.lookup n=Ab c:=hc;have e:cellOf env n=pure c:=by unfold cellOf;rw[hc']
    simp only[Em,Cq,e,pure_bind];rw[ih _ λz hz=>hl z (AT _ hz)];simp only[wC,Em,Cq,hc',OP]
   .have hb:(k == Fc)=false:=by simpa using hk
    simp only[hb,Cd,Ff,pure_bind];rw[ih _ λz hz=>hl z (AT _ hz)];simp only[wC,hb,Cd,Ff]
 unfold OO;have:=go scope.names [] h;simp only[bind_pure];exact this
theorem jG {x:An}{c:Ad}:∀ (l:Aa (An × Gd)) (cs:Aa (An × Ad)),(wC cells l cs).lookup x=Ab c->cs.lookup x=Ab c\/((x,Fc)∈l/\c=(cells.lookup x).getD 0)
 |[],cs,h=>.inl h
 |(n,k)::r,cs,h=>by
  rcases jG r _ h with h|⟨h1,h2⟩
  .by_cases hk:k=.free
   .subst hk
    simp only[Em,Cq,Io] at h;cases hb:x == n with
    |true =>
     rw[hb] at h;have e:x=n:=by simpa using hb
     subst e;exact .inr ⟨Bp,(Bx h).symm⟩
    |false=>rw[hb] at h;exact .inl h
   .have hb:(k == Fc)=false:=by simpa using hk
    simp only[hb,Cd,Ff] at h;exact .inl h
  .exact .inr ⟨AT _ h1,h2⟩
theorem uZ {x:An}:∀ (l:Aa (An × Gd)) (cs:Aa (An × Ad)),((x,Fc)∈l\/∃ c,cs.lookup x=Ab c)->∃ c,(wC cells l cs).lookup x=Ab c
 |[],cs,h=>by
  rcases h with h|h
  .cases h
  .exact h
 |(n,k)::r,cs,h=>by
  refine uZ r _ ?_;rcases h with h|⟨c,h⟩
  .rcases Bg.mp h with e|h
   .cases e
    exact .inr ⟨(cells.lookup x).getD 0,by simp only[Em,Cq,Io]⟩
   .exact .inl h
  .by_cases hk:k=.free
   .subst hk
    simp only[Em,Cq,Io];cases hb:x == n with
    |true=>exact .inr ⟨_,rfl⟩
    |false=>exact .inr ⟨c,h⟩
   .have hb:(k == Fc)=false:=by simpa using hk
    simp only[hb,Cd,Ff];exact .inr ⟨c,h⟩
structure CompSc (scX:Di)(NX:Aa An)(scope:Di)(N':Aa An)(cap:Aa (Al Af)):Prop where
 kind:scope.kind=.function
 names:∀ y∈scope.names,y.2=.local -> scope.names.lookup y.1=Ab .local
 cel:∀ y∈scope.names,y.2=.cell->scope.names.lookup y.1=Ab .cell
 free:∀ y∈scope.names,y.2=.free->scX.names.lookup y.1=Ab .cell\/scX.names.lookup y.1=Ab .free
 fr2:∀ y∈scope.names,y.2=.free->scope.names.lookup y.1=Ab .free
 len:cap.length=N'.length
 caps:((cap.zip N').all λp=>match p.1 with|none=>true|some i=>NX[i]? == Ab p.2&&scope.names.lookup p.2 == Ab .free)=true
 nd:N'.Nodup
noncomputable def yX (cap:Aa (Al Af))(σ : _L.St):_L.St:=cap.map λo=>match o with
 |none=>none
 |some i=>(σ[i]?).join
noncomputable def wL (cap:Aa (Al Af))(env:qD):qD:=cap.map λo=>match o with
 |none=>none
 |some i=>(env[i]?).join
theorem Q7 {σ:_L.St}{env:qD}(re:qZ K P α σ env)(cap:Aa (Al Af)):qZ K P α (yX cap σ) (wL cap env):=by
 refine⟨by simp[yX,wL],λj d e=>?_⟩
 unfold wL at e;unfold yX;rw[Dt] at e ⊢;cases q:cap[j]? with
 |none=>rw[q] at e;cases e
 |some o =>
  rw[q] at e;cases o with
  |none=>cases e
  |some i =>
   have e':(env[i]?).join=Ab d:=by simpa using e
   cases z:env[i]? with
   |none=>rw[z] at e';cases e'
   |some w =>
    rw[z] at e';have e'':w=Ab d:=e';subst e'';obtain⟨v,h1,h2⟩:=re.2 i d z;exact⟨v,by simp[h1],h2⟩
noncomputable def zG (X:Cx)(N':Aa An)(scope:Di)(cl:Aa (An × Ad))(C:Ad)(ex:Aa Ad)(s₀:Ag)(H₀:Hp):Cx:=
 { X with N:=N',s₀:=s₀,H₀:=H₀,env:=compEnvC scope cl C X.env,outer:=X.stack,stack:=X.stack,ex:=ex,fn:=λx=>decide (scope.names.lookup x=Ab .cell),pn:=[],xe:=λ_ _=>Eh }
theorem uR {scope:Di}{env:Gv}:∀ {names:Aa (An × Gd)} {x:An} {k:Gd},
  (names.map λ(n,k)=>if (k == Fc&&env.scope.kind == .function&&env.kindOf n == Ab .cell) then (n,Lz) else (n,k)).lookup x=Ab k ->
  names.lookup x=Ab k\/(k=.cell/\names.lookup x=Ab .free)
 |[],_,_,h=>by simp at h
 |(n,k0)::r,x,k,h=>by
  rw[Bt,Io] at h;rw[Io];dsimp only at h;cases hb:(k0 == Fc&&env.scope.kind == .function&&env.kindOf n == Ab .cell) with
  |true =>
   rw[hb] at h;simp only[Cq] at h;cases hx:x == n with
   |true =>
    rw[hx] at h;have e:Lz=k:=Bx h;have hk:k0=.free:=by
     have:=(As _ _).mp hb;have:=(As _ _).mp this.1;simpa using this.1
    subst hk;exact .inr ⟨e.symm,rfl⟩
   |false=>rw[hx] at h;exact uR (scope:=scope) h
  |false =>
   rw[hb] at h;simp only[Cd,Ff] at h;cases hx:x == n with
   |true=>rw[hx] at h;exact .inl h
   |false=>rw[hx] at h;exact uR (scope:=scope) h
section
variable {X:Cx}{scope:Di}{N':Aa An}{cap:Aa (Al Af)}{pins:Aa (Ad × Bq)}{σ : _L.St}{H2:Hp}{s2:Ag}{fp:Aa Ad}
theorem kS (S:CompSc X.env.scope X.N scope N' cap){x:An}{k:Gd}(h:(relabel scope X.env).names.lookup x=Ab k):scope.names.lookup x=Ab k\/(k=.cell/\scope.names.lookup x=Ab .free):=uR (scope:=scope) h
theorem i9 (S:CompSc X.env.scope X.N scope N' cap)(ok:X.Ok){x:An}{c:Ad}(h:(wC X.env.cells scope.names []).lookup x=Ab c):X.env.cells.lookup x=Ab c/\(x,Fc)∈scope.names:=by
 rcases jG _ _ h with h|⟨hm,hc⟩
 .cases h
 .have:=S.free _ hm rfl
  obtain⟨c',hc'⟩:=ok.has x this;rw[hc',OP] at hc;rw[hc',hc];exact⟨rfl,hm⟩
noncomputable def WC (scope:Di)(C:Ad):Aa (An × Ad):=Fx (C+1) scope.names []
noncomputable def kR (X:Cx)(scope:Di)(C:Ad):Aa (An × Ad):=Fx (C+1) scope.names (wC X.env.cells scope.names [])
theorem yH:∀ (names:Aa (An × Gd)) (lo:Af) (acc:Aa (An × Ad)),Fx lo names acc=Fx lo names [] ++ acc
 |[],_,_=>rfl
 |(n,k)::r,lo,acc=>by
  unfold Fx
  split
  .rw[yH r _ ((n,lo)::acc),yH r _ [(n,lo)],By];rfl
  .exact yH r lo acc
set_option tactic.hygienic true in
theorem gU:∀ (names:Aa (An × Gd)) (lo:Af) {n:An} {c:Ad},(n,c)∈Fx lo names [] -> (n,Lz)∈names
 |[],_,_,_,h=>by cases h
 |(n0,k)::r,lo,n,c,h=>by
  unfold Fx at h
  split at h
  .rename_i hk
   rw[yH] at h;rcases Bo.mp h with h|h
   .exact AT _ (gU r _ h)
   .have e:(n,c)=(n0,lo):=by simpa using h
    cases e;have:k=Lz:=by simpa using hk
    rw[this];exact Bp
  .exact AT _ (gU r _ h)
theorem x5 (S:CompSc X.env.scope X.N scope N' cap)(ok:X.Ok){C:Ad}{x:An}{c:Ad}(h:(kR X scope C).lookup x=Ab c):((x,c)∈WC scope C/\scope.names.lookup x=Ab .cell)\/(X.env.cells.lookup x=Ab c/\(x,Fc)∈scope.names):=by
 unfold kR at h;rw[yH,Tq] at h;cases q:(Fx (C+1) scope.names []).lookup x with
 |some c' =>
  rw[q] at h;cases h;have m:=Ec q;exact .inl ⟨m,S.cel _ (gU _ _ m) rfl⟩
 |none =>
  rw[q] at h;exact .inr (i9 S ok h)
theorem lL (S:CompSc X.env.scope X.N scope N' cap)(ok:X.Ok){C:Ad}{x:An}(h:scope.names.lookup x=Ab .cell\/scope.names.lookup x=Ab .free):∃ c,(kR X scope C).lookup x=Ab c:=by
 unfold kR;rw[yH,Tq];rcases h with h|h
 .have:=IJ scope.names (C+1) [] (x:=x) (.inl h)
  obtain⟨c,hc⟩:=Ik.mp this;exact⟨c,by rw[hc];rfl⟩
 .obtain⟨c',hc'⟩:=uZ (cells:=X.env.cells) scope.names [] (.inl (Ec h))
  rw[hc'];cases (Fx (C+1) scope.names []).lookup x with
  |none=>exact⟨c',rfl⟩
  |some c=>exact⟨c,rfl⟩
theorem VX (S:CompSc X.env.scope X.N scope N' cap)(I2:Inv X pins σ H2 s2)(hf:∀ b∈fp,zX X pins H2 b)(hlt:∀ b∈fp,b<s2.heap.objs.size)(hC:s2.heap.objs.size<=C){h1:Bc}(co:CellsOk h1 (C+1) (WC scope C)) :
  (zG X N' scope (kR X scope C) C fp s2 H2).Ok where
 mod:=I2.ok.mod
 kind:=S.kind
 glob:=I2.ok.glob
 blt:=I2.ok.blt
 above:=hC
 inj:=λx y c h1 h2=>by
  rcases x5 S I2.ok h1 with⟨m1,_⟩|⟨m1,_⟩ <;> rcases x5 S I2.ok h2 with⟨m2,_⟩|⟨m2,_⟩
  .exact PySem.name_of_addr co.apart m1 m2
  .obtain⟨v,ob,hob,_⟩:=I2.cell y c m2
   exact absurd (Aw (Ay hob) hC) (Ss.mpr (Ee (co.empty x c m1).2))
  .obtain⟨v,ob,hob,_⟩:=I2.cell x c m1
   exact absurd (Aw (Ay hob) hC) (Ss.mpr (Ee (co.empty y c m2).2))
  .exact I2.ok.inj x y c m1 m2
 has:=λx hx=>by
  have hx':(relabel scope X.env).names.lookup x=Ab .cell\/(relabel scope X.env).names.lookup x=Ab .free:=hx;refine lL S I2.ok ?_;rcases hx' with h|h
  .rcases kS S h with h|⟨_,h⟩
   .exact .inl h
   .exact .inr h
  .rcases kS S h with h|⟨z,_⟩
   .exact .inr h
   .cases z
 cab:=λx c h h2=>by
  have hx:scope.names.lookup x=Ab .cell:=Bi h;rcases x5 S I2.ok h2 with⟨m,_⟩|⟨_,m⟩
  .exact Bu hC (Ee (co.empty x c m).2)
  .have:=S.fr2 _ m rfl
   have this':scope.names.lookup x=Ab .free:=this;rw[hx] at this';cases this'
 hd:=I2.ok.hd
 frames:=I2.ok.frames
 stk:=.inl rfl
 exf:=λb hb=>⟨Bs (Aw (hlt b hb) hC),λx c h=>by
  rcases x5 S I2.ok h with⟨m,_⟩|⟨m,_⟩
  .exact Fa (Bs (Jj (Aw (hlt b hb) hC) (co.empty x c m).2))
  .exact(hf b hb).2.2.2.2.1 x c m⟩
 bs:=I2.bs
 bsz:=Bu I2.ok.bsz I2.sz
 noex:=λb o e hb=>by
  obtain⟨_,_,_,h,_⟩:=hf b hb;rcases h with h|h
  .exact I2.ok.noex b o e h
  .exact absurd (Aw (Ay e) (Bu I2.ok.bsz h)) (Dr _)
 exfs:=λb hb hb2=>by
  obtain⟨_,h1,h2,_⟩:=hf b hb;rcases Bg.mp (I2.stkSub b hb2) with z|z
  .exact h1 z
  .exact h2 z
 funs:=I2.stack
 frf:=I2.stkFree
theorem ZK {s4:Ag}{m:An->Al Ac}(S:CompSc X.env.scope X.N scope N' cap)(I2:Inv X pins σ H2 s2)(hf:∀ b∈fp,zX X pins H2 b)(hlt:∀ b∈fp,b<s2.heap.objs.size)(hC:s2.heap.objs.size<=C)
  (hn:s4.heap.Ns C m) (os:s4.os=s2.os) (gens:s4.gens=s2.gens) (keep:∀ b o,s2.heap.get? b=Ab o->s4.heap.get? b=Ab o) (co:CellsOk s4.heap (C+1) (WC scope C)) :
  Inv (zG X N' scope (kR X scope C) C fp s2 H2) [] (yX cap σ) H2 s4 where
 ok:=VX S I2 hf hlt hC co
 os:=os
 bare:=gens▸I2.bare
 base:=Un.kept keep
 loc:=by
  refine⟨m,hn,λj x v h1 h2 h3=>?_⟩;have h1':N'[j]? = Ab x:=h1;unfold yX at h2;rw[Dt] at h2;cases q:cap[j]? with
  |none=>rw[q] at h2;cases h2
  |some o =>
   rw[q] at h2;cases o with
   |none=>cases h2
   |some i =>
    have e':(σ[i]?).join=Ab v:=by simpa using h2
    have hσ:σ[i]? = Ab (Ab v):=by
     cases z:σ[i]? with
     |none=>rw[z] at e';cases e'
     |some w=>rw[z] at e';have:w=Ab v:=e';rw[this]
    have hz:(Ab i,x)∈cap.zip N':=by
     refine IW.mpr ⟨j,?_⟩;rw[O7];exact⟨q,h1'⟩
    have hc:=Cb.mp S.caps _ hz;simp only[As,Nj] at hc;obtain⟨hN,hfr⟩:=hc;have hk:=S.free _ (Ec hfr) rfl;obtain⟨mo,hmo,hl⟩:=I2.loc;have vis:Vis X.env.scope x:=by
     rcases hk with k|k
     .exact .inr (.inl k)
     .exact .inr (.inr k)
    obtain⟨u,ru,lk⟩:=hl i x v hN hσ vis;refine⟨u,ru,?_⟩;rcases lk with⟨kl,_⟩|⟨_,c,hcl,hcell⟩
    .have kl':X.env.scope.names.lookup x=Ab .local:=kl
     rcases hk with k|k
     .have k':X.env.scope.names.lookup x=Ab .cell:=k
      rw[kl'] at k';cases k'
     .have k':X.env.scope.names.lookup x=Ab .free:=k
      rw[kl'] at k';cases k'
    .obtain⟨c',hc'⟩:=lL S I2.ok (C:=C) (.inr hfr)
     have e2:X.env.cells.lookup x=Ab c':=by
      rcases x5 S I2.ok hc' with⟨_,z⟩|⟨z,_⟩
      .rw[hfr] at z;cases z
      .exact z
     rw[hcl] at e2;cases e2;refine .inr ⟨?_,c,hc',?_⟩
     .have h3':Vis (relabel scope X.env) x:=h3
      rcases h3' with h|h|h
      .rcases kS S h with h|⟨z,_⟩
       .rw[hfr] at h;cases h
       .cases z
      .exact .inl h
      .exact .inr h
     .obtain⟨ob,hob,hd⟩:=hcell
      exact⟨ob,keep c ob hob,hd⟩
 cell:=λx c h=>by
  rcases x5 S I2.ok h with⟨m,_⟩|⟨m,_⟩
  .exact⟨none,(co.empty x c m).1⟩
  .obtain⟨v,ob,hob,hd⟩:=I2.cell x c m
   exact⟨v,ob,keep c ob hob,hd⟩
 free:=I2.hok.fresh hC
 freeC:=λx c h=>by
  rcases x5 S I2.ok h with⟨m,_⟩|⟨m,_⟩
  .exact I2.hok.fresh (Bu hC (Ee (co.empty x c m).2))
  .exact I2.freeC x c m
 pin:=λp hp=>absurd (show p∈([]:Aa (Ad × Bq)) from hp) (by simp)
 hok:=I2.hok.kept keep
 len:=by
  show (yX cap σ).length=N'.length;simp[yX,S.len]
end
theorem iS {P:AV}{h:Bc}{a:Ad}{o:HO}(x:HOk P w H h)(hn:H a=none)(new:z9 P w (upd H a o) h a o):HOk P w (upd H a o) h:=λb u e=>by
 by_cases hb:b=a
 .subst hb;rw[qX] at e;cases e;exact new
 .rw[qH hb] at e
  exact(x b u e).stay (λc v _ q=>q) (λc q=>by rw[qH (qS q hn)];exact q) λc xs q=>by rw[qH (qS q hn)];exact q
theorem tZ {P:AV}{h h':Bc}(x:HOk P w H h)(hn:H C=none)(k:∀ b o,b≠C->h.get? b=Ab o->h'.get? b=Ab o):HOk P w H h':=λb u e =>
 (x b u e).stay (λc v hc q=>k c v (by
  rintro rfl;rcases hc with z|z
  .subst z;rw[hn] at e;cases e
  .rw[hn] at z;cases z) q) (λ_ q=>q) λ_ _ q=>q
section
variable {X:Cx}{elt tg iter:Bd}{ifs:Aa Bd}{scope:Di}{pos:Do}{N':Aa An}{cap:Aa (Al Af)}{fi:DI}{g:DG}{t:DT}{fe:DE}
def pK (X:Cx)(pins:Aa (Ad × Bq))(σ : _L.St)(P1:Hp)(α1:Aa Ad)(ds:Aa D)(SF:Sto)(acc C:Ad)(s:Ag):Prop:=
 ∃ (H' P':Hp) (α' : Aa Ad) (vs:Aa V),Inv X pins σ (upd H' acc (.lst vs)) s/\Rel X.K H' P' α' SF/\H' acc=none/\qF P1 P'/\α1<+:α'/\qE X.K P' α' ds vs/\H' C=none
theorem ZJ {Y:Cx}{pins:Aa (Ad × Bq)}{σ σ':_L.St}{H2:Hp}{s2 s':Ag}{fp:Aa Ad}{acc:Ad}{H' P':Hp}{α':Aa Ad}{envF:qD}{SF:Sto}{cl:Aa (An × Ad)}(I2:Inv X pins σ H2 s2)
  (hf:∀ b∈fp,zX X pins H2 b) (hY:Y=zG X N' scope cl C fp s2 H2) (hC:s2.heap.objs.size<=C) (hA:s2.heap.objs.size<=acc) (hne:acc≠C) (st:TurnSt accL Y [] P1 α1 fp acc envF SF ds s' σ' H' P' α' o)
  {h':Bc} (sb:Hs C s'.heap h'):pK X pins σ P1 α1 ds SF acc C { s' with heap:=h' }:=by
 subst hY;obtain⟨its,n,vs,rfl,rv,rp,hz⟩:=st.acc;have kC:∀ b o,b≠C->s'.heap.get? b=Ab o->h'.get? b=Ab o:=λb o hb e=>(sb.2 b hb).trans e;have nC:∀ b o,s2.heap.get? b=Ab o->b≠C:=λb o e=>Bs (Aw (Ay e) hC);have nA:∀ b o,s2.heap.get? b=Ab o->b≠acc:=λb o e=>Bs (Aw (Ay e) hA);have base:Un (frs X.stack) fp H2 H' s2.heap s'.heap:=st.inv.base;have nt:∀ b u,H' b=Ab u->b≠acc:=λb u e=>qS e st.acn;have un:Un (frs X.stack) fp H2 (upd H' acc (.lst vs)) s2.heap h':=by
  refine⟨λb ob q hn hb hx=>kC b ob (nC b ob q) (base.keep b ob q hn hb hx),λb ob q hn hb hx=>?_,λb ob q hn hx=>?_,λb ob q hx=>?_,λb xs q=>?_,λb ob u q=>?_,λb ps q=>?_⟩
  .obtain⟨sl,e⟩:=base.slot b ob q hn hb hx
   exact⟨sl,kC b _ (nC b ob q) e⟩
  .rw[qH (nA b ob q)];exact base.free b ob q hn hx
  .obtain⟨o',e⟩:=base.there b ob q hx
   exact⟨o',kC b o' (nC b ob q) e⟩
  .have:=base.tups b xs q;rw[qH (nt _ _ this)];exact this
  .have:=base.frzs b ob u q;rw[qH (nt _ _ this)];exact this
  .obtain⟨more,e⟩:=base.tbls b ps q
   exact⟨more,by rw[qH (nt _ _ e)];exact e⟩
 have hok':HOk X.prog X.w H' h':=tZ st.inv.hok st.inv.free kC;have hat:h'.get? acc=Ab { cls:=.type "list",data:=.seq its.toArray n }:=kC acc _ hne st.at';have hok:HOk X.prog X.w (upd H' acc (.lst vs)) h':=iS hok' st.acn ⟨by rw[<- rp.length,<- zQ];exact hz,its,n,rv,hat⟩
 refine⟨H',P',α',vs,?_,st.rel,st.acn,st.same,st.pre,rp,st.inv.free⟩;exact I2.call' (s':={ s' with heap:=h' }) (ch:=fp) (st.inv.os) un hok st.inv.bare λb hb=>by
  obtain⟨_,h1,h2,h3,h4,h5⟩:=hf b hb;exact⟨h3,h1,h4,h5⟩
theorem VW (S:CompSc X.env.scope X.N scope N' cap)(ok:X.Ok):OO scope X.env=pure (wC X.env.cells scope.names []):=gO λy hy hk=>ok.has y.1 (S.free y hy hk)
theorem UM {pins:Aa (Ad × Bq)}{σ:_L.St}{SF:Sto}{acc:Ad}{Q:VK}(c:pK X pins σ P1 α1 ds SF acc C s)(ok:OkV X P1 α1 Q (.lst ds) SF):EP X pins σ Q (.ref acc) s:=by
 obtain⟨H',P',α',vs,I,r,hn,e1,e2,rp,_⟩:=c;exact⟨.ref acc,_,I,rfl,wK r hn rp λv H2 P2 α2 r2 q1 q2 q3=>ok v H2 P2 α2 r2 (e1.trans q1) (e2.trans q2) q3⟩
end
end _D
section
namespace _D
open PySem PySem.Spec PyProof.Rows _L PySem.SeqAt
noncomputable def b01 (b:Ao):Aj:=if b then 1 else 0
mutual
noncomputable def eqD:D->D->Ao
 |.non,.non=>true
 |.bl a,.bl b=>a == b
 |.bl a,.int b=>b01 a == b
 |.int a,.bl b=>a == b01 b
 |.int a,.int b=>a == b
 |.str a,.str b=>a == b
 |.tup xs,.tup ys=>wB xs ys
 |.lst xs,.lst ys=>wB xs ys
 |_,_=>false
noncomputable def wB:Aa D->Aa D->Ao
 |[],[]=>true
 |x::xs,y::ys=>eqD x y&&wB xs ys
 |_,_=>false
end
noncomputable def pl:Af->D->Ao
 |_,.non=>true
 |_,.bl _=>true
 |_,.int _=>true
 |_,.str _=>true
 |n+1,.tup xs=>xs.all (pl n)
 |n+1,.lst xs=>xs.all (pl n)
 |_,_=>false
theorem iK (x y:D)(xs ys:Aa D):wB (x::xs) (y::ys)=(eqD x y&&wB xs ys):=rfl
theorem uI:∀ (xs ys:Aa D),wB xs ys=((Cw (min xs.length ys.length)).all (λj=>eqD (xs.getD j .non) (ys.getD j .non))&&xs.length == ys.length)
 |[],[]=>rfl
 |[],y::ys=>rfl
 |x::xs,[]=>rfl
 |x::xs,y::ys=>by
  have ih:=uI xs ys;rw[iK,ih,Bv,Bv,Nat.succ_min_succ,Ll,Ma,OX,Bool.and_assoc];have e:(xs.length+1 == ys.length+1)=(xs.length == ys.length):=by simp
  rw[e];rfl
theorem X3 {xs ys:Aa D}(h:xs.length≠ys.length):wB xs ys=false:=by
 rw[uI];simp[h]
theorem mU (xs ys:Aa D):eqD (.tup xs) (.tup ys)=wB xs ys:=rfl
theorem mT (xs ys:Aa D):eqD (.lst xs) (.lst ys)=wB xs ys:=rfl
section
variable {X:Cx}{pins:Aa (Ad × Bq)}{σ : _L.St}{H P:Hp}{α : Aa Ad}{S:Sto}{s:Ag}
inductive Kd (X:Cx)(P:Hp)(α : Aa Ad)(s:Ag):D->Ac->Prop where
 |non:Kd X P α s .non .none
 |bl (b:Ao):Kd X P α s (.bl b) (.bool b)
 |int (i:Aj) (t:Oo):Kd X P α s (.int i) (.int i t)
 |str (x:An) (t:Oo):Kd X P α s (.str x) (.str x t)
 |tup (a:Ad) (xs:Aa D) (its:Aa Ac) (vs:Aa V) (rp:qE X.K P α xs vs) (rv:qN vs its) (h:s.heap.IsTuple a its.toArray) (q:SqT X.K P a vs):Kd X P α s (.tup xs) (.ref a)
 |lst (a:Ad) (xs:Aa D) (its:Aa Ac) (vs:Aa V) (rp:qE X.K P α xs vs) (rv:qN vs its) (h:s.heap.IsList a its.toArray) (q:SqX X.K P a vs):Kd X P α s (.lst xs) (.ref a)
theorem j9 (I:Inv X pins σ H s)(r:Rel X.K H P α S){n:Af}{d:D}{v:V}{u:Ac}(h:pl n d=true)(p:Rep X.K P α d v)(rv:qM v u):Kd X P α s d u:=by
 cases d with
 |non=>simp only[Rep] at p;subst p;cases rv;exact .non
 |bl b=>simp only[Rep] at p;subst p;cases rv;exact .bl b
 |int i=>simp only[Rep] at p;subst p;obtain⟨t,rfl⟩:=rv;exact .int i t
 |str x=>simp only[Rep] at p;subst p;obtain⟨t,rfl⟩:=rv;exact .str x t
 |tup xs =>
  simp only[Rep] at p;obtain⟨a,vs,rfl,q,t⟩:=p;cases rv;obtain⟨its,r1,p1,_⟩:=I.tuple (xA r.sub q);exact .tup a xs its vs t r1 p1 q
 |lst xs =>
  simp only[Rep] at p;obtain⟨a,vs,rfl,q,t⟩:=p;cases rv;obtain⟨its,r1,p1,_⟩:=I.list ((xF r.sub q).l);exact .lst a xs its vs t r1 p1.isList q
 |_=>cases n <;> exact Hc h
theorem yA {ds:Aa D}{vs:Aa V}{its:Aa Ac}(rp:qE X.K P α ds vs)(rv:qN vs its){j:Af}(h:j<its.toArray.size):∃ v,Rep X.K P α (ds.getD j .non) v/\qM v its.toArray[j]/\ds.getD j .non∈ds:=by
 have l1:=rp.length;have l2:=rv.length;have hj:j<its.length:=by simpa using h
 have hd:j<ds.length:=by lia
 obtain⟨v,e1,p⟩:=rp.get (AW hd);obtain⟨u,e2,q⟩:=rv.get e1;have e3:its.toArray[j]=u:=by
  have:its[j]? = Ab its[j]:=AW hj;rw[this] at e2;simpa using Bx e2
 have e4:ds.getD j .non=ds[j]:=by simp[Qq,hd]
 rw[e3,e4];exact⟨v,p,q,Vm hd⟩
theorem jD {n:Af}{ds:Aa D}(h:ds.all (pl n)=true){d:D}(hd:d∈ds):pl n d=true:=Cb.mp h d hd
theorem JE {h:Bc}{a:Ad}{xs ys:AZ Ac}(h1:h.IsTuple a xs)(h2:h.IsTuple a ys):xs=ys:=by
 obtain⟨o,e,_,n,d⟩:=h1;obtain⟨o',e',_,n',d'⟩:=h2;cases e.symm.trans e';cases d.symm.trans d';rfl
theorem JC {h:Bc}{a:Ad}{xs ys:AZ Ac}(h1:h.IsList a xs)(h2:h.IsList a ys):xs=ys:=by
 obtain⟨o,e,_,n,d⟩:=h1;obtain⟨o',e',_,n',d'⟩:=h2;cases e.symm.trans e';cases d.symm.trans d';rfl
theorem FJ {h:Bc}{a:Ad}{xs ys:AZ Ac}(h1:h.IsTuple a xs)(h2:h.IsList a ys):Eh:=by
 obtain⟨o,e,c,_⟩:=h1;obtain⟨o',e',c',_⟩:=h2;cases e.symm.trans e';exact absurd (c.symm.trans c') (by decide)
inductive Seqs (X:Cx)(P:Hp)(α : Aa Ad)(xs ys:Aa D)(its its2:Aa Ac):Prop
 |mk (vs ws:Aa V) (rp:qE X.K P α xs vs) (rv:qN vs its) (rp2:qE X.K P α ys ws) (rv2:qN ws its2):Seqs X P α xs ys its its2
theorem Seqs.len1 {xs ys:Aa D}{its its2:Aa Ac}(q:Seqs X P α xs ys its its2):xs.length=its.length:=by
 obtain⟨vs,ws,rp,rv,_,_⟩:=q;exact rp.length.trans rv.length
theorem Seqs.len2 {xs ys:Aa D}{its its2:Aa Ac}(q:Seqs X P α xs ys its its2):ys.length=its2.length:=by
 obtain⟨vs,ws,_,_,rp,rv⟩:=q;exact rp.length.trans rv.length
inductive SameR (X:Cx)(P:Hp)(α : Aa Ad):D->D->Prop
 |eq {d d':D} (h:eqD d d'=true):SameR X P α d d'
 |tt (xs ys:Aa D) (its:Aa Ac) (q:Seqs X P α xs ys its its):SameR X P α (.tup xs) (.tup ys)
 |ll (xs ys:Aa D) (its:Aa Ac) (q:Seqs X P α xs ys its its):SameR X P α (.lst xs) (.lst ys)
theorem h9 {d d':D}{u:Ac}(k1:Kd X P α s d u)(k2:Kd X P α s d' u):SameR X P α d d':=by
 cases k1 with
 |non=>cases k2;exact .eq rfl
 |bl b=>cases k2;exact .eq (Em _)
 |int i t=>cases k2;exact .eq (Em _)
 |str x t=>cases k2;exact .eq (Em _)
 |tup a xs its vs rp rv h q =>
  cases k2 with
  |tup _ ys its2 ws rp2 rv2 h2 q2 =>
   cases JE h h2;exact .tt xs ys its ⟨vs,ws,rp,rv,rp2,rv2⟩
  |lst _ ys its2 ws rp2 rv2 h2 q2=>exact(FJ h h2).elim
 |lst a xs its vs rp rv h q =>
  cases k2 with
  |lst _ ys its2 ws rp2 rv2 h2 q2 =>
   cases JC h h2;exact .ll xs ys its ⟨vs,ws,rp,rv,rp2,rv2⟩
  |tup _ ys its2 ws rp2 rv2 h2 q2=>exact(FJ h2 h).elim
theorem tX (I:Inv X pins σ H s)(r:Rel X.K H P α S){m:Af}(ih:∀ (d d':D) (u:Ac),pl m d=true->pl m d'=true->Kd X P α s d u->Kd X P α s d' u->eqD d d'=true){xs ys:Aa D}{its:Aa Ac}(h1:xs.all (pl m)=true)(h2:ys.all (pl m)=true)(q:Seqs X P α xs ys its its):wB xs ys=true:=by
 obtain⟨vs,ws,rp,rv,rp2,rv2⟩:=q;have l1:=rp.length.trans rv.length;have l2:=rp2.length.trans rv2.length;rw[uI,l1,l2,Ua,As];refine⟨Cb.mpr λj hj=>?_,BEq.rfl⟩;have hj:j<its.toArray.size:=Es.mp hj;obtain⟨w1,y1,z1,m1⟩:=yA rp rv hj;obtain⟨w2,y2,z2,m2⟩:=yA rp2 rv2 hj;exact ih _ _ _ (jD h1 m1) (jD h2 m2) (j9 I r (jD h1 m1) y1 z1) (j9 I r (jD h2 m2) y2 z2)
theorem rV (I:Inv X pins σ H s)(r:Rel X.K H P α S):∀ (n:Af) (d d':D) (u:Ac),pl n d=true->pl n d'=true->Kd X P α s d u->Kd X P α s d' u->eqD d d'=true:=by
 intro n
 induction n with
 |zero =>
  intro d d' u h1 h2 k1 k2;cases h9 k1 k2 with
  |eq h=>exact h
  |tt=>exact Hc h1
  |ll=>exact Hc h1
 |succ m ih =>
  intro d d' u h1 h2 k1 k2;cases h9 k1 k2 with
  |eq h=>exact h
  |tt xs ys its q=>exact(mU xs ys).trans (tX I r ih h1 h2 q)
  |ll xs ys its q=>exact(mT xs ys).trans (tX I r ih h1 h2 q)
structure E3 (A:Bh)(s:Ag)(u u':Ac)(b:Ao):Prop where
 eq:EqAt A s u u' b
 rc:RcAt A s u u' b
 ne:RcNeAt A s u u' (!b)
inductive EqR (X:Cx)(P:Hp)(α : Aa Ad)(A:Bh)(s:Ag):D->D->Ac->Ac->Prop
 |of {d d':D} {u u':Ac} (b:Ao) (e:eqD d d'=b) (h:E3 A s u u' b):EqR X P α A s d d' u u'
 |tt (a b:Ad) (xs ys:Aa D) (its its2:Aa Ac) (ha:s.heap.IsTuple a its.toArray) (hb:s.heap.IsTuple b its2.toArray) (q:Seqs X P α xs ys its its2):EqR X P α A s (.tup xs) (.tup ys) (.ref a) (.ref b)
 |ll (a b:Ad) (xs ys:Aa D) (its its2:Aa Ac) (ha:s.heap.IsList a its.toArray) (hb:s.heap.IsList b its2.toArray) (q:Seqs X P α xs ys its its2):EqR X P α A s (.lst xs) (.lst ys) (.ref a) (.ref b)
theorem YN {A:Bh}{d d':D}{u u':Ac}(hu:A.units<Hz)(k1:Kd X P α s d u)(k2:Kd X P α s d' u'):EqR X P α A s d d' u u':=by
 cases k1 with
 |non  =>
  cases k2 with
  |non  => exact .of _ rfl ⟨Xt _,RcAt.none_none,RcNeAt.none_none⟩
  |bl b=>exact .of _ rfl ⟨EqAt.none_bool b,RcAt.none_bool b,RcNeAt.none_bool b⟩
  |int b tb=>exact .of _ rfl ⟨EqAt.none_int b tb,RcAt.none_int b tb,RcNeAt.none_int b tb⟩
  |str b tb=>exact .of _ rfl ⟨EqAt.none_str b tb,RcAt.none_str b tb,RcNeAt.none_str b tb⟩
  |tup b ys its2 ws rp2 rv2 hb qb=>exact .of _ rfl ⟨EqAt.none_tuple hb hu,RcAt.none_tuple hb hu,RcNeAt.none_tuple hb hu⟩
  |lst b ys its2 ws rp2 rv2 hb qb=>exact .of _ rfl ⟨EqAt.none_list hb hu,RcAt.none_list hb hu,RcNeAt.none_list hb hu⟩
 |bl a =>
  cases k2 with
  |non  => exact .of _ rfl ⟨EqAt.bool_none a,RcAt.bool_none a,RcNeAt.bool_none a⟩
  |bl b=>exact .of _ rfl ⟨EqAt.bool_bool a b,RcAt.bool_bool a b,RcNeAt.bool_bool a b⟩
  |int b tb=>exact .of _ rfl ⟨EqAt.bool_int a b tb,RcAt.bool_int a b tb,RcNeAt.bool_int a b tb⟩
  |str b tb=>exact .of _ rfl ⟨EqAt.bool_str a b tb,RcAt.bool_str a b tb,RcNeAt.bool_str a b tb⟩
  |tup b ys its2 ws rp2 rv2 hb qb=>exact .of _ rfl ⟨EqAt.bool_tuple a hb hu,RcAt.bool_tuple a hb hu,RcNeAt.bool_tuple a hb hu⟩
  |lst b ys its2 ws rp2 rv2 hb qb=>exact .of _ rfl ⟨EqAt.bool_list a hb hu,RcAt.bool_list a hb hu,RcNeAt.bool_list a hb hu⟩
 |int a ta =>
  cases k2 with
  |non  => exact .of _ rfl ⟨EqAt.int_none a ta,RcAt.int_none a ta,RcNeAt.int_none a ta⟩
  |bl b=>exact .of _ rfl ⟨EqAt.int_bool a ta b,RcAt.int_bool a ta b,RcNeAt.int_bool a ta b⟩
  |int b tb=>exact .of _ rfl ⟨EqAt.int_int a ta b tb,RcAt.int_int a ta b tb,RcNeAt.int_int a ta b tb⟩
  |str b tb=>exact .of _ rfl ⟨EqAt.int_str a ta b tb,RcAt.int_str a ta b tb,RcNeAt.int_str a ta b tb⟩
  |tup b ys its2 ws rp2 rv2 hb qb=>exact .of _ rfl ⟨EqAt.int_tuple a ta hb hu,RcAt.int_tuple a ta hb hu,RcNeAt.int_tuple a ta hb hu⟩
  |lst b ys its2 ws rp2 rv2 hb qb=>exact .of _ rfl ⟨EqAt.int_list a ta hb hu,RcAt.int_list a ta hb hu,RcNeAt.int_list a ta hb hu⟩
 |str a ta =>
  cases k2 with
  |non  => exact .of _ rfl ⟨EqAt.str_none a ta,RcAt.str_none a ta,RcNeAt.str_none a ta⟩
  |bl b=>exact .of _ rfl ⟨EqAt.str_bool a ta b,RcAt.str_bool a ta b,RcNeAt.str_bool a ta b⟩
  |int b tb=>exact .of _ rfl ⟨EqAt.str_int a ta b tb,RcAt.str_int a ta b tb,RcNeAt.str_int a ta b tb⟩
  |str b tb=>exact .of _ rfl ⟨EqAt.str_str a ta b tb,RcAt.str_str a ta b tb,RcNeAt.str_str a ta b tb⟩
  |tup b ys its2 ws rp2 rv2 hb qb=>exact .of _ rfl ⟨EqAt.str_tuple a ta hb hu,RcAt.str_tuple a ta hb hu,RcNeAt.str_tuple a ta hb hu⟩
  |lst b ys its2 ws rp2 rv2 hb qb=>exact .of _ rfl ⟨EqAt.str_list a ta hb hu,RcAt.str_list a ta hb hu,RcNeAt.str_list a ta hb hu⟩
 |tup a xs its vs rp rv ha qa =>
  cases k2 with
  |non  => exact .of _ rfl ⟨EqAt.tuple_none ha hu,RcAt.tuple_none ha hu,RcNeAt.tuple_none ha hu⟩
  |bl b=>exact .of _ rfl ⟨EqAt.tuple_bool b ha hu,RcAt.tuple_bool b ha hu,RcNeAt.tuple_bool b ha hu⟩
  |int b tb=>exact .of _ rfl ⟨EqAt.tuple_int b tb ha hu,RcAt.tuple_int b tb ha hu,RcNeAt.tuple_int b tb ha hu⟩
  |str b tb=>exact .of _ rfl ⟨EqAt.tuple_str b tb ha hu,RcAt.tuple_str b tb ha hu,RcNeAt.tuple_str b tb ha hu⟩
  |tup b ys its2 ws rp2 rv2 hb qb=>exact .tt a b xs ys its its2 ha hb ⟨vs,ws,rp,rv,rp2,rv2⟩
  |lst b ys its2 ws rp2 rv2 hb qb=>exact .of _ rfl ⟨EqAt.tuple_list ha hb hu,RcAt.tuple_list ha hb hu,RcNeAt.tuple_list ha hb hu⟩
 |lst a xs its vs rp rv ha qa =>
  cases k2 with
  |non  => exact .of _ rfl ⟨EqAt.list_none ha hu,RcAt.list_none ha hu,RcNeAt.list_none ha hu⟩
  |bl b=>exact .of _ rfl ⟨EqAt.list_bool b ha hu,RcAt.list_bool b ha hu,RcNeAt.list_bool b ha hu⟩
  |int b tb=>exact .of _ rfl ⟨EqAt.list_int b tb ha hu,RcAt.list_int b tb ha hu,RcNeAt.list_int b tb ha hu⟩
  |str b tb=>exact .of _ rfl ⟨EqAt.list_str b tb ha hu,RcAt.list_str b tb ha hu,RcNeAt.list_str b tb ha hu⟩
  |tup b ys its2 ws rp2 rv2 hb qb=>exact .of _ rfl ⟨EqAt.list_tuple ha hb hu,RcAt.list_tuple ha hb hu,RcNeAt.list_tuple ha hb hu⟩
  |lst b ys its2 ws rp2 rv2 hb qb=>exact .ll a b xs ys its its2 ha hb ⟨vs,ws,rp,rv,rp2,rv2⟩
theorem E3.cast {A:Bh}{u u':Ac}{b c:Ao}(e:c=b)(h:E3 A s u u' b):E3 A s u u' c:=e▸h
theorem DN {A:Bh}{a b:Ad}{xs ys:Aa D}{its its2:Aa Ac}(hu:A.units<Hz)(ha:s.heap.IsTuple a its.toArray)(hb:s.heap.IsTuple b its2.toArray)(l1:xs.length=its.length)(l2:ys.length=its2.length)
  (sub:∀ j (h1:j<its.toArray.size) (h2:j<its2.toArray.size),EqAt A.in1 s its.toArray[j] its2.toArray[j] (eqD (xs.getD j .non) (ys.getD j .non))) (same:a=b->wB xs ys=true):E3 A s (.ref a) (.ref b) (wB xs ys):=by
 have e:wB xs ys=((Cw (min its.toArray.size its2.toArray.size)).all (λj=>eqD (xs.getD j .non) (ys.getD j .non))&&its.toArray.size == its2.toArray.size):=by rw[uI,l1,l2];rfl
 have R1:=RcAt.tuples ha hb hu sub;have R2:=RcNeAt.tuples ha hb hu sub;rw[<- e] at R1 R2;refine⟨?_,R1,R2⟩;by_cases hab:a=b
 .rw[same hab,hab]
  exact Xt _
 .exact Yk hab R1
theorem DM {A:Bh}{a b:Ad}{xs ys:Aa D}{its its2:Aa Ac}(hu:A.units<Hz)(ha:s.heap.IsList a its.toArray)(hb:s.heap.IsList b its2.toArray)(l1:xs.length=its.length)(l2:ys.length=its2.length)
  (sub:∀ j (h1:j<its.toArray.size) (h2:j<its2.toArray.size),EqAt A.in1 s its.toArray[j] its2.toArray[j] (eqD (xs.getD j .non) (ys.getD j .non))) (same:a=b->wB xs ys=true):E3 A s (.ref a) (.ref b) (wB xs ys):=by
 have R:RcAt A s (.ref a) (.ref b) (wB xs ys)/\RcNeAt A s (.ref a) (.ref b) (!wB xs ys):=by
  by_cases hl:its.length=its2.length
  .have e:wB xs ys=(Cw its.toArray.size).all (λj=>eqD (xs.getD j .non) (ys.getD j .non)):=by rw[uI,l1,l2,<- hl,Ua,BEq.rfl,Xu];rfl
   rw[e];exact⟨RcAt.lists ha hb hl hu sub,RcNeAt.lists ha hb hl hu sub⟩
  .rw[X3 (by rw[l1,l2];exact hl)]
   have hn:(its.toArray.size != its2.toArray.size)=true:=bne_iff_ne.mpr hl;exact⟨RcAt.lists_lengths ha hb hn hu,RcNeAt.lists_lengths ha hb hn hu⟩
 refine⟨?_,R.1,R.2⟩;by_cases hab:a=b
 .rw[same hab,hab]
  exact Xt _
 .exact Yk hab R.1
theorem iJ (I:Inv X pins σ H s)(r:Rel X.K H P α S):∀ (n:Af) (A:Bh) (d d':D) (u u':Ac),A.units+n<Hz->pl n d=true->pl n d'=true->Kd X P α s d u->Kd X P α s d' u'->E3 A s u u' (eqD d d'):=by
 intro n
 induction n with
 |zero =>
  intro A d d' u u' hu h1 h2 k1 k2;cases YN hu k1 k2 with
  |of b e h=>exact h.cast e
  |tt=>exact Hc h1
  |ll=>exact Hc h1
 |succ m ih =>
  intro A d d' u u' hu h1 h2 k1 k2;have hu0:A.units<Hz:=Kn (OQ _ _) hu;have hu1:A.in1.units+m<Hz:=by show A.units+1+m<Hz;lia
  have sub:∀ {xs ys:Aa D} {its its2:Aa Ac},xs.all (pl m)=true->ys.all (pl m)=true->Seqs X P α xs ys its its2 ->
    ∀ j (h1:j<its.toArray.size) (h2:j<its2.toArray.size),EqAt A.in1 s its.toArray[j] its2.toArray[j] (eqD (xs.getD j .non) (ys.getD j .non)):=λ{xs ys its its2} a1 a2 ⟨vs,ws,b1,b2,c1,c2⟩ j g1 g2=>by
   obtain⟨w1,y1,z1,m1⟩:=yA b1 b2 g1;obtain⟨w2,y2,z2,m2⟩:=yA c1 c2 g2;exact(ih A.in1 _ _ _ _ hu1 (jD a1 m1) (jD a2 m2) (j9 I r (jD a1 m1) y1 z1) (j9 I r (jD a2 m2) y2 z2)).eq
  cases YN hu0 k1 k2 with
  |of b e h=>exact h.cast e
  |tt a b xs ys its its2 ha hb q=>exact(DN hu0 ha hb q.len1 q.len2 (sub h1 h2 q) λe=>by subst e;exact(mU xs ys).symm.trans (rV I r (m+1) _ _ _ h1 h2 k1 k2)).cast (mU xs ys)
  |ll a b xs ys its its2 ha hb q=>exact(DM hu0 ha hb q.len1 q.len2 (sub h1 h2 q) λe=>by subst e;exact(mT xs ys).symm.trans (rV I r (m+1) _ _ _ h1 h2 k1 k2)).cast (mT xs ys)
noncomputable def yN:Af:=30
noncomputable def gEq:G2:=λa b S=>if pl yN a&&pl yN b then .ok (.bl (eqD a b)) S else .bad
noncomputable def gNe:G2:=λa b S=>if pl yN a&&pl yN b then .ok (.bl (!eqD a b)) S else .bad
set_option tactic.hygienic true in
theorem SM (hu:X.A.units+64<Hz):OpD X (Cp .Eq) gEq:=by
 intro pins σ H s P α S v u vv uu a b Q I r rv ru pa pb af;unfold gEq at af
 split at af
 .rename_i h
  rw[As] at h;exact(iJ I r yN X.A a b vv uu (by unfold yN;lia) h.1 h.2 (j9 I r h.1 pa rv) (j9 I r h.2 pb ru)).rc _ _ _ _ ⟨.bl _,H,I,rfl,xr af r (by simp only[Rep])⟩
 .exact Am af
set_option tactic.hygienic true in
theorem SU (hu:X.A.units+64<Hz):OpD X (Cp .NotEq) gNe:=by
 intro pins σ H s P α S v u vv uu a b Q I r rv ru pa pb af;unfold gNe at af
 split at af
 .rename_i h
  rw[As] at h;exact(iJ I r yN X.A a b vv uu (by unfold yN;lia) h.1 h.2 (j9 I r h.1 pa rv) (j9 I r h.2 pb ru)).ne _ _ _ _ ⟨.bl _,H,I,rfl,xr af r (by simp only[Rep])⟩
 .exact Am af
end
end _D
end
namespace _D
open PySem PySem.Spec PyProof.Rows _L
variable {pins:Aa (Ad × Bq)}{kvs:Aa (Key × D)}{its us:Aa Ac}{xs ds:Aa D}{vs:Aa V}{f:Ac->Ac->IT Ac}{s:Ag}{d:D}{H:Hp}{S:Sto}{v:V}{Q:VK}{σ:_L.St}
section
variable {X:Cx}
noncomputable def i2 (C:Aj->Aj->Ao)(f:Aj->Aj->D):G2:=λa b S=>match a,b with
 |.int i,.int j=>if C i j then .ok (f i j) S else .bad
 |_,_=>.bad
theorem fJ {C:Aj->Aj->Ao}{f:Aj->Aj->D}{a b:D}{P:Hp}{α:Aa Ad}{Ok:D->Sto->Prop}(h:qJ X P α (i2 C f a b S) Ok):∃ i j,a=.int i/\b=.int j/\C i j=true/\Ok (f i j) S:=by
 cases a with
 |int i =>
  cases b with
  |int j =>
   obtain⟨hc,h⟩:=xT (X:=X) h;exact⟨i,j,rfl,rfl,hc,h⟩
  |_=>exact Am h
 |_=>exact Am h
theorem zF {P:Hp}{α:Aa Ad}{i:Aj}(r:Rep X.K P α (.int i) v):v=.int i:=by simpa only [Rep] using r
theorem kH {C':Aj->Aj->Prop}{v:Aj->Aj->V}{C:Aj->Aj->Ao}{d:Aj->Aj->D}(h:OpR X f (rI C' v))(hC:∀ i j,C i j=true->C' i j)(hv:∀ P α i j,Rep X.K P α (d i j) (v i j)):OpD X f (i2 C d):=
 OpD.of h λH P α S x y a b Q r p1 p2 af=>by
  obtain⟨i,j,rfl,rfl,hc,ok⟩:=fJ af;exact⟨i,j,zF p1,zF p2,hC i j hc,xr ok r (hv P α i j)⟩
theorem pD {v:Aj->Aj->V}{d:Aj->Aj->D}(h:OpR X f (rI0 v))(hv:∀ P α i j,Rep X.K P α (d i j) (v i j)):OpD X f (i2 (λ_ _=>true) d):=
 OpD.of h λH P α S x y a b Q r p1 p2 af=>by
  obtain⟨i,j,rfl,rfl,_,ok⟩:=fJ af;exact⟨i,j,zF p1,zF p2,xr ok r (hv P α i j)⟩
noncomputable def uK:G2:=i2 (λ_ _=>true) λi j=>.int (i-j)
theorem MU:OpD X (De .Sub) uK:=pD T9 λP α i j=>by simp only[Rep]
noncomputable def bE (i j:Aj):Ao:=decide (-(2 ^ 64)<i/\i<2 ^ 64)||decide (-(2 ^ 64)<j/\j<2 ^ 64)
theorem K2:OpD X (De .Mult) (i2 bE λi j=>.int (i*j)):=kH T4 (λi j h=>by
 unfold bE at h;rw[Gs] at h;rcases h with h|h
 .exact .inl (Bi h)
 .exact .inr (Bi h)) λP α i j=>by simp only[Rep]
noncomputable def Z9 (i j:Aj):Ao:=decide (0<j/\j<1073741824)
noncomputable def wV:G2:=i2 Z9 λi j=>.int (i/j)
theorem MQ:OpD X (De .FloorDiv) wV:=kH K9 (λi j h=>(Bi h:0<j/\j<1073741824)) λP α i j=>by simp only[Rep]
noncomputable def zW:G2:=i2 (λ_ j=>decide (0<j)) λi j=>.int (i % j)
theorem MR:OpD X (De .Mod) zW:=kH T3 (λi j h=>Bi h) λP α i j=>by simp only[Rep]
noncomputable def ZC (i j:Aj):Ao:=decide (0<=j/\j<=1000000/\i.natAbs<2 ^ 64)
noncomputable def wG:G2:=i2 ZC λi j=>.int (i ^ j.toNat)
theorem MS:OpD X (De .Pow) wG:=kH T6 (λi j h=>(Bi h:0<=j/\j<=1000000/\i.natAbs<2 ^ 64)) λP α i j=>by simp only[Rep]
noncomputable def gLt:G2:=i2 (λ_ _=>true) λi j=>.bl (decide (i<j))
noncomputable def gLe:G2:=i2 (λ_ _=>true) λi j=>.bl (decide (i<=j))
noncomputable def gGt:G2:=i2 (λ_ _=>true) λi j=>.bl (decide (j<i))
noncomputable def gGe:G2:=i2 (λ_ _=>true) λi j=>.bl (decide (j<=i))
theorem SS:OpD X (Cp .Lt) gLt:=pD SY λP α i j=>by simp only[Rep]
theorem SR:OpD X (Cp .LtE) gLe:=pD SX λP α i j=>by simp only[Rep]
theorem SO:OpD X (Cp .Gt) gGt:=pD SW λP α i j=>by simp only[Rep]
theorem SN:OpD X (Cp .GtE) gGe:=pD SV λP α i j=>by simp only[Rep]
noncomputable def bK:D->Sto->Res D:=λa S=>match a with
 |.int i=>.ok (.int (-i)) S
 |_=>.bad
theorem L4:UnD X (Vb .USub) bK:=by
 intro pins σ H s P α S v vv a Q I r rv p af;cases a with
 |int i=>exact L5 pins s σ H v vv Q I rv ⟨i,zF p,xr af r (by simp only[Rep])⟩
 |_=>exact Am af
noncomputable def gIs:G2:=λa b S=>match b with
 |.non=>match a with
  |.non=>.ok (.bl true) S
  |_=>.ok (.bl false) S
 |_=>.bad
theorem JV {P:Hp}{α:Aa Ad}(r:Rep X.K P α d v):decide (v=.non)=(match d with|.non=>true|_=>false):=by
 cases d <;> simp only[Rep] at r
 case non=>subst r;rfl
 case bl=>subst r;rfl
 case int=>subst r;rfl
 case str=>subst r;rfl
 case ty=>subst r;rfl
 case clo=>obtain⟨rfl,_⟩:=r;rfl
 case obj=>obtain⟨rfl,_⟩:=r;rfl
 case tup=>obtain⟨a,vs,rfl,_⟩:=r;rfl
 case lst=>obtain⟨a,vs,rfl,_⟩:=r;rfl
 case dct0=>obtain⟨a,rfl,_⟩:=r;rfl
 case loc=>obtain⟨a,rfl,_⟩:=r;rfl
 case exn=>obtain⟨a,rfl,_⟩:=r;rfl
 case fd=>obtain⟨a,o,vs,rfl,_⟩:=r;rfl
theorem SQ:OpD X (Cp .Is) gIs:=OpD.of T1 λH P α S x y a b Q r p1 p2 af=>by
 cases b with
 |non =>
  simp only[Rep] at p2;refine⟨p2,?_⟩;rw[JV p1];cases a <;> exact xr af r (by simp only[Rep])
 |_=>exact Am af
noncomputable def qY:G2:=λa b S=>match a,b with
 |.int i,.int j=>.ok (.int (i+j)) S
 |.str x,.str y=>if x.length+y.length<=lim then .ok (.str (x++y)) S else .bad
 |.tup xs,.tup ys=>if xs.length+ys.length<=lim then .ok (.tup (xs++ys)) S else .bad
 |.lst xs,.lst ys=>if xs.length+ys.length<=lim then .ok (.lst (xs++ys)) S else .bad
 |_,_=>.bad
theorem kM {P:Hp}{α:Aa Ad}(I:Inv X pins σ H s)(r:Rel X.K H P α S)(p:Rep X.K P α (.tup xs) v) :
  ∃ a vs its,v=.ref a/\SqT X.K P a vs/\qE X.K P α xs vs/\qN vs its/\Qj s.heap a its.toArray/\xs.length=its.length/\xs.length<=lim:=by
 simp only[Rep] at p;obtain⟨a,vs,rfl,q,t⟩:=p;obtain⟨its,rv,p1,z⟩:=I.tuple (xA r.sub q);exact⟨a,vs,its,rfl,q,t,rv,p1,by rw[t.length,rv.length],by rw[t.length,zQ];exact z⟩
theorem vS {P:Hp}{α:Aa Ad}(I:Inv X pins σ H s)(r:Rel X.K H P α S)(p:Rep X.K P α (.lst xs) v) :
  ∃ a vs its n,v=.ref a/\SqX X.K P a vs/\qE X.K P α xs vs/\qN vs its/\s.heap.get? a=Ab { cls:=.type "list",data:=.seq its.toArray n } /\ xs.length=its.length/\xs.length<=lim:=by
 simp only[Rep] at p;obtain⟨a,vs,rfl,q,t⟩:=p;have:∃ its n,qN vs its/\s.heap.get? a=Ab { cls:=.type "list",data:=.seq its.toArray n } /\ vs.length<=sizeLine:=by
  rcases q with q|⟨its,n,e,z,rv⟩
  .obtain⟨z,its,n,rv,e⟩:=(eW r.sub q).ok I.hok
   exact⟨its,n,rv,e,z⟩
  .exact⟨its,n,rv,I.kIn _ _ e,z⟩
 obtain⟨its,n,rv,e,z⟩:=this;exact⟨a,vs,its,n,rfl,q,t,rv,e,by rw[t.length,rv.length],by rw[t.length,zQ];exact z⟩
theorem dB {P:Hp}{α:Aa Ad}(I:Inv X pins σ H s)(r:Rel X.K H P α S)(t:qE X.K P α xs vs)(rv:qN vs its)(hz:xs.length<=lim)
  (ok:OkV X P α Q (.tup xs) S):EP X pins σ Q (.ref s.heap.objs.size) { s with heap:=s.heap.push { cls:=.type "tuple",data:=.seq its.toArray } }:=by
 refine⟨.ref s.heap.objs.size,_,I.laid (t':=s.toks) (o:=.tup vs) (λb ob q=>Ak _ q) (Aq _) ⟨by rw[<- t.length,<- zQ];exact hz,its,rv,Ot _ _⟩,rfl,uP r (I.hok.fresh (Aq _)) t ok⟩
theorem XF {P:Hp}{α:Aa Ad}(I:Inv X pins σ H s)(r:Rel X.K H P α S)(t:qE X.K P α xs vs)(rv:qN vs its)(hz:xs.length<=lim)
  (ok:OkV X P α Q (.lst xs) S):EP X pins σ Q (.ref s.heap.objs.size) { s with heap:=s.heap.push { cls:=.type "list",data:=.seq its.toArray } }:=by
 refine⟨.ref s.heap.objs.size,_,I.laid (t':=s.toks) (o:=.lst vs) (λb ob q=>Ak _ q) (Aq _) ⟨by rw[<- t.length,<- zQ];exact hz,its,0,rv,Bb _ rfl⟩,rfl,wK r (I.hok.fresh (Aq _)) t ok⟩
theorem PL {P:Hp}{α:Aa Ad}{ys:Aa D}{u:V}{vv uu:Ac}(I:Inv X pins σ H s)(r:Rel X.K H P α S)(rv:qM v vv)(ru:qM u uu)(pa:Rep X.K P α (.tup xs) v)(pb:Rep X.K P α (.tup ys) u)(hl:xs.length+ys.length<=lim)(af:OkV X P α Q (.tup (xs++ys)) S) :
  Ar (Au X.prog X.w) X.A (De .Add vv uu) (EP X pins σ Q) X.xe s:=by
 obtain⟨a,vs,its,rfl,q1,t1,rv1,h1,l1,_⟩:=kM I r pa;obtain⟨b,ws,its2,rfl,q2,t2,rv2,h2,l2,_⟩:=kM I r pb;cases rv;cases ru;by_cases hx:its=[]
 .obtain⟨⟨cls,dd,data,sl⟩,ho,hc,n,hd⟩:=id h1
  obtain⟨⟨cls2,dd2,data2,sl2⟩,ho2,hc2,n2,hd2⟩:=id h2;simp only at hc hd hc2 hd2;subst hc hd hc2 hd2;have hxs:xs=[]:=Kt.mp (by rw[l1,hx];rfl)
  subst hxs;exact Tt ⟨_,ho,rfl⟩ ⟨_,ho2,rfl⟩ OM Sl Lj Ks (Kk _ _) (tuple_addW0 a b its.toArray its2.toArray n n2 dd dd2 sl sl2 (by simp[hx]))
   ⟨ho,ho2,⟨.ref b,H,I,rfl,xr af r pb⟩⟩
 .refine _H.cat_tup h1 h2 hx (λz=>⟨.ref a,H,I,rfl,xr af r ?_⟩) (λz=>?_) (by rw[<- l1,<- l2,<- zQ];exact hl)
  .have hys:ys=[]:=Kt.mp (by rw[l2,z];rfl)
   rw[hys,Eu];exact pa
  .exact dB I r (t1.append t2) (rv1.append rv2) (by rw[Dg];exact hl) af
theorem PH {P:Hp}{α:Aa Ad}{ys:Aa D}{u:V}{vv uu:Ac}(I:Inv X pins σ H s)(r:Rel X.K H P α S)(rv:qM v vv)(ru:qM u uu)(pa:Rep X.K P α (.lst xs) v)(pb:Rep X.K P α (.lst ys) u)(hl:xs.length+ys.length<=lim)(af:OkV X P α Q (.lst (xs++ys)) S) :
  Ar (Au X.prog X.w) X.A (De .Add vv uu) (EP X pins σ Q) X.xe s:=by
 obtain⟨a,vs,its,n,rfl,q1,t1,rv1,h1,l1,_⟩:=vS I r pa;obtain⟨b,ws,its2,n2,rfl,q2,t2,rv2,h2,l2,_⟩:=vS I r pb;cases rv;cases ru;refine PySem.P.add_list h1 h2 ?_ (by rw[Bf,Bf,<- l1,<- l2,<- zQ];exact hl)
 rw[List.append_toArray];exact XF I r (t1.append t2) (rv1.append rv2) (by rw[Dg];exact hl) af
inductive AddV (a b:D)(S:Sto):Prop
 |bad (e:qY a b S=.bad)
 |int (i j:Aj) (ea:a=.int i) (eb:b=.int j)
 |str (x y:An) (ea:a=.str x) (eb:b=.str y)
 |tup (x y:Aa D) (ea:a=.tup x) (eb:b=.tup y)
 |lst (x y:Aa D) (ea:a=.lst x) (eb:b=.lst y)
theorem E9 (a b:D)(S:Sto):AddV a b S:=by
 cases a with
 |int i=>cases b with
  |int j=>exact .int i j rfl rfl
  |_=>exact .bad rfl
 |str i=>cases b with
  |str j=>exact .str i j rfl rfl
  |_=>exact .bad rfl
 |tup i=>cases b with
  |tup j=>exact .tup i j rfl rfl
  |_=>exact .bad rfl
 |lst i=>cases b with
  |lst j=>exact .lst i j rfl rfl
  |_=>exact .bad rfl
 |_=>exact .bad rfl
theorem MP:OpD X (De .Add) qY:=by
 intro pins σ H s P α S v u vv uu a b Q I r rv ru pa pb af;cases E9 a b S with
 |bad e=>rw[e] at af;exact Am af
 |int i j ea eb =>
  subst ea eb;exact MZ pins s σ H v u vv uu Q I rv ru ⟨i,j,zF pa,zF pb,xr af r (by simp only[Rep])⟩
 |str x y ea eb =>
  subst ea eb;obtain⟨hl,af⟩:=xT (X:=X) af;simp only[Rep] at pa pb;exact aI pins s σ H v u vv uu Q I rv ru ⟨x,y,pa,pb,by rw[<- zQ];exact hl,xr af r (by simp only[Rep])⟩
 |tup xs ys ea eb =>
  subst ea eb;obtain⟨hl,af⟩:=xT (X:=X) af;exact PL I r rv ru pa pb hl af
 |lst xs ys ea eb =>
  subst ea eb;obtain⟨hl,af⟩:=xT (X:=X) af;exact PH I r rv ru pa pb hl af
noncomputable def gIx:G2:=λa b S=>match b with
 |.int k=>match a with
  |.tup xs=>vW (atI xs k) S
  |.lst xs=>vW (atI xs k) S
  |.loc i=>match S[i]? with
   |some (.lst xs)=>vW (atI xs k) S
   |_=>.bad
  |_=>.bad
 |_=>.bad
theorem mK {P:Hp}{α:Aa Ad}{k:Aj}(rp:qE X.K P α ds vs)(h:atI ds k=Ab d):∃ v,atI vs k=Ab v/\Rep X.K P α d v:=by
 unfold atI at h ⊢;rw[<- rp.length];cases q:ixN ds.length k with
 |none=>rw[q] at h;cases h
 |some j =>
  rw[q] at h;obtain⟨v,h1,h2⟩:=rp.get (show ds[j]? = Ab d from h)
  exact⟨v,h1,h2⟩
theorem ER:IxD X gIx:=by
 intro value slice pins σ H s P α S v u vv uu a b Q I r rv ru pa pb af hs;cases b with
 |int k =>
  have hk:=zF pb;cases a with
  |tup xs =>
   obtain⟨d,e,ok⟩:=uD (X:=X) af;simp only[Rep] at pa;obtain⟨p,vs,rfl,q,t⟩:=pa;obtain⟨w,e1,rw'⟩:=mK t e;exact FM value slice pins s σ H _ u vv uu Q I rv ru ⟨p,vs,k,w,rfl,hk,xA r.sub q,e1,xr ok r rw'⟩ hs
  |lst xs =>
   obtain⟨d,e,ok⟩:=uD (X:=X) af;simp only[Rep] at pa;obtain⟨p,vs,rfl,q,t⟩:=pa;obtain⟨w,e1,rw'⟩:=mK t e;exact eG value slice pins s σ H _ u vv uu Q I rv ru ⟨p,vs,k,w,rfl,hk,(xF r.sub q).l,e1,xr ok r rw'⟩ hs
  |loc i =>
   obtain⟨xs,hS,af⟩:=gD (X:=X) (f:=λxs=>vW (atI xs k) S) af;obtain⟨d,e,ok⟩:=uD (X:=X) af;simp only[Rep] at pa;obtain⟨p,rfl,q⟩:=pa;obtain⟨vs,z,t⟩:=r.at' i p _ q hS;obtain⟨w,e1,rw'⟩:=mK t e;exact eG value slice pins s σ H _ u vv uu Q I rv ru ⟨p,vs,k,w,rfl,hk,.of z,e1,xr ok r rw'⟩ hs
  |_=>exact Am af
 |_=>exact Am af
noncomputable def bL:G3:=λo i d S=>match o,i with
 |.loc n,.int k=>match S[n]? with
  |some (.lst xs)=>match ixN xs.length k with
   |some j=>.ok () (S.set n (.lst (xs.set j d)))
   |none=>.bad
  |_=>.bad
 |_,_=>.bad
theorem RH:lB X (l9 X bL):=by
 intro pins s σ H o i v ov iv u Q I ro ri rv h;obtain⟨P,α,S,a,b,d,r,pa,pb,pd,af⟩:=h;cases a with
 |loc n =>
  cases b with
  |int k =>
   obtain⟨xs,hS,af⟩:=gD (X:=X) (f:=λxs=>match ixN xs.length k with|some j=>.ok () (S.set n (.lst (xs.set j d)))|none=>.bad) af
   cases hj:ixN xs.length k with
   |none=>rw[hj] at af;exact Am af
   |some j =>
    rw[hj] at af;simp only[Rep] at pa;obtain⟨p,rfl,q⟩:=pa;obtain⟨vs,z,t⟩:=r.at' n p _ q hS;refine Y2 pins s σ H _ i v ov iv u Q I ro ri rv ⟨p,vs,k,j,rfl,zF pb,z,by rw[<- t.length];exact hj,?_⟩
    refine af _ P α (r.put (m':=.lst (xs.set j d)) q hS (by intro z;cases z) ⟨vs.set j v,qX,t.set pd j⟩) (qF.refl _) (AU _)
  |_=>exact Am af
 |_=>exact Am af
noncomputable def FZ:D->Sto->Al Af
 |.tup xs,_=>Ab xs.length
 |.lst xs,_=>Ab xs.length
 |.str x,_=>if x.length<=lim then Ab x.length else none
 |.dct0,_=>Ab 0
 |.loc i,S=>match S[i]? with
  |some (.lst xs)=>Ab xs.length
  |_=>none
 |_,_=>none
noncomputable def lT:DF:=λds S=>match ds with
 |[d]=>match FZ d S with
  |some n=>.ok (.int n) S
  |none=>.bad
 |_=>.bad
end
section
variable {X:Cx}
theorem vN {P:Hp}{α:Aa Ad}(rp:qE X.K P α [d] vs)(rv:qN vs us):∃ v u,vs=[v]/\us=[u]/\Rep X.K P α d v/\qM v u:=by
 obtain⟨v,ws,rfl,p,t⟩:=rp.cons_inv;have:=t.nil_inv;subst this;obtain⟨u,rfl,q⟩:=uA rv;exact⟨v,u,rfl,rfl,p,q⟩
theorem u9 {P:Hp}{α:Aa Ad}{e:D}(rp:qE X.K P α [d,e] vs)(rv:qN vs us):∃ v w u x,vs=[v,w]/\us=[u,x]/\Rep X.K P α d v/\Rep X.K P α e w/\qM v u/\qM w x:=by
 obtain⟨v,ws,rfl,p,t⟩:=rp.cons_inv;obtain⟨w,ws,rfl,p',t⟩:=t.cons_inv;have:=t.nil_inv;subst this;obtain⟨u,x,rfl,q,q'⟩:=mC rv;exact⟨v,w,u,x,rfl,rfl,p,p',q,q'⟩
noncomputable def a9 (d:D)(S:Sto):Al Af:=match d with
 |.dct0=>none
 |_=>FZ d S
theorem M0 {P:Hp}{α:Aa Ad}{n:Af}(r:Rel X.K H P α S)(p:Rep X.K P α d v)(hn:a9 d S=Ab n):PD X.K v H n:=by
 cases d with
 |str x =>
  cases (show v=.str x from p)
  obtain⟨hl,rfl⟩:=g6 hn;exact⟨by rw[<- zQ];exact hl,rfl⟩
 |tup xs =>
  simp only[Rep] at p;obtain⟨a,ws,rfl,sq,t⟩:=p;cases hn;exact .inr ⟨ws,xA r.sub sq,t.length⟩
 |lst xs =>
  simp only[Rep] at p;obtain⟨a,ws,rfl,sq,t⟩:=p;cases hn;exact .inl ⟨ws,(xF r.sub sq).l,t.length⟩
 |loc i =>
  simp only[Rep] at p;obtain⟨a,rfl,e⟩:=p;obtain⟨xs,hS,hn⟩:=M3 (f:=λxs=>Ab xs.length) hn;cases hn;obtain⟨ws,z,t⟩:=r.at' i a _ e hS;exact .inl ⟨ws,.of z,t.length⟩
 |_=>exact nn hn
inductive LenD1 (ds:Aa D)(S:Sto)(r:Res D):Prop
 |bad (e:r=.bad)
 |of (d:D) (n:Af) (ed:ds=[d]) (hn:a9 d S=Ab n) (e:r=.ok (.int n) S)
theorem SB (ds:Aa D)(S:Sto):LenD1 ds S (match ds with|[.dct0]=>.bad|_=>lT ds S):=by
 cases ds with
 |nil=>exact .bad rfl
 |cons d ds =>
  cases ds with
  |cons _ _=>cases d <;> exact .bad rfl
  |nil =>
   have z:(match [d] with|[D.dct0]=>Res.bad|_=>lT [d] S)=(match a9 d S with|some n=>Res.ok (D.int n) S|none=>.bad):=by cases d <;> rfl
   rw[z];cases hn:a9 d S with
   |none=>exact .bad rfl
   |some n=>exact .of d n rfl hn rfl
theorem PQ (hD:Mm):xJ X (.builtin "len") (λds S=>match ds with|[.dct0]=>.bad|_=>lT ds S):=by
 intro pins σ H s P α S vs us ds Q I r rv rp af;have af1:qJ X P α (match ds with|[D.dct0]=>Res.bad|_=>lT ds S) (OkV X P α Q):=af
 clear af;cases SB ds S with
 |bad e=>rw[e] at af1;exact Am af1
 |of d n ed hn e =>
  rw[e] at af1;subst ed;obtain⟨v,u,rfl,rfl,p,q⟩:=vN rp rv;exact ZD pins s σ H _ _ Q I rv ⟨v,n,rfl,M0 r p hn,xr af1 r (by simp only[Rep])⟩
noncomputable def tyD:D->Sto->Al Cs
 |.non,_=>Ab "NoneType"
 |.bl _,_=>Ab "bool"
 |.int _,_=>Ab "int"
 |.str _,_=>Ab "str"
 |.tup _,_=>Ab "tuple"
 |.lst _,_=>Ab "list"
 |.dct0,_=>Ab "dict"
 |.loc i,S=>match S[i]? with
  |some (.lst _)=>Ab "list"
  |some (.dct _)=>Ab "dict"
  |_=>none
 |_,_=>none
noncomputable def xW (a b:Cs):Ao:=a == b||(a == "bool" && b == "int")
noncomputable def uN (b:Cs):Ao:=b == "int" || b == "bool" || b == "tuple" || b == "list" || b == "str" || b == "dict"
noncomputable def FS (a b:Cs):Al Ao:=if (Lg a == Lg b)=true then Ab true else if PySem.W.kitMeta b=true then (fastBuiltinMro a).map (·.contains (.type b)) else none
noncomputable def tyL:Aa Cs:=["NoneType","bool","int","str","tuple","list","dict"]
noncomputable def okL:Aa Cs:=["int","bool","tuple","list","str","dict"]
theorem JJ:(tyL.all λa=>okL.all λb=>decide (FS a b=Ab (xW a b)))=true:=by decide +kernel
theorem MX {b:Cs}(hb:uN b=true):b∈okL:=by simpa [uN,okL,or_assoc] using hb
theorem t7 {K:Ah}{a b:Cs}(ha:a∈tyL)(hb:uN b=true):Je K (.type a) (.type b)=Ab (xW a b):=
 Bi (p:=FS a b=Ab (xW a b)) (Cb.mp (Cb.mp JJ a ha) b (MX hb))
noncomputable def zV:DF:=λds S=>match ds with
 |[d,.ty b]=>if uN b then match tyD d S with
   |some a=>.ok (.bl (xW a b)) S
   |none=>.bad
  else .bad
 |_=>.bad
inductive TyV (X:Cx)(H:Hp)(v:V)(a:Cs):Prop
 |of (t:TyOf X.K H v (.type a))
 |tup (p:Ad) (vs:Aa V) (e:v=.ref p) (q:SqT X.K H p vs) (ea:a = "tuple")
 |lst (p:Ad) (vs:Aa V) (e:v=.ref p) (q:SqL X.K H p vs) (ea:a = "list")
theorem sW {a:Cs}(h:tyD d S=Ab a):a∈tyL:=by
 cases d with
 |non=>cases h;exact .head _
 |bl b=>cases h;exact .tail _ (.head _)
 |int i=>cases h;exact .tail _ (.tail _ (.head _))
 |str x=>cases h;exact .tail _ (.tail _ (.tail _ (.head _)))
 |tup xs=>cases h;exact .tail _ (.tail _ (.tail _ (.tail _ (.head _))))
 |lst xs=>cases h;exact .tail _ (.tail _ (.tail _ (.tail _ (.tail _ (.head _)))))
 |dct0=>cases h;exact .tail _ (.tail _ (.tail _ (.tail _ (.tail _ (.tail _ (.head _))))))
 |loc i =>
  rcases tB (f:=λ_=>Ab "list") (g:=λ_=>Ab "dict") h with⟨_,_,h⟩|⟨_,_,h⟩
  .cases h;exact .tail _ (.tail _ (.tail _ (.tail _ (.tail _ (.head _)))))
  .cases h;exact .tail _ (.tail _ (.tail _ (.tail _ (.tail _ (.tail _ (.head _))))))
 |_=>exact nn h
theorem VA {P:Hp}{α:Aa Ad}{a:Cs}(r:Rel X.K H P α S)(p:Rep X.K P α d v)(h:tyD d S=Ab a):TyV X H v a:=by
 cases d with
 |non=>cases h;cases (show v=.non from p);exact .of .non
 |bl b=>cases h;cases (show v=.bl b from p);exact .of (.bl b)
 |int i=>cases h;cases (show v=.int i from p);exact .of (.int i)
 |str x=>cases h;cases (show v=.str x from p);exact .of (.str x)
 |tup xs =>
  cases h;simp only[Rep] at p;obtain⟨a,vs,e,q,t⟩:=p;exact .tup a vs e (xA r.sub q) rfl
 |lst xs =>
  cases h;simp only[Rep] at p;obtain⟨a,vs,e,q,t⟩:=p;exact .lst a vs e (xF r.sub q).l rfl
 |dct0 =>
  cases h;simp only[Rep] at p;obtain⟨a,rfl,q⟩:=p;exact .of (.dK (r.sub _ _ q))
 |loc i =>
  simp only[Rep] at p;obtain⟨a,rfl,q⟩:=p;rcases tB (f:=λ_=>Ab "list") (g:=λ_=>Ab "dict") h with⟨xs,hS,h⟩|⟨kvs,hS,h⟩
  .cases h
   obtain⟨vs,z,t⟩:=r.at' i a _ q hS;exact .of (.lst z)
  .cases h
   obtain⟨vs,z,t⟩:=r.at' i a _ q hS;exact .of (.dK z)
 |_=>exact nn h
inductive IsiV (ds:Aa D)(S:Sto):Prop
 |bad (e:zV ds S=.bad)
 |of (d:D) (b a:Cs) (ed:ds=[d,.ty b]) (hb:uN b=true) (ha:tyD d S=Ab a) (e:zV ds S=.ok (.bl (xW a b)) S)
theorem EO (ds:Aa D)(S:Sto):IsiV ds S:=by
 cases ds with
 |nil=>exact .bad rfl
 |cons d ds =>
  cases ds with
  |nil=>exact .bad rfl
  |cons e ds =>
   cases ds with
   |cons _ _=>cases e <;> exact .bad rfl
   |nil =>
    cases e with
    |ty b =>
     have z:zV [d,.ty b] S=if uN b then (match tyD d S with|some a=>.ok (.bl (xW a b)) S|none=>.bad) else .bad:=rfl
     by_cases hb:uN b=true
     .rw[AS hb] at z
      cases ha:tyD d S with
      |none=>rw[ha] at z;exact .bad z
      |some a=>rw[ha] at z;exact .of d b a rfl hb ha z
     .rw[AX hb] at z
      exact .bad z
    |_=>exact .bad rfl
theorem i8:xJ X (.builtin "isinstance") zV:=by
 intro pins σ H s P α S vs us ds Q I r rv rp af;cases EO ds S with
 |bad e=>rw[e] at af;exact Am af
 |of d b a ed hb ha e =>
  subst ed;rw[e] at af;obtain⟨v,w,u,x,rfl,rfl,p,p',q,q'⟩:=u9 rp rv;simp only[Rep] at p';subst p';cases (show x=Lg b from q')
  have kit:=t7 (K:=X.K) (sW ha) hb;have fin:∀ tk,EP X pins σ Q (.bool (xW a b)) { s with toks:=tk }:=λtk=>⟨.bl _,H,I.tok tk,rfl,xr af r (by simp only[Rep])⟩
  cases VA r p ha with
  |of ht=>exact iT I q ht kit fin
  |tup p' ws e sq ea =>
   subst e ea;cases (show u=Bn p' from q)
   obtain⟨its,rv',⟨o,h1,h2,_⟩,_⟩:=I.tuple sq;exact Dj Km I.kIn ⟨o,h1,h2⟩ kit (λz=>nomatch z) fin
  |lst p' ws e sq ea =>
   subst e ea;cases (show u=Bn p' from q)
   obtain⟨its,rv',⟨o,_,h1,h2,_⟩,_⟩:=I.list sq;exact Dj Hy I.kIn ⟨o,h1,h2⟩ kit (λz=>nomatch z) fin
noncomputable def zT:Aa D->Al (Aa Ao)
 |[]=>Ab []
 |.bl b::r=>(zT r).map (b::·)
 |_=>none
theorem yK {P:Hp}{α:Aa Ad}:∀ {ds:Aa D} {bs:Aa Ao} {vs:Aa V} {us:Aa Ac},zT ds=Ab bs->qE X.K P α ds vs->qN vs us->us=bs.map Eb
 |[],bs,vs,us,h,rp,rv=>by
  cases h;have:=rp.nil_inv;subst this;cases rv;rfl
 |d::ds,bs,vs,us,h,rp,rv=>by
  cases d with
  |bl b =>
   obtain⟨bs',q,rfl⟩:=Cg.mp (show (zT ds).map (b::·)=Ab bs from h)
   obtain⟨w,ws,rfl,p,t⟩:=rp.cons_inv;simp only[Rep] at p;subst p;cases rv with
   |cons q1 q2 =>
    cases (show _=Eb b from q1)
    rw[yK q t q2];rfl
  |_=>exact nn h
noncomputable def bJ (any:Ao):DF:=λds S=>match ds with
 |[d]=>match (zH d).bind zT with
  |some bs=>.ok (.bl (if any then bs.any id else bs.all id)) S
  |none=>.bad
 |_=>.bad
theorem nG (bs:Aa Ao):((Cw bs.length).all λi=>bs.getD i false)=bs.all id:=by
 induction bs with
 |nil=>rfl
 |cons b bs ih =>
  rw[Bv,Ll,Ma,OX,Ma,<- ih];rfl
theorem nH (bs:Aa Ao):((Cw bs.length).any λi=>bs.getD i false)=bs.any id:=by
 induction bs with
 |nil=>rfl
 |cons b bs ih =>
  rw[Bv,Ll,IK,Ub,IK,<- ih];rfl
theorem nB {o:Bq}{h':Bc}{tk:Af}(I:Inv X pins σ H s)(k:∀ b ob,b ∉ [s.heap.objs.size]->(s.heap.push o).get? b=Ab ob->h'.get? b=Ab ob):Inv X pins σ H { s with heap:=h',toks:=tk }:=
 I.kept λb u e=>k b u (by simp;exact Bs (Ay e)) (Ak _ e)
theorem jE {bs:Aa Ao}(hi:its=bs.map Eb){A:Bh}:TruthOf X.prog X.w A (λi v=>its.toArray[i]? = Ab v) (λi=>bs.getD i false):=λi v s' Q' E' hv hQ=>by
 subst hi;have hv':(bs.map Eb)[i]? = Ab v:=by simpa using hv
 rw[Dt] at hv';cases e:bs[i]? with
 |none=>rw[e] at hv';exact nn hv'
 |some b =>
  rw[e] at hv';cases Bx hv';have:bs.getD i false=b:=by simp[Qq,e]
  have hQ':Q' (bs.getD i false) s':=hQ;rw[this] at hQ';exact Ui hQ'
theorem UQ {any:Ao}{P:Hp}{α:Aa Ad}{Ok:D->Sto->Prop}(h:qJ X P α (bJ any ds S) Ok):∃ d xs bs,ds=[d]/\ItV d xs/\zT xs=Ab bs/\Ok (.bl (if any then bs.any id else bs.all id)) S:=by
 obtain⟨d,rfl,h1⟩:=fU (X:=X) (β:=D) (g:=λd=>match (zH d).bind zT with|some bs=>.ok (D.bl (if any then bs.any id else bs.all id)) S|none=>.bad) h
 cases hb:(zH d).bind zT with
 |none=>rw[hb] at h1;exact Am h1
 |some bs =>
  rw[hb] at h1;obtain⟨xs,hx,hbs⟩:=Dq.mp hb;exact⟨d,xs,bs,rfl,itV hx,hbs,h1⟩
theorem PN (any:Ao)(hc:X.calm=true):xJ X (.builtin (if any then "any" else "all")) (bJ any):=by
 intro pins σ H s P α S vs us ds Q I r rv rp af;obtain⟨d,xs,bs,ed,hd,hbs,ok⟩:=UQ af;clear af;subst ed;obtain⟨v,u,rfl,rfl,p,q⟩:=vN rp rv;clear rp;have fin:∀ {o:Bq} (h':Bc) (tk:Af),(∀ b ob,b ∉ [s.heap.objs.size]->(s.heap.push o).get? b=Ab ob->h'.get? b=Ab ob)->EP X pins σ Q (.bool (if any then bs.any id else bs.all id)) { s with heap:=h',toks:=tk }:=
  λ{o} h' tk k=>⟨.bl _,H,nB I k,rfl,xr ok r (by simp only[Rep])⟩
 clear rv ok;have hh:X.A.in1.handled=none:=I.ok.hd hc;cases hd with
 |tup ed =>
  subst ed;obtain⟨a,ws,its,rfl,sq,t,rvi,ht,hl,_⟩:=kM I r p;cases (show u=Bn a from q)
  have hi:=yK hbs t rvi;have hlen:its.toArray.size=bs.length:=by rw[hi];simp
  have hne:a≠s.heap.objs.size:=by obtain⟨o,e,_⟩:=ht;exact Bs (Ay e)
  have W:=Yw (prog:=X.prog) (w:=X.w) hh s.heap.objs.size a hne its.toArray;have hT:∀ o,(s.heap.push o).IsTuple a its.toArray:=λo=>by obtain⟨o,e,c⟩:=ht;exact⟨o,Ak _ e,c⟩
  have ht':s.heap.IsTuple a its.toArray:=ht;cases any with
  |false =>
   refine call_all_walk (Hj ht' ⟨s.heap.objs.size,_,_,_,_,_,_,rfl,W,⟨⟨_,Bb _ rfl,rfl,rfl⟩,hT _⟩,jE hi,λh' tk k=>?_⟩);rw[hlen,nG];exact fin h' tk k
  |true =>
   refine call_any_walk (Hj ht' ⟨s.heap.objs.size,_,_,_,_,_,_,rfl,W,⟨⟨_,Bb _ rfl,rfl,rfl⟩,hT _⟩,jE hi,λh' tk k=>?_⟩);rw[hlen,nH];exact fin h' tk k
 |lst ed =>
  subst ed;obtain⟨a,ws,its,n,rfl,sq,t,rvi,ht,hl,_⟩:=vS I r p;cases (show u=Bn a from q)
  have hL:s.heap.IsList a its.toArray:=⟨_,ht,rfl,n,rfl⟩;have hi:=yK hbs t rvi;have hlen:its.toArray.size=bs.length:=by rw[hi];simp
  have hne:a≠s.heap.objs.size:=Bs (Ay ht);have W:=Ze (prog:=X.prog) (w:=X.w) hh s.heap.objs.size a hne its.toArray;have hL':∀ o,(s.heap.push o).IsList a its.toArray:=λo=>⟨_,Ak _ ht,rfl,n,rfl⟩;cases any with
  |false =>
   refine call_all_walk (Gr hL ⟨s.heap.objs.size,_,_,_,_,_,_,rfl,W,⟨⟨_,Bb _ rfl,rfl,rfl⟩,hL' _⟩,jE hi,λh' tk k=>?_⟩);rw[hlen,nG];exact fin h' tk k
  |true =>
   refine call_any_walk (Gr hL ⟨s.heap.objs.size,_,_,_,_,_,_,rfl,W,⟨⟨_,Bb _ rfl,rfl,rfl⟩,hL' _⟩,jE hi,λh' tk k=>?_⟩);rw[hlen,nH];exact fin h' tk k
noncomputable def cV:DF:=λds S=>match ds with
 |[.int i]=>.ok (.int i) S
 |[.bl b]=>.ok (.int (b01 b)) S
 |_=>.bad
inductive IntV (ds:Aa D)(S:Sto):Prop
 |bad (e:cV ds S=.bad)
 |int (i:Aj) (e:ds=[.int i])
 |bl (b:Ao) (e:ds=[.bl b])
theorem EL (ds:Aa D)(S:Sto):IntV ds S:=by
 cases ds with
 |nil=>exact .bad rfl
 |cons d ds =>
  cases ds with
  |cons _ _=>cases d <;> exact .bad rfl
  |nil =>
   cases d with
   |int i=>exact .int i rfl
   |bl b=>exact .bl b rfl
   |_=>exact .bad rfl
theorem PP:xJ X (.type "int") cV:=by
 intro pins σ H s P α S vs us ds Q I r rv rp af;cases EL ds S with
 |bad e=>rw[e] at af;exact Am af
 |int i e =>
  subst e;obtain⟨v,u,rfl,rfl,p,q⟩:=vN rp rv;exact tS pins s σ H _ _ Q I rv (.inl ⟨_,by rw[zF p],xr af r (by simp only[Rep])⟩)
 |bl b e =>
  subst e;obtain⟨v,u,rfl,rfl,p,q⟩:=vN rp rv;simp only[Rep] at p;subst p;exact tS pins s σ H _ _ Q I rv (.inr ⟨_,rfl,xr af r (by simp only[Rep];rfl)⟩)
noncomputable def fE:DF:=λds S=>match ds with
 |[d]=>match zH d with
  |some xs=>.ok (.tup xs) S
  |none=>.bad
 |_=>.bad
theorem ZG:xJ X (.type "tuple") fE:=by
 intro pins σ H s P α S vs us ds Q I r rv rp af;obtain⟨d,rfl,af1⟩:=fU (X:=X) (β:=D) (g:=λd=>match zH d with|some xs=>.ok (D.tup xs) S|none=>.bad) af
 obtain⟨xs,hx,af2⟩:∃ xs,zH d=Ab xs/\OkV X P α Q (.tup xs) S:=by
  cases hx:zH d with
  |none=>rw[hx] at af1;exact Am af1
  |some xs=>rw[hx] at af1;exact⟨xs,rfl,af1⟩
 obtain⟨v,u,rfl,rfl,p,q⟩:=vN rp rv;cases itV hx with
 |tup e =>
  subst e;have p0:=p;simp only[Rep] at p;obtain⟨a,ws,rfl,sq,t⟩:=p;exact gN pins s σ H _ _ Q I rv ⟨a,ws,rfl,.inr ⟨xA r.sub sq,xr af2 r p0⟩⟩
 |lst e =>
  subst e;simp only[Rep] at p;obtain⟨a,ws,rfl,sq,t⟩:=p;exact gN pins s σ H _ _ Q I rv ⟨a,ws,rfl,.inl ⟨(xF r.sub sq).l,λl hl=>uP r hl t af2⟩⟩
noncomputable def nS:DF:=λds S=>match ds with
 |[d]=>match zH d with
  |some xs=>.ok (.lst xs) S
  |none=>.bad
 |_=>.bad
theorem VQ:xJ X (.type "list") nS:=by
 intro pins σ H s P α S vs us ds Q I r rv rp af;obtain⟨d,rfl,af1⟩:=fU (X:=X) (β:=D) (g:=λd=>match zH d with|some xs=>.ok (D.lst xs) S|none=>.bad) af
 obtain⟨xs,hx,af2⟩:∃ xs,zH d=Ab xs/\OkV X P α Q (.lst xs) S:=by
  cases hx:zH d with
  |none=>rw[hx] at af1;exact Am af1
  |some xs=>rw[hx] at af1;exact⟨xs,rfl,af1⟩
 obtain⟨v,u,rfl,rfl,p,q⟩:=vN rp rv;cases itV hx with
 |tup e =>
  subst e;simp only[Rep] at p;obtain⟨a,ws,rfl,sq,t⟩:=p;exact gT pins s σ H _ _ Q I rv ⟨a,ws,rfl,.inr (xA r.sub sq),λl hl=>wK r hl t af2⟩
 |lst e =>
  subst e;simp only[Rep] at p;obtain⟨a,ws,rfl,sq,t⟩:=p;exact gT pins s σ H _ _ Q I rv ⟨a,ws,rfl,.inl ((xF r.sub sq).l),λl hl=>wK r hl t af2⟩
end
section
variable {X:Cx}
structure ClsK (K:Ah)(cl:Aa Ad):Prop where
 ex:∀ C∈cl,ExnK K C
 one:∀ C∈cl,∀ B∈cl,Je K (.ref C) (.ref B)=Ab (C == B)
 ve:∀ C∈cl,Je K (.ref C) (.type "ValueError")=Ab true
noncomputable def zP (cl:Aa Ad):DF:=λds S=>match ds with
 |[.exn (.ref C),.obj B]=>if cl.contains C&&cl.contains B then .ok (.bl (C == B)) S else .bad
 |[.exn (.ref C),.ty b]=>if cl.contains C&&(b == "ValueError") then .ok (.bl true) S else .bad
 |_=>zV ds S
theorem iL {P:Hp}{α:Aa Ad}{C:Ad}{u:Ac}(I:Inv X pins σ H s)(r:Rel X.K H P α S)(p:Rep X.K P α (.exn (.ref C)) v)(q:qM v u):∃ a,u=.ref a/\vJ a C s.heap:=by
 simp only[Rep] at p;obtain⟨a,rfl,z⟩:=p;obtain⟨y,_⟩:=I.hok a _ (r.sub _ _ z);exact⟨a,q,y⟩
inductive IsiE (cl:Aa Ad)(ds:Aa D)(S:Sto):Prop
 |bad (e:zP cl ds S=.bad)
 |old (e:zP cl ds S=zV ds S)
 |obj (C B:Ad) (ed:ds=[.exn (.ref C),.obj B]) (h1:C∈cl) (h2:B∈cl) (e:zP cl ds S=.ok (.bl (C == B)) S)
 |ve (C:Ad) (ed:ds=[.exn (.ref C),.ty "ValueError"]) (h1:C∈cl) (e:zP cl ds S=.ok (.bl true) S)
theorem DX (cl:Aa Ad)(C:Ad)(d:D)(S:Sto):IsiE cl [.exn (.ref C),d] S:=by
 cases d with
 |obj B =>
  have z:zP cl [.exn (.ref C),.obj B] S=if (cl.contains C&&cl.contains B)=true then .ok (.bl (C == B)) S else .bad:=rfl
  by_cases h:(cl.contains C&&cl.contains B)=true
  .rw[AS h] at z
   have h':=Ex.mp h;exact .obj C B rfl (Dh.mp h'.1) (Dh.mp h'.2) z
  .rw[AX h] at z
   exact .bad z
 |ty b =>
  have z:zP cl [.exn (.ref C),.ty b] S=if (cl.contains C&&(b == "ValueError"))=true then .ok (.bl true) S else .bad:=rfl
  by_cases h:(cl.contains C&&(b == "ValueError"))=true
  .rw[AS h] at z
   have h':=Ex.mp h;cases (Nj.mp h'.2);exact .ve C rfl (Dh.mp h'.1) z
  .rw[AX h] at z
   exact .bad z
 |_=>exact .old rfl
theorem EN (cl:Aa Ad)(ds:Aa D)(S:Sto):IsiE cl ds S:=by
 cases ds with
 |nil=>exact .old rfl
 |cons a ds =>
  cases a with
  |exn c =>
   cases c with
   |ref C =>
    cases ds with
    |nil=>exact .old rfl
    |cons b ds =>
     cases ds with
     |nil=>exact DX cl C b S
     |cons _ _=>cases b <;> exact .old rfl
   |_=>exact .old rfl
  |_=>exact .old rfl
theorem VN {cl:Aa Ad}(hK:ClsK X.K cl):xJ X (.builtin "isinstance") (zP cl):=by
 intro pins σ H s P α S vs us ds Q I r rv rp af;cases EN cl ds S with
 |bad e=>rw[e] at af;exact Am af
 |old e=>rw[e] at af;exact i8 pins σ H s P α S vs us ds Q I r rv rp af
 |obj C B ed h1 h2 e =>
  rw[e] at af;subst ed;obtain⟨v,w,u,x,rfl,rfl,p,p',q,q'⟩:=u9 rp rv;simp only[Rep] at p';obtain⟨rfl,_⟩:=p';cases (show x=Bn B from q')
  obtain⟨a,rfl,ha⟩:=iL I r p q;exact Dj (d9 (hK.ex C h1)) I.kIn ha (hK.one C h1 B h2) (λz=>nomatch z) λtk=>⟨.bl _,H,I.tok tk,rfl,xr af r (by simp only[Rep])⟩
 |ve C ed h1 e =>
  rw[e] at af;subst ed;obtain⟨v,w,u,x,rfl,rfl,p,p',q,q'⟩:=u9 rp rv;simp only[Rep] at p';subst p';cases (show x=Lg "ValueError" from q')
  obtain⟨a,rfl,ha⟩:=iL I r p q;exact Dj (d9 (hK.ex C h1)) I.kIn ha (hK.ve C h1) (λz=>nomatch z) λtk=>⟨.bl _,H,I.tok tk,rfl,xr af r (by simp only[Rep])⟩
def MtD (X:Cx)(id:Cs)(g:D->Aa D->Sto->Res D):Prop:=
 ∀ (pins:Aa (Ad × Bq)) (σ : _L.St) (H:Hp) (s:Ag) (P:Hp) (α : Aa Ad) (S:Sto) (v:V) (vv:Ac) (vs:Aa V) (us:Aa Ac) (a:D) (ds:Aa D) (Q:VK),Inv X pins σ H s->Rel X.K H P α S->qM v vv->Rep X.K P α a v->qN vs us->qE X.K P α ds vs->qU X P α (g a ds S) Q ->
  Ar (Au X.prog X.w) X.A (call (.builtin id) (vv::us)) (EP X pins σ Q) X.xe s
noncomputable def dBm (T:Cs)(g:D->Aa D->Sto->Res D)(fo:DE)(fa:DA):DE:=λenv S=>(fo env S).bind λa S1=>if (tyD a S1 == Ab T)=true then (fa env S1).bind λds S2=>g a ds S2 else .bad
theorem sV {P:Hp}{α:Aa Ad}{a:D}{T:Cs}(r:Rel X.K H P α S)(p:Rep X.K P α a v)(h:tyD a S=Ab T)(hT:T = "list" \/ T = "dict" \/ T = "int" \/ T = "str"):tyV X.K T v H:=by
 cases a with
 |int i=>cases h;simp only[Rep] at p;subst p;rfl
 |str x=>cases h;simp only[Rep] at p;subst p;rfl
 |lst xs =>
  cases h;simp only[Rep] at p;obtain⟨b,vs,rfl,q,t⟩:=p;exact .inl ⟨rfl,vs,(xF r.sub q).l⟩
 |dct0 =>
  cases h;simp only[Rep] at p;obtain⟨b,rfl,q⟩:=p;exact .inr (.inr (.inl ⟨rfl,.inl ⟨[],r.sub _ _ q⟩⟩))
 |loc i =>
  simp only[Rep] at p;obtain⟨b,rfl,q⟩:=p;rcases tB (f:=λ_=>Ab "list") (g:=λ_=>Ab "dict") h with⟨xs,hS,h⟩|⟨kvs,hS,h⟩
  .cases h
   obtain⟨vs,z,t⟩:=r.at' i b _ q hS;exact .inl ⟨rfl,vs,SqL.of z⟩
  .cases h
   obtain⟨vs,z,t⟩:=r.at' i b _ q hS;exact .inr (.inr (.inl ⟨rfl,.inl ⟨vs,z⟩⟩))
 |non=>cases h;exact absurd hT (by decide)
 |bl b=>cases h;exact absurd hT (by decide)
 |tup xs=>cases h;exact absurd hT (by decide)
 |_=>exact nn h
variable {o e:Bd}{es:Aa Bd}{fo:DE}{fa:DA}{name:An}{apos cpos:Do}{T id:Cs}{g:D->Aa D->Sto->Res D}
theorem iD {P:Hp}{α:Aa Ad}{a:D}{β:Type}{k:Res β}{Ok:β->Sto->Prop}(h:qJ X P α (if (tyD a S == Ab T)=true then k else .bad) Ok):tyD a S=Ab T/\qJ X P α k Ok:=by
 by_cases z:(tyD a S == Ab T)=true
 .rw[AS z] at h;exact⟨Nj.mp z,h⟩
 .rw[AX z] at h;exact Am h
theorem D5 (pa:Sx T)(slot:Slot T name id)(hty:Xh (.builtin id)=pure (.type "method_descriptor"))(hT:T = "list" \/ T = "dict" \/ T = "int" \/ T = "str")(hm:MtD X id g)(ho:PE X o (tD X fo))(ha:PA X (e::es) (tDA X fa))
  (hbase:Jv o name X.env (eval o X.env)=eval o X.env:=by rfl)
  (hfew:((Eo cpos (Az (e::es) X.env)).all (λx=>!x.1)&&(backToKw cpos (keywordEach [] X.env)).all (λx=>x.1.isSome)
   && decide ((e::es).length+([]:Aa Xv).length+(if ([] : Aa Xv).isEmpty then 0 else 1)<30))=true:=by rfl)
  (hline:(apos.endLine == cpos.line)=true:=by rfl) (hs:Az (e::es) X.env=(false,eval e X.env)::Az es X.env:=by rfl) (hplain:(Eo cpos (Az es X.env)).any (·.1)=false:=by rfl) :
  PE X (.Call (.Attribute o name apos) (e::es) [] cpos) (tD X (dBm T g fo fa)):=by
 intro pins s σ H Q I h;obtain⟨P,α,env,S,r,re,af⟩:=h;refine wpAny_Call_method_late hbase hfew hline rfl (thn (zM ho I r re af) λvv s1 ⟨v,H1,P1,α1,d,S1,G1,af1⟩=>?_);obtain⟨ht,af2⟩:=iD af1;obtain⟨h1,h2⟩:=sU G1.inv G1.val (sV G1.rel G1.rep ht hT);refine⟨T,id,pa,slot,hty,h1,h2,?_⟩;have hA:=w5 ha G1.inv G1.rel G1.env (P:=P1) (α:=α1) (Ok:=OkV X P1 α1 Q) (qU.base G1.same G1.pre (r:=(fa env S1).bind λds S2=>g d ds S2) af2) cpos;rw[hs] at hA ⊢;refine Lm (by show (false||(Eo cpos (Az es X.env)).any (·.1))=false;rw[hplain] <;> rfl) (Rl ?_)
 exact thn hA λus s2 ⟨vs,H2,P2,α2,ds,S2,I2,rv,r2,re2,rp2,e1,e2,af3⟩=>hm pins σ H2 s2 P2 α2 S2 v vv vs us d ds Q I2 r2 G1.val (Rep.mono e1 e2 _ _ G1.rep) rv rp2 (qU.base e1 e2 af3)
noncomputable def ZM (T:Cs)(g:D->Aa D->Sto->Res D)(fo:DE):DE:=λenv S=>(fo env S).bind λa S1=>if (tyD a S1 == Ab T)=true then g a [] S1 else .bad
theorem B8 (pa:Sx T)(slot:Slot T name id)(hty:Xh (.builtin id)=pure (.type "method_descriptor"))(hT:T = "list" \/ T = "dict" \/ T = "int" \/ T = "str")(hm:MtD X id g)(ho:PE X o (tD X fo))
  (hbase:Jv o name X.env (eval o X.env)=eval o X.env:=by rfl) (hline:(apos.endLine == cpos.line)=true:=by rfl):PE X (.Call (.Attribute o name apos) [] [] cpos) (tD X (ZM T g fo)):=by
 intro pins s σ H Q I h;obtain⟨P,α,env,S,r,re,af⟩:=h;refine OY hbase hline (thn (zM ho I r re af) λvv s1 ⟨v,H1,P1,α1,d,S1,G1,af1⟩=>?_);obtain⟨ht,af2⟩:=iD af1;obtain⟨h1,h2⟩:=sU G1.inv G1.val (sV G1.rel G1.rep ht hT);exact⟨T,id,pa,slot,hty,h1,h2,Lm rfl (Sy (hm pins σ H1 s1 P1 α1 S1 v vv [] [] d [] Q G1.inv G1.rel G1.val G1.rep .nil .nil (qU.base G1.same G1.pre af2)))⟩
noncomputable def UV:D->Aa D->Sto->Res D:=λa ds S=>match a,ds with
 |.loc i,[d]=>match S[i]? with
  |some (.lst xs)=>if xs.length<lim then .ok .non (S.set i (.lst (xs++[d]))) else .bad
  |_=>.bad
 |_,_=>.bad
noncomputable def nU:D->Aa D->Sto->Res D:=λa ds S=>match a,ds with
 |.int n,[]=>.ok (.int (Ip n)) S
 |_,_=>.bad
theorem JU:MtD X "int.bit_length" nU:=by
 intro pins σ H s P α S v vv vs us a ds Q I r rv p rvs rps af;unfold nU at af
 split at af
 .simp only[Rep] at p
  subst p;obtain⟨t,rfl⟩:=rv;cases rps.nil_inv;cases rvs;exact call_int_bit_length ⟨.int _,H,I.tok _,⟨_,rfl⟩,xr af r (by simp only[Rep])⟩
 .exact Am af
end
noncomputable def vU:D->Al Key
 |.int i=>Ab (.inl i)
 |.str x=>Ab (.inr x)
 |_=>none
noncomputable def yY (kvs:Aa (Key × D))(k:Key):Al D:=(kvs.find? λkv=>decide (kv.1=k)).map (·.2)
noncomputable def yQ (kvs:Aa (Key × D))(k:Key)(v:D):Aa (Key × D):=
 if (kvs.any λkv=>decide (kv.1=k))=true then kvs.map (λkv=>if kv.1=k then (kv.1,v) else kv) else kvs++[(k,v)]
section
variable {K:Ah}{P:Hp}{α : Aa Ad}
theorem JM {vs:Aa (Key × V)}(r:KVs K P α kvs vs):kvs.length=vs.length:=Paired.length r
theorem eI {k:Key}:∀ {kvs:Aa (Key × D)} {vs:Aa (Key × V)},KVs K P α kvs vs->(∀ d,yY kvs k=Ab d->∃ v,yE vs k=Ab v/\Rep K P α d v)/\(yY kvs k=none->yE vs k=none)
 |_,_,.nil=>⟨λd h=>by simp[yY] at h,λ_=>rfl⟩
 |(k1,d1)::kvs,(k2,v2)::vs,.cons z t=>by
  obtain⟨e,r⟩:=z;dsimp only at e r;subst e;obtain⟨h1,h2⟩:=eI (k:=k) t;unfold yY yE at *;by_cases hk:k1=k
  .subst hk
   constructor
   .intro d h
    simp at h;subst h;exact⟨v2,by simp,r⟩
   .intro h
    simp at h
  .constructor
   .intro d h
    rw[Pv (by simpa using hk)] at h ⊢
    exact h1 d h
   .intro h
    rw[Pv (by simpa using hk)] at h ⊢
    exact h2 h
theorem JK {k:Key}{vs:Aa (Key × V)}(h:KVs K P α kvs vs):(kvs.any λkv=>decide (kv.1=k))=(vs.any λkv=>decide (kv.1=k)):=by
 induction h with
 |nil=>rfl
 |cons z t ih=>rw[IK,IK,ih,z.1]
theorem JN {k:Key}(q:Rep K P α d v){kvs:Aa (Key × D)}{vs:Aa (Key × V)}(h:KVs K P α kvs vs):KVs K P α (kvs.map λkv=>if kv.1=k then (kv.1,d) else kv) (vs.map λkv=>if kv.1=k then (kv.1,v) else kv):=by
 induction h with
 |nil=>exact .nil
 |cons z t ih =>
  rw[Bt,Bt];refine .cons ?_ ih;rw[<- z.1]
  split
  .exact⟨rfl,q⟩
  .exact z
theorem JL {k:Key}(q:Rep K P α d v){kvs:Aa (Key × D)}{vs:Aa (Key × V)}(h:KVs K P α kvs vs):KVs K P α (kvs++[(k,d)]) (vs++[(k,v)]):=by
 induction h with
 |nil=>exact .cons ⟨rfl,q⟩ .nil
 |cons z t ih=>exact .cons z ih
theorem JO {k:Key}(q:Rep K P α d v){kvs:Aa (Key × D)}{vs:Aa (Key × V)}(r:KVs K P α kvs vs):KVs K P α (yQ kvs k d) (yR vs k v):=by
 unfold yQ yR;rw[JK r]
 split
 .exact JN q r
 .exact JL q r
theorem iU {k:Key}(h:vU d=Ab k)(r:Rep K P α d v):v=kV k:=by
 cases d with
 |int i=>cases h;simp only[Rep] at r;exact r
 |str x=>cases h;simp only[Rep] at r;exact r
 |_=>cases h
end
section
variable {X:Cx}{o i e:Bd}{pos:Do}{fo fi:DE}
noncomputable def mO:DE:=λ_ S=>.ok (.loc S.length) (S++[.dct []])
theorem BB:PE X (.Dict [] [] pos) (tD X mO):=by
 refine peW dR λσ H Q ⟨P,α,env,S,r,re,af⟩ p hp=>?_;have hpre:α<+:α++[p]:=Fi _ _;have r1:=r.new (o:=.dK []) (m:=.dct []) hp ⟨[],qX,.nil⟩;refine af _ _ _ _ r1 (qF.refl _) hpre ?_;simp only[Rep];exact⟨p,rfl,by rw[<- r.len];simp⟩
noncomputable def f7:DE:=λ_ S=>.ok .dct0 S
theorem U3:PE X (.Dict [] [] pos) (tD X f7):=by
 refine peW dR λσ H Q ⟨P,α,env,S,r,re,af⟩ p hp=>?_;obtain⟨r1,e1⟩:=r.pure (o:=.dK []) hp;refine af _ _ _ α r1 e1 (AU _) ?_;simp only[Rep];exact⟨p,rfl,qX⟩
noncomputable def zS:G3:=λo i d S=>match o with
 |.loc n=>match S[n]? with
  |some (.dct kvs)=>match vU i with
   |some k=>if kvs.length<lim then .ok () (S.set n (.dct (yQ kvs k d))) else .bad
   |none=>.bad
  |_=>bL o i d S
 |_=>bL o i d S
inductive Set2V (a b d:D)(S:Sto):Prop
 |bad (e:zS a b d S=.bad)
 |old (e:zS a b d S=bL a b d S)
 |of (n:Af) (kvs:Aa (Key × D)) (k:Key) (ea:a=.loc n) (hS:S[n]? = Ab (.dct kvs)) (hk:vU b=Ab k) (hl:kvs.length<lim) (e:zS a b d S=.ok () (S.set n (.dct (yQ kvs k d))))
theorem RG (a b d:D)(S:Sto):Set2V a b d S:=by
 cases a with
 |loc n =>
  have z:zS (.loc n) b d S=(match S[n]? with|some (.dct kvs)=>(match vU b with|some k=>(if kvs.length<lim then .ok () (S.set n (.dct (yQ kvs k d))) else .bad)|none=>.bad)|_=>bL (.loc n) b d S):=rfl
  cases hS:S[n]? with
  |none=>rw[hS] at z;exact .old z
  |some m =>
   rw[hS] at z;cases m with
   |dct kvs =>
    cases hk:vU b with
    |none=>rw[hk] at z;exact .bad z
    |some k =>
     rw[hk] at z;by_cases hl:kvs.length<lim
     .exact .of n kvs k rfl hS hk hl (z.trans (AS hl))
     .exact .bad (z.trans (AX hl))
   |_=>exact .old z
 |_=>exact .old rfl
theorem NO (hu:X.A.units+1<Hz):lB X (l9 X zS):=by
 intro pins s σ H o i v ov iv u Q I ro ri rv h;obtain⟨P,α,S,a,b,d,r,pa,pb,pd,af⟩:=h;cases RG a b d S with
 |bad e=>rw[e] at af;exact Am af
 |old e =>
  rw[e] at af;exact RH pins s σ H o i v ov iv u Q I ro ri rv ⟨P,α,S,a,b,d,r,pa,pb,pd,af⟩
 |of n kvs k ea hS hk hl e =>
  rw[e] at af;subst ea;simp only[Rep] at pa;obtain⟨p,rfl,q⟩:=pa;obtain⟨vs,z,t⟩:=r.at' n p _ q hS;cases iU hk pb;cases (show ov=Bn p from ro)
  refine iB hu I (mH.k (v:=v) z (by rw[<- JM t,<- zQ];exact hl)) ri rv λs' I'=>⟨_,I',?_⟩
  exact af _ P α (r.put (m':=.dct (yQ kvs k d)) q hS (by intro z;cases z) ⟨_,qX,JO pd t⟩) (qF.refl _) (AU _)
noncomputable def uJ:D->Aa D->Sto->Res D:=λa ds S=>match a,ds with
 |.loc n,[i,x]=>match S[n]? with
  |some (.dct kvs)=>match vU i with
   |some k=>.ok ((yY kvs k).getD x) S
   |none=>.bad
  |_=>.bad
 |_,_=>.bad
inductive GetV (a:D)(ds:Aa D)(S:Sto):Prop
 |bad (e:uJ a ds S=.bad)
 |of (n:Af) (i x:D) (kvs:Aa (Key × D)) (k:Key) (ea:a=.loc n) (ed:ds=[i,x]) (hS:S[n]? = Ab (.dct kvs)) (hk:vU i=Ab k) (e:uJ a ds S=.ok ((yY kvs k).getD x) S)
theorem EJ (a:D)(ds:Aa D)(S:Sto):GetV a ds S:=by
 cases a with
 |loc n =>
  cases ds with
  |nil=>exact .bad rfl
  |cons i ds =>
   cases ds with
   |nil=>exact .bad rfl
   |cons x ds =>
    cases ds with
    |cons _ _=>exact .bad rfl
    |nil =>
     have z:uJ (.loc n) [i,x] S=(match S[n]? with|some (.dct kvs)=>(match vU i with|some k=>.ok ((yY kvs k).getD x) S|none=>.bad)|_=>.bad):=rfl
     cases hS:S[n]? with
     |none=>rw[hS] at z;exact .bad z
     |some m =>
      rw[hS] at z;cases m with
      |dct kvs =>
       cases hk:vU i with
       |none=>rw[hk] at z;exact .bad z
       |some k=>rw[hk] at z;exact .of n i x kvs k rfl rfl hS hk z
      |_=>exact .bad z
 |_=>exact .bad rfl
theorem M1 (hu:X.A.units+1<Hz):MtD X "dict.get" uJ:=by
 intro pins σ H s P α S v vv vs us a ds Q I r rv p rvs rps af;cases EJ a ds S with
 |bad e=>rw[e] at af;exact Am af
 |of n i x kvs k ea ed hS hk e =>
  rw[e] at af;subst ea ed;obtain⟨vi,vx,ui,ux,rfl,rfl,pi,px,qi,qx⟩:=u9 rps rvs;simp only[Rep] at p;obtain⟨b,rfl,q⟩:=p;obtain⟨ws,z,t⟩:=r.at' n b _ q hS;cases iU hk pi;cases (show vv=Bn b from rv)
  refine B3 hu I (mG.k z) qi qx λw' s' I' rw'=>⟨_,H,I',rw',xr af r ?_⟩;obtain⟨h1,h2⟩:=eI (k:=k) t;cases hv:yY kvs k with
  |none=>rw[h2 hv];exact px
  |some d =>
   obtain⟨w,e1,e2⟩:=h1 d hv;rw[e1];exact e2
noncomputable def fF:D->Aa D->Sto->Res D:=λa ds S=>match a,ds with
 |.lst xs,[.bl k]=>match zT xs with
  |some bs=>.ok (.int (bs.countP (· == k):Af)) S
  |none=>.bad
 |_,_=>.bad
noncomputable def mY (k:Ao):Aa Ao->Al Af
 |[]=>none
 |b::r=>if b=k then Ab 0 else (mY k r).map (· + 1)
noncomputable def fG:D->Aa D->Sto->Res D:=λa ds S=>match a,ds with
 |.lst xs,[.bl k]=>match (zT xs).bind (mY k) with
  |some j=>.ok (.int j) S
  |none=>.bad
 |_,_=>.bad
theorem lP (k:Ao){bs:Aa Ao}{y:Ac}(hy:y∈(bs.map Eb).toArray):Yq y (.bool k) (Pw k y):=by
 have hy':y∈bs.map Eb:=by rwa [List.mem_toArray] at hy
 obtain⟨b,_,rfl⟩:=Ce.mp hy';exact λprog w A E s Q h=>Xi b k prog w E Q h
theorem rB (k:Ao)(bs:Aa Ao):(bs.map Eb).countP (Pw k)=bs.countP (· == k):=by
 rw[List.countP_map];rfl
theorem bZ {β:Type}{r:Res β}{P:Hp}{α:Aa Ad}{Ok:β->Sto->Prop}(e:r=.bad)(h:qJ X P α r Ok):Eh:=by
 rw[e] at h;exact h
inductive BlV (a:D)(ds:Aa D):Prop
 |no (h:∀ (g:Aa D->Ao->Res D),(match a,ds with|.lst xs,[.bl k]=>g xs k|_,_=>.bad)=.bad)
 |of (xs:Aa D) (k:Ao) (ea:a=.lst xs) (ed:ds=[.bl k])
theorem blV (a:D)(ds:Aa D):BlV a ds:=by
 cases a with
 |lst xs =>
  cases ds with
  |nil=>exact .no λ_=>rfl
  |cons d ds =>
   cases ds with
   |cons _ _=>cases d <;> exact .no λ_=>rfl
   |nil =>
    cases d with
    |bl k=>exact .of xs k rfl rfl
    |_=>exact .no λ_=>rfl
 |_=>exact .no λ_=>rfl
theorem XW:MtD X "list.count" fF:=by
 intro pins σ H s P α S v vv vs us a ds Q I r rv p rvs rps af;cases blV a ds with
 |no h=>exact(bZ (X:=X) (r:=fF a ds S) (h _) af).elim
 |of xs k ea ed =>
  subst ea ed;have af:qJ X P α (match zT xs with|some bs=>Res.ok (D.int (bs.countP (· == k):Af)) S|none=>.bad) (OkV X P α Q):=af
  cases hb:zT xs with
  |none=>rw[hb] at af;exact Am af
  |some bs =>
   rw[hb] at af;obtain⟨vx,ux,rfl,rfl,px,qx⟩:=vN rps rvs;simp only[Rep] at px;subst px;cases (show ux=Eb k from qx)
   obtain⟨b,ws,its,n,rfl,sq,t,rvi,ht,hl,_⟩:=vS I r p;cases (show vv=Bn b from rv)
   have hi:=yK hb t rvi;subst hi;refine OR Ku ⟨_,ht,rfl⟩ PySem.F.entry_list_count (PySem.F.args_list_count_2 _ _) (PySem.SeqAt.list_countAt b (bs.map Eb).toArray n none #[] (.bool k) (Pw k)) ⟨ht,λy hy=>(lP k hy).at _ _,?_⟩;refine⟨.int _,H,I.tok _,⟨_,rfl⟩,?_⟩;rw[show (bs.map Eb).toArray.toList=bs.map Eb from rfl,rB]
   exact xr af r (by simp only[Rep])
theorem eB {k:Ao}:∀ {bs:Aa Ao} {j:Af},mY k bs=Ab j->∃ h:j<bs.length,bs[j]=k/\∀ m (hm:m<bs.length),m<j->bs[m]≠k
 |[],j,h=>by cases h
 |b::r,j,h=>by
  unfold mY at h;by_cases hb:b=k
  .rw[AS hb] at h
   cases h;exact⟨by simp,by simpa using hb,λm hm z=>absurd z (Nat.not_lt_zero _)⟩
  .rw[AX hb] at h
   obtain⟨i,hi,rfl⟩:=Cg.mp h;obtain⟨h1,h2,h3⟩:=eB hi;refine⟨by simp;lia,by simpa using h2,λm hm hl=>?_⟩
   cases m with
   |zero=>simpa using hb
   |succ m=>simpa using h3 m (by simp at hm;lia) li
theorem XX:MtD X "list.index" fG:=by
 intro pins σ H s P α S v vv vs us a ds Q I r rv p rvs rps af;cases blV a ds with
 |no h=>exact(bZ (X:=X) (r:=fG a ds S) (h _) af).elim
 |of xs k ea ed =>
  subst ea ed;have af:qJ X P α (match (zT xs).bind (mY k) with|some j=>Res.ok (D.int j) S|none=>.bad) (OkV X P α Q):=af
  cases hj:(zT xs).bind (mY k) with
  |none=>rw[hj] at af;exact Am af
  |some j =>
   rw[hj] at af;obtain⟨bs,hb,hi⟩:=Dq.mp hj;obtain⟨vx,ux,rfl,rfl,px,qx⟩:=vN rps rvs;simp only[Rep] at px;subst px;cases (show ux=Eb k from qx)
   obtain⟨b,ws,its,n,rfl,sq,t,rvi,ht,hl,hz⟩:=vS I r p;cases (show vv=Bn b from rv)
   have hi':=yK hb t rvi;subst hi';obtain⟨h1,h2,h3⟩:=eB hi;have hlen:bs.length<=sizeLine:=by
    have e1:=t.length;have e2:=rvi.length;rw[Ba] at e2;rw[zQ] at hz
    lia
   refine OR Kv ⟨_,ht,rfl⟩ PySem.F.entry_list_index (PySem.F.args_list_index_2 _ _) (Xw b (bs.map Eb).toArray n (.bool k) (Pw k) (λy hy=>lP k hy) j (by simpa using h1) ?_ ?_ ?_) ⟨ht,?_⟩
   .rw[Fe] at hlen;lia
   .simp[Pw,h2]
   .intro m hm hl'
    have hm':m<bs.length:=by simpa using hm
    have:=h3 m hm' hl';simp[Pw,this]
   .exact⟨.int _,H,I.tok _,⟨_,rfl⟩,xr af r (by simp only[Rep])⟩
end
noncomputable def wM (t:DT)(f:DS):Af->qD->Sto->Out
 |0,_,_=>.bad
 |n+1,env,S=>(t env S).toS env λb S1=>if b then (match f env S1 with
   |.nx env2 S2=>wM t f n env2 S2
   |.ct env2 S2=>wM t f n env2 S2
   |.bk env2 S2=>.nx env2 S2
   |o=>o) else .nx env S1
theorem i3:∃ n:Af,n=2 ^ 60:=⟨_,rfl⟩
def big:Af:=Jq i3
theorem gS:big=2 ^ 60:=Ho i3
def wZ (t:DT)(f:DS):DS:=λenv S=>wM t f big env S
section
variable {X:Cx}{pos:Do}
inductive WhI (X:Cx)(P:Hp)(α : Aa Ad)(t:DT)(f:DS)(D:Ends)(m:Af)(σ : _L.St)(H:Hp):Prop
 |mk (P2:Hp) (α2:Aa Ad) (env2:qD) (S2:Sto) (r:Rel X.K H P2 α2 S2) (re:qZ X.K P2 α2 σ env2) (e1:qF P P2) (e2:α<+:α2) (af:z0 X P2 α2 (wM t f m env2 S2) D):WhI X P α t f D m σ H
theorem ZZ {c:Bd}{body:Aa Ds}{t:DT}{f:DS}(hp:Mv (Au X.prog X.w) X.A X.env X.xe)(hc:PT X c (tDT X t))(hb:PSs X body (tDS X f)):PS X (.While c body [] pos) (tDS X (wZ t f)):=
 psW (WJ hp hc hb) λD σ H ⟨P,α,env,S,r,re,af⟩=>by
  refine⟨WhI X P α t f D,⟨big,P,α,env,S,r,re,qF.refl _,AU _,af⟩,?_⟩;rintro m σ2 H2 ⟨P2,α2,env2,S2,r2,re2,e1,e2,af2⟩;cases m with
  |zero=>exact Am af2
  |succ m =>
   have af3:=xN af2;refine⟨P2,α2,env2,S2,r2,re2,?_⟩;cases q:t env2 S2 with
   |bad=>rw[q] at af3;exact af3
   |ex c x S'=>rw[q] at af3;exact af3
   |ok b S3 =>
    rw[q] at af3;intro H3 P3 α3 r3 e3 e4;have af4:z0 X P3 α3 (if b then (match f env2 S3 with|.nx env2 S2=>wM t f m env2 S2|.ct env2 S2=>wM t f m env2 S2|.bk env2 S2=>.nx env2 S2|o=>o) else .nx env2 S3) D:=z0.base e3 e4 af3
    cases b with
    |false=>exact af4 σ2 H3 P3 α3 r3 (re2.mono e3 e4) (qF.refl _) (AU _)
    |true =>
     simp only[Cq] at af4 ⊢;refine⟨WhI X P α t f D m,λσ' H' w=>⟨m,Mb _,w⟩,P3,α3,env2,S3,r3,re2.mono e3 e4,?_⟩;cases q2:f env2 S3 with
     |bad=>rw[q2] at af4;exact af4
     |ex c x env4 S4=>rw[q2] at af4;exact af4
     |rt d4 S4=>rw[q2] at af4;exact af4
     |bk env4 S4=>rw[q2] at af4;exact af4
     |nx env4 S4 =>
      rw[q2] at af4;exact λσ5 H5 P5 α5 r5 re5 e8 e9=>⟨P5,α5,env4,S4,r5,re5,(e1.trans e3).trans e8,(e2.trans e4).trans e9,z0.base e8 e9 af4⟩
     |ct env4 S4 =>
      rw[q2] at af4;exact λσ5 H5 P5 α5 r5 re5 e8 e9=>⟨P5,α5,env4,S4,r5,re5,(e1.trans e3).trans e8,(e2.trans e4).trans e9,z0.base e8 e9 af4⟩
end
section
variable {X:Cx}{a b c e:Bd}{pos:Do}{fa fe:DE}
def HP (X:Cx)(g:G2):TIp:=λx y H Q=>∃ P α S a b,Rel X.K H P α S/\Rep X.K P α a x/\Rep X.K P α b y/\qU X P α (g a b S) Q
def IpD (X:Cx)(op:Lh)(g:G2):Prop:=PIp X op (HP X g)
noncomputable def vF (i:Af)(g:G2)(fe:DE):DS:=λenv S=>match env[i]? with
 |some (Ab x)=>(fe env S).toS env λy S1=>(g x y S1).toS env λz S2=>.nx (env.set i (Ab z)) S2
 |_=>.bad
set_option tactic.hygienic true in
theorem BR {i:Af}{x:An}{op:Lh}{g:G2}{pos':Do}(hN:X.N.Nodup)(he:PE X e (tD X fe))(ho:IpD X op g)(hi:X.N[i]? = Ab x:=by rfl)(hx:Loc X.env.scope x:=by first|exact Xg rfl|exact Vj rfl)
  (hf:X.fn x=true\/X.env.scope.names.lookup x=Ab .local:=by first|exact .inl rfl|exact .inr rfl|assumption):PS X (.AugAssign (.Name x pos') op e pos) (tDS X (vF i g fe)):=
 psW (TR hN hi hx he ho hf) λD σ H ⟨P,α,env,S,r,re,af⟩=>by
  unfold vF at af
  split at af
  .rename_i d hd
   obtain⟨v,hv,pv⟩:=re.2 i d hd;refine⟨v,hv,P,α,env,S,r,re,?_⟩;have af1:=xN af;cases q:fe env S with
   |bad=>rw[q] at af1;exact af1
   |ex c x S'=>rw[q] at af1;exact af1
   |ok y S1 =>
    rw[q] at af1;intro u H1 P1 α1 r1 e1 e2 rp;refine⟨P1,α1,S1,d,y,r1,Rep.mono e1 e2 _ _ pv,rp,?_⟩;have af2:=xN (z0.base e1 e2 af1);cases q2:g d y S1 with
    |bad=>rw[q2] at af2;exact af2
    |ex c x S'=>rw[q2] at af2;exact af2
    |ok z S2 =>
     rw[q2] at af2;exact λw H2 P2 α2 r2 e3 e4 rp2=>af2 _ H2 P2 α2 r2 (((re.mono e1 e2).mono e3 e4).set i rp2) e3 e4
  .exact Am af
noncomputable def pR:G2:=i2 (λ_ _=>true) λi j=>.int (i+j)
theorem J8:IpD X .Add pR:=by
 intro pins s σ H x y v u Q I rx ry h;obtain⟨P,α,S,a,b,r,pa,pb,af⟩:=h;obtain⟨i,j,rfl,rfl,_,ok⟩:=fJ af;exact FG pins s σ H x y v u Q I rx ry ⟨i,j,zF pa,zF pb,xr ok r (by simp only[Rep])⟩
noncomputable def lX:G2:=i2 ZC λi j=>.int (i*2 ^ j.toNat)
theorem MT:OpD X (De .LShift) lX:=kH T7 (λi j h=>(Bi h:0<=j/\j<=1000000/\i.natAbs<2 ^ 64)) λP α i j=>by simp only[Rep]
noncomputable def KA (i j k:Af)(env:qD)(S1:Sto):Aa D->Out
 |[x,y,z]=>.nx (((env.set i (Ab x)).set j (Ab y)).set k (Ab z)) S1
 |_=>.bad
noncomputable def m8 (i j k:Af)(f:DA):DS:=λenv S=>(f env S).toS env λds S1=>KA i j k env S1 ds
theorem UH {i j k:Af}{x y z:An}{f:DA}{px py pz pt:Do} {kt k2 pt2} (hc:X.calm=true) (hN:X.N.Nodup) (ha:PA X [a,b,c] (tDA X f)) (hi:X.N[i]? = Ab x:=by rfl) (hj:X.N[j]? = Ab y:=by rfl) (hk:X.N[k]? = Ab z:=by rfl) (hij:i≠j:=by decide) (hik:i≠k:=by decide) (hjk:j≠k:=by decide)
  (hx:X.env.scope.names.lookup x=Ab .local:=by rfl) (hy:X.env.scope.names.lookup y=Ab .local:=by rfl) (hz:X.env.scope.names.lookup z=Ab .local:=by rfl)
  (hw:Gy [.Tuple [.Name x px,.Name y py,.Name z pz] kt pt] (.Tuple [a,b,c] k2 pt2) X.env=pure (Ab [x,y,z]):=by rfl)
  (hs:Gz [.Tuple [.Name x px,.Name y py,.Name z pz] kt pt] (.Tuple [a,b,c] k2 pt2) pos.line X.env=pure false:=by rfl) :
  PS X (.Assign [.Tuple [.Name x px,.Name y py,.Name z pz] kt pt] (.Tuple [a,b,c] k2 pt2) pos) (tDS X (m8 i j k f)):=by
 intro pins s σ H D I h;obtain⟨P,α,env,S,r,re,af⟩:=h;rw[Wa];refine Ai (Lq ?_);rw[hs];refine Ai (Ap ?_);rw[AX (by decide)]
 refine Ai (Tuple_ (thn (rR ha I r re af _) λus s1 ⟨vs,H1,P1,α1,ds,S1,I1,rv,r1,re1,rp,e1,e2,q⟩=>?_))
 match ds,rp,q with
 |[],_,q=>exact Am q
 |[_],_,q=>exact Am q
 |[_,_],_,q=>exact Am q
 |_::_::_::_::_,_,q=>exact Am q
 |[d1,d2,d3],rp,q =>
  obtain⟨v1,t1,rfl,p1,rp⟩:=rp.cons_inv;obtain⟨v2,t2,rfl,p2,rp⟩:=rp.cons_inv;obtain⟨v3,t3,rfl,p3,rp⟩:=rp.cons_inv;cases rp.nil_inv;obtain⟨u1,u2,u3,rfl,q1,q2,q3⟩:∃ u1 u2 u3,us=[u1,u2,u3]/\qM v1 u1/\qM v2 u2/\qM v3 u3:=by
   cases rv with
   |cons z1 rv=>cases rv with
    |cons z2 rv=>cases rv with
     |cons z3 rv=>cases rv;exact⟨_,_,_,rfl,z1,z2,z3⟩
  refine Cz ?_ (by show 3<=sizeLine;decide)
  have I2:Inv X pins σ H1 { s1 with heap:=s1.heap.push { cls:=.type "tuple",data:=.seq [u1,u2,u3].toArray } }:=I1.kept (t':=s1.toks) λb o e=>Ak _ e
  rw[hw];refine Ai (Ap ?_);show Ar (Au X.prog X.w) X.A (do rule "assign.swapped-stores";let items <- unpackItems (.ref s1.heap.objs.size) 3 none;Lp [λv=>Jh X.env z v,λv=>Jh X.env y v,λv=>Jh X.env x v] items.reverse;pure Ug) _ _ _
  refine Ai (Gk (Ai (Uh (items:=#[u1,u2,u3]) (I.ok.hd hc) (Ot s1.heap _) λh' hx'=>?_)));have I3:=I2.kept (h':=h') (t':=s1.toks) λb o e=>hx' b o (Bs (Ay e)) e;show Ar _ _ (Lp [λv=>Jh X.env z v,λv=>Jh X.env y v,λv=>Jh X.env x v] [u3,u2,u1] >>= λ_=>pure Ug) _ _ _;refine Ai (Hg (La (xY I3 hN hk (.inl hz) q3 (λs2 I4=>?_) (.inr hz))));refine Hg (La (xY I4 hN hj (.inl hy) q2 (λs3 I5=>?_) (.inr hy)));refine Hg (La (xY I5 hN hi (.inl hx) q1 (λs4 I6=>Os (Ap ?_)) (.inr hx)));rw[Ou _ _ (Fa hij),Ou _ _ (Fa hik),Ou _ _ (Fa hjk)] at I6;exact⟨_,H1,I6,q _ H1 P1 α1 r1 (((re1.set i p1).set j p2).set k p3) (qF.refl _) (AU _)⟩
noncomputable def xB (xs:Aa D)(lo hi:Al Aj):Aa D:=(xs.drop (_H.sIx xs.length 0 lo)).take (_H.sIx xs.length xs.length hi-_H.sIx xs.length 0 lo)
abbrev DO:=qD->Sto->Res (Al Aj)
def OkO (X:Cx)(P:Hp)(α : Aa Ad)(Q:Al Aj->Hp->Prop)(o:Al Aj)(S':Sto):Prop:=∀ H' P' α',Rel X.K H' P' α' S'->qF P P'->α<+:α'->Q o H'
def tDO (X:Cx)(f:DO):TO:=λσ H Q=>∃ P α env S,Rel X.K H P α S/\qZ X.K P α σ env/\qJ X P α (f env S) (OkO X P α Q)
noncomputable def yM:DO:=λ_ S=>.ok none S
noncomputable def xS (f:DE):DO:=λenv S=>(f env S).bind λd S1=>match d with
 |.int i=>.ok (Ab i) S1
 |_=>.bad
theorem UD:PO X none (tDO X yM):=λpins s σ H Q I ⟨P,α,env,S,r,re,af⟩=>KJ pins s σ H Q I (af H P α r (qF.refl _) (AU _))
theorem UE (he:PE X e (tD X fe)):PO X (Ab e) (tDO X (xS fe)):=by
 intro pins s σ H Q I h;obtain⟨P,α,env,S,r,re,af⟩:=h;refine KL (te:=tD X fe) he pins s σ H Q I ⟨P,α,env,S,r,re,?_⟩;have af':qJ X P α ((fe env S).bind λd S1=>match d with|.int i=>.ok (Ab i) S1|_=>.bad) (OkO X P α Q):=af
 cases q:fe env S with
 |bad=>rw[q] at af';exact af'
 |ex c x S'=>rw[q] at af';exact af'
 |ok d S1 =>
  rw[q] at af';intro v H1 P1 α1 r1 e1 e2 rp;cases d with
  |int i=>exact⟨i,zF rp,af' H1 P1 α1 r1 e1 e2⟩
  |_=>exact Am af'
theorem qE.cut {K:Ah}{P:Hp}{α:Aa Ad}(r:qE K P α ds vs)(lo hi:Al Aj):qE K P α (xB ds lo hi) (gV vs lo hi):=by
 unfold xB gV;rw[r.length];exact(r.drop _).take _
noncomputable def gSl (d:D)(lo hi:Al Aj)(S:Sto):Res D:=match d with
 |.lst xs=>.ok (.lst (xB xs lo hi)) S
 |.loc i=>match S[i]? with
  |some (.lst xs)=>.ok (.lst (xB xs lo hi)) S
  |_=>.bad
 |.tup xs=>.ok (.tup (xB xs lo hi)) S
 |_=>.bad
noncomputable def dSl (fe:DE)(fl fh:DO):DE:=λenv S=>(fe env S).bind λd S1=>(fl env S1).bind λlo S2=>(fh env S2).bind λhi S3=>gSl d lo hi S3
end
end _D
namespace _D
open PySem PySem.Spec PyProof.Rows _L _H
section
variable {prog:AV}{w:Bk}{A:Bh}{E:Ac->Ag->Prop}{s:Ag}
theorem gP {t sl:Ad}{items:AZ Ac}{vl vu:Ac}{lo hi:Al Aj}{Q:Ac->Ag->Prop}(ht:Qj s.heap t items)(hs:s.heap.IsSliceOf sl vl vu .none)(pl:Og vl lo)(pu:Og vu hi)
  (hw:sIx items.size 0 lo=0/\sIx items.size items.size hi=items.size) (h:Q (.ref t) s):Ar (Au prog w) A (Lu (.ref t) (.ref sl)) Q E s:=by
 obtain⟨ob,hob,hcb,_⟩:=id hs;have hTs:s.TypeIs (.ref sl) "slice":=⟨ob,hob,hcb⟩;unfold Lu
 try with_reducible refine Fo ?_
 first|refine Ai (Ap ?_)|skip
 refine Ai (Ow ht.typeIs (by decide) ?_)
 refine Ai (Ev (name:=Ji "__getitem__") ht.typeIs Ch
  (Fy Ch ht.typeIs Ni ?_ (Nz _ _)))
 show Ar _ _ (Jp (.ref t) >>= _) _ _ s;refine Ai (Sm ht ?_);refine Ai (OT hTs ?_);rw[AS (by decide)]
 refine Ai (uS hs pl pu ?_);show Ar _ _ (if (((sIx items.size 0 lo:Af):Aj) == 0&&(1:Aj) == 1&&(sIx items.size items.size hi-sIx items.size 0 lo) == items.size)=true then _ else _) _ _ s
 rw[hw.1,hw.2,AS (by simp)]
 unfold Xj;refine Ai (Ai (OT ht.typeIs (Ap ?_)));rw[AS (by decide)]
 exact Ai (Gk (Ap ⟨_,rfl,Ap h⟩))
end
section
variable {X:Cx}{e:Bd}{fe:DE}{pos p2:Do}
def HD (X:Cx):V->Al Aj->Al Aj->Hp->VK->Prop:=λx lo hi H Q=>∃ P α S d,Rel X.K H P α S/\Rep X.K P α d x/\qU X P α (gSl d lo hi S) Q
theorem HK:SlR X (HD X):=by
 intro pins s σ H x v vl vu lo hi sl Q I rx hs pl pu h;obtain⟨P,α,S,d,r,p,af⟩:=h;cases d with
 |lst xs =>
  simp only[Rep] at p;obtain⟨a,vs,rfl,q,t⟩:=p;exact hZ pins s σ H _ v vl vu lo hi sl Q I rx hs pl pu ⟨a,vs,rfl,(xF r.sub q).l,λb hb=>wK r hb (qE.cut t lo hi) af⟩
 |loc i =>
  obtain⟨xs,hS,af⟩:=gD (X:=X) (f:=λxs=>Res.ok (D.lst (xB xs lo hi)) S) af;simp only[Rep] at p;obtain⟨a,rfl,q⟩:=p;obtain⟨vs,z,t⟩:=r.at' i a _ q hS;exact hZ pins s σ H _ v vl vu lo hi sl Q I rx hs pl pu ⟨a,vs,rfl,SqL.of z,λb hb=>wK r hb (qE.cut t lo hi) af⟩
 |tup xs =>
  have p0:=p;simp only[Rep] at p;obtain⟨a,vs,rfl,q,t⟩:=p;by_cases hw:sIx vs.length 0 lo=0/\sIx vs.length vs.length hi=vs.length
  .cases rx
   obtain⟨its,rv,ht,hz⟩:=I.tuple (xA r.sub q);have hlen:its.toArray.size=vs.length:=by rw[Bf];exact rv.length.symm
   refine⟨"tuple",_,Ch.lookup,ht.typeIs,gP ht hs pl pu (by rw[hlen];exact hw) ⟨.ref a,H,I,rfl,xr af r ?_⟩⟩
   have e:xB xs lo hi=xs:=by
    unfold xB;rw[t.length,hw.1,hw.2,<- t.length];simp
   rw[e];exact p0
  .exact NP pins s σ H _ v vl vu lo hi sl Q I rx hs pl pu ⟨a,vs,rfl,xA r.sub q,hw,λb hb=>uP r hb (qE.cut t lo hi) af⟩
 |_=>exact Am af
theorem ZS {lo hi:Al Bd}{fl fh:DO}(he:PE X e (tD X fe))(hl:PO X lo (tDO X fl))(hu:PO X hi (tDO X fh)):PE X (.Subscript e (.Slice lo hi none p2) pos) (tD X (dSl fe fl fh)):=
 peW (WD HK he hl hu) λσ H Q ⟨P,α,env,S,r,re,af⟩=>by
  refine⟨P,α,env,S,r,re,?_⟩;have af':qJ X P α ((fe env S).bind λd S1=>(fl env S1).bind λlo S2=>(fh env S2).bind λhi S3=>gSl d lo hi S3) (OkV X P α Q):=af;cases q:fe env S with
  |bad=>rw[q] at af';exact af'
  |ex c x S'=>rw[q] at af';exact af'
  |ok d S1 =>
   rw[q] at af';intro v H1 P1 α1 r1 e1 e2 rp;refine⟨P1,α1,env,S1,r1,re.mono e1 e2,?_⟩;have af2:qJ X P1 α1 ((fl env S1).bind λlo S2=>(fh env S2).bind λhi S3=>gSl d lo hi S3) (OkV X P1 α1 Q):=qU.base e1 e2 af';cases q2:fl env S1 with
   |bad=>rw[q2] at af2;exact af2
   |ex c x S'=>rw[q2] at af2;exact af2
   |ok l S2 =>
    rw[q2] at af2;intro H2 P2 α2 r2 e3 e4;refine⟨P2,α2,env,S2,r2,(re.mono e1 e2).mono e3 e4,?_⟩;have af3:qJ X P2 α2 ((fh env S2).bind λhi S3=>gSl d l hi S3) (OkV X P2 α2 Q):=qU.base e3 e4 af2;cases q3:fh env S2 with
    |bad=>rw[q3] at af3;exact af3
    |ex c x S'=>rw[q3] at af3;exact af3
    |ok u S3 =>
     rw[q3] at af3;intro H3 P3 α3 r3 e5 e6;exact⟨P3,α3,S3,d,r3,Rep.mono (e3.trans e5) (e4.trans e6) _ _ rp,qU.base e5 e6 af3⟩
noncomputable def jI (d:D)(S:Sto):Res D:=match d with
 |.int i=>if i.natAbs.log2<1920 then .ok (.str (toString i)) S else .bad
 |.str x=>if x.length<=lim then .ok (.str x) S else .bad
 |_=>.bad
set_option tactic.hygienic true in
theorem BC (he:PE X e (tD X fe)):PE X (.FormattedValue e (-1) none pos) (tD X (d1 jI fe)):=by
 intro pins s σ H Q I h;obtain⟨P,α,env,S,r,re,af⟩:=h;refine FormattedValue_plain (thn (zM he I r re af) λvv s1 ⟨v,H1,P1,α1,d,S1,G1,af1⟩=>?_);have p:=G1.rep;have rv:=G1.val;have af2:=qU.base G1.same G1.pre af1;cases d with
 |int i =>
  simp only[jI] at af2
  split at af2
  .rename_i hd
   simp only[Rep] at p;subst p;obtain⟨t,rfl⟩:=rv;exact formatField_int_small hd ⟨.str _,H1,G1.inv.tok _,⟨_,rfl⟩,xr af2 G1.rel (by simp only[Rep])⟩
  .exact Am af2
 |str x =>
  simp only[jI] at af2
  split at af2
  .rename_i hd
   simp only[Rep] at p;subst p;obtain⟨t,rfl⟩:=rv;exact formatField_str (λt' tk=>⟨.str _,H1,G1.inv.tok _,⟨_,rfl⟩,xr af2 G1.rel (by simp only[Rep])⟩) (by rw[<- zQ];exact hd)
  .exact Am af2
 |_=>exact Am af2
noncomputable def g9 (out:An):Aa DE->qD->Sto->Res D
 |[],_,S=>if out.length<=lim then .ok (.str out) S else .bad
 |p::ps,env,S=>(p env S).bind λd S1=>match d with
  |.str y=>if (out++y).length<=lim then g9 (out++y) ps env S1 else .bad
  |_=>.bad
def PJ (X:Cx)(es:Aa Bd)(fs:Aa DE):Prop:=
 ∀ (out:An) (pins:Aa (Ad × Bq)) (s:Ag) (σ : _L.St) (H P:Hp) (α : Aa Ad) (env:qD) (S:Sto) (Q:VK),Inv X pins σ H s->Rel X.K H P α S->qZ X.K P α σ env->qU X P α (g9 out fs env S) Q ->
  Ar (Au X.prog X.w) X.A (joinParts out (evalEach es X.env)) (EP X pins σ Q) X.xe s
theorem TN:PJ X [] []:=by
 intro out pins s σ H P α env S Q I r re af;obtain⟨hl,af⟩:=xT (X:=X) af;exact joinParts_nil ⟨.str _,H,I.tok _,⟨_,rfl⟩,xr af r (by simp only[Rep])⟩ (by rw[<- zQ];exact hl)
theorem KG {es:Aa Bd}{fs:Aa DE}(he:PE X e (tD X fe))(hr:PJ X es fs):PJ X (e::es) (fe::fs):=by
 intro out pins s σ H P α env S Q I r re af;have af:qJ X P α ((fe env S).bind λd S1=>match d with|.str y=>if (out++y).length<=lim then g9 (out++y) fs env S1 else .bad|_=>.bad) (OkV X P α Q):=af
 refine joinParts_cons (thn (zM he I r re af) λvv s1 ⟨v,H1,P1,α1,d,S1,G1,af1⟩=>?_);cases d with
 |str y =>
  have p:=G1.rep;simp only[Rep] at p;subst p;obtain⟨t,rfl⟩:=G1.val;obtain⟨hl,af1⟩:=xT (X:=X) af1;exact⟨by rw[<- zQ];exact hl,hr (out++y) pins s1 σ H1 P1 α1 env S1 Q G1.inv G1.rel G1.env (qU.base G1.same G1.pre af1)⟩
 |_=>exact Am af1
noncomputable def nQ (fs:Aa DE):DE:=λenv S=>g9 Jt fs env S
theorem U4 {v₁ v₂:Bd}{qL:Aa Bd}{fs:Aa DE}(h:PJ X (v₁::v₂::qL) fs):PE X (.JoinedStr (v₁::v₂::qL) pos) (tD X (nQ fs)):=by
 intro pins s σ H Q I hq;obtain⟨P,α,env,S,r,re,af⟩:=hq;exact JoinedStr_many (h Jt pins s σ H P α env S Q I r re af)
end
end _D
namespace _D
open PySem PySem.Spec PyProof.Rows _L
variable {xs ys:AZ Ac}{us:Aa Ac}{α:Aa Ad}{N:Aa An}{ds dsF:Aa D}{body:Aa Ds}{vs:Aa V}{Q:Ac->Ag->Prop}{C:Ad}{m:Af}{Qa Qd:Ag->Prop}{o':Al (Af × MO)}{tp:Ao}{h':Bc}{id:Cs}{S SF:Sto}{R:Vf->Ag->Prop}{env envF:qD}
def zN (tp:Ao)(h:Bc)(it l:Ad)(k:Af):Prop:=if tp then h.IsTupleIter it l k else h.IsListIter it l k
def xQ (tp:Ao)(h:Bc)(l:Ad)(xs:AZ Ac):Prop:=if tp then h.IsTuple l xs else h.IsList l xs
theorem zN.keep {h:Bc}{it l:Ad}{k:Af}(x:zN tp h it l k)(q:∀ o,h.get? it=Ab o->h'.get? it=Ab o):zN tp h' it l k:=by
 cases tp <;> (obtain⟨o,e,r⟩:=x;exact⟨o,q o e,r⟩)
theorem xQ.keep {h:Bc}{l:Ad}(x:xQ tp h l xs)(q:∀ o,h.get? l=Ab o->h'.get? l=Ab o):xQ tp h' l xs:=by
 cases tp <;> (obtain⟨o,e,r⟩:=x;exact⟨o,q o e,r⟩)
theorem zN.there {h:Bc}{it l:Ad}{k:Af}(x:zN tp h it l k):∃ o,h.get? it=Ab o/\∀ v,o.data≠.cell v:=by
 cases tp <;> (obtain⟨o,e,_,d⟩:=x;exact⟨o,e,λv z=>by rw[d] at z;cases z⟩)
section
variable {prog:AV}{w:Bk}{A:Bh}{E:Ac->Ag->Prop}{s:Ag}
theorem W2 {it t:Ad}{i:Af}{items:AZ Ac}{x:Ac}(hit:s.heap.IsTupleIter it t i)(ht:s.heap.IsTuple t items)(hx:items[i]? = Ab x)
  (hQ:∀ h',h'.IsTupleIter it t (i+1)->Hs it s.heap h'->Q x { s with heap:=h' }) : Ar (Au prog w) A (Dc (.ref it)) Q E s:=by
 obtain⟨o,e,c,d⟩:=id hit;obtain⟨u,eu,_,m,du⟩:=ht;unfold Dc;refine Ai (Ev (name:=Ji "__next__") hit.typeIs Hq (Fy Hq hit.typeIs Np ?_ (Nk _)));show Ar _ _ (field (.ref it) 0 >>= _) _ _ s;refine Ai (Dv e d (x:=.ref t) rfl ?_);show Ar _ _ (if (Bn t == Dd)=true then _ else _) _ _ s;rw[AX (show ¬ ((Bn t == Dd)=true) from Fh)]
 show Ar _ _ (field (.ref it) 1 >>= _) _ _ s;refine Ai (Dv e d (x:=.int i 0) rfl ?_);show Ar _ _ (seqItems? (.ref t) >>= _) _ _ s;refine Ai (He eu du ?_);simp only[Ic,hx];refine Ai (wpAny_setField e d (by simp) (Ap ⟨x,rfl,Ap (hQ _ ⟨_,Qo _ e (Obj.isFreed_of_fields (Tr d _)),(Obj.cls_mapFields ..).trans c,?_⟩ (Sz ..))⟩))
 rw[Tr d];simp[Gp]
theorem dG {it t:Ad}{i:Af}{items:AZ Ac}{Q:Ac->Ag->Prop}(hh:A.handled=none)(hit:s.heap.IsTupleIter it t i)(ht:s.heap.IsTuple t items)(hx:items[i]? = none)
  (hE:∀ h' e,Yx it s.heap h'->(∃ o,h'.get? e=Ab o/\o.cls=.type "StopIteration")->E (.ref e) { s with heap:=h' }) : Ar (Au prog w) A (Dc (.ref it)) Q E s:=by
 obtain⟨o,e,c,d⟩:=id hit;obtain⟨u,eu,_,m,du⟩:=ht;unfold Dc;refine Ai (Ev (name:=Ji "__next__") hit.typeIs Hq (Fy Hq hit.typeIs Np ?_ (Nk _)));show Ar _ _ (field (.ref it) 0 >>= _) _ _ s;refine Ai (Dv e d (x:=.ref t) rfl ?_);show Ar _ _ (if (Bn t == Dd)=true then _ else _) _ _ s;rw[AX (show ¬ ((Bn t == Dd)=true) from Fh)]
 show Ar _ _ (field (.ref it) 1 >>= _) _ _ s;refine Ai (Dv e d (x:=.int i 0) rfl ?_);show Ar _ _ (seqItems? (.ref t) >>= _) _ _ s;refine Ai (He eu du ?_);simp only[Ic,hx];refine Ai (Gk (Ai (wpAny_setField e d (by simp) ?_)))
 show Ar _ _ (newExc (.type "StopIteration") [] >>= _) _ _ _;refine Ai ?_;simp only[newExc,newTuple];refine Ai (Cz ?_ (by size_fits))
 refine Ai (m:=firstArgMember _ _) (Vl (a:=Dd) (by first|rfl|(simp only[firstArgMember];rfl)) (Cz ?_ (by size_fits)))
 simp only[raiseNew];refine Ai (wpAny_handled ?_)
 first|rw[show A.in1.handled=none from hh]|rw[hh]
 exact Ai (Ap (wpAny_throw (hE _ _ (((Sz ..).extBut.push _).push _) ⟨_,Bb _ rfl,rfl⟩)))
theorem bO {it l:Ad}{k:Af}{x:Ac}(hit:zN tp s.heap it l k)(hl:xQ tp s.heap l xs)(hx:xs[k]? = Ab x)
  (hQ:∀ h',zN tp h' it l (k+1)->Hs it s.heap h'->Q x { s with heap:=h' }) : Ar (Au prog w) A (Dc (.ref it)) Q E s:=by
 cases tp with
 |false=>exact wpAny_nextOf_list_item hit hl hx hQ
 |true=>exact W2 hit hl hx hQ
theorem pB {it l:Ad}{k:Af}{Q:Ac->Ag->Prop}(hh:A.handled=none)(hit:zN tp s.heap it l k)(hl:xQ tp s.heap l xs)(hx:xs[k]? = none)
  (hE:∀ h' e,Yx it s.heap h'->(∃ o,h'.get? e=Ab o/\o.cls=.type "StopIteration")->E (.ref e) { s with heap:=h' }) : Ar (Au prog w) A (Dc (.ref it)) Q E s:=by
 cases tp with
 |false=>exact wpAny_nextOf_list_end hh hit hl hx hE
 |true=>exact dG hh hit hl hx hE
structure ZA (z I O i j:Ad):Prop where
 Iz:I≠z
 Oz:O≠z
 iz:i≠z
 jz:j≠z
 IO:I≠O
 Ii:I≠i
 Ij:I≠j
 Oi:O≠i
 Oj:O≠j
 ij:i≠j
structure Off (z O i j a:Ad):Prop where
 z:a≠z
 O:a≠O
 i:a≠i
 j:a≠j
abbrev Z6 (z O i j:Ad)(h h':Bc):Prop:=∀ c o,c≠z->c≠O->c≠i->c≠j->h.get? c=Ab o->h'.get? c=Ab o
theorem YA {tq:Ao}{z I O i j a b:Ad}{k:Af}{x y p q:Ac}(D:ZA z I O i j)(Da:Off z O i j a)(Db:Off z O i j b)
  (hz:Nq s.heap z I O .none) (hI:IE s.heap I (.ref i) (.ref j)) (hO:IE s.heap O p q) (h1:zN tp s.heap i a k) (h2:zN tq s.heap j b k) (ha:xQ tp s.heap a xs) (hb:xQ tq s.heap b ys) (hx:xs[k]? = Ab x) (hy:ys[k]? = Ab y)
  (hQ:∀ h',Nq h' z I O (Gp s.heap.objs.size)->IE h' O x y->zN tp h' i a (k+1)->zN tq h' j b (k+1)->IE h' s.heap.objs.size x y->h'.objs.size=s.heap.objs.size+1->Z6 z O i j s.heap h'->Q (.ref s.heap.objs.size) { s with heap:=h' }) :
  Ar (Au prog w) A (Lx.«zip.__next__» ⟨[.ref z],[]⟩) (λfin s'=>∃ v,fin=.done (.ret v)/\Q v s') E s:=by
 show Ar _ _ (field (.ref z) 2 >>= _) _ _ _;refine Ai (Dv hz rfl (x:=.bool false) rfl ?_);show Ar _ _ (field (.ref z) 3 >>= _) _ _ _;refine Ai (Dv hz rfl (x:=.ref I) rfl (Ai (He hI rfl ?_)));show Ar _ _ (Fj (.ref z) >>= _) _ _ _;refine Ai ?_;unfold Fj;refine Ai (Dv hz rfl (x:=.none) rfl (Ap ?_));simp only[Cq];refine Ai (Gk (Ai (Dv hz rfl (x:=.ref O) rfl (Ai (Hk hz (by simp) λg1 z1 s1=>?_)))))
 replace z1:Nq g1 z I O .ellipsis:=z1
 refine Ai ?_;simp only[OS,We,Ke,Lc];refine Ai (Ai (O8 ?_));show Ar _ _ (Dc (.ref i) >>= _) _ _ _;refine Ai (bO (h1.keep λo e=>s1.extBut _ _ D.iz e) (ha.keep λo e=>s1.extBut _ _ Da.z e) hx λg2 i2 s2=>Ap ?_);have O2:IE g2 O p q:=s2.extBut _ _ D.Oi (s1.extBut _ _ D.Oz hO);refine Ai (He O2 rfl (Ai (Mp O2 λg3 O3 s3=>Ai (Vn (Ap ?_)))))
 replace O3:IE g3 O x q:=O3
 refine Ai (Ai (O8 ?_));show Ar _ _ (Dc (.ref j) >>= _) _ _ _;refine Ai (bO (h2.keep λo e=>s3.extBut _ _ D.Oj.symm (s2.extBut _ _ D.ij.symm (s1.extBut _ _ D.jz e))) (hb.keep λo e=>s3.extBut _ _ Db.O (s2.extBut _ _ Db.i (s1.extBut _ _ Db.z e))) hy λg4 j4 s4=>Ap ?_);have O4:IE g4 O x q:=s4.extBut _ _ D.Oj O3;refine Ai (He O4 rfl (Ai (Mp O4 λg5 O5 s5=>Ai (Vn (Ap (Ap ?_))))))
 replace O5:IE g5 O x y:=O5
 refine Ai (He O5 rfl (Ai (wpAny_newTuple ?_)));have sz:g5.objs.size=s.heap.objs.size:=by rw[s5.1,s4.1,s3.1,s2.1,s1.1]
 have z5:Nq g5 z I O .ellipsis:=s5.extBut _ _ D.Oz.symm (s4.extBut _ _ D.jz.symm (s3.extBut _ _ D.Oz.symm (s2.extBut _ _ D.iz.symm z1)));have k5:Z6 z O i j s.heap g5:=λc o c1 c2 c3 c4 e=>s5.extBut _ _ c2 (s4.extBut _ _ c4 (s3.extBut _ _ c2 (s2.extBut _ _ c3 (s1.extBut _ _ c1 e))));have i5:zN tp g5 i a (k+1):=i2.keep λo e=>s5.extBut _ _ D.Oi.symm (s4.extBut _ _ D.ij (s3.extBut _ _ D.Oi.symm e));have j5:zN tq g5 j b (k+1):=j4.keep λo e=>s5.extBut _ _ D.Oj.symm e;have zl:z<g5.objs.size:=Ay z5;show Ar _ _ (Kg (.ref z) (.ref g5.objs.size) >>= _) _ _ _;refine Ai ?_;unfold Kg;have z6:Nq (g5.push { cls:=.type "tuple",data:=.seq #[x,y] }) z I O .ellipsis:=Ak _ z5;refine Ai (Hk z6 (by simp) λg7 z7 s7=>?_)
 replace z7:Nq g7 z I O (Gp g5.objs.size):=z7
 refine Hk z7 (by simp) λg8 z8 s8=>?_
 replace z8:Nq g8 z I O (Gp g5.objs.size):=z8
 have up:∀ c o,c≠z->g5.get? c=Ab o->g8.get? c=Ab o:=λc o c1 e=>s8.extBut _ _ c1 (s7.extBut _ _ c1 (Ak _ e));have T8:IE g8 g5.objs.size x y:=s8.extBut _ _ (Iw zl) (s7.extBut _ _ (Iw zl) (Bb _ rfl));have sz8:g8.objs.size=g5.objs.size+1:=by rw[s8.1,s7.1,Et]
 rw[sz] at z8 T8 sz8;refine Ap ⟨_,rfl,?_⟩;show Q (.ref g5.objs.size) _;rw[sz];exact hQ g8 z8 (up _ _ D.Oz O5) (i5.keep λo e=>up _ o D.iz e) (j5.keep λo e=>up _ o D.jz e) T8 sz8 λc o c1 c2 c3 c4 e=>up c o c1 (k5 c o c1 c2 c3 c4 e)
end
section
variable {prog:AV}{w:Bk}{A:Bh}{E:Ac->Ag->Prop}{s:Ag}
theorem YC {tq:Ao}{z I O i j a b:Ad}{k:Af}{p q:Ac}{Q:Fin->Ag->Prop}(hh:A.handled=none)(D:ZA z I O i j)(Da:Off z O i j a)(Db:Off z O i j b)
  (hz:Nq s.heap z I O .none) (hI:IE s.heap I (.ref i) (.ref j)) (hO:IE s.heap O p q) (h1:zN tp s.heap i a k) (h2:zN tq s.heap j b k) (ha:xQ tp s.heap a xs) (hb:xQ tq s.heap b ys) (hend:xs[k]? = none\/ys[k]? = none)
  (hE:∀ h' e,Z6 z O i j s.heap h'->(∃ o,h'.get? e=Ab o/\o.cls=.type "StopIteration")->E (.ref e) { s with heap:=h' }) : Ar (Au prog w) A (Lx.«zip.__next__» ⟨[.ref z],[]⟩) Q E s:=by
 show Ar _ _ (field (.ref z) 2 >>= _) _ _ _;refine Ai (Dv hz rfl (x:=.bool false) rfl ?_);show Ar _ _ (field (.ref z) 3 >>= _) _ _ _;refine Ai (Dv hz rfl (x:=.ref I) rfl (Ai (He hI rfl ?_)));show Ar _ _ (Fj (.ref z) >>= _) _ _ _;refine Ai ?_;unfold Fj;refine Ai (Dv hz rfl (x:=.none) rfl (Ap ?_));simp only[Cq];refine Ai (Gk (Ai (Dv hz rfl (x:=.ref O) rfl (Ai (Hk hz (by simp) λg1 z1 s1=>?_)))))
 replace z1:Nq g1 z I O .ellipsis:=z1
 refine Ai ?_;simp only[OS,We,Ke,Lc];refine Ai (Ai (O8 ?_));show Ar _ _ (Dc (.ref i) >>= _) _ _ _;have it1:zN tp g1 i a k:=h1.keep λo e=>s1.extBut _ _ D.iz e;have sq1:xQ tp g1 a xs:=ha.keep λo e=>s1.extBut _ _ Da.z e;cases hx:xs[k]? with
 |none =>
  refine Ai (pB hh it1 sq1 hx λg2 e x2 he=>?_);obtain⟨oe,h3,h4⟩:=he;have z2:Nq g2 z I O .ellipsis:=x2 _ _ D.iz.symm z1;have ne:e≠z:=λy=>by subst y;rw[z2] at h3;cases h3;simp at h4
  exact Hk z2 (by simp) λg3 _ s3=>hE g3 e (λc o c1 _ c3 _ y=>s3.extBut _ _ c1 (x2 _ _ c3 (s1.extBut _ _ c1 y))) ⟨oe,s3.extBut _ _ ne h3,h4⟩
 |some x =>
  have hy:ys[k]? = none:=by
   rcases hend with y|y
   .rw[hx] at y;cases y
   .exact y
  refine Ai (bO it1 sq1 hx λg2 i2 s2=>Ap ?_);have O2:IE g2 O p q:=s2.extBut _ _ D.Oi (s1.extBut _ _ D.Oz hO);refine Ai (He O2 rfl (Ai (Mp O2 λg3 O3 s3=>Ai (Vn (Ap ?_)))));refine Ai (Ai (O8 ?_));show Ar _ _ (Dc (.ref j) >>= _) _ _ _;refine Ai (pB hh (h2.keep λo e=>s3.extBut _ _ D.Oj.symm (s2.extBut _ _ D.ij.symm (s1.extBut _ _ D.jz e))) (hb.keep λo e=>s3.extBut _ _ Db.O (s2.extBut _ _ Db.i (s1.extBut _ _ Db.z e))) hy λg4 e x4 he=>?_);obtain⟨oe,h3,h4⟩:=he;have z4:Nq g4 z I O .ellipsis:=x4 _ _ D.jz.symm (s3.extBut _ _ D.Oz.symm (s2.extBut _ _ D.iz.symm z1));have ne:e≠z:=λy=>by subst y;rw[z4] at h3;cases h3;simp at h4
  exact Hk z4 (by simp) λg5 _ s5=>hE g5 e (λc o c1 c2 c3 c4 y=>s5.extBut _ _ c1 (x4 _ _ c4 (s3.extBut _ _ c2 (s2.extBut _ _ c3 (s1.extBut _ _ c1 y))))) ⟨oe,s5.extBut _ _ ne h3,h4⟩
noncomputable abbrev fM (tp:Ao)(l:Ad):Bq:={ cls:=.type (if tp then "tuple_iterator" else "list_iterator"),data:=.fields #[.ref l,.int 0 0] }
noncomputable abbrev zh1 (tp:Ao)(h:Bc)(a:Ad):Bc:=h.push (fM tp a)
noncomputable abbrev zh2 (tp tq:Ao)(h:Bc)(a b:Ad):Bc:=(zh1 tp h a).push (fM tq b)
noncomputable abbrev zh3 (tp tq:Ao)(h:Bc)(a b:Ad):Bc:=(zh2 tp tq h a b).push { cls:=.type "tuple",data:=.seq #[.ref h.objs.size,.ref (zh1 tp h a).objs.size] }
noncomputable abbrev zh4 (tp tq:Ao)(h:Bc)(a b:Ad):Bc:=(zh3 tp tq h a b).push { cls:=.type "tuple",data:=.seq #[.none,.none] }
noncomputable abbrev zh5 (tp tq:Ao)(h:Bc)(a b:Ad):Bc:=(zh4 tp tq h a b).push { cls:=.type "zip",data:=.fields #[.none,.bool false,.bool false,.ref (zh2 tp tq h a b).objs.size,.ref (zh3 tp tq h a b).objs.size] }
set_option maxHeartbeats 4000000 in
theorem P7 (tp:Ao)(a b:Ad)(xs ys:AZ Ac) :
  Meets (Lx.«zip.__new__» ⟨[.type "zip",.ref a,.ref b],[]⟩) (λ_ R s=>xQ tp s.heap a xs/\xQ tp s.heap b ys/\R (.ok (.ret (.ref (zh4 tp tp s.heap a b).objs.size))) { s with heap:=zh5 tp tp s.heap a b }):=
 .of_wp λprog w A R s h=>by
  obtain⟨hp,g,d,tk,os⟩:=s;obtain⟨q1,q2,h⟩:=h;have hsub:=sub_zip;have e2:∀ ob:Bq,xQ tp (hp.push ob) b ys:=λob=>q2.keep λo e=>Ak _ e;cases tp
  .have l1:Yy (Qr ⟨hp,g,d,tk,os⟩) a xs:=q1
   have l2:Yy (Qr ⟨hp.push { cls:=.type "list_iterator",data:=.fields #[.ref a,.int 0 0] },g,d,tk,os⟩) b ys:=e2 _
   wp_walk using Gr l1,Gr l2
   exact⟨_,rfl,h⟩
  .have l1:Yl (Qr ⟨hp,g,d,tk,os⟩) a xs:=q1
   have l2:Yl (Qr ⟨hp.push { cls:=.type "tuple_iterator",data:=.fields #[.ref a,.int 0 0] },g,d,tk,os⟩) b ys:=e2 _
   wp_walk using Hj l1,Hj l2
   exact⟨_,rfl,h⟩
theorem fN {h:Bc}{it l:Ad}(e:h.get? it=Ab (fM tp l)):zN tp h it l 0:=by
 cases tp
 .exact⟨_,e,rfl,rfl⟩
 .exact⟨_,e,rfl,rfl⟩
theorem ZE {a b:Ad}(ha:xQ tp s.heap a xs)(hb:xQ tp s.heap b ys)
  (h:∀ h',Nq h' (s.heap.objs.size+4) (s.heap.objs.size+2) (s.heap.objs.size+3) .none->IE h' (s.heap.objs.size+2) (.ref s.heap.objs.size) (.ref (s.heap.objs.size+1)) ->
   IE h' (s.heap.objs.size+3) .none .none->zN tp h' s.heap.objs.size a 0->zN tp h' (s.heap.objs.size+1) b 0->h'.objs.size=s.heap.objs.size+5->(∀ c o,s.heap.get? c=Ab o->h'.get? c=Ab o)->Q (.ref (s.heap.objs.size+4)) { s with heap:=h' }) :
  Ar (Au prog w) A (call (.type "zip") [.ref a,.ref b]) Q E s:=by
 refine callType_new F.called_zip (by decide) (F.typeCall_zip_2 _ _) (F.newCall_zip_2 _ _) (λobj=>F.args_object_init_3 obj _ _) F.entry_zip_new (P7 tp a b xs ys) ⟨ha,hb,?_⟩
 have y1:(zh1 tp s.heap a).objs.size=s.heap.objs.size+1:=Et ..;have y2:(zh2 tp tp s.heap a b).objs.size=s.heap.objs.size+2:=by rw[Et,y1]
 have y3:(zh3 tp tp s.heap a b).objs.size=s.heap.objs.size+3:=by rw[Et,y2]
 have y4:(zh4 tp tp s.heap a b).objs.size=s.heap.objs.size+4:=by rw[Et,y3]
 have y5:(zh5 tp tp s.heap a b).objs.size=s.heap.objs.size+5:=by rw[Et,y4]
 have g5:(zh5 tp tp s.heap a b).get? (zh4 tp tp s.heap a b).objs.size=Ab _:=Bb _ rfl;have g4:(zh5 tp tp s.heap a b).get? (zh3 tp tp s.heap a b).objs.size=Ab _:=Ak _ (Bb _ rfl);have g3:(zh5 tp tp s.heap a b).get? (zh2 tp tp s.heap a b).objs.size=Ab _:=Ak _ (Ak _ (Bb _ rfl));have g2:(zh5 tp tp s.heap a b).get? (zh1 tp s.heap a).objs.size=Ab (fM tp b):=Ak _ (Ak _ (Ak _ (Bb _ rfl)));have g1:(zh5 tp tp s.heap a b).get? s.heap.objs.size=Ab (fM tp a):=Ak _ (Ak _ (Ak _ (Ak _ (Bb _ rfl))));have kp:∀ c o,s.heap.get? c=Ab o->(zh5 tp tp s.heap a b).get? c=Ab o:=λc o e=>Ak _ (Ak _ (Ak _ (Ak _ (Ak _ e))));show _/\_;rw[y2,y3,y4] at g5;rw[y1,y2] at g3;rw[y3] at g4;rw[y1] at g2;rw[y4];exact⟨⟨_,g5,rfl⟩,h _ g5 g3 g4 (fN g1) (fN g2) y5 kp⟩
end
def Sq (tp:Ao)(K:Ah)(H:Hp)(a:Ad)(xs:Aa V):Prop:=if tp then SqT K H a xs else SqL K H a xs
section
variable {X:Cx}{pins:Aa (Ad × Bq)}{σ : _L.St}{H:Hp}{s:Ag}
theorem Sq.at {a:Ad}{xs:Aa V}(I:Inv X pins σ H s)(q:Sq tp X.K H a xs):∃ its,qN xs its/\xQ tp s.heap a its.toArray:=by
 cases tp with
 |true =>
  obtain⟨its,rv,p,_⟩:=I.tuple q;exact⟨its,rv,p⟩
 |false =>
  obtain⟨its,rv,p,_⟩:=I.list q;exact⟨its,rv,p.isList⟩
theorem Sq.inj {a:Ad}{xs ys:Aa V}(I:Inv X pins σ H s)(q:Sq tp X.K H a xs)(q':Sq tp X.K H a ys):xs=ys:=by
 cases tp with
 |true=>exact I.tuple_inj q q'
 |false=>exact I.list_inj q q'
theorem Sq.off {a b:Ad}{xs:Aa V}(I:Inv X pins σ H s)(q:Sq tp X.K H a xs)(f:zX X pins H b):a≠b:=by
 have key:H a≠none\/∃ o,X.K.lookup a=Ab o:=by
  cases tp with
  |true =>
   rcases q with (q|⟨o,q⟩)|⟨o,_,_,q,_⟩
   .exact .inl (by rw[q];intro z;cases z)
   .exact .inl (by rw[q];intro z;cases z)
   .exact .inr ⟨_,q⟩
  |false =>
   rcases q with (q|⟨o,q⟩)|⟨o,_,_,q,_⟩
   .exact .inl (by rw[q];intro z;cases z)
   .exact .inl (by rw[q];intro z;cases z)
   .exact .inr ⟨_,q⟩
 rintro rfl;rcases key with k|⟨o,k⟩
 .exact k f.1
 .have e:=I.mod.kin a o k
  rcases f.2.2.2.1 with z|z
  .exact I.ok.noex a o e z
  .exact absurd (Ay (I.ok.bs a o e).1) (Ss.mpr z)
theorem Inv.turnLay {fp:Aa Ad}{T:Ad}{xs:Aa V}{its:Aa Ac}(I:Inv X pins σ H s)(hf:∀ b∈fp,zX X pins H b)(k:∀ b o,b ∉ fp->s.heap.get? b=Ab o->h'.get? b=Ab o)(th:∀ b∈fp,∃ o,h'.get? b=Ab o)
  (hT:s.heap.objs.size<=T) (rv:qN xs its) (hx:Qj h' T its.toArray) (hz:xs.length<=sizeLine):Inv X pins σ (upd H T (.tup xs)) { s with heap:=h' }:=by
 have hn:H T=none:=I.hok.fresh hT;have ne:∀ b o,s.heap.get? b=Ab o->b≠T:=λb o e=>Bs (Aw (Ay e) hT);refine I.step (g':=s.gens) (d':=s.drawn) (t':=s.toks) (ch:=fp) (λb hb=>⟨(hf b hb).2.2.2.1,(hf b hb).2.1,(hf b hb).2.2.2.2.1,(hf b hb).2.2.2.2.2⟩) (λb o _ _ hc e _=>k b o hc e) (λb o _ _ hc e _=>⟨o.slots,k b o hc e⟩)
  (λb o _ e n=>by rw[qH (ne b o e)];exact n) (λb o hc e=>⟨o,k b o hc e⟩) (λb ys e=>by rw[qH (qS e hn)];exact e) (λb o u e=>by rw[qH (qS e hn)];exact e)
  (λb ps e=>⟨#[],by rw[qH (qS e hn),e];simp⟩) (λm hm=>?_) (λb u e=>?_) I.bare
 .obtain⟨o,es,ep,ho,r⟩:=hm
  exact⟨o,es,ep,k _ o (λz=>(hf _ z).2.1 rfl) ho,r⟩
 .by_cases hb:b=T
  .subst hb
   rw[qX] at e;cases e;exact⟨hz,its,rv,hx⟩
  .rw[qH hb] at e
   refine(I.hok b u e).stay (λc v hc q=>k c v (λz=>?_) q) (λc q=>by rw[qH (qS q hn)];exact q) λc ys q=>by rw[qH (qS q hn)];exact q
   have hcn:=(hf c z).1;rcases hc with rfl|hc
   .rw[hcn] at e;cases e
   .rw[hcn] at hc;cases hc
theorem Inv.turnL {fp:Aa Ad}(I:Inv X pins σ H s)(hf:∀ b∈fp,zX X pins H b)(k:∀ b o,b ∉ fp->s.heap.get? b=Ab o->h'.get? b=Ab o):Inv X pins σ H { s with heap:=h' }:=by
 refine I.step (g':=s.gens) (d':=s.drawn) (t':=s.toks) (ch:=fp) (λb hb=>⟨(hf b hb).2.2.2.1,(hf b hb).2.1,(hf b hb).2.2.2.2.1,(hf b hb).2.2.2.2.2⟩) (λb o _ _ hc e _=>k b o hc e) (λb o _ _ hc e _=>⟨o.slots,k b o hc e⟩)
  (λb o _ e n=>n) (λb o hc e=>⟨o,k b o hc e⟩) (λb ys e=>e) (λb o u e=>e) (λb ps e=>⟨#[],by rw[e];simp⟩) (λm hm=>?_) (λb u e=>?_) I.bare
 .obtain⟨o,es,ep,ho,r⟩:=hm
  exact⟨o,es,ep,k _ o (λz=>(hf _ z).2.1 rfl) ho,r⟩
 .refine(I.hok b u e).stay (λc v hc q=>k c v (λz=>?_) q) (λc q=>q) λc ys q=>q
  have hcn:=(hf c z).1;rcases hc with rfl|hc
  .rw[hcn] at e;cases e
  .rw[hcn] at hc;cases hc
end
noncomputable def Itz (tp:Ao)(K:Ah)(a b:Ad):It:=
  ⟨λi H=>∃ xs ys x y,Sq tp K H a xs/\Sq tp K H b ys/\xs[i]? = Ab x/\ys[i]? = Ab y,
   λi H v H'=>∃ T x y,v=.ref T/\H T=none/\H'=upd H T (.tup [x,y])/\(∀ xs,Sq tp K H a xs->xs[i]? = Ab x)/\∀ ys,Sq tp K H b ys->ys[i]? = Ab y,
   λi H=>∃ xs ys,Sq tp K H a xs/\Sq tp K H b ys/\(xs.length<=i\/ys.length<=i)⟩
def cL (tp:Ao)(z I O i j a b:Ad)(k:Af)(h:Bc):Prop:=∃ p q,Nq h z I O .none/\IE h I (.ref i) (.ref j)/\IE h O p q/\zN tp h i a k/\zN tp h j b k
theorem pJ {z I O i j a b:Ad}{k:Af}{h:Bc}(st:cL tp z I O i j a b k h):∀ c∈[z,I,O,i,j],∃ o,h.get? c=Ab o/\∀ v,o.data≠.cell v:=λc hc=>by
 obtain⟨p,q,s1,s2,s3,s4,s5⟩:=st;simp only[Bg,Ed,IM] at hc;rcases hc with rfl|rfl|rfl|rfl|rfl
 .exact⟨_,s1,λv y=>by cases y⟩
 .exact⟨_,s2,λv y=>by cases y⟩
 .exact⟨_,s3,λv y=>by cases y⟩
 .exact s4.there
 .exact s5.there
theorem YV {c z I O i j:Ad}(h:c ∉ [z,I,O,i,j]):c≠z/\c≠O/\c≠i/\c≠j:=by
 simp only[Bg,Ed,IM,Xk] at h;exact⟨h.1,h.2.2.1,h.2.2.2.1,h.2.2.2.2⟩
theorem Y6 {P:AV}{w:Bk}{K:Ah}{elts:Aa Bd}{x1:Af}{tpos:Do}{z I O i j a b:Ad}(D:ZA z I O i j):Turn P w K (.Tuple elts x1 tpos) (Itz tp K a b) [z,I,O,i,j] z (cL tp z I O i j a b) where
 mem:=.head _
 obj:=λk h st=>pJ st
 keep:=λk h h' st kp=>by
  obtain⟨p,q,s1,s2,s3,s4,s5⟩:=st;exact⟨p,q,kp z (.head _) _ s1,kp I (.tail _ (.head _)) _ s2,kp O (.tail _ (.tail _ (.head _))) _ s3,s4.keep λo e=>kp i (.tail _ (.tail _ (.tail _ (.head _)))) o e,s5.keep λo e=>kp j (.tail _ (.tail _ (.tail _ (.tail _ (.head _))))) o e⟩
 item:=by
  intro X hP hw hK hc k pins s σ H E Iv hf st hg;subst hP hw hK;obtain⟨p,q,s1,s2,s3,s4,s5⟩:=st;obtain⟨xs,ys,x,y,qa,qb,hx,hy⟩:=hg;obtain⟨ia,ra,ha⟩:=qa.at Iv;obtain⟨ib,rb,hb⟩:=qb.at Iv;obtain⟨u,hu,ru⟩:=ra.get hx;obtain⟨u',hu',ru'⟩:=rb.get hy;have off:∀ {c:Ad} {zs:Aa V},Sq tp X.K H c zs->Off z O i j c:=λ{c zs} qc=>⟨qc.off Iv (hf z (.head _)),qc.off Iv (hf O (.tail _ (.tail _ (.head _)))),qc.off Iv (hf i (.tail _ (.tail _ (.tail _ (.head _))))),qc.off Iv (hf j (.tail _ (.tail _ (.tail _ (.tail _ (.head _))))))⟩;have hT:s.TypeIs (.ref z) "zip":=⟨_,s1,rfl⟩;unfold Tf;refine Ai (Ly (Ev (name:=Ji "__next__") hT My (Fy My hT Vo
   (YA D (off qa) (off qb) s1 s2 s3 s4 s5 ha hb (by simpa using hu) (by simpa using hu') λh' a1 a2 a3 a4 a5 a6 a7=>Ap ?_) (Us _))))
  refine⟨_,rfl,wpAny_letOwnedTupleGo_zip (s:={ s with heap:=h' }) a1 λh2 b1 b2=>?_⟩
  have up:∀ c o,c≠z->h'.get? c=Ab o->h2.get? c=Ab o:=λc o n e=>(b2.2 c n).trans e;have zl:z<s.heap.objs.size:=Ay s1;have T2:IE h2 s.heap.objs.size u u':=up _ _ (Iw zl) a5;have st2:cL tp z I O i j a b (k+1) h2:=⟨u,u',b1,up _ _ D.Iz (a7 I _ D.Iz D.IO D.Ii D.Ij s2),up _ _ D.Oz a2,a3.keep λo e=>up _ o D.iz e,a4.keep λo e=>up _ o D.jz e⟩;refine⟨.ref s.heap.objs.size,upd H s.heap.objs.size (.tup [x,y]),?_,rfl,⟨_,x,y,rfl,Iv.hok.fresh (Aq _),rfl,λzs qz=>by rw[qz.inj Iv qa];exact hx,λzs qz=>by rw[qz.inj Iv qb];exact hy⟩,st2,λc hc=>?_⟩
  .show _L.Inv X pins σ (upd H s.heap.objs.size (.tup [x,y])) { s with heap:=h2 }
   refine Inv.turnLay (fp:=[z,I,O,i,j]) (its:=[u,u']) Iv hf (λc o hc e=>?_) (λc hc=>?_) (Aq _) (.cons ru (.cons ru' .nil)) ⟨_,T2,rfl,_,rfl⟩ (by show 2<=sizeLine;decide)
   .have hc:=YV hc
    exact up c o hc.1 (a7 c o hc.1 hc.2.1 hc.2.2.1 hc.2.2.2 e)
   .obtain⟨o,e,_⟩:=pJ st2 c hc
    exact⟨o,e⟩
  .have hn:=(hf c hc).1
   rw[qH ?_]
   .exact hn
   .rintro rfl
    obtain⟨o,e,_⟩:=pJ ⟨p,q,s1,s2,s3,s4,s5⟩ _ hc;exact absurd (Ay e) (Dr _)
 done:=by
  intro X hP hw hK hc k pins s σ H E Iv hf st hg;subst hP hw hK;obtain⟨p,q,s1,s2,s3,s4,s5⟩:=st;obtain⟨xs,ys,qa,qb,hend⟩:=hg;obtain⟨ia,ra,ha⟩:=qa.at Iv;obtain⟨ib,rb,hb⟩:=qb.at Iv;have off:∀ {c:Ad} {zs:Aa V},Sq tp X.K H c zs->Off z O i j c:=λ{c zs} qc=>⟨qc.off Iv (hf z (.head _)),qc.off Iv (hf O (.tail _ (.tail _ (.head _)))),qc.off Iv (hf i (.tail _ (.tail _ (.tail _ (.head _))))),qc.off Iv (hf j (.tail _ (.tail _ (.tail _ (.tail _ (.head _))))))⟩;have hT:s.TypeIs (.ref z) "zip":=⟨_,s1,rfl⟩;have l1:=ra.length;have l2:=rb.length;unfold Tf;refine Ai (Ly (Ev (name:=Ji "__next__") hT My (Fy My hT Vo
   (YC (Iv.ok.hd hc) D (off qa) (off qb) s1 s2 s3 s4 s5 ha hb ?_ λh' e kp he=>?_) (Us _))))
  .rcases hend with y|y
   .exact .inl (by simp;lia)
   .exact .inr (by simp;lia)
  .obtain⟨o,ho,hcl⟩:=he
   refine Ai (wpAny_isInstance (T:="StopIteration") (b:=true) ⟨o,ho,hcl⟩ isSubtype_stop (Ap ⟨rfl,Inv.turnL (fp:=[z,I,O,i,j]) Iv hf λc o hc e=>?_⟩));have hc:=YV hc;exact kp c o hc.1 hc.2.1 hc.2.2.1 hc.2.2.2 e
 self:=λ_ _ _ _ _ st h=>by
  obtain⟨p,q,s1,_⟩:=st;exact Vp s1 h
noncomputable def v7 (xs ys:Aa D):Aa D:=Ym (λx y=>D.tup [x,y]) xs ys
noncomputable def LR (ds:Aa D):Al (Aa D):=match ds with
 |[.tup xs,.tup ys]=>Ab (v7 xs ys)
 |[.lst xs,.lst ys]=>Ab (v7 xs ys)
 |_=>none
noncomputable def mQ (f:DA):DI:=λenv S=>(f env S).bind λds S1=>vW (LR ds) S1
theorem Y9 {xs ys:Aa D}{i:Af}:(v7 xs ys)[i]? = match xs[i]?,ys[i]? with|some x,Ab y=>Ab (D.tup [x,y])|_,_=>none:=by
 unfold v7;rw[List.getElem?_zipWith];cases xs[i]? <;> cases ys[i]? <;> rfl
theorem bY (xs ys:Aa D):(v7 xs ys).length=min xs.length ys.length:=by simp[v7]
section
variable {K:Ah}
theorem Sq.mono {P P':Hp}(e:qF P P'){a:Ad}{xs:Aa V}(q:Sq tp K P a xs):Sq tp K P' a xs:=by
 cases tp with
 |true=>exact yC e q
 |false=>exact e.seq q
theorem JH {P:Hp}{a b:Ad}{xs ys:Aa D}{ws:Aa V}(qa:Sq tp K P a vs)(qb:Sq tp K P b ws)(ta:qE K P α xs vs)(tb:qE K P α ys ws):ItD K (Itz tp K a b) P α (v7 xs ys) where
 go:=λi H P1 α1 S hi r e _=>by
  rw[bY] at hi;have h1:i<vs.length:=by rw[<- ta.length];lia
  have h2:i<ws.length:=by rw[<- tb.length];lia
  exact⟨vs,ws,vs[i],ws[i],qa.mono (e.trans r.sub),qb.mono (e.trans r.sub),by simp,by simp⟩
 yld:=λi H x H' P1 α1 S hi r e e2 y=>by
  obtain⟨T,u,w,rfl,hT,rfl,hu,hw⟩:=y;rw[bY] at hi;have h1:i<xs.length:=by lia
  have h2:i<ys.length:=by lia
  obtain⟨v1,z1,p1⟩:=ta.get (AW h1);obtain⟨v2,z2,p2⟩:=tb.get (AW h2);have eu:=hu vs (qa.mono (e.trans r.sub));have ew:=hw ws (qb.mono (e.trans r.sub));rw[z1] at eu;cases eu;rw[z2] at ew;cases ew;obtain⟨r1,s1⟩:=r.pure (o:=.tup [u,w]) hT;refine⟨_,.tup [xs[i],ys[i]],?_,r1,s1,?_⟩
  .rw[Y9,AW h1,AW h2]
  .exact eX (.of qX) (.cons (Rep.mono (e.trans s1) e2 _ _ p1) (.cons (Rep.mono (e.trans s1) e2 _ _ p2) .nil))
 stop:=λi H P1 α1 S hi r e _=>by
  rw[bY] at hi;have l1:=ta.length;have l2:=tb.length;exact⟨vs,ws,qa.mono (e.trans r.sub),qb.mono (e.trans r.sub),by lia⟩
end
section
variable {X:Cx}{e1 e2:Bd}{elts:Aa Bd}{x1:Af}{tpos:Do}{f:DA}{p pos:Do}
theorem Z4 {pins:Aa (Ad × Bq)}{σ:_L.St}{H P:Hp}{s:Ag}{a b:Ad}{xs ys:Aa D}{ws:Aa V}{R:It->Hp->Prop}(I:Inv X pins σ H s)(r:Rel X.K H P α S)(qa:Sq tp X.K P a vs)(qb:Sq tp X.K P b ws)(ta:qE X.K P α xs vs)(tb:qE X.K P α ys ws)
  (q:OkI X P α R (v7 xs ys) S):Ar (Au X.prog X.w) X.A (call (.type "zip") [.ref a,.ref b]) (λv s1=>Ar (Au X.prog X.w) X.A (OL v) (PIE X pins σ (.Tuple elts x1 tpos) R) X.xe s1) X.xe s:=by
 obtain⟨ia,ra,ha⟩:=(qa.mono r.sub).at I;obtain⟨ib,rb,hb⟩:=(qb.mono r.sub).at I;refine ZE ha hb λh' z1 z2 z3 z4 z5 z6 z7=>?_;refine Vp (s:={ s with heap:=h' }) z1 ?_
 have D:ZA (s.heap.objs.size+4) (s.heap.objs.size+2) (s.heap.objs.size+3) s.heap.objs.size (s.heap.objs.size+1):=by constructor <;> (intro z;simp at z)
 refine⟨_,[s.heap.objs.size+4,s.heap.objs.size+2,s.heap.objs.size+3,s.heap.objs.size,s.heap.objs.size+1],_,_,H,rfl,I.kept (t':=s.toks) z7,Y6 (a:=a) (b:=b) D,⟨_,_,z1,z2,z3,z4,z5⟩,λc hc=>?_,q _ _ P α r (qF.refl _) (AU _) (JH qa qb ta tb)⟩;have hl:s.heap.objs.size<=c:=by
  simp only[Bg,Ed,IM] at hc;rcases hc with rfl|rfl|rfl|rfl|rfl <;> simp
 exact I.fpOk hl (I.hok.fresh hl)
inductive ZipV (ds:Aa D)(its:Aa D):Prop
 |tup (xs ys:Aa D) (ed:ds=[.tup xs,.tup ys]) (e:its=v7 xs ys)
 |lst (xs ys:Aa D) (ed:ds=[.lst xs,.lst ys]) (e:its=v7 xs ys)
theorem GZ {its:Aa D}(h:LR ds=Ab its):ZipV ds its:=by
 cases ds with
 |nil=>exact nn h
 |cons a ds =>
  cases a with
  |tup xs =>
   cases ds with
   |nil=>exact nn h
   |cons b ds =>
    cases b with
    |tup ys =>
     cases ds with
     |nil=>exact .tup xs ys rfl (Bx h).symm
     |cons _ _=>exact nn h
    |_=>exact nn h
  |lst xs =>
   cases ds with
   |nil=>exact nn h
   |cons b ds =>
    cases b with
    |lst ys =>
     cases ds with
     |nil=>exact .lst xs ys rfl (Bx h).symm
     |cons _ _=>exact nn h
    |_=>exact nn h
  |_=>exact nn h
theorem BO (hg:Gl X "zip")(hm:X.mg "zip" = none)(ha:PA X [e1,e2] (tDA X f))(hs:Az [e1,e2] X.env=(false,eval e1 X.env)::Az [e2] X.env:=by rfl)(hpl:(Eo pos (Az [e2] X.env)).any (·.1)=false:=by rfl) :
  PI X (.Tuple elts x1 tpos) (.Call (.Name "zip" p) [e1,e2] [] pos) (tDI X (mQ f)):=by
 intro pins s σ H R I h;obtain⟨P,α,env,S,r,re,af⟩:=h;refine Xr (wX I hg hm boot_zip (DL (thn (w5 ha I r re af pos) λus s1 ⟨vs,H1,P1,α1,ds,S1,I1,rv,r1,re1,rp,e1,e2,af1⟩=>?_) hs hpl));obtain⟨its,hi,q⟩:=uD af1;cases GZ hi with
 |tup xs ys ed e =>
  subst ed e;obtain⟨v,w,u,x,rfl,rfl,p1,p2,q1,q2⟩:=u9 rp rv;simp only[Rep] at p1 p2;obtain⟨a,va,rfl,qa,ta⟩:=p1;obtain⟨b,vb,rfl,qb,tb⟩:=p2;cases (show u=Bn a from q1)
  cases (show x=Bn b from q2)
  exact Z4 (tp:=true) I1 r1 qa qb ta tb (q.base e1 e2)
 |lst xs ys ed e =>
  subst ed e;obtain⟨v,w,u,x,rfl,rfl,p1,p2,q1,q2⟩:=u9 rp rv;simp only[Rep] at p1 p2;obtain⟨a,va,rfl,qa,ta⟩:=p1;obtain⟨b,vb,rfl,qb,tb⟩:=p2;cases (show u=Bn a from q1)
  cases (show x=Bn b from q2)
  exact Z4 (tp:=false) I1 r1 qa.l qb.l ta tb (q.base e1 e2)
end
def Src (K:Ah)(mg:An->Al Ac)(x:An)(st:Ds)(ps:Aa An):Prop:=∃ f fd,mg x=Ab (.ref f)/\Fun K x x st f fd/\vI K fd ps []
def Lk (K:Ah)(f:Ad)(fd:Ej):Prop:=∃ oc od osl,K.lookup f=Ab ⟨oc,od,.func fd,osl⟩
theorem pS {K:Ah}{x q:An}{st:Ds}{f:Ad}{fd:Ej}(F:Fun K x q st f fd):Lk K f fd:=by
 obtain⟨oc,od,kV,doc,pm,an,cdv,ct,osl,_,lk,_⟩:=F.ex;exact⟨oc,od,osl,lk⟩
theorem Lk.one {K:Ah}{f:Ad}{fd fd':Ej}(h:Lk K f fd)(h':Lk K f fd'):fd=fd':=by
 obtain⟨oc,od,osl,e⟩:=h;obtain⟨oc',od',osl',e'⟩:=h';rw[e] at e';cases e';rfl
noncomputable def Def (P:AV)(w:Bk)(K:Ah)(mg:An->Al Ac)(base:Bc)(cm:Ao)(k:Af)(x:An)(n:Af)(F:DF):Prop:=
 ∃ f fd ps,ps.length=n/\mg x=Ab (.ref f)/\Dz K (.ref f)=true/\vI K fd ps [] /\ Lk K f fd/\FnX P w K mg base cm k f fd ps (spD K n F)
def lA (P:AV)(w:Bk)(K:Ah)(mg:An->Al Ac)(base:Bc)(cm:Ao)(k:Af)(x:An)(ps:Aa An)(F:DF):Prop:=
 ∃ f fd,mg x=Ab (.ref f)/\Dz K (.ref f)=true/\vI K fd ps [] /\ Lk K f fd/\FnX P w K mg base cm k f fd ps (spD K ps.length F)
section
variable {P:AV}{w:Bk}{K:Ah}{mg:An->Al Ac}{base:Bc}{cm:Ao}
theorem YJ {x:An}{f:Ad}{fd:Ej}{cdv:Ac}(hm:mg x=Ab (.ref f))(lk:Lk K f fd)(h:fd.code=cdv/\Mod K mg base):kO K x cdv:=λc T e=>by
 obtain⟨oc,od,osl,lk⟩:=lk;rw[<- h.1];exact PySem.W.law_code h.2.kin h.2.glob e hm (h.2.kin _ _ lk) rfl
theorem BK {x:An}{st:Ds}{ps:Aa An}{k:Af}{g:DS}(h:Src K mg x st ps)(S:FnScope N ps (qG st))
  (hbody:∀ (f:Ad) (cdv:Ac) (A:Bh) (outer:Aa Gv) (s:Ag) (H:Hp) (E:XK),kO K x cdv->RoomC cm k (A.deeper (EQ x (qG st) s.heap.objs.size f cdv)) ->
   PSs (cxC cm P w K mg base N x (qG st) f cdv A outer s H E) (zI st) (tDS (cxC cm P w K mg base N x (qG st) f cdv A outer s H E) g)):Def P w K mg base cm (k+1) x ps.length (qP N.length g):=by
 obtain⟨f,fd,hm,F,hb⟩:=h;exact⟨f,fd,ps,rfl,hm,F.kp,hb,pS F,fnX F S λcdv A outer s H E hc hr=>hbody f cdv A outer s H E (YJ hm (pS F) hc) hr⟩
theorem U9 {x:An}{st:Ds}{ps:Aa An}{k:Af}{g:DS}(h:Src K mg x st ps)(S:FnScope N ps (qG st))
  (hbody:∀ (f:Ad) (cdv:Ac) (A:Bh) (outer:Aa Gv) (s:Ag) (H:Hp) (E:XK),kO K x cdv->RoomC cm k (A.deeper (EQ x (qG st) s.heap.objs.size f cdv)) ->
   PSs (cxC cm P w K mg base N x (qG st) f cdv A outer s H E) (zI st) (tDS (cxC cm P w K mg base N x (qG st) f cdv A outer s H E) g)):lA P w K mg base cm (k+1) x ps (qP N.length g):=by
 obtain⟨f,fd,hm,F,hb⟩:=h;exact⟨f,fd,hm,F.kp,hb,pS F,fnX F S λcdv A outer s H E hc hr=>hbody f cdv A outer s H E (YJ hm (pS F) hc) hr⟩
theorem Def.mono {x:An}{j k n:Af}{F:DF}(h:Def P w K mg base cm j x n F)(hk:j<=k:=by decide):Def P w K mg base cm k x n F:=by
 obtain⟨f,fd,ps,hn,hm,kp,hb,hl,X⟩:=h;exact⟨f,fd,ps,hn,hm,kp,hb,hl,X.len,λA outer s H args us vs Q E hr=>X.run A outer s H args us vs Q E (hr.mono hk)⟩
theorem Def.any {x:An}{k n:Af}{F:DF}(h:Def P w K mg base false k x n F):Def P w K mg base cm k x n F:=by
 obtain⟨f,fd,ps,hn,hm,kp,hb,hl,X⟩:=h;exact⟨f,fd,ps,hn,hm,kp,hb,hl,X.any⟩
end
section
variable {X:Cx}{cm:Ao}{k n:Af}{F:DF}{x:An}{p pos:Do}{e:Bd}{es:Aa Bd}{fa:DA}
theorem dcN (G:Def X.prog X.w X.K X.mg X.base cm k x n F)(hr:RoomC cm k X.A)(hF:Fn1 X)(hg:Gl X x)(ha:PA X (e::es) (tDA X fa))(hdb:(x == ("__debug__" : An))=false:=by decide)(he:Az (e::es) X.env=(false,eval e X.env)::Az es X.env:=by rfl)(hpl:(Eo pos (Az es X.env)).any (·.1)=false:=by rfl) :
  PE X (.Call (.Name x p) (e::es) [] pos) (tD X (qI n F fa)):=by
 obtain⟨f,fd,ps,hn,hm,kp,hb,hl,G⟩:=G;exact U1 G hr hF hg hm kp hb ha hdb he hpl
theorem B9 (hg:Gl X x)(hm:X.mg x=Ab (.ref C))(hk:Dz X.K (.ref C)=true)(hd:(x == ("__debug__" : An))=false:=by decide):PE X (.Name x pos) (tD X (dC (.obj C))):=
 rT hg hm (v:=.ref C) rfl (λP α => by simp only[Rep];exact⟨trivial,hk⟩) hd
end
noncomputable def vK:DF:=λds S=>match ds with
 |[.dct0]=>.bad
 |_=>lT ds S
theorem VP {X:Cx}:xJ X (.builtin "len") vK:=PQ trivial
noncomputable def gX:DE:=λ_ _=>.bad
theorem B7 {X:Cx}{e:Bd}:PE X e (tD X gX):=λ_ _ _ _ _ _ ⟨_,_,_,_,_,_,h⟩=>Am h
theorem YH:∃ C:Aj->Aj->Ao,C=bE:=⟨_,rfl⟩
def YG:Aj->Aj->Ao:=Jq YH
theorem kQ:YG=bE:=Ho YH
def zD:G2:=i2 YG λi j=>.int (i*j)
theorem K4 {X:Cx}:OpD X (De .Mult) zD:=by
 unfold zD;rw[kQ];exact K2
theorem hu1 {cm:Ao}{k:Af}{A:Bh}(hr:RoomC cm k A):A.units+1<Hz:=by have:=hr.units;lia
theorem Z8:El "tuple" = Ab (.type "tuple"):=by decide +kernel
section
variable {X:Cx}
theorem JA:IpD X .Mult zD:=by
 intro pins s σ H x y v u Q I rx ry h;obtain⟨P,α,S,a,b,r,pa,pb,af⟩:=h;unfold zD at af;obtain⟨i,j,rfl,rfl,hc,ok⟩:=fJ af;rw[kQ] at hc;unfold bE at hc;rw[Gs] at hc;cases zF pa;cases zF pb;obtain⟨t,rfl⟩:=rx;obtain⟨t',rfl⟩:=ry;have hm:cE i j:=by
  rcases hc with hc|hc
  .exact .inl (Bi hc)
  .exact .inr (Bi hc)
 exact imul_int ⟨.int _,H,I.tok _,⟨_,rfl⟩,xr ok r (by simp only[Rep])⟩ hm.ok
theorem J9:IpD X .FloorDiv wV:=by
 intro pins s σ H x y v u Q I rx ry h;obtain⟨P,α,S,a,b,r,pa,pb,af⟩:=h;obtain⟨i,j,rfl,rfl,hc,ok⟩:=fJ af;have h1:0<j/\j<1073741824:=Bi hc;cases zF pa;cases zF pb;obtain⟨t,rfl⟩:=rx;obtain⟨t',rfl⟩:=ry;refine ifloordiv_int om ?_ (.inl (Li om));rw[Jo i om];exact⟨.int _,H,I.tok _,⟨_,rfl⟩,xr ok r (by simp only[Rep])⟩
end
noncomputable def okO (F:DF):DF:=λds S=>match F ds S with
 |.ok d S'=>.ok d S'
 |_=>.bad
theorem MV {F:DF}{S':Sto}{d:D}(h:F ds S=.ok d S'):okO F ds S=.ok d S':=by unfold okO;rw[h]
section
variable {X:Cx}{cm:Ao}{k n:Af}{F:DF}{x:An}{p pos:Do}{e:Bd}{es:Aa Bd}{fa:DA}{f:Ad}{fd:Ej}{ps:Aa An}
theorem GG {pins:Aa (Ad × Bq)}{σ:_L.St}{H:Hp}{s:Ag}{Q:VK}{P:Hp}(G:FnX X.prog X.w X.K X.mg X.base cm k f fd ps (spD X.K n F))(hr:RoomC cm k X.A)(hb:vI X.K fd ps [])
  (I:Inv X pins σ H s) (r:Rel X.K H P α S) (rv:qN vs us) (rp:qE X.K P α ds vs) (hn:ds.length=n) (af:qU X P α (okO F ds S) Q):Ar (Au X.prog X.w) X.A (call (.ref f) us) (EP X pins σ Q) X.xe s:=by
 have hvn:vs.length=n:=by rw[<- rp.length];exact hn
 have hsp:spD X.K n F vs H Q λ_ _ _=>Eh:=by
  refine⟨hvn,P,α,ds,S,r,rp,?_⟩;unfold okO at af;cases q:F ds S with
  |ok d S'=>rw[q] at af;exact af
  |ex c x S'=>rw[q] at af;exact Am af
  |bad=>rw[q] at af;exact af
 have hl:us.length=ps.length:=by rw[<- rv.length];exact G.len _ _ _ _ hsp
 have hb':=hb s us I.kIn (by rw[Eu];exact hl)
 rw[Eu] at hb';refine Su (OV (G.run X.A X.stack s H ⟨us,[]⟩ us vs Q _ hr I.env0 hb' rv hsp) λr s' hq=>?_);cases r with
 |error u =>
  obtain⟨_,_,_,_,_,_,_,_,_,_,_,_,z⟩:=hq;exact Am z
 |ok fl =>
  cases fl with
  |ret u=>exact I.after hq
  |next=>exact Am hq
  |brk=>exact Am hq
  |cont=>exact Am hq
theorem dcO (G:Def X.prog X.w X.K X.mg X.base cm k x n F)(hr:RoomC cm k X.A)(hg:Gl X x)(ha:PA X (e::es) (tDA X fa))(hdb:(x == ("__debug__" : An))=false:=by decide)(he:Az (e::es) X.env=(false,eval e X.env)::Az es X.env:=by rfl)(hpl:(Eo pos (Az es X.env)).any (·.1)=false:=by rfl) :
  PE X (.Call (.Name x p) (e::es) [] pos) (tD X (qI n (okO F) fa)):=by
 obtain⟨f,fd,ps,hn0,hm,hk,hb,hl,G⟩:=G;intro pins s σ H Q I h;obtain⟨P,α,env,S,r,re,af⟩:=h;refine Ge (uC I hg hm ?_ hdb);refine NE (h₀:=X.base) I.ok.mod.kin hk (thn (w5 ha I r re af pos) λus s1 ⟨vs,H1,P1,α1,ds,S1,I1,rv,r1,re1,rp,e1,e2,af1⟩=>⟨I1.kIn,?_⟩) he hpl;obtain⟨hn,af2⟩:=tW (env:=env) (S:=S) af1;exact GG G hr hb I1 r1 rv rp hn (qU.base e1 e2 af2)
end
structure QE (X:Cx)(e:Bd)(f:DE):Prop where
 get:PE X e (tD X f)
structure QT (X:Cx)(e:Bd)(t:DT):Prop where
 get:PT X e (tDT X t)
structure QW (X:Cx)(e:Bd)(t:DT):Prop where
 get:PWD X e t
structure QA (X:Cx)(es:Aa Bd)(f:DA):Prop where
 get:PA X es (tDA X f)
structure QO (X:Cx)(e:Al Bd)(f:DO):Prop where
 get:PO X e (tDO X f)
structure QG (X:Cx)(t:Bd)(g:DG):Prop where
 get:PG X t (tDG X g)
structure QGs (X:Cx)(ts:Aa Bd)(g:DGs):Prop where
 get:PGs X ts (sQ X g)
structure QI (X:Cx)(tg it:Bd)(f:DI):Prop where
 get:PI X tg it (tDI X f)
structure QS (X:Cx)(s:Ds)(f:DS):Prop where
 get:PS X s (tDS X f)
structure QB (X:Cx)(ss:Aa Ds)(f:DS):Prop where
 get:PSs X ss (tDS X f)
structure QJ (X:Cx)(es:Aa Bd)(fs:Aa DE):Prop where
 get:PJ X es fs
structure ZOp (X:Cx)(f:Ac->Ac->IT Ac)(g:G2):Prop where
 get:OpD X f g
structure ZUn (X:Cx)(f:Ac->IT Ac)(g:D->Sto->Res D):Prop where
 get:UnD X f g
structure ZIx (X:Cx)(g:G2):Prop where
 get:IxD X g
structure ZCall (X:Cx)(f:Ac)(F:DF):Prop where
 get:xJ X f F
structure ZMt (X:Cx)(id:Cs)(g:D->Aa D->Sto->Res D):Prop where
 get:MtD X id g
structure ZIp (X:Cx)(op:Lh)(g:G2):Prop where
 get:IpD X op g
structure ZSet (X:Cx)(g:G3):Prop where
 get:lB X (l9 X g)
structure ZPass (X:Cx):Prop where
 get:Mv (Au X.prog X.w) X.A X.env X.xe
section
variable {X:Cx}{a b c e e1 e2 o i:Bd}{es qL:Aa Bd}{fa fb fc fe fo fi:DE}{ta tb:DT}{fA:DA}{f g:DS}{st:Ds}{sts:Aa Ds}{x:An}{p pos:Do}{n k:Af}{cm:Ao}{F:DF}{G2':G2}
theorem oU:QE X (.Constant .none j pos) (dC .non):=⟨BF⟩
theorem V2:QE X (.Constant (.bool v) j pos) (dC (.bl v)):=⟨D4⟩
theorem N4:QE X (.Constant (.int v) j pos) (dC (.int v)):=⟨BD⟩
theorem N7:QE X (.Constant (.str v) j pos) (dC (.str v)):=⟨BI⟩
theorem N8 (m:Af)(hN:X.N[m]? = Ab x)(hv:Vis X.env.scope x)(hd:(x == ("__debug__" : An))=false)(hcd:(x == ("__classdict__" : An))=false):QE X (.Name x pos) (qB m):=⟨dv m hN hv hd hcd⟩
theorem KQ {nm:Cs}(hg:Gl X x)(hm:X.mg x=none)(hv:El x=Ab (.type nm))(hn:x ≠ "__name__")(hd:(x == ("__debug__" : An))=false):QE X (.Name x pos) (dC (.ty nm)):=⟨U0 hg hm hv hn hd⟩
theorem N1 (hg:Gl X x)(hm:X.mg x=Ab (.ref C))(hk:Dz X.K (.ref C)=true)(hd:(x == ("__debug__" : An))=false):QE X (.Name x pos) (dC (.obj C)):=⟨B9 hg hm hk hd⟩
theorem KS {v:Aj}(hg:Gl X x)(hm:∃ t,X.mg x=Ab (.int v t))(hd:(x == ("__debug__" : An))=false):QE X (.Name x pos) (dC (.int v)):=⟨let ⟨_,h⟩:=hm;rT (v:=.int v) hg h ⟨_,rfl⟩ (λ_ _=>by simp only[Rep]) hd⟩
theorem N0:QE X e gX:=⟨B7⟩
theorem RA {op:UnaryOp}{h:D->Sto->Res D}(ho:ZUn X (Vb op) h)(ha:QE X a fa):QE X (.UnaryOp op a pos) (d1 h fa):=⟨D9 ho.1 ha.1⟩
theorem N6 (ha:QE X a fa):QE X (.UnaryOp .Not a pos) (ZN fa):=⟨BG ha.1⟩
theorem R9 {op:Lh}(ho:ZOp X (De op) G2')(ha:QE X a fa)(hb:QE X b fb):QE X (.BinOp a op b pos) (d2 G2' fa fb):=⟨D8 ho.1 ha.1 hb.1⟩
theorem oS {op:Rz}(ho:ZOp X (Cp op) G2')(ha:QE X a fa)(hb:QE X b fb)(hm:Js op b=false:=by first|exact kB _|with_unfolding_all rfl):QE X (.Compare a [op] [b] pos) (d2 G2' fa fb):=⟨BA ho.1 ha.1 hb.1 hm⟩
theorem WM {op op':Rz}{g':G2}(ho:ZOp X (Cp op) G2')(ho':ZOp X (Cp op') g')(ha:QE X a fa)(hb:QE X b fb)(hc:QE X c fc)(hm:Up [op,op'] [b,c]=false:=by with_unfolding_all rfl):QE X (.Compare a [op,op'] [b,c] pos) (wF G2' g' fa fb fc):=⟨ZQ ho.1 ho'.1 ha.1 hb.1 hc.1 hm⟩
theorem oV  (h:QE X a fa):QE X (.BoolOp op [a] pos) fa:=⟨BH h.1⟩
theorem oQ (ha:QE X a fa)(hb:QE X (.BoolOp .And (b::qL) pos) fb):QE X (.BoolOp .And (a::b::qL) pos) (gW fa fb):=⟨B6 ha.1 hb.1⟩
theorem R7 (hc:QT X c ta)(ha:QE X a fa)(hb:QE X b fb):QE X (.IfExp c a b pos) (dIf ta fa fb):=⟨D6 hc.1 ha.1 hb.1⟩
theorem oW  (h:QA X es fA):QE X (.Tuple es x1 pos) (xP fA):=⟨BJ h.1⟩
theorem N5 (h:QA X es fA):QE X (.List es pos) (zU fA):=⟨BE h.1⟩
theorem KW (h:QA X es fA):QE X (.List es pos) (nR fA):=⟨U5 h.1⟩
theorem N2:QE X (.Dict [] [] pos) mO:=⟨BB⟩
theorem KR:QE X (.Dict [] [] pos) f7:=⟨U3⟩
theorem R8 (ho:ZIx X G2')(ha:QE X a fa)(hb:QE X b fb)(hs:mJ b:=by intro _ _;rfl):QE X (.Subscript a b pos) (d2 G2' fa fb):=⟨D7 ho.1 ha.1 hb.1 hs⟩
theorem WO {lo hi:Al Bd}{fl fh:DO}{p2:Do}(he:QE X e fe)(hl:QO X lo fl)(hu:QO X hi fh):QE X (.Subscript e (.Slice lo hi none p2) pos) (dSl fe fl fh):=⟨ZS he.1 hl.1 hu.1⟩
theorem G8:QO X none yM:=⟨UD⟩
theorem G9 (he:QE X e fe):QO X (Ab e) (xS fe):=⟨UE he.1⟩
theorem N3 (he:QE X e fe):QE X (.FormattedValue e (-1) none pos) (d1 jI fe):=⟨BC he.1⟩
theorem NC:QJ X [] []:=⟨TN⟩
theorem G7 {fs:Aa DE}(he:QE X e fe)(hr:QJ X es fs):QJ X (e::es) (fe::fs):=⟨KG he.1 hr.1⟩
theorem KU {fs:Aa DE}(h:QJ X (e1::e2::qL) fs):QE X (.JoinedStr (e1::e2::qL) pos) (nQ fs):=⟨U4 h.1⟩
theorem oO:QA X [] qC:=⟨B4⟩
theorem eQ (ha:QE X e fa)(hr:QA X es fA)(hs:Az (e::es) X.env=(false,eval e X.env)::Az es X.env:=by rfl):QA X (e::es) (qA fa fA):=⟨VZ ha.1 hr.1 hs⟩
theorem qcN (G:Def X.prog X.w X.K X.mg X.base cm k x n F)(hr:RoomC cm k X.A)(hF:Fn1 X)(hg:Gl X x)(ha:QA X (e::es) fA)(hdb:(x == ("__debug__" : An))=false)(he:Az (e::es) X.env=(false,eval e X.env)::Az es X.env:=by rfl)(hpl:(Eo pos (Az es X.env)).any (·.1)=false:=by rfl):QE X (.Call (.Name x p) (e::es) [] pos) (qI n F fA):=⟨dcN G hr hF hg ha.1 hdb he hpl⟩
theorem WL (hc:ZCall X (.builtin id) F)(hg:Gl X x)(hm:X.mg x=none)(hv:El x=Ab (.builtin id))(ha:QA X (e::es) fA)(hn:x ≠ "__name__")(hdb:(x == ("__debug__" : An))=false)(he:Az (e::es) X.env=(false,eval e X.env)::Az es X.env:=by rfl)(hpl:(Eo pos (Az es X.env)).any (·.1)=false:=by rfl):QE X (.Call (.Name x p) (e::es) [] pos) (qQ F fA):=⟨ZO hc.1 hg hm hv ha.1 hn hdb he hpl⟩
theorem oR {T:Cs}(hc:ZCall X (.type T) F)(hg:Gl X x)(hm:X.mg x=none)(hv:El x=Ab (.type T))(ha:QA X (e::es) fA)(hn:x ≠ "__name__")(hdb:(x == ("__debug__" : An))=false)(he:Az (e::es) X.env=(false,eval e X.env)::Az es X.env:=by rfl)(hpl:(Eo pos (Az es X.env)).any (·.1)=false:=by rfl):QE X (.Call (.Name x p) (e::es) [] pos) (qQ F fA):=⟨iF hc.1 hg hm hv ha.1 hn hdb he hpl⟩
theorem l5 {T:Cs}{name:An}{apos:Do}{h:D->Aa D->Sto->Res D}(pa:Sx T)(slot:Slot T name id)(hty:Xh (.builtin id)=pure (.type "method_descriptor"))(hT:T = "list" \/ T = "dict" \/ T = "int" \/ T = "str")(hm:ZMt X id h)(ho:QE X o fo)(ha:QA X (e::es) fA)
  (hbase:Jv o name X.env (eval o X.env)=eval o X.env:=by rfl)
  (hfew:((Eo pos (Az (e::es) X.env)).all (λx=>!x.1)&&(backToKw pos (keywordEach [] X.env)).all (λx=>x.1.isSome)&&decide ((e::es).length+([]:Aa Xv).length+(if ([] : Aa Xv).isEmpty then 0 else 1)<30))=true:=by rfl)
  (hline:(apos.endLine == pos.line)=true:=by rfl) (hs:Az (e::es) X.env=(false,eval e X.env)::Az es X.env:=by rfl) (hplain:(Eo pos (Az es X.env)).any (·.1)=false:=by rfl):QE X (.Call (.Attribute o name apos) (e::es) [] pos) (dBm T h fo fA):=⟨D5 pa slot hty hT hm.1 ho.1 ha.1 hbase hfew hline hs hplain⟩
theorem fX {T:Cs}{name:An}{apos:Do}{h:D->Aa D->Sto->Res D}(pa:Sx T)(slot:Slot T name id)(hty:Xh (.builtin id)=pure (.type "method_descriptor"))(hT:T = "list" \/ T = "dict" \/ T = "int" \/ T = "str")(hm:ZMt X id h)(ho:QE X o fo)
  (hbase:Jv o name X.env (eval o X.env)=eval o X.env:=by rfl) (hline:(apos.endLine == pos.line)=true:=by rfl):QE X (.Call (.Attribute o name apos) [] [] pos) (ZM T h fo):=⟨B8 pa slot hty hT hm.1 ho.1 hbase hline⟩
theorem V4 (h:QW X e ta):QT X e ta:=⟨PWD.pt h.1⟩
theorem eV (ha:QT X a ta):QW X (.BoolOp .And [a] pos) ta:=⟨UL ha.1⟩
theorem fY (ha:QT X a ta):QW X (.BoolOp .Or [a] pos) ta:=⟨F4 ha.1⟩
theorem Q4 (ha:QT X a ta)(hb:QW X (.BoolOp .And (b::qL) pos) tb):QW X (.BoolOp .And (a::b::qL) pos) (y8 ta tb):=⟨F3 ha.1 hb.1⟩
theorem l6 (ha:QT X a ta)(hb:QW X (.BoolOp .Or (b::qL) pos) tb):QW X (.BoolOp .Or (a::b::qL) pos) (jH ta tb):=⟨DJ ha.1 hb.1⟩
theorem NK (ha:QT X a ta):QT X (.UnaryOp .Not a pos) (yL ta):=⟨F1 ha.1⟩
theorem Q2 {op:Rz}(ho:ZOp X (Cp op) G2')(ha:QE X a fa)(hb:QE X b fb)(hm:Js op b=false:=by first|exact kB _|with_unfolding_all rfl):QT X (.Compare a [op] [b] pos) (dTr (d2 G2' fa fb)):=⟨F0 ho.1 ha.1 hb.1 hm⟩
theorem WV {op op':Rz}{g':G2}(ho:ZOp X (Cp op) G2')(ho':ZOp X (Cp op') g')(ha:QE X a fa)(hb:QE X b fb)(hc:QE X c fc)(hm:Up [op,op'] [b,c]=false:=by with_unfolding_all rfl):QT X (.Compare a [op,op'] [b,c] pos) (dTr (wF G2' g' fa fb fc)):=⟨X0 ho.1 ho'.1 ha.1 hb.1 hc.1 hm⟩
theorem Q3 (ha:QE X a fa)(he:∀ whole,isTrue a X.env whole=(do let v <- whole;O0 a.pos;holding [v] (truthy v)):=by intro _;rfl):QT X a (dTr fa):=⟨F2 ha.1 he⟩
theorem G6 (hN:X.N.Nodup)(hi:X.N[m]? = Ab x)(hx:Loc X.env.scope x)(hf:X.fn x=true\/X.env.scope.names.lookup x=Ab .local):QG X (.Name x pos) (gNm m):=⟨UA hN hi hx hf⟩
theorem eR:QGs X [] vZ:=⟨UB⟩
theorem dZ {h:DG}{gs:DGs}(h1:QG X e h)(h2:QGs X es gs)(hs:(Fk (e::es) X.env).map (·.2)=assign e X.env::(Fk es X.env).map (·.2):=by rfl):QGs X (e::es) (xD h gs):=⟨ZU h1.1 h2.1 hs⟩
theorem oX {kk:Af}{gs:DGs}(hc:X.calm=true)(h:QGs X es gs)(hn:(Fk es X.env).length=n:=by rfl)(hst:(Fk es X.env).findIdx? (·.1)=none:=by rfl):QG X (.Tuple es kk pos) (gTp n gs):=⟨BM hc h.1 hn hst⟩
theorem N9 {h:G3}(ho:QE X o fo)(hi:QE X i fi)(hs:ZSet X h)
  (ha:∀ v,assign (.Subscript o i pos) X.env v=(do
   let ov <- holding [v] (eval o X.env)
   let iv <- holding [v,ov] (eval i X.env)
   O0 pos
   holding [v,ov,iv] (Xn ov iv v)
   release [v,ov,iv] []):=by intro _;rfl):QG X (.Subscript o i pos) (gSb fo fi h):=⟨BL ho.1 hi.1 hs.1 ha⟩
theorem NB {tg:Bd}(ha:QE X e fa):QI X tg e (w4 fa):=⟨BN ha.1⟩
theorem WR {tg:Bd}(hg:Gl X "range")(hm:X.mg "range" = none)(ha:QA X (e::es) fA)(hs:Az (e::es) X.env=(false,eval e X.env)::Az es X.env:=by rfl)(hpl:(Eo pos (Az es X.env)).any (·.1)=false:=by rfl):QI X tg (.Call (.Name "range" p) (e::es) [] pos) (mP fA):=⟨ZV hg hm ha.1 hs hpl⟩
theorem Q0 {elts:Aa Bd}{x1:Af}{tpos:Do}(hg:Gl X "zip")(hm:X.mg "zip" = none)(ha:QA X [e1,e2] fA)(hs:Az [e1,e2] X.env=(false,eval e1 X.env)::Az [e2] X.env:=by rfl)(hpl:(Eo pos (Az [e2] X.env)).any (·.1)=false:=by rfl):QI X (.Tuple elts x1 tpos) (.Call (.Name "zip" p) [e1,e2] [] pos) (mQ fA):=⟨BO hg hm ha.1 hs hpl⟩
theorem oP:QB X [] zB:=⟨BU⟩
theorem fW (h:QS X st f):QB X [st] f:=⟨BV h.1⟩
theorem pW (h1:QS X st f)(h2:QB X sts g):QB X (st::sts) (qO f g):=⟨UF h1.1 h2.1⟩
theorem WS:QS X (.Break pos) fZ:=⟨ZX⟩
theorem GA (he:QE X e fa)(hs:Qp e none pos.line X.env=pure false:=by rfl):QS X (.Expr e pos) (yV fa):=⟨UG he.1 hs⟩
theorem Q1 (he:QE X e fa):QS X (.Return (Ab e) pos) (qT fa):=⟨BX he.1⟩
theorem V3 {as bs:Aa Ds}(hc:QT X c ta)(ha:QB X as f)(hb:QB X bs g):QS X (.If c as bs pos) (sIf ta f g):=⟨DD hc.1 ha.1 hb.1⟩
theorem WU (hp:ZPass X)(hc:QT X c ta)(hb:QB X body f):QS X (.While c body [] pos) (wZ ta f):=⟨ZZ hp.1 hc.1 hb.1⟩
theorem NG {tg iter:Bd}{fI:DI}{h:DG}(hp:ZPass X)(hc:X.calm=true)(hi:QI X tg iter fI)(hg:QG X tg h)(hb:QB X body f)(hs:∀ x,Gq iter X.env x=pure x:=by intro _;rfl):QS X (.For tg iter body [] pos) (wW fI h f):=⟨BS hp.1 hc hi.1 hg.1 hb.1 hs⟩
theorem NI {pos':Do}(hN:X.N.Nodup)(he:QE X e fa)(hi:X.N[m]? = Ab x)(hx:Loc X.env.scope x)(hs:Qp e (Ab (.Name x pos')) pos.line X.env=pure false)(hf:X.fn x=true\/X.env.scope.names.lookup x=Ab .local):QS X (.Assign [.Name x pos'] e pos) (qV fa (gNm m)):=⟨BY hN he.1 hi hx hs hf⟩
theorem ND {tg:Bd}{h:DG}(he:QE X e fa)(hg:QG X tg h)(hs:Gz [tg] e pos.line X.env=pure false:=by rfl)(hw:Gy [tg] e X.env=pure none:=by rfl)(h1:(Fk [tg] X.env).map (·.2)=[assign tg X.env]:=by rfl):QS X (.Assign [tg] e pos) (qV fa h):=⟨BQ he.1 hg.1 hs hw h1⟩
theorem NF {op:Lh}{pos':Do}(hN:X.N.Nodup)(he:QE X e fe)(ho:ZIp X op G2')(hi:X.N[m]? = Ab x)(hx:Loc X.env.scope x)(hf:X.fn x=true\/X.env.scope.names.lookup x=Ab .local):QS X (.AugAssign (.Name x pos') op e pos) (vF m G2' fe):=⟨BR hN he.1 ho.1 hi hx hf⟩
theorem NH {l:Af}{y:An}{px py pt:Do} {kt k2 pt2} (hc:X.calm=true) (hN:X.N.Nodup) (ha:QA X [a,b] fA) (hi:X.N[m]? = Ab x) (hj:X.N[l]? = Ab y) (hij:m≠l) (hx:X.env.scope.names.lookup x=Ab .local) (hy:X.env.scope.names.lookup y=Ab .local)
  (hw:Gy [.Tuple [.Name x px,.Name y py] kt pt] (.Tuple [a,b] k2 pt2) X.env=pure (Ab [x,y]):=by rfl) (hs:Gz [.Tuple [.Name x px,.Name y py] kt pt] (.Tuple [a,b] k2 pt2) pos.line X.env=pure false:=by rfl) :
  QS X (.Assign [.Tuple [.Name x px,.Name y py] kt pt] (.Tuple [a,b] k2 pt2) pos) (bR m l fA):=⟨BW hc hN ha.1 hi hj hij hx hy hw hs⟩
theorem GB {l q:Af}{y z:An}{px py pz pt:Do} {kt k2 pt2} (hc:X.calm=true) (hN:X.N.Nodup) (ha:QA X [a,b,c] fA) (hi:X.N[m]? = Ab x) (hj:X.N[l]? = Ab y) (hk:X.N[q]? = Ab z) (hij:m≠l) (hik:m≠q) (hjk:l≠q) (hx:X.env.scope.names.lookup x=Ab .local) (hy:X.env.scope.names.lookup y=Ab .local) (hz:X.env.scope.names.lookup z=Ab .local)
  (hw:Gy [.Tuple [.Name x px,.Name y py,.Name z pz] kt pt] (.Tuple [a,b,c] k2 pt2) X.env=pure (Ab [x,y,z]):=by rfl) (hs:Gz [.Tuple [.Name x px,.Name y py,.Name z pz] kt pt] (.Tuple [a,b,c] k2 pt2) pos.line X.env=pure false:=by rfl) :
  QS X (.Assign [.Tuple [.Name x px,.Name y py,.Name z pz] kt pt] (.Tuple [a,b,c] k2 pt2) pos) (m8 m l q fA):=⟨UH hc hN ha.1 hi hj hk hij hik hjk hx hy hz hw hs⟩
theorem WT {Ae:Ad}{np cpos:Do}(hc:X.calm=true)(hF:Fn1 X)(hg:Gl X x)(hm:X.mg x=Ab (.ref C))(hx:bH X.K C Ae=true)(ha:QA X (e::qL) fA)(hdb:(x == ("__debug__" : An))=false)(he:Az (e::qL) X.env=(false,eval e X.env)::Az qL X.env:=by rfl)(hpl:(Eo cpos (Az qL X.env)).any (·.1)=false:=by rfl) :
  QS X (.Raise (Ab (.Call (.Name x np) (e::qL) [] cpos)) none pos) (wY (.ref C) fA):=⟨ZY hc hF hg hm hx ha.1 hdb he hpl⟩
theorem NJ {nm:An}{C0:Ad}{b₀:Ds}{suite:Aa Ds}{np hpos:Do}{cs:Aa Ac}(hF:Fn1 X)(hb:∀ E pn,ZPass (Cx.tryIn X E pn)->QB (Cx.tryIn X E pn) body f)(hs:∀ e,QB (Cx.suite X e) (b₀::suite) g)(hg:Gl X x)(hm:X.mg x=Ab (.ref C0))(hcs:∀ c∈cs,Il X.K c (.ref C0)=Ab true)(hN:X.N.Nodup)(hi:X.N[m]? = Ab nm)(hlo:X.env.scope.names.lookup nm=Ab .local)(hdb:(x == ("__debug__" : An))=false)(hn:X.N.length=n) :
  QS X (.Try body [.ExceptHandler (Ab (.Name x np)) (Ab nm) (b₀::suite) hpos] [] [] pos) (bS n m cs f g):=⟨hn▸BZ hF (λE pn hp=>(hb E pn ⟨hp⟩).1) (λe=>(hs e).1) hg hm hcs hN hi hlo hdb⟩
theorem RQ:ZOp X (De .Add) qY:=⟨MP⟩
theorem E0:ZOp X (De .Sub) uK:=⟨MU⟩
theorem RV:ZOp X (De .Mult) zD:=⟨K4⟩
theorem RS:ZOp X (De .FloorDiv) wV:=⟨MQ⟩
theorem RU:ZOp X (De .Mod) zW:=⟨MR⟩
theorem RX:ZOp X (De .Pow) wG:=⟨MS⟩
theorem RZ:ZOp X (De .LShift) lX:=⟨MT⟩
theorem CB:ZOp X (Cp .Lt) gLt:=⟨SS⟩
theorem CA:ZOp X (Cp .LtE) gLe:=⟨SR⟩
theorem HY:ZOp X (Cp .Gt) gGt:=⟨SO⟩
theorem HX:ZOp X (Cp .GtE) gGe:=⟨SN⟩
theorem LI:ZOp X (Cp .Is) gIs:=⟨SQ⟩
theorem LC (hr:RoomC cm k X.A):ZOp X (Cp .Eq) gEq:=⟨SM hr.units⟩
theorem LP (hr:RoomC cm k X.A):ZOp X (Cp .NotEq) gNe:=⟨SU hr.units⟩
theorem RW:ZUn X (Vb .USub) bK:=⟨L4⟩
theorem HZ:ZIx X gIx:=⟨ER⟩
theorem VH:ZCall X (.builtin "isinstance") zV:=⟨i8⟩
theorem LJ {cl:Aa Ad}(h:ClsK X.K cl):ZCall X (.builtin "isinstance") (zP cl):=⟨VN h⟩
theorem VI:ZCall X (.builtin "len") vK:=⟨VP⟩
theorem VF (hc:X.calm=true):ZCall X (.builtin "all") (bJ false):=⟨PN false hc⟩
theorem RT:ZCall X (.type "int") cV:=⟨PP⟩
theorem GX:ZCall X (.type "tuple") fE:=⟨ZG⟩
theorem LK:ZCall X (.type "list") nS:=⟨VQ⟩
theorem Z2:ZMt X "int.bit_length" nU:=⟨JU⟩
theorem VG (hr:RoomC cm k X.A):ZMt X "dict.get" uJ:=⟨M1 (hu1 hr)⟩
theorem cA:ZMt X "list.count" fF:=⟨XW⟩
theorem cB:ZMt X "list.index" fG:=⟨XX⟩
theorem LD:ZIp X .Add pR:=⟨J8⟩
theorem LH:ZIp X .Mult zD:=⟨JA⟩
theorem LG:ZIp X .FloorDiv wV:=⟨J9⟩
theorem RY (hr:RoomC cm k X.A):ZSet X zS:=⟨NO (hu1 hr)⟩
end
section
variable {P:AV}{w:Bk}{K:Ah}{mg:An->Al Ac}{base:Bc}{cm:Ao}
theorem cC {qual:An}{scope:Di}{f:Ad}{cd:Ac}{A:Bh}{outer:Aa Gv}{s:Ag}{H:Hp}{E:XK}:ZPass (cxC cm P w K mg base N qual scope f cd A outer s H E):=⟨ZL⟩
theorem EF {x:An}{st:Ds}{ps:Aa An}{k:Af}{g:DS}(h:Src K mg x st ps)(S:FnScope N ps (qG st))(hbd:zI st=body)
  (hbody:∀ (f:Ad) (cdv:Ac) (A:Bh) (outer:Aa Gv) (s:Ag) (H:Hp) (E:XK),kO K x cdv->RoomC cm k (A.deeper (EQ x (qG st) s.heap.objs.size f cdv)) ->
   QB (cxC cm P w K mg base N x (qG st) f cdv A outer s H E) body g):Def P w K mg base cm (k+1) x ps.length (qP N.length g):=
 BK h S λf cdv A outer s H E hc hr=>hbd▸(hbody f cdv A outer s H E hc hr).1
theorem DB {x:An}{st:Ds}{ps:Aa An}{k:Af}{g:DS}(h:Src K mg x st ps)(S:FnScope N ps (qG st))(hbd:zI st=body)
  (hbody:∀ (f:Ad) (cdv:Ac) (A:Bh) (outer:Aa Gv) (s:Ag) (H:Hp) (E:XK),kO K x cdv->RoomC cm k (A.deeper (EQ x (qG st) s.heap.objs.size f cdv)) ->
   QB (cxC cm P w K mg base N x (qG st) f cdv A outer s H E) body g):lA P w K mg base cm (k+1) x ps (qP N.length g):=
 U9 h S λf cdv A outer s H E hc hr=>hbd▸(hbody f cdv A outer s H E hc hr).1
theorem U8 {x:An}{st:Ds}{ps:Aa An}(h:Src K mg x st ps):Def P w K mg base cm 0 x ps.length λ_ _=>.bad:=by
 obtain⟨f,fd,hm,F,hb⟩:=h;exact⟨f,fd,ps,rfl,hm,F.kp,hb,pS F,⟨λvs H Q E z=>z.1,λA outer s H args us vs Q E _ _ _ _ z=>by obtain⟨_,_,_,_,_,_,_,z⟩:=z;exact Am z⟩⟩
end
structure QTs (X:Cx)(ifs:Aa Bd)(t:DT):Prop where
 get:PTs X ifs t
section
variable {X:Cx}{elt tg iter e:Bd}{ifs es:Aa Bd}{scope:Di}{pos p:Do}{N':Aa An}{cap:Aa (Al Af)}{fi:DI}{g:DG}{t u:DT}{fe:DE}{fa:DA}{x:An}{cm:Ao}{k n:Af}{F:DF}
theorem eU:QTs X [] vB:=⟨UK⟩
theorem WW (h1:QT X e t)(h2:QTs X es u):QTs X (e::es) (y8 t u):=⟨X1 h1.1 h2.1⟩
theorem qcO (G:Def X.prog X.w X.K X.mg X.base cm k x n F)(hr:RoomC cm k X.A)(hg:Gl X x)(ha:QA X (e::es) fa)(hdb:(x == ("__debug__" : An))=false)(he:Az (e::es) X.env=(false,eval e X.env)::Az es X.env:=by rfl)(hpl:(Eo pos (Az es X.env)).any (·.1)=false:=by rfl) :
  QE X (.Call (.Name x p) (e::es) [] pos) (qI n (okO F) fa):=⟨dcO G hr hg ha.1 hdb he hpl⟩
end
def stn (o:Al (Af × MO))(S:Sto):Prop:=match o with
 |none=>Mm
 |some p=>S[p.1]? = Ab p.2
open Classical in
def aQ (o:Al (Af × MO))(S:Sto):Ao:=decide (stn o S)
theorem uT {o:Al (Af × MO)}:aQ o S=true↔stn o S:=by simp[aQ]
structure ItD2 (K:Ah)(J:It)(P:Hp)(α : Aa Ad)(o:Al (Af × MO))(ds:Aa D):Prop where
 go:∀ i H P1 α1 S,i<ds.length->Rel K H P1 α1 S->stn o S->qF P P1->α<+:α1->J.go i H
 yld:∀ i H x H' P1 α1 S,i<ds.length->Rel K H P1 α1 S->stn o S->qF P P1->α<+:α1->J.yld i H x H'->∃ P2 d,ds[i]? = Ab d/\Rel K H' P2 α1 S/\qF P1 P2/\Rep K P2 α1 d x
 stop:∀ i H P1 α1 S,ds.length<=i->Rel K H P1 α1 S->stn o S->qF P P1->α<+:α1->J.stop i H
theorem ItD.two {K:Ah}{J:It}{P:Hp}(h:ItD K J P α ds):ItD2 K J P α none ds:=
 ⟨λi H P1 α1 S a b _ c d=>h.go i H P1 α1 S a b c d,λi H x H' P1 α1 S a b _ c d e=>h.yld i H x H' P1 α1 S a b c d e,λi H P1 α1 S a b _ c d=>h.stop i H P1 α1 S a b c d⟩
abbrev DI2:=qD->Sto->Res (Al (Af × MO) × Aa D)
inductive tDI2 (X:Cx)(f:DI2)(σ : _L.St)(H:Hp)(R:It->Hp->Prop):Prop
 |mk (P:Hp) (α : Aa Ad) (env:qD) (S:Sto) (r:Rel X.K H P α S) (re:qZ X.K P α σ env) (af:qJ X P α (f env S) (λp S'=>∀ J H' P' α',Rel X.K H' P' α' S'->qF P P'->α<+:α'->ItD2 X.K J P' α' p.1 p.2->R J H')):tDI2 X f σ H R
noncomputable def vL (f:DI):DI2:=λenv S=>(f env S).bind λds S1=>.ok (none,ds) S1
section
variable {X:Cx}{K:Ah}{tg e:Bd}{fa:DE}{pos:Do}
theorem UC {f:DI}(h:PI X tg e (tDI X f)):PI X tg e (tDI2 X (vL f)):=PI.weak h λσ H R ⟨P,α,env,S,r,re,af⟩=>by
 refine⟨P,α,env,S,r,re,?_⟩;unfold vL at af;cases q:f env S with
 |bad=>rw[q] at af;exact af
 |ex c x S'=>rw[q] at af;exact af
 |ok ds S1 =>
  rw[q] at af;exact λJ H' P' α' r' e1 e2 it=>af J H' P' α' r' e1 e2 it.two
theorem JF {P:Hp}{a:Ad}{n:Af}(hα:α[n]? = Ab a):ItD2 K (Itl K a) P α (Ab (n,.lst ds)) ds where
 go:=λi H P1 α1 S hi r st e e2=>by
  obtain⟨vs,z,t⟩:=r.at' n a _ (pV e2 hα) st;exact⟨vs,vs[i]'(by rw[<- t.length];exact hi),.of z,by simp⟩
 yld:=λi H x H' P1 α1 S hi r st e e2 y=>by
  obtain⟨rfl,y⟩:=y;obtain⟨vs,z,t⟩:=r.at' n a _ (pV e2 hα) st;have hx:=y vs (.of z);obtain⟨v,h1,h2⟩:=t.get (AW hi);rw[hx] at h1;cases h1;exact⟨P1,_,AW hi,r,qF.refl _,h2⟩
 stop:=λi H P1 α1 S hi r st e e2=>by
  obtain⟨vs,z,t⟩:=r.at' n a _ (pV e2 hα) st;exact⟨vs,.of z,by rw[<- t.length];exact hi⟩
noncomputable def itD (d:D)(S:Sto):Res (Al (Af × MO) × Aa D):=match d with
 |.tup xs=>.ok (none,xs) S
 |.lst xs=>.ok (none,xs) S
 |.loc n=>match S[n]? with
  |some (.lst xs)=>.ok (Ab (n,.lst xs),xs) S
  |_=>.bad
 |_=>.bad
noncomputable def dIt (f:DE):DI2:=λenv S=>(f env S).bind λd S1=>itD d S1
theorem DC (ha:PE X e (tD X fa)):PI X tg e (tDI2 X (dIt fa)):=by
 intro pins s σ H R I h;obtain⟨P,α,env,S,r,re,af⟩:=h;refine thn (zM ha I r re af) λvv s1 ⟨v,H1,P1,α1,d,S1,G1,af1⟩=>?_;have seq:∀ ds,zH d=Ab ds->(∀ J H' P' α',Rel X.K H' P' α' S1->qF P P'->α<+:α'->ItD2 X.K J P' α' none ds->R J H')->Ar (Au X.prog X.w) X.A (OL vv) (PIE X pins σ tg R) X.xe s1:=λds e1 q =>
  lZ G1.inv G1.rel G1.val G1.rep e1 λJ H' P' α' r' h1 h2 it=>q J H' P' α' r' (G1.same.trans h1) (G1.pre.trans h2) it.two
 cases d with
 |tup xs=>exact seq xs rfl af1
 |lst xs=>exact seq xs rfl af1
 |loc n =>
  obtain⟨xs,hS,af1⟩:=gD (X:=X) (f:=λxs=>Res.ok (Ab (n,MO.lst xs),xs) S1) af1;have rp:=G1.rep;simp only[Rep] at rp;obtain⟨a,rfl,ha⟩:=rp;cases (show vv=Bn a from G1.val)
  obtain⟨vs,z,t⟩:=G1.rel.at' n a _ ha hS;obtain⟨its,rv,p,hz⟩:=G1.inv.list (SqL.of z);refine Gr p.isList ?_;refine⟨s1.heap.objs.size,[s1.heap.objs.size],_,_,H1,rfl,G1.inv.kept (t':=s1.toks) λb o e=>Ak _ e,nK a _,⟨_,Bb _ rfl,rfl,rfl⟩,λb hb=>?_,af1 _ _ P1 α1 G1.rel G1.same G1.pre (JF ha)⟩;have e:b=s1.heap.objs.size:=by simpa using hb
  subst e;exact G1.inv.fpOk (Aq _) (G1.inv.hok.fresh (Aq _))
 |_=>exact Am af1
end
noncomputable def emX (m:Ao)(elt:Bd)(acc:Ac)(env:Gv):IT Nh:=match m with
 |false=>do let _ <- call (.builtin "list.append") [acc,<- eval elt env]
 |true=>do let v <- eval elt env;O0 elt.pos;let _ <- call (.builtin "set.add") [acc,v]
noncomputable def xR (m:Ao)(elt:Bd)(gens:Aa Dm)(scope:Di)(pos:Do)(k:Af)(acc:Ac)(env:Gv):IT Nh:=
 match gens[k+1]? with
 |some g'=>do
  let x <- eval g'.iter env
  O0 g'.iter.pos
  let x <- Gq g'.iter env x
  let it <- holding [x] (OL x)
  let _ <- runOwn (.compStart (xO m elt gens scope pos) (k+1) it acc env) env
 |none=>emX m elt acc env
theorem Y5 (m:Ao)(elt target iter:Bd)(ifs:Aa Bd)(gens:Aa Dm)(scope:Di)(pos:Do)(it acc:Ac)(env:Gv)(k:Af)(hg:gens[k]? = Ab ⟨target,iter,ifs,0⟩)(ha:∀ g',gens[k+1]? = Ab g'->g'.is_async=0) :
  Wf (xO m elt gens scope pos) k it acc env=(do
   O0 iter.pos
   match <- Tf it with
   |none=>pure (.done .next)
   |some v =>
    II target it v
    assign target env v
    let mut ok:=true
    for c in ifs do
     if ok then ok <- isTrue c env (eval c env)
    if ok then xR m elt gens scope pos k acc env
    again (.compLoop (xO m elt gens scope pos) k it acc env)):=by
 cases m <;>
 .unfold Wf xR xO emX
  simp only[hg];cases q:gens[k+1]? with
  |none=>rfl
  |some g' =>
   have h0:=ha g' q;have e0:(g'.is_async != 0)=false:=by rw[h0];rfl
   simp only[e0,Cd,Ff,bind_assoc,pure_bind];rfl
abbrev DK:=qD->Sto->Aa D->Res (qD × Aa D)
def goL (o:Al (Af × MO))(g:DG)(t:DT)(k:DK):Aa D->DK
 |[],env,S,acc=>if aQ o S then .ok (env,acc) S else .bad
 |d::ds,env,S,acc=>if aQ o S then (g d env S).bind λenv1 S1=>(t env1 S1).bind λb S2 =>
   if b then (k env1 S2 acc).bind λp S3=>goL o g t k ds p.1 S3 p.2 else goL o g t k ds env1 S2 acc
  else .bad
noncomputable def xH (fe:DE):DK:=λenv S acc=>(fe env S).bind λx S1=>if acc.length<lim then .ok (env,acc++[x]) S1 else .bad
def YD (B:Acc)(Y:Cx)(pins:Aa (Ad × Bq))(P1:Hp)(α1:Aa Ad)(acc:Ad)(env:qD)(S:Sto)(ds:Aa D)(s:Ag):Prop:=
 ∃ σ H P α o,TurnSt B Y pins P1 α1 [] acc env S ds s σ H P α o
def PK (B:Acc)(Y:Cx)(step:Ac->IT Nh)(k:DK):Prop:=
 ∀ (pins:Aa (Ad × Bq)) (P1:Hp) (α1:Aa Ad) (acc:Ad) (env env':qD) (S S':Sto) (ds ds':Aa D) (s:Ag),(∀ H:Hp,H acc=none->zX Y pins H acc)->YD B Y pins P1 α1 acc env S ds s->k env S ds=.ok (env',ds') S' ->
  Ar (Au Y.prog Y.w) Y.A (step (.ref acc)) (λ_ s'=>YD B Y pins P1 α1 acc env' S' ds' s') (λ_ _=>Eh) s
section
variable {B:Acc}{Y:Cx}{elt tg iter:Bd}{ifs:Aa Bd}{gens:Aa Dm}{scope:Di}{pos:Do}{k:Af}{g:DG}{t:DT}{fe:DE}{it acc:Ad}{fp:Aa Ad}{J:It}{tn:Af->Bc->Prop}{items:Aa D}{P1:Hp}{α1:Aa Ad}{pins:Aa (Ad × Bq)}
theorem iP {X:Cx}{H:Hp}{b:Ad}{h:Bc}(f:zX X pins H b)(hn:b ∉ fp):zX X (pins++yP fp h) H b:=by
 obtain⟨f0,f1,f2,f3,f4,f5⟩:=f;refine⟨f0,f1,f2,f3,f4,λp hp=>?_⟩;rcases Bo.mp hp with z|z
 .exact f5 p (Df _ z)
 .rcases Bo.mp z with z|z
  .exact f5 p (Bj _ z)
  .rintro rfl
   exact hn (nF z).1
theorem Res.bind_inv {β γ:Type}{r:Res β}{f:β->Sto->Res γ}{x:γ}(h:r.bind f=.ok x S):∃ b S1,r=.ok b S1/\f b S1=.ok x S:=by
 cases r with
 |ok b S1=>exact⟨b,S1,rfl,h⟩
 |_=>cases h
inductive GoC (o:Al (Af × MO))(g:DG)(t:DT)(k:DK)(d:D)(ds acc:Aa D)(env:qD)(S SF:Sto)(x:qD × Aa D):Prop
 |no (env1:qD) (S1 S2:Sto) (z:stn o S) (q1:g d env S=.ok env1 S1) (q2:t env1 S1=.ok false S2) (r:goL o g t k ds env1 S2 acc=.ok x SF):GoC o g t k d ds acc env S SF x
 |yes (env1:qD) (S1 S2:Sto) (env5:qD) (ds5:Aa D) (S5:Sto) (z:stn o S) (q1:g d env S=.ok env1 S1) (q2:t env1 S1=.ok true S2) (q3:k env1 S2 acc=.ok (env5,ds5) S5) (r:goL o g t k ds env5 S5 ds5=.ok x SF):GoC o g t k d ds acc env S SF x
set_option tactic.hygienic true in
theorem X9 {o:Al (Af × MO)}{k:DK}{d:D}{acc:Aa D}{x:qD × Aa D}(h:goL o g t k (d::ds) env S acc=.ok x SF):GoC o g t k d ds acc env S SF x:=by
 simp only[goL] at h
 split at h
 .rename_i z
  obtain⟨env1,S1,q1,h⟩:=Res.bind_inv h;obtain⟨b,S2,q2,h⟩:=Res.bind_inv h;cases b with
  |false=>exact .no env1 S1 S2 (uT.mp z) q1 q2 h
  |true =>
   obtain⟨⟨env5,ds5⟩,S5,q3,h⟩:=Res.bind_inv h;exact .yes env1 S1 S2 env5 ds5 S5 (uT.mp z) q1 q2 q3 h
 .cases h
set_option tactic.hygienic true in
theorem UX {o:Al (Af × MO)}{k:DK}{acc:Aa D}(h:goL o g t k [] env S acc=.ok (envF,dsF) SF):stn o S/\env=envF/\acc=dsF/\S=SF:=by
 simp only[goL] at h
 split at h
 .rename_i z
  cases h;exact⟨uT.mp z,rfl,rfl,rfl⟩
 .cases h
inductive LpI (B:Acc)(Y:Cx)(pins:Aa (Ad × Bq))(P1:Hp)(α1:Aa Ad)(fp:Aa Ad)(acc:Ad)(tn:Af->Bc->Prop)(G:Aa D->DK)(items:Aa D)(x:qD × Aa D)(SF:Sto)(n:Af)(s:Ag):Prop
 |mk (i:Af) (σ : _L.St) (H P:Hp) (α : Aa Ad) (o:Bq) (env:qD) (S:Sto) (ds:Aa D) (hn:n=items.length-i) (hi:i<=items.length) (st:TurnSt B Y pins P1 α1 fp acc env S ds s σ H P α o) (st1:tn i s.heap) (run:G (items.drop i) env S ds=.ok x SF):LpI B Y pins P1 α1 fp acc tn G items x SF n s
theorem GP {m:Ao}{M:Jl}{A:Bh}{Q:Fin->Ag->Prop}{E:Ac->Ag->Prop}{s:Ag}{it acc:Ac}{en:Gv}(hgk:gens[k]? = Ab ⟨tg,iter,ifs,0⟩)(has:∀ g',gens[k+1]? = Ab g'->g'.is_async=0)
  (ha:∀ s,Qa s->Q (.again (.compLoop (xO m elt gens scope pos) k it acc en)) s) (hd:∀ s,Qd s->Q (.done .next) s)
  (h:Ar M A (Tf it) (λr s1=>(r=none->Qd s1)/\∀ v,r=Ab v->Ar M A (II tg it v) (λ_ s2=>Ar M A (assign tg en v) (λ_ s3=>Ar M A (uU ifs en) (λb s4=>(b=false->Qa s4)/\(b=true->Ar M A (xR m elt gens scope pos k acc en) (λ_ s5=>Qa s5) E s4)) E s3) E s2) E s1) E s) :
  Ar M A (Wf (xO m elt gens scope pos) k it acc en) Q E s:=by
 rw[Y5 m elt tg iter ifs gens scope pos it acc en k hgk has];refine Ai (Lq (Ai (thn h λr s1 ⟨h0,h1⟩=>?_)));cases r with
 |none=>exact Ap (hd _ (h0 rfl))
 |some v =>
  refine Ai (thn (h1 v rfl) λ_ s2 h2=>Ai (thn h2 λ_ s3 h3=>Ai (thn h3 λb s4 h4=>?_)));cases b with
  |false=>exact Ap (ha _ (h4.1 rfl))
  |true=>exact Ai (thn (h4.2 rfl) λ_ s5 h5=>Ap (ha _ h5))
theorem UT (hfp:∀ H:Hp,(∀ b∈fp,H b=none)->∀ b∈fp,zX Y pins H b)(hne:acc ∉ fp)(o:Bq)(H':Hp)(hn:∀ b∈fp,H' b=none):∀ b∈fp,zX Y (pins++[(acc,o)]) H' b:=λb hb=>by
 obtain⟨f0,f1,f2,f3,f4,f5⟩:=hfp H' hn b hb;refine⟨f0,f1,f2,f3,f4,λp hp=>?_⟩;rcases Bo.mp hp with z|z
 .exact f5 p (Df _ z)
 .rcases Bo.mp z with z|z
  .exact f5 p (Bj _ z)
  .rw[Ca.mp z]
   rintro rfl;exact hne hb
theorem jF {i:Af}{h:Bc}(T:Turn Y.prog Y.w Y.K tg J fp it tn)(st2:tn (i+1) h)(pl:∀ b∈fp,∃ o,h.get? b=Ab o/\∀ v,o.data≠.cell v){s5:Ag}{σ5:_L.St}{H5:Hp}(I5:Inv Y (pins++yP fp h) σ5 H5 s5):tn (i+1) s5.heap/\(∀ b∈fp,H5 b=none):=by
 refine⟨T.keep _ _ _ st2 λb hb o' e=>(I5.pin (b,o') (Bj _ (Bj _ (u0 hb e)))).1,λb hb=>?_⟩;obtain⟨o',e,d'⟩:=pl b hb;exact(I5.pin (b,o') (Bj _ (Bj _ (u0 hb e)))).2.1
theorem cR {kk:DK}{E:Ac->Ag->Prop}{s:Ag}{σ:_L.St}{H P:Hp}{o:Bq}{i:Af}(hc:Y.calm=true)(hx:Y.xe=λ_ _=>Eh)
  (T:Turn Y.prog Y.w Y.K tg J fp it tn) (hit:ItD2 Y.K J P1 α1 o' items) (hg:PG Y tg (tDG Y g)) (ht:PTs Y ifs t) (he:PK B Y (λacc=>xR B.m elt gens scope pos k acc Y.env) kk) (hacc:∀ H:Hp,H acc=none->zX Y pins H acc) (hfp:∀ H:Hp,(∀ b∈fp,H b=none)->∀ b∈fp,zX Y pins H b) (hne:acc ∉ fp)
  (hi:i<=items.length) (st:TurnSt B Y pins P1 α1 fp acc env S ds s σ H P α o) (st1:tn i s.heap) (run:goL o' g t kk (items.drop i) env S ds=.ok (envF,dsF) SF)
  (hA:∀ s' σ' H' P' α' o1 env1 S' ds',i<items.length->TurnSt B Y pins P1 α1 fp acc env1 S' ds' s' σ' H' P' α' o1->tn (i+1) s'.heap->goL o' g t kk (items.drop (i+1)) env1 S' ds'=.ok (envF,dsF) SF->Qa s')
  (hD:∀ s' σ' H' P' α' o',TurnSt B Y pins P1 α1 fp acc envF SF dsF s' σ' H' P' α' o'->Qd s') :
  Ar (Au Y.prog Y.w) Y.A (Tf (.ref it)) (λr s1=>(r=none->Qd s1)/\∀ v,r=Ab v->Ar (Au Y.prog Y.w) Y.A (II tg (.ref it) v) (λ_ s2=>Ar (Au Y.prog Y.w) Y.A (assign tg Y.env v) (λ_ s3=>Ar (Au Y.prog Y.w) Y.A (uU ifs Y.env) (λb s4=>(b=false->Qa s4)/\(b=true->Ar (Au Y.prog Y.w) Y.A (xR B.m elt gens scope pos k (.ref acc) Y.env) (λ_ s5=>Qa s5) E s4)) E s3) E s2) E s1) E s:=by
 have I1:=_D.Inv.pin1 st.inv (hacc H st.acn) st.at' (B.cell st.acc);have fp1:=UT hfp hne o;by_cases hlt:i<items.length
 .have hdr:items.drop i=items[i]::items.drop (i+1):=Fz hlt
  rw[hdr] at run;have run:=X9 run;have hst:stn o' S:=by cases run with|no _ _ _ z=>exact z|yes _ _ _ _ _ _ z=>exact z
  refine bU (T.item Y rfl rfl rfl hc i _ s σ H (λ_ _=>Eh) I1 (fp1 H st.fpn) st1 (hit.go i H P α S hlt st.rel hst st.same st.pre)) λr s1 ⟨u,hr,h1⟩=>⟨λz=>(by rw[hr] at z;cases z),λv hv=>?_⟩
  obtain rfl:v=u:=Bx (hv.symm.trans hr);refine bU h1 λ_ s2 ⟨x,H2,I2,rx,y,st2,fr2⟩=>?_;obtain⟨P2,d,hd,r2,e2,rp⟩:=hit.yld i H x H2 P α S hlt st.rel hst st.same st.pre y;cases (AW hlt).symm.trans hd;have pl:=T.obj _ _ st2;have I2':=I2.pinned (fp1 _ fr2) pl;have two:∀ env1 S1 b S2,g items[i] env S=.ok env1 S1->t env1 S1=.ok b S2->(∀ s4 σ3 H4 P4 α4 (I4:Inv Y (pins++yP fp s2.heap) σ3 H4 s4),TurnSt B Y pins P1 α1 fp acc env1 S2 ds s4 σ3 H4 P4 α4 o->tn (i+1) s4.heap->(b=false->Qa s4)/\(b=true->Ar (Au Y.prog Y.w) Y.A (xR B.m elt gens scope pos k (.ref acc) Y.env) (λ_ s5=>Qa s5) E s4))->Ar (Au Y.prog Y.w) Y.A (assign tg Y.env v) (λ_ s3=>Ar (Au Y.prog Y.w) Y.A (uU ifs Y.env) (λb s4=>(b=false->Qa s4)/\(b=true->Ar (Au Y.prog Y.w) Y.A (xR B.m elt gens scope pos k (.ref acc) Y.env) (λ_ s5=>Qa s5) E s4)) E s3) E s2:=by
   intro env1 S1 b S2 q1 q2 next;refine bU (hx▸H9 hg I2' r2 (st.env.mono e2 (AU _)) rx rp q1) λ_ s3 ⟨σ3,H3,P3,α3,I3,r3,re3,e3,e3'⟩=>?_;refine bU (hx▸R6 ht I3 r3 re3 q2) λb' s4 ⟨hb,H4,P4,α4,I4,r4,re4,e4,e4'⟩=>?_;have I4':Inv Y (pins++yP fp s2.heap) σ3 H4 s4:=I4.pins_of λp hp=>I4.pin p (Bj _ ((Bo.mp hp).elim (λz=>Df _ (Df _ z)) λz=>Bj _ z));have a4:=I4.pin (acc,o) (Bj _ (Df _ (Bj _ (Ca.mpr rfl))));rw[hb];exact next s4 σ3 H4 P4 α4 I4' ⟨I4'.unpinned,r4,re4,((st.same.trans e2).trans e3).trans e4,(st.pre.trans e3').trans e4',(jF T st2 pl I4').2,a4.2.1,a4.1,B.mono ((e2.trans e3).trans e4) (e3'.trans e4') st.acc⟩ (jF T st2 pl I4').1
  cases run with
  |no env1 S1 S2 _ q1 q2 run=>exact two env1 S1 false S2 q1 q2 λs4 σ3 H4 P4 α4 I4 st4 tn4=>⟨λ_=>hA s4 σ3 H4 P4 α4 o env1 S2 ds hlt st4 tn4 run,λz=>(by cases z)⟩
  |yes env1 S1 S2 env5 ds5 S5 _ q1 q2 q3 run =>
   refine two env1 S1 true S2 q1 q2 λs4 σ3 H4 P4 α4 I4 st4 tn4=>⟨λz=>(by cases z),λ_=>?_⟩
   refine bU (he (pins++yP fp s2.heap) P1 α1 acc env1 env5 S2 S5 ds ds5 s4 (λH hn=>iP (hacc H hn) hne) ⟨σ3,H4,P4,α4,o,I4,st4.rel,st4.env,st4.same,st4.pre,λb hb=>(by cases hb),st4.acn,st4.at',st4.acc⟩ q3) λ_ s5 ⟨σ5,H5,P5,α5,o5,T5⟩=>?_
   exact hA s5 σ5 H5 P5 α5 o5 env5 S5 ds5 hlt ⟨T5.inv.unpinned,T5.rel,T5.env,T5.same,T5.pre,(jF T st2 pl T5.inv).2,T5.acn,T5.at',T5.acc⟩ (jF T st2 pl T5.inv).1 run
 .rw[Ps li] at run
  obtain⟨z,rfl,rfl,rfl⟩:=UX run;refine bU (T.done Y rfl rfl rfl hc i _ s σ H (λ_ _=>Eh) I1 (fp1 H st.fpn) st1 (hit.stop i H P α _ li st.rel z st.same st.pre)) λr s1 ⟨hr,I2⟩=>⟨λ_=>?_,λv hv=>(by rw[hr] at hv;cases hv)⟩
  have a:=_D.Inv.pinned1 I2;exact hD s1 σ H P α o ⟨I2.unpinned,st.rel,st.env,st.same,st.pre,st.fpn,a.2,a.1,st.acc⟩
theorem XR (P:AV)(w:Bk)(m:Ao)(elt:Bd)(gens:Aa Dm)(scope:Di)(pos:Do)(k:Af)(it acc:Ac)(env:Gv):(Au P w).den (.compLoop (xO m elt gens scope pos) k it acc env)=(Wf (xO m elt gens scope pos) k it acc env).onRaise (λx=>do O1 x env;theTreesLotGoes x):=by cases m <;> rfl
theorem XS (A:Bh)(m:Ao)(elt:Bd)(gens:Aa Dm)(scope:Di)(pos:Do)(k:Af)(it acc:Ac)(env:Gv):A.under (.compLoop (xO m elt gens scope pos) k it acc env)=A:=by cases m <;> rfl
theorem cQ {kk:DK}{s:Ag}{σ:_L.St}{H P:Hp}{ds0:Aa D}{o:Bq}(hc:Y.calm=true)(hx:Y.xe=λ_ _=>Eh)(hgk:gens[k]? = Ab ⟨tg,iter,ifs,0⟩)(has:∀ g',gens[k+1]? = Ab g'->g'.is_async=0)
  (T:Turn Y.prog Y.w Y.K tg J fp it tn) (hit:ItD2 Y.K J P1 α1 o' items) (hg:PG Y tg (tDG Y g)) (ht:PTs Y ifs t) (he:PK B Y (λacc=>xR B.m elt gens scope pos k acc Y.env) kk) (hacc:∀ H:Hp,H acc=none->zX Y pins H acc) (hfp:∀ H:Hp,(∀ b∈fp,H b=none)->∀ b∈fp,zX Y pins H b) (hne:acc ∉ fp)
  (st:TurnSt B Y pins P1 α1 fp acc env S ds0 s σ H P α o) (st0:tn 0 s.heap) (run:goL o' g t kk items env S ds0=.ok (envF,dsF) SF)
  (hR:∀ s' σ' H' P' α' o',TurnSt B Y pins P1 α1 fp acc envF SF dsF s' σ' H' P' α' o'->R (.ok .next) s') :
  Hi (Au Y.prog Y.w) Y.A (.compLoop (xO B.m elt gens scope pos) k (.ref it) (.ref acc) Y.env) R s:=by
 refine codeAny_loop rfl (LpI B Y pins P1 α1 fp acc tn (goL o' g t kk) items (envF,dsF) SF) (λn s hI=>?_) items.length ⟨0,σ,H,P,α,o,env,S,ds0,rfl,Hn _,st,st0,run⟩;obtain⟨i,σ,H,P,α,o,env,S,ds,hn,hi,st,st1,run⟩:=hI;subst hn;rw[XR,XS];refine wpAny_noted (GP (m:=B.m) hgk has (Qa:=λs'=>∃ m,m<items.length-i/\LpI B Y pins P1 α1 fp acc tn (goL o' g t kk) items (envF,dsF) SF m s') (Qd:=R (.ok .next)) (λ_ h=>⟨rfl,h⟩) (λ_ h=>h) ?_);exact cR hc hx T hit hg ht he hacc hfp hne hi st st1 run (λs' σ' H' P' α' o1 env1 S' ds' hlt st' tn' run'=>⟨_,Nat.sub_succ_lt_self _ _ hlt,i+1,σ',H',P',α',o1,env1,S',ds',rfl,hlt,st',tn',run'⟩) hR
set_option tactic.hygienic true in
theorem KH (hx:Y.xe=λ_ _=>Eh)(hlast:gens[k+1]? = none)(he:PE Y elt (tD Y fe)):PK accL Y (λacc=>xR false elt gens scope pos k acc Y.env) (xH fe):=by
 intro pins P1 α1 acc env env' S S' ds ds' s hacc ⟨σ,H,P,α,o,st⟩ run;show Ar _ _ (xR false elt gens scope pos k (.ref acc) Y.env) _ _ s;unfold xR;rw[hlast];dsimp only[emX];unfold xH at run;cases q3:fe env S with
 |bad=>rw[q3] at run;cases run
 |ex c z S'=>rw[q3] at run;cases run
 |ok d5 S5 =>
  rw[q3,Res.bind_ok] at run
  split at run
  .rename_i hlen
   cases run;have fA:=hacc H st.acn;have I1:=_D.Inv.pin1 st.inv fA st.at' (accL.cell st.acc);refine Ai (bU (hx▸H8 he I1 st.rel st.env q3) λu5 s5 ⟨v5,H5,P5,α5,G5⟩=>?_);have J:=_D.Inv.pinned1 G5.inv;have J1:=G5.inv.unpinned;obtain⟨J4,J5⟩:=J;obtain⟨its,n5,vs,ho,rvs,rps,hz⟩:=st.acc;subst ho;have hlen':vs.length=ds.length:=rps.length.symm;have hl2:=rvs.length;refine Ai (OR F.slot_list_append ⟨_,J4,rfl⟩ F.entry_list_append (F.args_list_append_2 _ _) (PySem.list_append acc its.toArray n5 u5 (by rw[Bf];rw[<- zQ];lia)) ⟨J4,?_⟩)
   have q:=PySem.IsL.update J4 (·.push u5)
   have fA5:=hacc H5 J5;have keep:∀ b o,b≠acc->s5.heap.get? b=Ab o->(s5.heap.update acc (Gn (·.push u5))).get? b=Ab o:=λb o hb e=>(Hb s5.heap _ (Fa hb)).trans e
   have I6:=J1.turned (t':=s5.toks) keep J5 fA5.2.1 fA5.2.2.2.1 fA5.2.2.2.2.1 fA5.2.2.2.2.2;refine Ap ⟨σ,H5,P5,α5,_,I6,G5.rel,G5.env,st.same.trans G5.same,st.pre.trans G5.pre,λb hb=>(by simp at hb),J5,q,?_⟩
   refine⟨its++[u5],_,vs++[v5],by simp <;> rfl,rvs.append (.cons G5.val .nil),?_,by simp;lia⟩
   exact(qE.mono G5.same G5.pre _ _ rps).append (.cons G5.rep .nil)
  .cases run
end
theorem lK {prog:AV}{w:Bk}{A:Bh}{s:Ag}{elt:Bd}{gens:Aa Dm}{scope:Di}{pos:Do}{k:Af}{it acc:Ac}{env:Gv}{g:Dm}{m:Ao}(hg:gens[k]? = Ab g)(ha:g.is_async=0)
  (h0:Hi (Au prog w) A (.compLoop (xO m elt gens scope pos) k it acc env) R s)
  (h:Ar (Au prog w) A (OL it) (λit' s'=>Hi (Au prog w) A (.compLoop (xO m elt gens scope pos) k it' acc env) R s') (notedBy (Au prog w) A env λx s'=>R (.error x) s') s) :
  Hi (Au prog w) A (.compStart (xO m elt gens scope pos) k it acc env) R s:=by
 refine codeAny_of_tree ?_;have e1:(Au prog w).den (.compStart (xO m elt gens scope pos) k it acc env)=(compStart (xO m elt gens scope pos) k it acc env).onRaise (λx=>do O1 x env;O0 theWindowsPlace):=by cases m <;> rfl
 have e2:A.under (.compStart (xO m elt gens scope pos) k it acc env)=A:=by cases m <;> rfl
 have e3:(Xx (xO m elt gens scope pos) k it acc env).quiet=true/\∀ it',(Xx (xO m elt gens scope pos) k it' acc env).quiet=true:=by cases m <;> exact⟨rfl,λ_=>rfl⟩
 rw[e1,e2];refine wpAny_notedAt ?_;have hcl:clausesOf (xO m elt gens scope pos)=gens:=by cases m <;> rfl
 have e0:(g.is_async != 0)=false:=by rw[ha];rfl
 unfold compStart;simp only[hcl,hg,Option.elim,e0,Cd,Ff];refine Ai (wpAny_askSetting (wpAny_ite ?_))
 split
 .exact Ap (And.intro e3.1 h0)
 .refine Ai (Gk ?_)
  exact Ai (Lq (Ai (Gj h (λit' s' h'=>Ap (And.intro (e3.2 _) h')) λ_ _ x=>x)))
noncomputable def mkM (m:Ao)(r:Res (qD × Aa D)):Res D:=match r with
 |.ok p S2=>if m then .ok (.loc S2.length) (S2++[.lst p.2]) else .ok (.lst p.2) S2
 |_=>.bad
def xC (m:Ao)(cap:Aa (Al Af))(fi:DI2)(g:DG)(t:DT)(k:DK):DE:=λenv S=>(fi env S).bind λp S1=>mkM m (goL p.1 g t k p.2 (wL cap env) S1 [])
section
variable {X:Cx}{elt tg iter:Bd}{ifs:Aa Bd}{scope:Di}{pos:Do}{N':Aa An}{cap:Aa (Al Af)}{fi:DI2}{g:DG}{t:DT}{kk:DK}{qL:Aa Dm}{mm:Ao}
theorem M2 {P:Hp}{r:Res (qD × Aa D)}{Ok:D->Sto->Prop}(h:qJ X P α (mkM mm r) Ok):∃ envF ds SF,r=.ok (envF,ds) SF/\(if mm then Ok (.loc SF.length) (SF++[.lst ds]) else Ok (.lst ds) SF):=by
 cases r with
 |ok p S =>
  obtain⟨envF,ds⟩:=p;refine⟨envF,ds,S,rfl,?_⟩;cases mm <;> exact h
 |ex c x S=>exact Am h
 |bad=>exact Am h
theorem X2 {pins:Aa (Ad × Bq)}{σ:_L.St}{P1:Hp}{α1:Aa Ad}{acc:Ad}{s:Ag}{Q:VK}(c:pK X pins σ P1 α1 ds SF acc C s)(ok:if mm then OkV X P1 α1 Q (.loc SF.length) (SF++[.lst ds]) else OkV X P1 α1 Q (.lst ds) SF):EP X pins σ Q (.ref acc) s:=by
 cases mm with
 |false=>exact UM c ok
 |true =>
  obtain⟨H',P',α',vs,I,r,hn,e1,e2,rp,_⟩:=c;exact⟨.ref acc,_,I,rfl,tE r hn rp λv H2 P2 α2 r2 q1 q2 q3=>ok v H2 P2 α2 r2 (e1.trans q1) (e2.trans q2) q3⟩
theorem iI {M:Jl}{A:Bh}{E:Ac->Ag->Prop}{s:Ag}{globals:Ad}{closure:Aa (An × Ad)}{qual:An}{env:Gv}{Q:Gv->Ag->Prop}
  (hQ:Q (newEnv scope s.heap.objs.size globals (Fx (s.heap.objs.size+1) scope.names closure) qual none .none (Ab env) Ng) { s with heap:=Ut (s.heap.push { cls:=.type "dict",data:=.dict #[] }) scope.names }) :
  Ar M A (Rh scope globals closure [] qual none .none (Ab env)) Q E s:=by
 simp only[Rh,Tn,Cq];refine Ai (wpAny_alloc ?_);refine Ai (wpAny_layCells _ (λname kind cells=>by cases hkc:kind == Lz <;> simp[hkc]) _ _ _ _ ?_)
 rw[show ({ s with heap:=s.heap.push { cls:=.type "dict",data:=.dict #[] } } : Ag).heap.objs.size=s.heap.objs.size+1 from Et ..]
 refine Ai ?_;rw[Lc];exact Ap (Ap hQ)
theorem rA {B:Acc}{o0:Bq}{pins:Aa (Ad × Bq)}{σ:_L.St}{H2 P1:Hp}{α1:Aa Ad}{s2:Ag}{S1:Sto}{items:Aa D}{it:Ad}{fp:Aa Ad}{tn:Af->Bc->Prop}{J:It}{E:Ac->Ag->Prop}{RR:Ac->Ad->Vf->Ag->Prop}
  (hc:X.calm=true) (S:CompSc X.env.scope X.N scope N' cap) (has:∀ g',(⟨tg,iter,ifs,0⟩::qL:Aa Dm)[0+1]? = Ab g'->g'.is_async=0)
  (hg:∀ cl C ex s₀ H₀,PG (zG X N' scope cl C ex s₀ H₀) tg (tDG (zG X N' scope cl C ex s₀ H₀) g))
  (ht:∀ cl C ex s₀ H₀,PTs (zG X N' scope cl C ex s₀ H₀) ifs t) (he:∀ cl C ex s₀ H₀,PK B (zG X N' scope cl C ex s₀ H₀) (λacc=>xR B.m elt (⟨tg,iter,ifs,0⟩::qL) scope pos 0 acc (zG X N' scope cl C ex s₀ H₀).env) kk)
  (I2:Inv X pins σ H2 s2) (r:Rel X.K H2 P1 α1 S1) (re:qZ X.K P1 α1 σ env) (T:Turn X.prog X.w X.K tg J fp it tn) (st0:tn 0 s2.heap) (hf:∀ b∈fp,zX X pins H2 b) (hit:ItD2 X.K J P1 α1 o' items) (run:goL o' g t kk items (wL cap env) S1 [] = .ok (envF,ds) SF)
  (h0:B.O X.K P1 α1 [] o0) (hg0:o0.isFreed=false) (hRR:∀ acc C s',s2.heap.objs.size<=acc->(∃ m,s'.heap.Ns C m)->s2.heap.objs.size<=C->acc≠C->(∃ cl σ' H' P' α' o',TurnSt B (zG X N' scope cl C fp s2 H2) [] P1 α1 fp acc envF SF ds s' σ' H' P' α' o')->RR (.ref acc) C (.ok .next) s') :
  Ar (Au X.prog X.w) X.A (Rh scope X.env.globals (wC X.env.cells scope.names []) [] X.env.qual none .none (Ab X.env)) (λcenv s₄ =>
   Hi (Au X.prog X.w) X.A (.compStart (xO B.m elt (⟨tg,iter,ifs,0⟩::qL) scope pos) 0 (.ref it) (.ref s2.heap.objs.size) { cenv with scope:=relabel scope X.env }) (RR (.ref s2.heap.objs.size) cenv.locals) s₄) E { s2 with heap:=s2.heap.push o0 }:=by
 have hlt:∀ b∈fp,b<s2.heap.objs.size:=λb hb=>by
  obtain⟨o,e,_⟩:=T.obj 0 _ st0 b hb;exact Ay e
 refine iI ?_;dsimp only;generalize hH2:s2.heap.push o0=Hh;have hsz:Hh.objs.size=s2.heap.objs.size+1:=by rw[<- hH2,Et]
 have hC:s2.heap.objs.size<=Hh.objs.size:=by rw[hsz];exact Yz _
 have hne:s2.heap.objs.size≠Hh.objs.size:=by rw[hsz];exact Bs (Mb _)
 have kp:∀ b o,Hh.get? b=Ab o->(Ut (Hh.push { cls:=.type "dict",data:=.dict #[] }) scope.names).get? b=Ab o:=λb o e=>Wg _ _ b o (Ak _ e);have hns₁:(Ut (Hh.push { cls:=.type "dict",data:=.dict #[] }) scope.names).Ns Hh.objs.size (λ_=>none):=(Heap.Ns.new Hh (.type "dict")).keeps (Wg _ _);have co:=cellsFrom_ok scope.names (Hh.push { cls:=.type "dict",data:=.dict #[] }) (Hh.objs.size+1) [] ⟨λ_ _ hm=>(nomatch hm),Oy⟩ (by rw[Et];exact Aq _)
 rw[Et] at co;generalize hh₁:Ut (Hh.push { cls:=.type "dict",data:=.dict #[] }) scope.names=h₁ at kp hns₁ co ⊢;have keep:∀ b o,s2.heap.get? b=Ab o->h₁.get? b=Ab o:=λb o e=>kp b o (hH2▸Ak _ e);have hacc:h₁.get? s2.heap.objs.size=Ab o0:=kp _ _ (hH2▸Bb _ hg0);have I4:∀ tk,Inv (zG X N' scope (kR X scope Hh.objs.size) Hh.objs.size fp s2 H2) [] (yX cap σ) H2 { s2 with heap:=h₁,toks:=tk }:=λtk =>
  ZK (s4:={ s2 with heap:=h₁,toks:=tk }) S I2 hf hlt hC hns₁ rfl rfl keep co
 have loop:∀ tk,Hi (Au X.prog X.w) X.A (.compLoop (xO B.m elt (⟨tg,iter,ifs,0⟩::qL) scope pos) 0 (.ref it) (.ref s2.heap.objs.size) (compEnvC scope (kR X scope Hh.objs.size) Hh.objs.size X.env)) (RR (.ref s2.heap.objs.size) Hh.objs.size) { s2 with heap:=h₁,toks:=tk }:=λtk=>by
  refine cQ (B:=B) (kk:=kk) (o':=o') (Y:=zG X N' scope (kR X scope Hh.objs.size) Hh.objs.size fp s2 H2) (pins:=[]) (fp:=fp) (acc:=s2.heap.objs.size) (P1:=P1) (α1:=α1) (σ:=yX cap σ) (H:=H2) (P:=P1) (α:=α1) (o:=o0) hc rfl rfl has T hit
   (hg _ _ _ _ _) (ht _ _ _ _ _) (he _ _ _ _ _) (λH hn=>?_) (λH hn b hb=>?_) (λhm=>Dr _ (hlt _ hm)) ⟨I4 tk,r,Q7 re cap,qF.refl _,AU _,λb hb=>(hf b hb).1,I2.hok.fresh (Aq _),hacc,h0⟩ (T.keep _ _ _ st0 λb hb o e=>keep b o e) run λs' σ' H' P' α' o' st=>?_
  .refine⟨hn,hne,λhm=>?_,.inr (Aq _),λx c h z=>?_,λp hp=>absurd (show p∈([]:Aa (Ad × Bq)) from hp) (by simp)⟩
   .obtain⟨_,o,ho,_⟩:=I2.stack.mem hm
    exact Dr _ (Ay ho)
   .rcases x5 S I2.ok h with⟨m,_⟩|⟨m,_⟩
    .exact Dr _ (Kn hC (z▸(co.empty x c m).2))
    .obtain⟨v,ob,hob,_⟩:=I2.cell x c m
     rw[z] at hob;exact Dr _ (Ay hob)
  .obtain⟨_,h1,h2,h3,h4,h5⟩:=hf b hb
   refine⟨hn b hb,Bs (Aw (hlt b hb) hC),λhm=>?_,.inl hb,λx c h=>(by
    rcases x5 S I2.ok h with⟨m,_⟩|⟨m,_⟩
    .exact Fa (Bs (Jj (Aw (hlt b hb) hC) (co.empty x c m).2))
    .exact h4 x c m),λp hp=>absurd (show p∈([]:Aa (Ad × Bq)) from hp) (by simp)⟩
   rcases Bg.mp (I2.stkSub b hm) with z|z
   .exact h1 z
   .exact h2 z
  .obtain⟨m,hm,_⟩:=st.inv.loc
   exact hRR _ _ s' (Aq _) ⟨m,hm⟩ hC hne ⟨_,_,_,_,_,_,st⟩
 exact lK (k:=0) rfl rfl (loop _) (T.self X.A 0 _ _ _ (T.keep _ _ _ st0 λb hb o e=>keep b o e) (loop _))
theorem ZR (hc:X.calm=true)(S:CompSc X.env.scope X.N scope N' cap)(hi:PI X tg iter (tDI2 X fi))
  (hg:∀ cl C ex s₀ H₀,PG (zG X N' scope cl C ex s₀ H₀) tg (tDG (zG X N' scope cl C ex s₀ H₀) g))
  (ht:∀ cl C ex s₀ H₀,PTs (zG X N' scope cl C ex s₀ H₀) ifs t) (has:∀ g',(⟨tg,iter,ifs,0⟩::qL:Aa Dm)[0+1]? = Ab g'->g'.is_async=0) (he:∀ cl C ex s₀ H₀,PK accL (zG X N' scope cl C ex s₀ H₀) (λacc=>xR false elt (⟨tg,iter,ifs,0⟩::qL) scope pos 0 acc (zG X N' scope cl C ex s₀ H₀).env) kk)
  (hs:∀ x,Gq iter X.env x=pure x:=by intro _;rfl):PE X (.ListComp elt (⟨tg,iter,ifs,0⟩::qL) scope pos) (tD X (xC mm cap fi g t kk)):=by
 intro pins s σ H Q I h;obtain⟨P,α,env,S0,r,re,af⟩:=h;rw[eval_ListComp];have af':qJ X P α ((fi env S0).bind λp S1=>mkM mm (goL p.1 g t kk p.2 (wL cap env) S1 [])) (OkV X P α Q):=af;refine wpAny_comprehension_free (use:=none) rfl hs (VW S I.ok) S.kind S.names ?_;refine thn (hi pins s σ H (λJ H1=>∃ (P1:Hp) (α1:Aa Ad) (p:Al (Af × MO) × Aa _D.D) (S1:Sto),Rel X.K H1 P1 α1 S1/\qF P P1/\α<+:α1/\ItD2 X.K J P1 α1 p.1 p.2/\qJ X P α (mkM mm (goL p.1 g t kk p.2 (wL cap env) S1 [])) (OkV X P α Q)) I ⟨P,α,env,S0,r,re,?_⟩) λxv s1 h1=>thn h1 λitv s2 h2=>?_
 .cases q:fi env S0 with
  |bad=>rw[q] at af';exact af'
  |ex c x S'=>rw[q] at af';exact af'
  |ok p S1=>rw[q] at af';exact λJ H1 P1 α1 r1 e1 e2 it=>⟨P1,α1,p,S1,r1,e1,e2,it,af'⟩
 obtain⟨it,fp,tn,J,H2,rfl,I2,T,st0,hf,P1,α1,p,S1,r1,e1,e2,hit,af1⟩:=h2;obtain⟨envF,ds,SF,run,ok⟩:=M2 af1;refine Cz (rA (B:=accL) (o0:={ cls:=.type "list",dict:=none,data:=.seq ([] : Aa Ac).toArray }) (RR:=λacc C=>compPost (Au X.prog X.w) X.A X.xe none (EP X pins σ Q) acc C) hc S has hg ht he I2 r1 (re.mono e1 e2) T st0 hf hit run ⟨[],0,[],rfl,.nil,.nil,Hn _⟩ rfl ?_);intro acc C s' hA ⟨m,hm⟩ hC hne ⟨cl,σf,Hf,Pf,αf,of,stf⟩;have fin:∀ h',Hs C s'.heap h'->pK X pins σ P1 α1 ds SF acc C { s' with heap:=h' }:=λh' sb=>ZJ I2 hf rfl hC hA hne stf sb
 refine⟨m,hm,λh' sb=>X2 (mm:=mm) (fin h' sb) ?_⟩;cases mm with
 |false=>exact λv H3 P3 α3 r3 q1 q2 q3=>ok v H3 P3 α3 r3 (e1.trans q1) (e2.trans q2) q3
 |true=>exact λv H3 P3 α3 r3 q1 q2 q3=>ok v H3 P3 α3 r3 (e1.trans q1) (e2.trans q2) q3
end
section
variable {X:Cx}
noncomputable def xG:Aa D->Al (Aa Aj)
 |[]=>Ab []
 |.int i::r=>(xG r).map (i::·)
 |_::_=>none
theorem j8 (ns:Aa Aj):xG (ns.map D.int)=Ab ns:=by
 induction ns with
 |nil=>rfl
 |cons n r ih=>exact congrArg (Option.map (n::·)) ih
theorem bM:∀ {ds:Aa D} {ns:Aa Aj},xG ds=Ab ns->ds=ns.map D.int
 |[],ns,h=>by cases h;rfl
 |d::r,ns,h=>by
  cases d with
  |int i =>
   obtain⟨m,h1,rfl⟩:=Cg.mp (show (xG r).map (i::·)=Ab ns from h)
   rw[bM h1];rfl
  |_=>exact nn h
theorem p7 {K:Ah}{P:Hp}:∀ {ns:Aa Aj} {vs:Aa V},qE K P α (ns.map D.int) vs->vs=ns.map V.int
 |[],vs,r=>by rw[r.nil_inv];rfl
 |n::ns,vs,r=>by
  obtain⟨w,ws,rfl,p,t⟩:=r.cons_inv;simp only[Rep] at p;rw[p,p7 t];rfl
end
section
variable {X:Cx}
noncomputable def mV:DF:=λds S=>match ds with
 |[d]=>match (zH d).bind xG with
  |some ns=>.ok (.int ns.sum) S
  |none=>.bad
 |_=>.bad
theorem UR {P:Hp}{Ok:D->Sto->Prop}(h:qJ X P α (mV ds S) Ok):∃ d xs ns,ds=[d]/\ItV d xs/\xG xs=Ab ns/\Ok (.int ns.sum) S:=by
 obtain⟨d,rfl,h1⟩:=fU (X:=X) (β:=D) (g:=λd=>match (zH d).bind xG with|some ns=>.ok (D.int ns.sum) S|none=>.bad) h
 cases hb:(zH d).bind xG with
 |none=>rw[hb] at h1;exact Am h1
 |some ns =>
  rw[hb] at h1;obtain⟨xs,hx,hns⟩:=Dq.mp hb;exact⟨d,xs,ns,rfl,itV hx,hns,h1⟩
theorem eD {ns:Aa Aj}(rv:qN (ns.map V.int) us){i:Af}{v:Ac}(h:us.toArray[i]? = Ab v):∃ t,v=.int (ns.getD i 0) t:=by
 have hu:us[i]? = Ab v:=by simpa using h
 have hl:=rv.length;rw[Ba] at hl;have hi:i<us.length:=(Bl.mp hu).1;have hn:i<ns.length:=by lia
 obtain⟨u,h1,h2⟩:=rv.get (i:=i) (x:=.int ns[i]) (by rw[Dt,AW hn];rfl)
 cases h1.symm.trans hu;obtain⟨t,rfl⟩:=h2;exact⟨t,by simp[Qq,hn]⟩
theorem PR (hc:X.calm=true):xJ X (.builtin "sum") mV:=by
 intro pins σ H s P α S vs us ds Q I r rv rp af;obtain⟨d,xs,ns,ed,hd,hns,ok⟩:=UR af;clear af;subst ed;obtain⟨v,u,rfl,rfl,p,q⟩:=vN rp rv;clear rp rv;have fin:∀ {o:Bq} (h':Bc) (tk t':Af),(∀ b ob,b ∉ [s.heap.objs.size]->(s.heap.push o).get? b=Ab ob->h'.get? b=Ab ob)->EP X pins σ Q (.int (preSum (λi=>ns.getD i 0) ns.length) t') { s with heap:=h',toks:=tk }:=
  λ{o} h' tk t' k=>⟨.int _,H,nB I k,⟨t',rfl⟩,xr ok r (by simp only[Rep];rw[preSum_getD,List.take_length])⟩
 clear ok;have hh:X.A.in1.handled=none:=I.ok.hd hc;cases hd with
 |tup ed =>
  subst ed;obtain⟨a,ws,its,rfl,sq,t,rvi,ht,hl,_⟩:=kM I r p;cases (show u=Bn a from q)
  cases bM hns;cases p7 t;have hlen:its.toArray.size=ns.length:=by have:=rvi.length;rw[Ba] at this;rw[Bf,this]
  have hne:a≠s.heap.objs.size:=by obtain⟨o,e,_⟩:=ht;exact Bs (Ay e)
  have W:=Yw (prog:=X.prog) (w:=X.w) hh s.heap.objs.size a hne its.toArray;have hT:∀ o,(s.heap.push o).IsTuple a its.toArray:=λo=>by obtain⟨o,e,c⟩:=ht;exact⟨o,Ak _ e,c⟩
  have ht':s.heap.IsTuple a its.toArray:=ht;refine call_sum_walkG (Hj ht' ⟨s.heap.objs.size,_,_,_,_,_,λi=>ns.getD i 0,rfl,W,⟨⟨_,Bb _ rfl,rfl,rfl⟩,hT _⟩,?_,λi v h=>eD rvi h,λh' tk t' k=>?_⟩)
  .intro b hb
   have:b<s.heap.objs.size+1:=by
    simp only[Bg,Ed,IM] at hb;rcases hb with rfl|rfl
    .exact Mb _
    .obtain⟨o,e,_⟩:=ht
     exact Uu (Ay e)
   rw[Et];exact this
  .rw[hlen]
   exact fin h' tk t' k
 |lst ed =>
  subst ed;obtain⟨a,ws,its,n,rfl,sq,t,rvi,ht,hl,_⟩:=vS I r p;cases (show u=Bn a from q)
  cases bM hns;cases p7 t;have hL:s.heap.IsList a its.toArray:=⟨_,ht,rfl,n,rfl⟩;have hlen:its.toArray.size=ns.length:=by have:=rvi.length;rw[Ba] at this;rw[Bf,this]
  have hne:a≠s.heap.objs.size:=Bs (Ay ht);have W:=Ze (prog:=X.prog) (w:=X.w) hh s.heap.objs.size a hne its.toArray;have hL':∀ o,(s.heap.push o).IsList a its.toArray:=λo=>⟨_,Ak _ ht,rfl,n,rfl⟩;refine call_sum_walkG (Gr hL ⟨s.heap.objs.size,_,_,_,_,_,λi=>ns.getD i 0,rfl,W,⟨⟨_,Bb _ rfl,rfl,rfl⟩,hL' _⟩,?_,λi v h=>eD rvi h,λh' tk t' k=>?_⟩)
  .intro b hb
   have:b<s.heap.objs.size+1:=by
    simp only[Bg,Ed,IM] at hb;rcases hb with rfl|rfl
    .exact Mb _
    .exact Uu (Ay ht)
   rw[Et];exact this
  .rw[hlen]
   exact fin h' tk t' k
end
section
variable {X:Cx}
noncomputable def pO:DF:=λds S=>match ds with
 |[.int a,.int b]=>.ok (.int (if b>a then b else a)) S
 |_=>.bad
noncomputable def pP:DF:=λds S=>match ds with
 |[.int a,.int b]=>.ok (.int (if b<a then b else a)) S
 |_=>.bad
inductive Two (ds:Aa D):Prop
 |no (h:∀ (g:Aj->Aj->Res D),(match ds with|[.int a,.int b]=>g a b|_=>.bad)=.bad)
 |of (a b:Aj) (ed:ds=[.int a,.int b])
theorem NZ (ds:Aa D):Two ds:=by
 cases ds with
 |nil=>exact .no λ_=>rfl
 |cons d ds =>
  cases d with
  |int a =>
   cases ds with
   |nil=>exact .no λ_=>rfl
   |cons e ds =>
    cases e with
    |int b =>
     cases ds with
     |nil=>exact .of a b rfl
     |cons _ _=>exact .no λ_=>rfl
    |_=>exact .no λ_=>rfl
  |_=>exact .no λ_=>rfl
theorem VR (hc:X.calm=true):xJ X (.builtin "max") pO:=by
 intro pins σ H s P α S vs us ds Q I r rv rp af;cases NZ ds with
 |no h=>exact(bZ (X:=X) (r:=pO ds S) (h _) af).elim
 |of a b ed =>
  subst ed;obtain⟨v,w,u,x,rfl,rfl,p,p',q,q'⟩:=u9 rp rv;cases zF p;cases zF p';obtain⟨t,rfl⟩:=q;obtain⟨t',rfl⟩:=q';refine max_two_ints (I.ok.hd hc) λh' tk hk=>?_;have I':Inv X pins σ H { s with heap:=h',toks:=tk }:=I.kept (t':=tk) hk
  by_cases hb:b>a
  .rw[AS hb]
   exact⟨.int b,H,I',⟨t',rfl⟩,xr af r (by simp only[Rep];rw[AS hb])⟩
  .rw[AX hb]
   exact⟨.int a,H,I',⟨t,rfl⟩,xr af r (by simp only[Rep];rw[AX hb])⟩
theorem VS (hc:X.calm=true):xJ X (.builtin "min") pP:=by
 intro pins σ H s P α S vs us ds Q I r rv rp af;cases NZ ds with
 |no h=>exact(bZ (X:=X) (r:=pP ds S) (h _) af).elim
 |of a b ed =>
  subst ed;obtain⟨v,w,u,x,rfl,rfl,p,p',q,q'⟩:=u9 rp rv;cases zF p;cases zF p';obtain⟨t,rfl⟩:=q;obtain⟨t',rfl⟩:=q';refine min_two_ints (I.ok.hd hc) λh' tk hk=>?_;have I':Inv X pins σ H { s with heap:=h',toks:=tk }:=I.kept (t':=tk) hk
  by_cases hb:b<a
  .rw[AS hb]
   exact⟨.int b,H,I',⟨t',rfl⟩,xr af r (by simp only[Rep];rw[AS hb])⟩
  .rw[AX hb]
   exact⟨.int a,H,I',⟨t,rfl⟩,xr af r (by simp only[Rep];rw[AX hb])⟩
end
noncomputable def CS (f:DE):DI:=λenv S=>(f env S).bind λd S1=>match d with
 |.loc n=>match S1[n]? with
  |some (.dct kvs)=>.ok (kvs.map (·.2)) (S1.set n .dead)
  |_=>.bad
 |_=>.bad
section
variable {X:Cx}{tg o:Bd}{fo:DE}{apos cpos:Do}
theorem L3 {n:Af}{kvs:Aa (Key × D)}(h:S[n]? = Ab (.dct kvs)):tyD (.loc n) S=Ab "dict":=by
 show (match S[n]? with|some (.lst _)=>Ab "list" | some (.dct _)=>Ab "dict" | _=>none)=_
 rw[h]
end
section
variable {X:Cx}
theorem sG {K:Ah}{P:Hp}(r:qE K P α ds vs):∀ k:Af,qE K P α (Bw k ds).flatten (Bw k vs).flatten
 |0=>by simpa using qE.nil
 |k+1=>by
  rw[Fu,Fu,HT,HT];exact r.append (sG r k)
variable {e:Bd}{fa:DE}{p1 p2 pos1 pos2:Do}
end
structure QI2 (X:Cx)(tg it:Bd)(f:DI2):Prop where
 get:PI X tg it (tDI2 X f)
structure QK (B:Acc)(Y:Cx)(step:Ac->IT Nh)(k:DK):Prop where
 get:PK B Y step k
section
variable {B:Acc}{X Y:Cx}{tg it e o elt iter ie:Bd}{es ifs qL:Aa Bd}{fa fo fe fi:DE}{fA:DA}{fI:DI}{f2:DI2}{g:DG}{t:DT}{kk:DK}{p pos:Do}{n k:Af}{x:An}{cm:Ao}{F:DF}{f:DS}{gens grest:Aa Dm}{scope:Di}{N':Aa An}{cap:Aa (Al Af)}{mm:Ao}
theorem oY (h:QI X tg it fI):QI2 X tg it (vL fI):=⟨UC h.1⟩
theorem NA (h:QE X e fa):QI2 X tg e (dIt fa):=⟨DC h.1⟩
theorem eS (hx:Y.xe=λ_ _=>Eh)(hlast:gens[k+1]? = none)(he:QE Y elt fe):QK accL Y (λacc=>xR false elt gens scope pos k acc Y.env) (xH fe):=⟨KH hx hlast he.1⟩
theorem WN (hc:X.calm=true)(S:CompSc X.env.scope X.N scope N' cap)(hi:QI2 X tg iter f2)(hg:∀ cl C ex s₀ H₀,QG (zG X N' scope cl C ex s₀ H₀) tg g)(ht:∀ cl C ex s₀ H₀,QTs (zG X N' scope cl C ex s₀ H₀) ifs t)
  (has:∀ g',(⟨tg,iter,ifs,0⟩::grest:Aa Dm)[0+1]? = Ab g'->g'.is_async=0)
  (he:∀ cl C ex s₀ H₀,QK accL (zG X N' scope cl C ex s₀ H₀) (λacc=>xR false elt (⟨tg,iter,ifs,0⟩::grest) scope pos 0 acc (zG X N' scope cl C ex s₀ H₀).env) kk) (hs:∀ x,Gq iter X.env x=pure x) :
  QE X (.ListComp elt (⟨tg,iter,ifs,0⟩::grest) scope pos) (xC mm cap f2 g t kk):=
 ⟨ZR hc S hi.1 (λcl C ex s H=>(hg cl C ex s H).1) (λcl C ex s H=>(ht cl C ex s H).1) has (λcl C ex s H=>(he cl C ex s H).1) hs⟩
end
noncomputable def yD (H:Hp):Aa (Ad × HO)->Hp
 |[]=>H
 |p::ps=>yD (upd H p.1 p.2) ps
theorem pZ {b:Ad}:∀ {L:Aa (Ad × HO)} {H:Hp},b ∉ L.map (·.1)->yD H L b=H b
 |[],_,_=>rfl
 |p::ps,H,h=>by
  simp only[Bt,Bg,Xk] at h;show yD (upd H p.1 p.2) ps b=H b;rw[pZ h.2,qH h.1]
theorem bV {a:Ad}{o:HO}:∀ {L:Aa (Ad × HO)} {H:Hp},(L.map (·.1)).Nodup->(a,o)∈L->yD H L a=Ab o
 |p::ps,H,nd,h=>by
  simp only[Bt,Dy] at nd;show yD (upd H p.1 p.2) ps a=Ab o;rcases Bg.mp h with rfl|h
  .rw[pZ nd.1,qX]
  .exact bV nd.2 h
theorem sX {b:Ad}{u:HO}:∀ {L:Aa (Ad × HO)} {H:Hp},yD H L b=Ab u->(b,u)∈L\/H b=Ab u
 |[],_,h=>.inr h
 |p::ps,H,h=>by
  rcases sX (L:=ps) (H:=upd H p.1 p.2) h with h|h
  .exact .inl (AT _ h)
  .by_cases hb:b=p.1
   .subst hb
    rw[qX] at h;cases h;exact .inl (Bp ..)
   .rw[qH hb] at h
    exact .inr h
section
variable {K:Ah}
theorem Rel.pureL:∀ {L:Aa (Ad × HO)} {H P:Hp},(∀ p∈L,H p.1=none)->(L.map (·.1)).Nodup->Rel K H P α S->Rel K (yD H L) (yD P L) α S/\qF P (yD P L)
 |[],_,_,_,_,r=>⟨r,qF.refl _⟩
 |p::ps,H,P,hn,nd,r=>by
  simp only[Bt,Dy] at nd;obtain⟨r1,e1⟩:=r.pure (o:=p.2) (hn p (Bp ..));obtain⟨r2,e2⟩:=Rel.pureL (L:=ps) (λq hq=>by
   have:q.1≠p.1:=λe=>nd.1 (e▸Ce.mpr ⟨q,hq,rfl⟩);rw[qH this];exact hn q (AT _ hq)) nd.2 r1
  exact⟨r2,e1.trans e2⟩
end
section
variable {X:Cx}{pins:Aa (Ad × Bq)}{σ : _L.St}{H:Hp}{s:Ag}
theorem Inv.laidL {L:Aa (Ad × HO)}{t':Af}(I:Inv X pins σ H s)(k:∀ b u,s.heap.get? b=Ab u->h'.get? b=Ab u)(hp:∀ p∈L,s.heap.objs.size<=p.1)(new:∀ p∈L,z9 X.prog X.w (yD H L) h' p.1 p.2) :
  Inv X pins σ (yD H L) { s with heap:=h',toks:=t' }:=by
 have old:∀ b u,H b=Ab u->yD H L b=Ab u:=λb u e=>by
  rw[pZ (L:=L)]
  .exact e
  .intro hb
   obtain⟨p,hp',rfl⟩:=Ce.mp hb;rw[I.hok.fresh (hp p hp')] at e;cases e
 have low:∀ b,b<s.heap.objs.size->yD H L b=H b:=λb hb=>pZ λhm=>by
  obtain⟨p,hp',rfl⟩:=Ce.mp hm;exact absurd (Aw hb (hp p hp')) (Dr _)
 refine I.un ⟨λb u q _ _ _=>k b u q,λb u q _ _ _=>⟨u.slots,k b u q⟩,λb u q n _=>by rw[low b (Ay q)];exact n,λb u q _=>⟨u,k b u q⟩,λb xs q=>old b _ q,λb o xs q=>old b _ q,λb ps q=>⟨#[],by rw[old b _ q];simp⟩⟩ λb u e=>?_
 rcases sX e with hm|hb
 .exact new (b,u) hm
 .exact(I.hok b u hb).stay (λc v _ q=>k c v q) (λc q=>old c _ q) λc xs q=>old c _ q
end
noncomputable def kD:Key->D
 |.inl i=>.int i
 |.inr x=>.str x
theorem FN {K:Ah}{P:Hp}(k:Key):Rep K P α (kD k) (kV k):=by
 cases k <;> simp only[kD,kV,Rep]
theorem YR {k:Key}{u:Ac}(h:jA k u=true):qM (kV k) u:=by
 rcases zR h with⟨i,t,rfl,rfl⟩|⟨x,t,rfl,rfl⟩
 .exact⟨t,rfl⟩
 .exact⟨t,rfl⟩
noncomputable def wA (f:DE):DE:=λenv S=>(f env S).bind λd S1=>match d with
 |.loc n=>match S1[n]? with
  |some (.dct kvs)=>.ok (.lst (kvs.map λp=>.tup [kD p.1,p.2])) S1
  |_=>.bad
 |_=>.bad
theorem i6:El "list" = Ab (.type "list"):=by decide +kernel
noncomputable def sR (as:Aa Ad)(vs:Aa (Key × V)):Aa (Ad × HO):=Ym (λa p=>(a,HO.tup [kV p.1,p.2])) as vs
theorem sS:∀ (as:Aa Ad) (vs:Aa (Key × V)),as.length=vs.length->(sR as vs).map (·.1)=as
 |[],vs,h=>rfl
 |a::as,vs,h=>by
  cases vs with
  |nil=>exact Wd h
  |cons v vs=>exact congrArg (a::·) (sS as vs (Tz h))
theorem sT:∀ {as:Aa Ad} {vs:Aa (Key × V)} {p:Ad × HO},p∈sR as vs->∃ (j:Af) (q:Key × V),as[j]? = Ab p.1/\vs[j]? = Ab q/\p.2=HO.tup [kV q.1,q.2]
 |a::as,v::vs,p,h=>by
  rcases Bg.mp (show p∈(a,HO.tup [kV v.1,v.2])::sR as vs from h) with rfl|h
  .exact⟨0,v,rfl,rfl,rfl⟩
  .obtain⟨j,q,e1,e2,e3⟩:=sT h
   exact⟨j+1,q,by simpa using e1,by simpa using e2,e3⟩
theorem nJ {K:Ah}{P:Hp}:∀ {as:Aa Ad} {kvs:Aa (Key × D)} {vs:Aa (Key × V)},KVs K P α kvs vs->as.length=vs.length->(∀ p∈sR as vs,P p.1=Ab p.2)->qE K P α (kvs.map λp=>D.tup [kD p.1,p.2]) (as.map V.ref)
 |[],[],_,.nil,_,_=>.nil
 |a::as,_,_,.cons (a:=x) (b:=y) (l₁:=xs) (l₂:=ys) z t,hl,h=>by
  refine .cons ?_ (nJ t (by simpa using hl) λp hp=>h p (AT _ hp))
  have h0:=h (a,HO.tup [kV y.1,y.2]) (Bp ..);simp only[Rep];refine⟨a,[kV y.1,y.2],rfl,.inl (.inl h0),.cons ?_ (.cons z.2 .nil)⟩;rw[z.1];exact FN _
 |[],_::_,_,.cons _ _,hl,_=>by simp at hl
theorem iX {κ:Type}:∀ {vs:Aa (κ × V)} {us:Aa (κ × Ac)},KV vs us->∀ {j:Af} {q:κ × V},vs[j]? = Ab q->∃ u,us[j]? = Ab (q.1,u)/\qM q.2 u
 |_,_,.nil,j,q,h=>by simp at h
 |_,_,.cons (a:=x) (b:=y) z t,j,q,h=>by
  cases j with
  |zero =>
   simp at h;subst h;exact⟨y.2,by simp;exact Prod.ext z.1.symm rfl,z.2⟩
  |succ j =>
   obtain⟨u,e1,e2⟩:=iX t (j:=j) (q:=q) (by simpa using h)
   exact⟨u,by simpa using e1,e2⟩
theorem QY (as:Aa Ad):qN (as.map V.ref) (as.map Bn):=by
 induction as with
 |nil=>exact .nil
 |cons a as ih=>exact .cons rfl ih
section
variable {X:Cx}{o:Bd}{fo:DE}{apos cpos pos p2:Do}
set_option tactic.hygienic true in
theorem iG (hc:X.calm=true)(hg:Gl X "list")(hm:X.mg "list" = none)(ho:PE X o (tD X fo))(hbase:Jv o "items" X.env (eval o X.env)=eval o X.env:=by rfl)(hline:(apos.endLine == cpos.line)=true:=by rfl)
  (he:Az [.Call (.Attribute o "items" apos) [] [] cpos] X.env=(false,eval (.Call (.Attribute o "items" apos) [] [] cpos) X.env)::Az [] X.env:=by rfl) :
  PE X (.Call (.Name "list" p2) [.Call (.Attribute o "items" apos) [] [] cpos] [] pos) (tD X (wA fo)):=by
 intro pins s σ H Q I h;obtain⟨P,α,env,S,r,re,af⟩:=h;refine Xr (wX I hg hm i6 (DL ?_ he rfl));rw[he];refine ID (OY hbase hline (thn (zM ho I r re af) λvv s1 ⟨v,H1,P1,α1,d,S1,G1,af1⟩=>?_));cases d with
 |loc n =>
  simp only at af1
  split at af1
  .rename_i kvs hS
   have rp:=G1.rep;have I1:=G1.inv;have r1:=G1.rel;have ht:tyD (.loc n) S1=Ab "dict":=L3 hS;obtain⟨h1,h2⟩:=sU I1 G1.val (sV r1 rp ht (by simp))
   simp only[Rep] at rp;obtain⟨a,rfl,ha⟩:=rp;cases (show vv=Bn a from G1.val)
   obtain⟨vs,z,t⟩:=r1.at' n a _ ha hS;obtain⟨hz,hd,us,rel,dd⟩:=cT I1.hok z;refine⟨"dict","dict.items",Kw,OZ,PySem.F.type_dict_items,h1,h2,Lm rfl (Sy ?_)⟩;refine Tw OZ dd.typeIs PySem.F.entry_dict_items (PySem.F.args_dict_items_1 _) (meets_dict_items (zJ X.prog X.w) a hd) ⟨⟨us,dd⟩,?_⟩;obtain⟨ep,oa,es,hoa,qL⟩:=dd.dictAt;refine IU ?_;have hlu:us.length<=sizeLine:=by rw[<- rel.length];exact hz
   refine PySem.W.kdx_call (s:={ s1 with heap:=s1.heap.push { cls:=.type "dict_items",data:=.fields #[.ref a] } }) (knd:=zJ X.prog X.w) (d:=a) (kvs:=us) (ep:=ep) (I1.ok.hd hc) ⟨_,Bb _ rfl,rfl,rfl⟩ ⟨oa,es,Ak _ hoa,qL⟩ hlu λh' tk acc c as hk hL hlen g hacc=>?_
   have I2:=I1.kept (t':=s1.toks) (h':=s1.heap.push { cls:=.type "dict_items",data:=.fields #[.ref a] }) λb u e=>Ak _ e;have hlv:as.length=vs.length:=by rw[hlen,rel.length]
   let LA:Ad:=(s1.heap.push { cls:=.type "dict_items",data:=.fields #[.ref a] }).objs.size
   let L:Aa (Ad × HO):=sR as vs++[(LA,HO.lst (as.map V.ref))]
   have hfst:L.map (·.1)=as++[LA]:=by simp[L,sS as vs hlv]
   have nd:(L.map (·.1)).Nodup:=by
    rw[hfst,Ia];refine⟨g.rise.imp λhlt=>Bs hlt,by simp,λx hx y hy e=>?_⟩
    have hy':y=LA:=by simpa using hy
    rw[e,hy'] at hx;exact absurd (g.above LA hx) (Dr _)
   have hge:∀ p∈L,(s1.heap.push { cls:=.type "dict_items",data:=.fields #[.ref a] }).objs.size<=p.1:=λp hp=>by
    have:p.1∈as++[LA]:=by rw[<- hfst];exact Ce.mpr ⟨p,hp,rfl⟩
    rcases Bo.mp this with h|h
    .exact Ee (g.above _ h)
    .have:p.1=LA:=by simpa using h
     rw[this];exact Aq _
   have I3:Inv X pins σ (yD H1 L) { s1 with heap:=h',toks:=tk }:=Inv.laidL (s:={ s1 with heap:=s1.heap.push { cls:=.type "dict_items",data:=.fields #[.ref a] } }) (L:=L) (t':=tk) I2 hk hge λp hp=>by
    rcases Bo.mp hp with hp|hp
    .obtain⟨j,q,e1,e2,e3⟩:=sT hp
     obtain⟨u,e4,e5⟩:=iX rel e2;obtain⟨key,k,x,f1,f2,f3⟩:=g.pairs j p.1 e1;rw[e4] at f1;cases f1;rw[e3];exact⟨(by decide:2<=sizeLine),[key,u],.cons (YR f2) (.cons e5 .nil),_,f3,rfl,_,rfl⟩
    .have:p=(LA,HO.lst (as.map V.ref)):=by simpa using hp
     subst this;refine⟨by rw[Ba,hlv];exact hz,as.map Bn,c,QY as,?_⟩
     rw[hL,<- hacc]
   obtain⟨r3,e3⟩:=r1.pureL (L:=L) (λp hp=>I2.hok.fresh (hge p hp)) nd;refine⟨.ref LA,_,I3,rfl,af1 _ _ _ α1 r3 (G1.same.trans e3) G1.pre ?_⟩;have hPa:yD P1 L LA=Ab (HO.lst (as.map V.ref)):=bV nd (by simp[L])
   refine pX (.inl (.inl hPa)) ?_;exact nJ (KVs.mono e3 (AU _) t) hlv λp hp=>bV nd (Df _ hp)
  .exact Am af1
 |_=>exact Am af1
end
section
variable {X:Cx}{tg e o i:Bd}{fa fo fi:DE}{p pos apos cpos:Do}{cm:Ao}{k:Af}
theorem oT (hc:X.calm=true)(hg:Gl X "list")(hm:X.mg "list" = none)(ho:QE X o fo)(hbase:Jv o "items" X.env (eval o X.env)=eval o X.env:=by rfl)(hline:(apos.endLine == cpos.line)=true:=by rfl)
  (he:Az [.Call (.Attribute o "items" apos) [] [] cpos] X.env=(false,eval (.Call (.Attribute o "items" apos) [] [] cpos) X.env)::Az [] X.env:=by rfl) :
  QE X (.Call (.Name "list" p) [.Call (.Attribute o "items" apos) [] [] cpos] [] pos) (wA fo):=⟨iG hc hg hm ho.1 hbase hline he⟩
end
section
variable {X:Cx}{cm:Ao}{k:Af}
theorem E1 (hc:X.calm=true):ZCall X (.builtin "sum") mV:=⟨PR hc⟩
theorem LL (hc:X.calm=true):ZCall X (.builtin "max") pO:=⟨VR hc⟩
theorem LN (hc:X.calm=true):ZCall X (.builtin "min") pP:=⟨VS hc⟩
end
end _D
namespace _S
open PySem
def Rs (xs:AZ Af):Prop:=xs.toList.Pairwise (· < ·)
structure Tb (t:Om):Prop where
 rs:Rs t.place
 dm:t.dummies=#[]
open PySem.SetTable (Probe leap runEnd turns bits)
noncomputable def adv (mask:Af)(p:Wh):Wh:=if p.more>0 then { p with j:=p.j+1,more:=p.more-1 } else { p with j:=(leap mask p.i p.perturb).1,more:=runEnd mask (leap mask p.i p.perturb).1-(leap mask p.i p.perturb).1,i:=(leap mask p.i p.perturb).1,perturb:=(leap mask p.i p.perturb).2 }
noncomputable def it (mask:Af):Af->Wh->Wh
 |0,p=>p
 |n+1,p=>it mask n (adv mask p)
noncomputable def rs (mask i pert:Af):Wh:={ j:=i,more:=runEnd mask i-i,i,perturb:=pert,dummy:=none }
noncomputable def st (mask:Af)(h:Aj):Wh:=rs mask (bits h % (mask+1)) (bits h)
def Msk (mask:Af):Prop:=mask=7\/mask=31\/mask=127\/mask=511\/mask=2047
def Way (t:Om)(p:Wh)(n:Af):Prop:=∀ m,m<n->(it t.mask m p).j∈t.place.toList
end _S
namespace _S
open PySem
open PySem.SetTable (Probe leap runEnd turns bits)
structure Own (mask:Af)(owner:AZ (Al Af))(us:Aa Af):Prop where
 size:owner.size=mask+1
 nd:us.Nodup
 le:∀ u∈us,u<=mask
 at':∀ j k,j<=mask->(owner.getD j (Ab 0)=Ab k↔us[k]? = Ab j)
theorem Own.none {mask:Af}{owner:AZ (Al Af)}{us:Aa Af}(O:Own mask owner us){j:Af}(hj:j<=mask):(owner.getD j (Ab 0)).isNone=true↔j ∉ us:=by
 constructor
 .intro h hm
  obtain⟨k,hk,e⟩:=Fm.mp hm;have:=(O.at' j k hj).mpr (by rw[AW hk,e])
  rw[this] at h;cases h
 .intro h
  cases q:owner.getD j (Ab 0) with
  |none=>rfl
  |some k=>exact absurd (Cn ((O.at' j k hj).mp q)) h
end _S
namespace _S
open PySem
open PySem.SetTable (Probe leap runEnd turns bits)
structure Set0 {K:Type}(is:K->Ac->Prop)(hash:K->Aj)(es:AZ (Aj × Ac))(seen:Aa K):Prop where
 good:∀ e∈es.toList,∃ k,e.1=hash k/\is k e.2
 nd:es.toList.Pairwise λa b=>∀ k,is k a.2->¬ is k b.2
 mem:∀ k,k∈seen↔∃ e∈es.toList,is k e.2
section
open Classical in
theorem dD {K:Type}{is:K->Ac->Prop}:∀ (L:Aa (Aj × Ac)) (U:Aa K),L.Pairwise (λa b=>∀ k,is k a.2->¬ is k b.2)->(∀ e∈L,∃ k∈U,is k e.2)->L.length<=U.length
 |[],U,_,_=>Hn _
 |e::L,U,nd,h=>by
  rw[Gf] at nd;obtain⟨k0,hk0,q0⟩:=h e (by simp)
  have ih:=dD L (U.erase k0) nd.2 λe' he'=>by
   obtain⟨k,hk,q⟩:=h e' (by simp[he'])
   have:k≠k0:=λz=>nd.1 e' he' k0 q0 (z▸q);exact⟨k,(Ro this).mpr hk,q⟩
  rw[OG hk0] at ih;have:0<U.length:=Px hk0;rw[Bv]
  lia
open Classical in
theorem Set0.few {K:Type}{is:K->Ac->Prop}{hash:K->Aj}{es:AZ (Aj × Ac)}{seen U:Aa K}{k:K}(Z:Set0 is hash es seen)(hU:∀ k'∈seen,k'∈U)(hk:k∈U)(hn:k ∉ seen):es.size<U.length:=by
 have:=dD es.toList (U.erase k) Z.nd λe he=>by
  obtain⟨k',_,q⟩:=Z.good e he;have hs:=(Z.mem k').mpr ⟨e,he,q⟩;have hne:k'≠k:=λz=>hn (z▸hs);exact⟨k',(Ro hne).mpr (hU k' hs),q⟩
 rw[OG hk,Bm] at this;have:0<U.length:=Px hk
 lia
end
structure TabT (t:Om)(es:AZ (Aj × Ac)):Prop where
 tb:Tb t
 msk:Msk t.mask
 size:t.place.size=es.size
 le:∀ x∈t.place.toList,x<=t.mask
 few:es.size*5<t.mask*3
 way:∀ (i:Af) (e:Aj × Ac),es[i]? = Ab e->∃ n,t.place[i]? = Ab (it t.mask n (st t.mask e.1)).j/\Way t (st t.mask e.1) n
 plain:t.plain=true
end _S
namespace _S
open PySem
open PySem.SetTable (Probe leap runEnd turns bits)
def Sup (h0 h:Bc):Prop:=∀ b o,h0.get? b=Ab o->h.get? b=Ab o
def isT (prog:AV)(w:Bk)(h0:Bc)(ks:Aa Aj)(v:Ac):Prop:=∃ a,v=.ref a/\IsTupleKey (Rw prog w) h0 ks a
section
variable {prog:AV}{w:Bk}{h0:Bc}
theorem isT.inj {x y:Aa Aj}{v:Ac}(hx:isT prog w h0 x v)(hy:isT prog w h0 y v):x=y:=by
 obtain⟨a,rfl,h1⟩:=hx;obtain⟨b,e,h2⟩:=hy;cases e;exact h1.inj h2
variable {A:Bh}{E:Ac->Ag->Prop}{s:Ag}
end
end _S
namespace _S
open PySem
open PySem.SetTable (Probe leap runEnd turns bits)
@[reducible] def setO (es:AZ (Aj × Ac))(ep:Af)(t:Om):Bq:={ cls:=.type "set",dict:=none,data:=.set es ep t }
end _S
namespace _S
open PySem
open PySem.SetTable (Probe leap runEnd turns bits)
def isI (prog:AV)(w:Bk)(k:Aj)(v:Ac):Prop:=(Rw prog w).is k v=true
section
variable {prog:AV}{w:Bk}{A:Bh}{E:Ac->Ag->Prop}{s:Ag}{S:Ad}{led:Ao}{V:Aa Ac}
set_option tactic.hygienic true in
theorem mZ {k:Aj}{v:Ac}(h:isI prog w k v):∃ t,v=.int k t:=by
 cases v <;> first|(exact absurd h (by rintro⟨⟩)) | skip
 rename_i i t;refine⟨t,?_⟩;have:i=k:=(Rw prog w).inj (.int i t) i k (intKind_is _ _ _ _) h;rw[this]
end
end _S
namespace _S
open PySem
section
variable {prog:AV}{w:Bk}{A:Bh}{E:Ac->Ag->Prop}{s:Ag}
noncomputable def FY (w:Bk):Ao:=!w.params.followText "set-order"
variable {K:Type}{is:K->Ac->Prop}{hash:K->Aj}{U:Aa K}
end
noncomputable def itO (slot i:Af)(S:Ad)(n ep:Af):Bq:={ cls:=.type "set_iterator",data:=.fields #[.int slot 0,.int i 0,.ref S,.int n 0,.int ep 0] }
def At (w:Bk)(I S:Ad)(es:AZ (Aj × Ac))(ep:Af)(t:Om)(i:Af)(h:Bc):Prop:=
 ∃ slot,h.get? I=Ab (itO slot i S es.size ep)/\h.get? S=Ab (setO es ep t)/\(w.params.followText "set-order" = true\/SetTable.below t.place slot=i)
section
variable {prog:AV}{w:Bk}{A:Bh}{E:Ac->Ag->Prop}{s:Ag}{S I:Ad}{es:AZ (Aj × Ac)}{ep:Af}{t:Om}
theorem At.type {i:Af}(h:At w I S es ep t i s.heap):s.TypeIs (.ref I) "set_iterator":=by
 obtain⟨slot,h,_⟩:=h;exact⟨_,h,rfl⟩
end
end _S
namespace _S
open PySem PySem.W PyProof.Rows
variable {arr m:AZ Be}{n lo:Af}
structure Ord {K:Type}(lt:K->K->Ao):Prop where
 irr:∀ a,lt a a=false
 tr:∀ {a b c},lt a b=true->lt b c=true->lt a c=true
 tri:∀ {a b},lt a b=false->a=b\/lt b a=true
noncomputable def ltI (a b:Aj):Ao:=decide (a<b)
theorem WB:Ord ltI:=⟨λa=>by simp[ltI],λ{a b c} h1 h2=>by simp only[ltI,Ax] at *;omega,λ{a b} h=>by simp only[ltI,Ax,Fp] at *;omega⟩
theorem tU {α:Type}{p q:α->Ao}:∀ {l:Aa α},(∀ x∈l,p x=true->q x=true)->(∃ x∈l,q x=true/\p x=false)->l.countP p<l.countP q
 |[],_,⟨x,h,_⟩=>by simp at h
 |a::l,h,⟨x,hx,h1,h2⟩=>by
  have le:l.countP p<=l.countP q:=Qs λy hy=>h y (by simp[hy])
  rw[Vq,Vq];rcases Bg.mp hx with rfl|hx
  .rw[AX (by rw[h2];decide),AS h1];omega
  .have ih:=tU (l:=l) (λy hy=>h y (by simp[hy])) ⟨x,hx,h1,h2⟩
   have:=h a (by simp)
   cases hp:p a with
   |false=>rw[AX (by decide)];split <;> omega
   |true=>rw[AS rfl,AS (this hp)];omega
section
variable {K:Type}{lt':K->K->Ao}
noncomputable def gF (lt':K->K->Ao)(ks:Aa K)(x:K):Aj:=(ks.countP (λk=>lt' k x):Af)
theorem sD (O:Ord lt'){ks:Aa K}{x y:K}(hx:x∈ks):lt' x y=decide (gF lt' ks x<gF lt' ks y):=by
 unfold gF;cases h:lt' x y with
 |true =>
  refine(Cu ?_).symm;have:=tU (l:=ks) (p:=λk=>lt' k x) (q:=λk=>lt' k y) (λz _ hz=>O.tr hz h) ⟨x,hx,h,O.irr x⟩;omega
 |false =>
  refine(Cj ?_).symm;have:ks.countP (λk=>lt' k y)<=ks.countP (λk=>lt' k x):=by
   rcases O.tri h with e|h'
   .rw[e];exact Aq _
   .exact Qs λz _ hz=>O.tr hz h'
  omega
noncomputable def cN (lt':K->K->Ao)(ks:Aa K)(d:K)(i j:Af):Ao:=lt' (ks.getD i d) (ks.getD j d)
def Nf (lt':K->K->Ao)(l:Aa K):Prop:=l.Pairwise λa b=>lt' b a=false
theorem eJ (O:Ord lt'):∀ {a b:Aa K},Nf lt' a->Nf lt' b->a.Perm b->a=b
 |[],b,_,_,p=>(List.nil_perm.mp p).symm
 |x::a,b,ha,hb,p=>by
  cases b with
  |nil=>exact absurd p.symm (by simp)
  |cons y b =>
   unfold Nf at ha hb;rw[Gf] at ha hb;have e:x=y:=by
    rcases Bg.mp (p.mem_iff.mp (.head _)) with e|e
    .exact e
    .rcases Bg.mp (p.mem_iff.mpr (.head _)) with e'|e'
     .exact e'.symm
     .have h1:=ha.1 y e'
      have h2:=hb.1 x e;rcases O.tri h1 with e|h
      .exact e.symm
      .rw[h2] at h;cases h
   subst e;rw[eJ O ha.2 hb.2 (List.Perm.cons_inv p)]
theorem o8 (O:Ord lt'){l:Aa K}(h:Nf lt' l)(nd:l.Nodup):l.Pairwise λa b=>lt' a b=true:=by
 refine Zf (λ{a b} h1 h2=>?_) h nd;exact(O.tri h1).elim (λe=>absurd e.symm h2) id
noncomputable def vG (lt':K->K->Ao)(l:Aa K):Aa K:=l.mergeSort λa b=>!lt' b a
theorem yI (l:Aa K):(vG lt' l).Perm l:=List.mergeSort_perm _ _
theorem c6 (O:Ord lt')(l:Aa K):Nf lt' (vG lt' l):=by
 have:=List.pairwise_mergeSort (le:=λa b=>!lt' b a) (λa b c h1 h2=>?_) (λa b=>?_) l
 .exact this.imp λh=>by simpa using h
 .have h1:lt' b a=false:=by simpa using h1
  have h2:lt' c b=false:=by simpa using h2
  cases h3:lt' c a with
  |false=>rfl
  |true =>
   rcases O.tri h1 with e|h
   .rw[<- e] at h3;rw[h3] at h2;cases h2
   .have:=O.tr h3 h;rw[h2] at this;cases this
 .cases h:lt' b a with
  |false=>rfl
  |true =>
   cases h':lt' a b with
   |false=>rfl
   |true=>have:=O.tr h h';rw[O.irr] at this;cases this
noncomputable def FF (lt':K->K->Ao)(x:K):Aa K->Aa K
 |[]=>[x]
 |y::l=>if lt' x y then x::y::l else if lt' y x then y::FF lt' x l else y::l
noncomputable def srt (lt':K->K->Ao):Aa K->Aa K
 |[]=>[]
 |x::xs=>FF lt' x (srt lt' xs)
end
noncomputable def mX:Ao->Be->AZ Be->Af->Af->Af->Mc Ep IT (Al Af):=sortPriv% PySem.Builtin.gallop
noncomputable def XZ:AZ Be->AZ Be->Mc Ep IT (AZ Be):=sortPriv% PySem.Builtin.mergeLo
noncomputable def XY:AZ Be->AZ Be->Mc Ep IT (AZ Be):=sortPriv% PySem.Builtin.mergeHi
noncomputable def nv:Be:=(Dd,Dd)
section
variable {M:Jl}{A:Bh}{E:Ac->Ag->Prop}{s:Ag}{κ : Kh}{U:Be->Prop}{r:Be->Aj}
structure Cm (M:Jl)(A:Bh)(s:Ag)(κ : Kh)(U:Be->Prop)(r:Be->Aj):Prop where
 lt:∀ {x y:Be},U x->U y->∀ {E:Ac->Ag->Prop} {Q:Al Ao->Ep->Prop} {st:Ep},kindOf st=κ->Q (Ab (decide (r x<r y))) st->wpS M A E s (lt' x y) Q st
theorem zA {i:Af}{Q:Be->Ep->Prop}{st:Ep}(h:i<arr.size)(q:Q (arr.getD i nv) st):wpS M A E s (elem' arr i) Q st:=by
 rw[elem'_eq,getElem?_pos arr i h];have e:arr.getD i nv=arr[i]:=by simp[Ht,h]
 rw[e] at q;exact AY q
theorem aX (C:Cm M A s κ U r){left:Ao}{key:Be}{arr:AZ Be}{i:Af}{Q:Al Ao->Ep->Prop}{st:Ep}(hk:kindOf st=κ)(hi:i<arr.size)(hU:U (arr.getD i nv))(hkU:U key)
  (q:Q (Ab (if left then decide (r (arr.getD i nv)<r key) else !decide (r key<r (arr.getD i nv)))) st) :
  wpS M A E s (do let x <- elem' arr i;if left then lt' x key else (do let a <- lt' key x;pure (a.map (λb=>!b)))) Q st:=by
 refine Av (zA hi ?_);cases left with
 |true=>exact C.lt hU hkU hk q
 |false=>exact Av (C.lt hkU hU hk (AY q))
theorem mF (C:Cm M A s κ U r){left:Ao}{key:Be}{arr:AZ Be}{base n hint cut:Af}{Q:Al Af->Ep->Prop}{st:Ep}(hk:kindOf st=κ)(hh:hint<n)(hb:base+n<=arr.size)(hU:∀ i,i<n->U (arr.getD (base+i) nv))(hkU:U key)(hc:cut<=n)
  (hB:∀ i,i<n->(if left then decide (r (arr.getD (base+i) nv)<r key) else !decide (r key<r (arr.getD (base+i) nv)))=decide (i<cut)) (h:Q (Ab cut) st):wpS M A E s (mX left key arr base n hint) Q st:=by
 have B:∀ {i:Af} {E:Ac->Ag->Prop} {Q:Al Ao->Ep->Prop},i<n->Q (Ab (decide (i<cut))) st->wpS M A E s (do let x <- elem' arr (base+i);if left then lt' x key else (do let a <- lt' key x;pure (a.map (λb=>!b)))) Q st:=by
  intro i E Q hi q;exact aX C hk (by lia) (hU i hi) hkU (by rw[hB i hi];exact q)
 have bin:∀ {lo hi:Af} {f:Af->Al (Al Af) × Af × Af->Mc Ep IT (ForInStep (Al (Al Af) × Af × Af))},lo<=cut->cut<=hi->hi<=n ->
   (∀ x a b,f x (none,a,b)=if a>=b then pure (.done (none,a,b)) else ((do let x <- elem' arr (base+(a+(b-a)/2));if left then lt' x key else (do let a <- lt' key x;pure (a.map (λb=>!b)))) >>= λo=>match o with
    |some more=>if more then pure (.yield (none,a+(b-a)/2+1,b)) else pure (.yield (none,a,a+(b-a)/2))
    |_=>pure (.done (Ab none,a,b))))->wpS M A E s (forIn [0:n] (none,lo,hi) f) (λc st'=>st'=st/\∃ a,c=(none,a,cut)) st:=by
  intro lo hi f h1 h2 h3 hf;refine Ef (I:=λx c st'=>st'=st/\∃ a b,c=(none,a,b)/\a<=cut/\cut<=b/\b<=n/\b-a<=n-x) ?_ ?_ ⟨rfl,lo,hi,rfl,h1,h2,h3,by lia⟩
  .rintro x c st' _ hx ⟨rfl,a,b,rfl,q1,q2,q3,q4⟩
   rw[hf];by_cases g:a>=b
   .rw[AS g];exact AY ⟨rfl,a,by rw[show b=cut by lia]⟩
   .rw[AX g]
    refine Av (B (by lia) ?_)
    by_cases z:a+(b-a)/2<cut
    .simp only[z,Iq,Cq]
     exact AY ⟨rfl,_,_,rfl,by lia,q2,q3,by lia⟩
    .simp only[z,Iy,Cd,Ff]
     exact AY ⟨rfl,_,_,rfl,q1,by lia,by lia,by lia⟩
  .rintro c st' ⟨rfl,a,b,rfl,q1,q2,q3,q4⟩
   exact⟨rfl,a,by rw[show b=cut by lia]⟩
 refine Av (B hh ?_);dsimp only;by_cases hr:hint<cut
 .simp only[hr,Iq,Cq]
  refine Av (Fv (Ef (I:=λx c st'=>st'=st/\∃ a b,c=(none,a,b)/\hint+a<cut/\a<b/\x<b)
   (Q:=λc st'=>st'=st/\∃ a b,c=(none,a,b)/\hint+a<cut/\cut<=hint+min b (n-hint)) ?_ ?_ ⟨rfl,0,1,rfl,hr,by lia,by lia⟩) ?_)
  .rintro x c st' _ hx ⟨rfl,a,b,rfl,q1,q2,q3⟩
   dsimp only;by_cases g:b>=n-hint
   .rw[AS g];exact AY ⟨rfl,a,b,rfl,q1,by lia⟩
   .rw[AX g]
    refine Av (B (by lia) ?_)
    by_cases z:hint+b<cut
    .simp only[z,Iq,Bool.not_true,Cd,Ff]
     exact AY ⟨rfl,_,_,rfl,z,by lia,by lia⟩
    .simp only[z,Iy,Bool.not_false,Cq]
     exact AY ⟨rfl,a,b,rfl,q1,by lia⟩
  .rintro c st' ⟨rfl,a,b,rfl,q1,q2,q3⟩
   exact⟨rfl,a,b,rfl,q1,by lia⟩
  .rintro c st' ⟨rfl,a,b,rfl,q1,q2⟩
   dsimp only;refine Av (Fv (bin (lo:=hint+a+1) (hi:=hint+min b (n-hint)) (by lia) q2 (by lia) λ_ _ _=>rfl) ?_)
   rintro c st' ⟨rfl,a',rfl⟩;exact AY h
 .simp only[hr,Iy,Cd,Ff]
  refine Av (Fv (Ef (I:=λx c st'=>st'=st/\∃ a b,c=(none,a,b)/\cut+a<=hint/\a<b/\x<b)
   (Q:=λc st'=>st'=st/\∃ a b,c=(none,a,b)/\cut+a<=hint/\hint+1<=cut+min b (hint+1)) ?_ ?_ ⟨rfl,0,1,rfl,by lia,by lia,by lia⟩) ?_)
  .rintro x c st' _ hx ⟨rfl,a,b,rfl,q1,q2,q3⟩
   dsimp only;by_cases g:b>=hint+1
   .rw[AS g];exact AY ⟨rfl,a,b,rfl,q1,by lia⟩
   .rw[AX g]
    refine Av (B (by lia) ?_)
    by_cases z:hint-b<cut
    .simp only[z,Iq,Cq]
     exact AY ⟨rfl,a,b,rfl,q1,by lia⟩
    .simp only[z,Iy,Cd,Ff]
     exact AY ⟨rfl,_,_,rfl,by lia,by lia,by lia⟩
  .rintro c st' ⟨rfl,a,b,rfl,q1,q2,q3⟩
   exact⟨rfl,a,b,rfl,q1,by lia⟩
  .rintro c st' ⟨rfl,a,b,rfl,q1,q2⟩
   dsimp only;refine Av (Fv (bin (lo:=hint+1-min b (hint+1)) (hi:=hint-a) (by lia) (by lia) (by lia) λ_ _ _=>rfl) ?_)
   rintro c st' ⟨rfl,a',rfl⟩;exact AY h
end
def Le (r:Be->Aj)(x y:Be):Prop:=r x<=r y
structure Mg (r:Be->Aj)(o A B T:Aa Be):Prop where
 p1:(o++A).Pairwise (Le r)
 p2:(o++B).Pairwise (Le r)
 pm:(o++A++B).Perm T
structure Mh (r:Be->Aj)(A B o T:Aa Be):Prop where
 p1:(A++o).Pairwise (Le r)
 p2:(B++o).Pairwise (Le r)
 pm:(A++B++o).Perm T
section
variable {r:Be->Aj}{o A B A1 A2 B1 B2 T:Aa Be}
theorem Mg.b (h:Mg r o A (B1++B2) T)(l:∀ x∈B1,∀ y∈A,Le r x y):Mg r (o++B1) A B2 T:=by
 obtain⟨p1,p2,pm⟩:=h;refine⟨?_,by rw[By];exact p2,?_⟩
 .rw[By]
  rw[Dl] at p1 p2 ⊢;refine⟨p1.1,?_,λx hx y hy=>?_⟩
  .rw[Dl]
   exact⟨(Dl.mp p2.2.1).1,p1.2.1,l⟩
  .rcases Bo.mp hy with hy|hy
   .exact p2.2.2 x hx y (Df _ hy)
   .exact p1.2.2 x hx y hy
 .refine Mz ?_ pm
  simp only[By];refine IX _ ?_;simp only[<- By];exact IN _ IY
theorem Mg.a (h:Mg r o (A1++A2) B T)(l:∀ x∈A1,∀ y∈B,Le r x y):Mg r (o++A1) A2 B T:=by
 obtain⟨p1,p2,pm⟩:=h;refine⟨by rw[By];exact p1,?_,by simpa only [By] using pm⟩
 rw[By];rw[Dl] at p1 p2 ⊢;refine⟨p2.1,?_,λx hx y hy=>?_⟩
 .rw[Dl]
  exact⟨(Dl.mp p1.2.1).1,p2.2.1,l⟩
 .rcases Bo.mp hy with hy|hy
  .exact p1.2.2 x hx y (Df _ hy)
  .exact p2.2.2 x hx y hy
theorem Mh.a (h:Mh r (A1++A2) B o T)(l:∀ x∈B,∀ y∈A2,Le r x y):Mh r A1 B (A2++o) T:=by
 obtain⟨p1,p2,pm⟩:=h;refine⟨by rw[<- By];exact p1,?_,?_⟩
 .rw[By] at p1
  rw[Dl] at p1 p2 ⊢;refine⟨p2.1,p1.2.1,λx hx y hy=>?_⟩;rcases Bo.mp hy with hy|hy
  .exact l x hx y hy
  .exact p2.2.2 x hx y hy
 .refine Mz ?_ pm
  simp only[By];refine IX _ ?_;simp only[<- By];exact IN _ IY
theorem Mh.b (h:Mh r A (B1++B2) o T)(l:∀ x∈A,∀ y∈B2,Le r x y):Mh r A B1 (B2++o) T:=by
 obtain⟨p1,p2,pm⟩:=h;refine⟨?_,by rw[<- By];exact p2,by simpa only [By] using pm⟩
 rw[By] at p2;rw[Dl] at p1 p2 ⊢;refine⟨p1.1,p2.2.1,λx hx y hy=>?_⟩;rcases Bo.mp hy with hy|hy
 .exact l x hx y hy
 .exact p1.2.2 x hx y hy
end
structure Mo (r:Be->Aj)(T:Aa Be)(m:AZ Be):Prop where
 pm:m.toList.Perm T
 up:m.toList.Pairwise (Le r)
noncomputable abbrev yW (st:Ep)(g:Af):Ep:=Cc (kindOf st) (arrOf st) (pendingOf st) g (failedOf st)
theorem mS {a:AZ Be}{i:Af}(h:i<a.size):a.toList.drop i=a.getD i nv::a.toList.drop (i+1):=by
 rw[Fz (by simpa using h)]
 congr 1
 simp[Ht,h]
theorem zL {a:AZ Be}{i:Af}(h:i<a.size):a.getD i nv∈a.toList:=by
 have e:a.getD i nv=a[i]:=by simp[Ht,h]
 rw[e];exact Array.getElem_mem_toList h
theorem wO {r:Be->Aj}{a:AZ Be}(s:a.toList.Pairwise (Le r)){i j:Af}(h:i<=j)(hj:j<a.size):r (a.getD i nv)<=r (a.getD j nv):=by
 rcases Eg i j with l|l
 .have e:=Jw.mp s i j (by simpa using Jj l hj) (by simpa using hj) l
  have hi:i<a.size:=Jj l hj;simpa [Ht,hi,hj,Le] using e
 .rw[Py h l];exact Md _
theorem gA {a:AZ Be}{i:Af}{x:Be}(h:x∈a.toList.drop i):∃ j,i<=j/\j<a.size/\x=a.getD j nv:=by
 obtain⟨k,hk,e⟩:=Fm.mp h;rw[Uv] at e;have hk':k<a.size-i:=by simpa using hk
 refine⟨i+k,by lia,by lia,?_⟩
 have:i+k<a.size:=by lia
 simp[Ht,this,<- e]
theorem gC {a:AZ Be}{x:Be}(h:x∈a.toList.take n):∃ j,j<n/\j<a.size/\x=a.getD j nv:=by
 obtain⟨k,hk,e⟩:=Fm.mp h;rw[Uw] at e;have hk':k<n/\k<a.size:=by rw[Ey,Bm] at hk;lia
 refine⟨k,hk'.1,hk'.2,?_⟩;simp[Ht,hk'.2,<- e]
theorem bI {a:AZ Be}{i k:Af}:(a.extract i (i+k)).toList++a.toList.drop (i+k)=a.toList.drop i:=by
 rw[Ih,Ga,IA,<- List.drop_drop];exact Me _ _
theorem pN {a:AZ Be}{i:Af}:(a.extract i a.size).toList=a.toList.drop i:=by
 rw[Ih,Ga];exact IP (by simp)
theorem t9 {a:AZ Be}{i k:Af}{x:Be}(h:x∈(a.extract i (i+k)).toList):∃ j,i<=j/\j<i+k/\j<a.size/\x=a.getD j nv:=by
 rw[Ih,Ga,IA] at h;obtain⟨m,hm,e⟩:=Fm.mp h;rw[Uw,Uv] at e;have hm':m<k/\i+m<a.size:=by rw[Ey,Im,Bm] at hm;lia
 refine⟨i+m,by lia,by lia,hm'.2,?_⟩
 simp[Ht,hm'.2,<- e]
def GL (r:Be->Aj)(a b o:AZ Be)(i j:Af):Prop:=Mg r o.toList (a.toList.drop i) (b.toList.drop j) (a.toList++b.toList)
section
variable {r:Be->Aj}{a b o:AZ Be}{i j k:Af}
theorem GL.pb (sa:a.toList.Pairwise (Le r))(h:GL r a b o i j)(hj:j<b.size)(l:i<a.size->r (b.getD j nv)<=r (a.getD i nv)):GL r a b (o.push (b.getD j nv)) i (j+1):=by
 have h':Mg r o.toList (a.toList.drop i) ([b.getD j nv]++b.toList.drop (j+1)) (a.toList++b.toList):=by rw[Qt,<- mS hj];exact h
 have:=h'.b λx hx y hy=>by
  cases Ca.mp hx;obtain⟨m,h1,h2,rfl⟩:=gA hy;exact En (l (by lia)) (wO sa h1 h2)
 unfold GL;rw[Ie];exact this
theorem GL.pa (sb:b.toList.Pairwise (Le r))(h:GL r a b o i j)(hi:i<a.size)(l:j<b.size->r (a.getD i nv)<=r (b.getD j nv)):GL r a b (o.push (a.getD i nv)) (i+1) j:=by
 have h':Mg r o.toList ([a.getD i nv]++a.toList.drop (i+1)) (b.toList.drop j) (a.toList++b.toList):=by rw[Qt,<- mS hi];exact h
 have:=h'.a λx hx y hy=>by
  cases Ca.mp hx;obtain⟨m,h1,h2,rfl⟩:=gA hy;exact En (l (by lia)) (wO sb h1 h2)
 unfold GL;rw[Ie];exact this
theorem GL.ea (sb:b.toList.Pairwise (Le r))(h:GL r a b o i j)(hj:j<b.size)(l:∀ m,m<k->r (a.getD (i+m) nv)<=r (b.getD j nv)):GL r a b (o++a.extract i (i+k)) (i+k) j:=by
 have h':Mg r o.toList ((a.extract i (i+k)).toList++a.toList.drop (i+k)) (b.toList.drop j) (a.toList++b.toList):=by rw[bI];exact h
 have:=h'.a λx hx y hy=>by
  obtain⟨m,h1,h2,h3,rfl⟩:=t9 hx;obtain⟨m',h4,h5,rfl⟩:=gA hy;have:=l (m-i) (by lia)
  rw[show i+(m-i)=m by lia] at this
  exact En this (wO sb h4 h5)
 unfold GL;rw[Ci];exact this
theorem GL.eb (sa:a.toList.Pairwise (Le r))(h:GL r a b o i j)(hi:i<a.size)(l:∀ m,m<k->r (b.getD (j+m) nv)<=r (a.getD i nv)):GL r a b (o++b.extract j (j+k)) i (j+k):=by
 have h':Mg r o.toList (a.toList.drop i) ((b.extract j (j+k)).toList++b.toList.drop (j+k)) (a.toList++b.toList):=by rw[bI];exact h
 have:=h'.b λx hx y hy=>by
  obtain⟨m,h1,h2,h3,rfl⟩:=t9 hx;obtain⟨m',h4,h5,rfl⟩:=gA hy;have:=l (m-j) (by lia)
  rw[show j+(m-j)=m by lia] at this
  exact En this (wO sa h4 h5)
 unfold GL;rw[Ci];exact this
theorem GL.fin (h:GL r a b o i j)(e:i=a.size\/j=b.size):Mo r (a.toList++b.toList) (o++a.extract i a.size++b.extract j b.size):=by
 refine⟨?_,?_⟩ <;> rw[Ci,Ci,pN,pN]
 .exact h.pm
 .rcases e with rfl|rfl
  .rw[Ln (by simp),Eu];exact h.p2
  .rw[Ln (l:=b.toList) (by simp),Eu];exact h.p1
theorem GL.last (h:GL r a b o i j)(e:i+1=a.size)(l:∀ x∈b.toList,Le r x (a.getD (a.size-1) nv)):Mo r (a.toList++b.toList) (o++b.extract j b.size++a.extract i a.size):=by
 have hi:i<a.size:=by lia
 have hd:a.toList.drop i=[a.getD i nv]:=by rw[mS hi,Ln (by simp;lia)]
 refine⟨?_,?_⟩ <;> rw[Ci,Ci,pN,pN]
 .refine Mz ?_ h.pm
  rw[By,By];exact IX _ IY
 .have p1:=h.p1
  rw[hd] at p1 ⊢;rw[Dl] at p1 ⊢;refine⟨h.p2,Pa _ _,λx hx y hy=>?_⟩;rcases Bo.mp hx with hx|hx
  .exact p1.2.2 x hx y hy
  .cases Ca.mp hy
   have:=l x (Rp hx);rw[show a.size-1=i by lia] at this
   exact this
end
theorem lM {p:Af->Ao}:∀ (n:Af),(∀ i j,i<=j->j<n->p j=true->p i=true)->∃ c,c<=n/\∀ i,i<n->p i=decide (i<c)
 |0,_=>⟨0,Aq _,λi h=>by lia⟩
 |n+1,h=>by
  obtain⟨c,hc,e⟩:=lM n λi j a b=>h i j a (by lia)
  by_cases q:p n=true
  .refine⟨n+1,Aq _,λi hi=>?_⟩
   rw[h i n (by lia) (by lia) q]
   simp[hi]
  .refine⟨c,by lia,λi hi=>?_⟩
   rcases Eg i n with l|l
   .exact e i l
   .have:i=n:=by lia
    subst this;have:¬ i<c:=by lia
    simp[this,q]
section
variable {M:Jl}{A:Bh}{E:Ac->Ag->Prop}{s:Ag}{κ : Kh}{U:Be->Prop}{r:Be->Aj}
theorem qR {σ α:Type}{c:Prop}[Iu c]{x y:Mc σ IT α}{Q:α->σ->Prop}{st:σ}(h1:c->wpS M A E s x Q st)(h2:¬ c->wpS M A E s y Q st):wpS M A E s (if c then x else y) Q st:=by
 by_cases h:c
 .rw[AS h];exact h1 h
 .rw[AX h];exact h2 h
theorem X7 (C:Cm M A s κ U r){key:Be}{arr:AZ Be}{base n hint:Af}{Q:Al Af->Ep->Prop}{st:Ep}(hk:kindOf st=κ)(hh:hint<n)(hb:base+n<=arr.size)(hU:∀ i,i<n->U (arr.getD (base+i) nv))(hkU:U key)
  (sa:∀ i j,i<=j->j<n->r (arr.getD (base+i) nv)<=r (arr.getD (base+j) nv)) (h:∀ c,c<=n->(∀ i,i<c->r (arr.getD (base+i) nv)<=r key)->(∀ i,c<=i->i<n->r key<r (arr.getD (base+i) nv))->Q (Ab c) st):wpS M A E s (mX false key arr base n hint) Q st:=by
 obtain⟨c,hc,e⟩:=lM (p:=λi=>!decide (r key<r (arr.getD (base+i) nv))) n λi j a b q=>by
  have:=sa i j a b;simp only[Ib,Fp] at q ⊢
  lia
 refine mF C hk hh hb hU hkU hc (λi hi=>by simpa using e i hi) (h c hc (λi hi=>?_) λi hi hn=>?_)
 .have:=e i (by lia)
  simp only[hi,Iq,Ib,Fp] at this
  lia
 .have:=e i hn
  simp only[show ¬ i<c by lia,Iy,Bool.not_eq_false',Ax] at this
  exact this
theorem X8 (C:Cm M A s κ U r){key:Be}{arr:AZ Be}{base n hint:Af}{Q:Al Af->Ep->Prop}{st:Ep}(hk:kindOf st=κ)(hh:hint<n)(hb:base+n<=arr.size)(hU:∀ i,i<n->U (arr.getD (base+i) nv))(hkU:U key)
  (sa:∀ i j,i<=j->j<n->r (arr.getD (base+i) nv)<=r (arr.getD (base+j) nv)) (h:∀ c,c<=n->(∀ i,i<c->r (arr.getD (base+i) nv)<r key)->(∀ i,c<=i->i<n->r key<=r (arr.getD (base+i) nv))->Q (Ab c) st):wpS M A E s (mX true key arr base n hint) Q st:=by
 obtain⟨c,hc,e⟩:=lM (p:=λi=>decide (r (arr.getD (base+i) nv)<r key)) n λi j a b q=>by
  have:=sa i j a b;simp only[Ax] at q ⊢
  lia
 refine mF C hk hh hb hU hkU hc (λi hi=>by simpa using e i hi) (h c hc (λi hi=>?_) λi hi hn=>?_)
 .have:=e i (by lia)
  simp only[hi,Iq,Ax] at this;exact this
 .have:=e i hn
  simp only[show ¬ i<c by lia,Iy,Fp] at this
  lia
end
section
variable {M:Jl}{A:Bh}{E:Ac->Ag->Prop}{s:Ag}{σ α γ δ:Type}{Q:α->σ->Prop}{st:σ}{c c' c2:Prop}[Iu c][Iu c'][Iu c2]
theorem c9 {K:γ->Mc σ IT α}{x y:γ}(h:∀ z,wpS M A E s (K z) Q st):wpS M A E s (if c then K x else K y) Q st:=qR (λ_=>h x) λ_=>h y
theorem Z0 {K:γ->δ->Mc σ IT α}{u:Mc σ IT α}{x y:γ}{w v:δ}(P:γ->δ->Prop)(hK:∀ z w,P z w->wpS M A E s (K z w) Q st)(h1:c->c'->wpS M A E s u Q st)(h2:c->¬ c'->P x w)(h3:¬ c->P y v):wpS M A E s (if c then (if c' then u else K x w) else K y v) Q st:=qR (λe=>qR (h1 e) λe'=>hK _ _ (h2 e e')) λe=>hK _ _ (h3 e)
theorem Z1 {K:γ->δ->Mc σ IT α}{u u':Mc σ IT α}{x y:γ}{w v:δ}(P:γ->δ->Prop)(hK:∀ z w,P z w->wpS M A E s (K z w) Q st)(h1:c->c'->wpS M A E s u Q st)(h1':c->¬ c'->c2->wpS M A E s u' Q st)(h2:c->¬ c'->¬ c2->P x w)(h3:¬ c->P y v):wpS M A E s (if c then (if c' then u else if c2 then u' else K x w) else K y v) Q st:=qR (λe=>qR (h1 e) λe'=>qR (h1' e e') λe2=>hK _ _ (h2 e e' e2)) λe=>hK _ _ (h3 e)
end
section
variable {prog:AV}{w:Bk}{A:Bh}{E:Ac->Ag->Prop}{s:Ag}{κ : Kh}{U:Be->Prop}{r:Be->Aj}
theorem rL (C:Cm (Au prog w) A s κ U r){a b:AZ Be}{Q:AZ Be->Ep->Prop}{st:Ep}(hk:kindOf st=κ)(ua:∀ x∈a.toList,U x)(ub:∀ x∈b.toList,U x)(sa:a.toList.Pairwise (Le r))(sb:b.toList.Pairwise (Le r))
  (h:∀ m g,Mo r (a.toList++b.toList) m->Q m (yW st g)) (ha:0<a.size) (hb:0<b.size) (h0:r (b.getD 0 nv)<=r (a.getD 0 nv)) (h1:∀ x∈b.toList,Le r x (a.getD (a.size-1) nv)):wpS (Au prog w) A E s (XZ a b) Q st:=by
 have G0:GL r a b #[] 0 0:=⟨by simpa using sa,by simpa using sb,by simp⟩
 have G1:=G0.pb sa hb λ_=>h0;refine Av (On (Gk ⟨rfl,?_⟩));refine Av (zA hb ?_);dsimp only;refine qR (λe=>AY (h _ (Pz st) (G1.fin (.inr (by simpa using e))))) λe1=>?_
 refine qR (λe=>AY (h _ (Pz st) (G1.last (by simpa using e) h1))) λe2=>?_
 have e1:1<b.size:=by
  have:¬ 1=b.size:=by simpa using e1
  lia
 have e2:0+1<a.size:=by
  have:¬ 0+1=a.size:=by simpa using e2
  lia
 refine Av (Kx ?_);refine Av (Fv (Ef (I:=λx c st'=>(∃ g,st'=yW st g)/\∃ o i j g,c=(none,o,i,j,g)/\GL r a b o i j/\i+1<a.size/\j<b.size/\x<i+j)
  (Q:=λc st'=>(∃ g,st'=yW st g)/\∃ m,c.1=Ab m/\Mo r (a.toList++b.toList) m) ?_ ?_ ⟨⟨Pz st,rfl⟩,_,0,1,_,rfl,G1,e2,e1,by lia⟩) ?_)
 .rintro x c st' _ hx ⟨⟨g,rfl⟩,o,i,j,mg,rfl,G,hi,hj,hp⟩
  dsimp only;refine Av (Fv (Ef (I:=λy c st'=>(∃ g,st'=yW st g)/\∃ o i' j' p q,c=(none,o,i',j',p,q)/\GL r a b o i' j'/\i'+1<a.size/\j'<b.size/\i+j+y<=i'+j')
   (Q:=λc st'=>(∃ g,st'=yW st g)/\((∃ m,c.1=Ab m/\Mo r (a.toList++b.toList) m)\/∃ o i' j' p q,c=(none,o,i',j',p,q)/\GL r a b o i' j'/\i'+1<a.size/\j'<b.size/\x+1<i'+j')) ?_ ?_ ⟨⟨g,rfl⟩,o,i,j,0,0,rfl,G,hi,hj,by lia⟩) ?_)
  .rintro y c st' _ hy ⟨⟨g,rfl⟩,o,i',j',p,q,rfl,G,hi,hj,hq⟩
   dsimp only;refine Av (zA hj (Av (zA (i:=i') (by lia) (Av (C.lt (ub _ (zL hj)) (ua _ (zL (i:=i') (by lia))) hk ?_)))))
   dsimp only;refine qR (λl=>?_) λl=>?_
   .have l:r (b.getD j' nv)<r (a.getD i' nv):=by simpa using l
    have G2:=G.pb sa hj λ_=>Fq l;refine Av (zA hj ?_);refine qR (λe=>?_) λe=>?_
    .exact AY ⟨⟨g,rfl⟩,.inl ⟨_,rfl,G2.fin (.inr (by simpa using e))⟩⟩
    .have e:¬ j'+1=b.size:=by simpa using e
     refine qR (λ_=>?_) λ_=>?_
     .exact AY ⟨⟨g,rfl⟩,.inr ⟨_,_,_,_,_,rfl,G2,hi,by lia,by lia⟩⟩
     .exact AY ⟨⟨g,rfl⟩,_,_,_,_,_,rfl,G2,hi,by lia,by lia⟩
   .have l:¬ r (b.getD j' nv)<r (a.getD i' nv):=by simpa using l
    have G2:=G.pa sb (by lia) λ_=>Wz.mp l
    refine Av (zA (i:=i') (by lia) ?_)
    refine qR (λe=>?_) λe=>?_
    .exact AY ⟨⟨g,rfl⟩,.inl ⟨_,rfl,G2.last (by simpa using e) h1⟩⟩
    .have e:¬ i'+1+1=a.size:=by simpa using e
     refine qR (λ_=>?_) λ_=>?_
     .exact AY ⟨⟨g,rfl⟩,.inr ⟨_,_,_,_,_,rfl,G2,by lia,hj,by lia⟩⟩
     .exact AY ⟨⟨g,rfl⟩,_,_,_,_,_,rfl,G2,by lia,hj,by lia⟩
  .rintro c st' ⟨z,o,i',j',p,q,rfl,G,hi,hj,hq⟩
   exact⟨z,.inr ⟨_,_,_,_,_,rfl,G,hi,hj,by lia⟩⟩
  .rintro c st' ⟨⟨g,rfl⟩,⟨m,hc,hm⟩|⟨o,i',j',p,q,rfl,G,hi,hj,hq⟩⟩
   .obtain⟨c0,c1⟩:=c
    cases hc;exact AY ⟨⟨g,rfl⟩,m,rfl,hm⟩
   dsimp only;refine Av (On (Gk ⟨rfl,?_⟩));refine Av (Fv (Ef (I:=λy c st'=>(∃ g,st'=yW st g)/\∃ o i' j' p q t,c=(none,o,i',j',p,q,t)/\GL r a b o i' j'/\i'+1<a.size/\j'<b.size/\x+1<i'+j')
    (Q:=λc st'=>(∃ g,st'=yW st g)/\((∃ m,c.1=Ab m/\Mo r (a.toList++b.toList) m)\/∃ o i' j' p q t,c=(none,o,i',j',p,q,t)/\GL r a b o i' j'/\i'+1<a.size/\j'<b.size/\x+1<i'+j')) ?_ ?_ ⟨⟨g,rfl⟩,o,i',j',_,_,_,rfl,G,hi,hj,hq⟩) ?_)
   .rintro y c st' _ hy ⟨⟨g,rfl⟩,o,i,j,p,q,t,rfl,G,hi,hj,hq⟩
    dsimp only;generalize p-1=p1;apply c9 (x:=p1) (y:=p);intro mg;have hi0:i<a.size:=O9 hi;refine Av (Hu ?_);refine Av (zA hj ?_);refine Av (X7 C hk (OA hi0) (Uc (Ta (Ee hi0))) (λi' hi'=>ua _ (zL (IZ hi'))) (ub _ (zL hj)) (λi' j' h1 h2=>wO sa (Ha h1 _) (IZ h2)) λk k1 k2 k3=>?_);dsimp only;have G2:=G.ea sb hj k2;have k4:i+k<=a.size:=Qu (Ee hi0) k1;have k5:i+k<a.size->r (b.getD j nv)<r (a.getD (i+k) nv):=λh=>k3 k (Aq _) (Rq (by rw[Tu];exact h))
    have k6:x+1<i+k+j:=Aw hq (Rr (OQ _ _) _);have k7:k=0->i=i+k:=λh=>by rw[h];rfl
    generalize i+k=i1 at G2 k4 k5 k6 k7 ⊢;generalize o++a.extract i i1=o1 at G2 ⊢;apply Z1 (x:=o1) (w:=i1) (y:=o) (v:=i) (P:=λout ia=>GL r a b out ia j/\ia+1<a.size/\x+1<ia+j/\r (b.getD j nv)<r (a.getD ia nv))
    case h1=>exact λ_ e=>AY ⟨⟨_,rfl⟩,.inl ⟨_,rfl,G2.last (by simpa using e) h1⟩⟩
    case h1'=>exact λ_ _ e=>AY ⟨⟨_,rfl⟩,.inl ⟨_,rfl,G2.fin (.inl (by simpa using e))⟩⟩
    case h2 =>
     intro _ e3 e4;have e3:¬ i1+1=a.size:=by simpa using e3
     have e4:¬ i1=a.size:=by simpa using e4
     have e5:i1<a.size:=Gg k4 e4;exact⟨G2,Gg e5 e3,k6,k5 e5⟩
    case h3 =>
     intro e;have e:=k7 (IQ e);exact⟨G,hi,hq,by rw[e];exact k5 (by rw[<- e];exact hi0)⟩
    case hK =>
     rintro out ia ⟨G2,hl,hq,hc⟩;have ha0:ia<a.size:=O9 hl;refine Av (zA hj ?_);have G3:=G2.pb sa hj λ_=>Fq hc;refine qR (λe=>AY ⟨⟨_,rfl⟩,.inl ⟨_,rfl,G3.fin (.inr (by simpa using e))⟩⟩) λe5=>?_
     have e5:¬ j+1=b.size:=by simpa using e5
     have hj1:j+1<b.size:=Gg hj e5;refine Av (zA ha0 ?_);refine Av (X8 C hk (OA hj1) (Uc (Ta hj)) (λi hi=>ub _ (zL (IZ hi))) (ua _ (zL ha0)) (λi j h1 h2=>wO sb (Ha h1 _) (IZ h2)) λm m1 m2 m3=>?_);dsimp only;have G4:=G3.eb sa ha0 λi hi=>Fq (m2 i hi);have m4:j+1+m<=b.size:=Qu hj m1;have m5:j+1+m<b.size->r (a.getD ia nv)<=r (b.getD (j+1+m) nv):=λh=>m3 m (Aq _) (Rq (by rw[Tu];exact h))
     have m6:j+1<=j+1+m:=OQ _ _;have m7:m=0->j+1=j+1+m:=λh=>by rw[h]
     generalize j+1+m=j1 at G4 m4 m5 m6 m7 ⊢;generalize out.push (b.getD j nv)++b.extract (j+1) j1=o2 at G4 ⊢;apply Z0 (x:=o2) (w:=j1) (y:=out.push (b.getD j nv)) (v:=j+1) (P:=λout ib=>GL r a b out ia ib/\ib<b.size/\j+1<=ib/\r (a.getD ia nv)<=r (b.getD ib nv))
     case h1=>exact λ_ e=>AY ⟨⟨_,rfl⟩,.inl ⟨_,rfl,G4.fin (.inr (by simpa using e))⟩⟩
     case h2 =>
      intro _ e6;have e6:¬ j1=b.size:=by simpa using e6
      have e7:=Gg m4 e6;exact⟨G4,e7,m6,m5 e7⟩
     case h3 =>
      intro e;have e:=m7 (IQ e);exact⟨G3,hj1,Aq _,by rw[e];exact m5 (by rw[<- e];exact hj1)⟩
     case hK =>
      rintro out ib ⟨G4,hb1,hb2,hc4⟩;refine Av (zA ha0 ?_);have G5:=G4.pa sb ha0 λ_=>hc4;refine qR (λe=>AY ⟨⟨_,rfl⟩,.inl ⟨_,rfl,G5.last (by simpa using e) h1⟩⟩) λe7=>?_
      have e7:¬ ia+1+1=a.size:=by simpa using e7
      have e8:ia+1+1<a.size:=Gg hl e7;have e9:x+1<ia+1+ib:=Aw hq (Xa (Yz _) (Nat.le_of_succ_le hb2));exact qR (λ_=>AY ⟨⟨_,rfl⟩,.inr ⟨_,_,_,_,_,_,rfl,G5,e8,hb1,e9⟩⟩) λ_=>AY ⟨⟨_,rfl⟩,_,_,_,_,_,_,rfl,G5,e8,hb1,e9⟩
   .rintro c st' ⟨z,o,i',j',p,q,t,rfl,G,hi,hj,hq⟩
    exact⟨z,.inr ⟨_,_,_,_,_,_,rfl,G,hi,hj,by lia⟩⟩
   .rintro c st' ⟨⟨g,rfl⟩,⟨m,hc,hm⟩|⟨o,i',j',p,q,t,rfl,G,hi,hj,hq⟩⟩
    .obtain⟨c0,c1⟩:=c
     cases hc;exact AY ⟨⟨g,rfl⟩,m,rfl,hm⟩
    dsimp only;refine Av (Hu ?_);exact AY ⟨⟨_,rfl⟩,_,_,_,_,rfl,G,hi,hj,by lia⟩
 .rintro c st' ⟨z,o,i',j',p,rfl,G,hi,hj,hq⟩
  exfalso
  lia
 .rintro c st' ⟨⟨g,rfl⟩,m,hc,hm⟩
  obtain⟨c0,c1⟩:=c;cases hc;exact AY (h m g hm)
end
theorem tK {a:AZ Be}(h:0<n)(hn:n<=a.size):a.toList.take n=a.toList.take (n-1)++[a.getD (n-1) nv]:=by
 obtain⟨m,rfl⟩:∃ m,n=m+1:=⟨n-1,by lia⟩
 rw[Nat.add_sub_cancel,List.take_add_one];have hm:m<a.size:=by lia
 simp[Ht,hm]
theorem lS {a:AZ Be}{i:Af}(h:i<=n):a.toList.take i++(a.extract i n).toList=a.toList.take n:=by
 rw[Ih,Ga]
 conv=>rhs;rw[show n=i+(n-i) by lia,List.take_add]
theorem kW {a:AZ Be}:(a.extract 0 n).toList=a.toList.take n:=by
 rw[Ih,Ga];simp
theorem gB {a:AZ Be}{i:Af}{x:Be}(hn:i<=n)(h:x∈(a.extract i n).toList):∃ j,i<=j/\j<n/\j<a.size/\x=a.getD j nv:=by
 obtain⟨k,rfl⟩:∃ k,n=i+k:=⟨n-i,by lia⟩
 exact t9 h
def GH (r:Be->Aj)(a b o:AZ Be)(i j:Af):Prop:=Mh r (a.toList.take i) (b.toList.take j) o.toList.reverse (a.toList++b.toList)
section
variable {r:Be->Aj}{a b o:AZ Be}{i j k:Af}
theorem GH.pa (sb:b.toList.Pairwise (Le r))(h:GH r a b o i j)(h1:0<i)(h2:i<=a.size)(hj:j<=b.size)(l:0<j->r (b.getD (j-1) nv)<=r (a.getD (i-1) nv)):GH r a b (o.push (a.getD (i-1) nv)) (i-1) j:=by
 have h':Mh r (a.toList.take (i-1)++[a.getD (i-1) nv]) (b.toList.take j) o.toList.reverse (a.toList++b.toList):=by rw[<- tK h1 h2];exact h
 have:=h'.a λx hx y hy=>by
  cases Ca.mp hy;obtain⟨m,q1,q2,rfl⟩:=gC hx;exact En (wO sb (by lia) (by lia)) (l (by lia))
 unfold GH;rw[Ie,Jx];exact this
theorem GH.pb (sa:a.toList.Pairwise (Le r))(h:GH r a b o i j)(h1:0<j)(h2:j<=b.size)(hi:i<=a.size)(l:0<i->r (a.getD (i-1) nv)<=r (b.getD (j-1) nv)):GH r a b (o.push (b.getD (j-1) nv)) i (j-1):=by
 have h':Mh r (a.toList.take i) (b.toList.take (j-1)++[b.getD (j-1) nv]) o.toList.reverse (a.toList++b.toList):=by rw[<- tK h1 h2];exact h
 have:=h'.b λx hx y hy=>by
  cases Ca.mp hy;obtain⟨m,q1,q2,rfl⟩:=gC hx;exact En (wO sa (by lia) (by lia)) (l (by lia))
 unfold GH;rw[Ie,Jx];exact this
theorem GH.ea (sb:b.toList.Pairwise (Le r))(h:GH r a b o i j)(hk:k<=i)(hj:j<=b.size)(l:0<j->∀ m,k<=m->m<i->m<a.size->r (b.getD (j-1) nv)<=r (a.getD m nv)):GH r a b (o++(a.extract k i).reverse) k j:=by
 have h':Mh r (a.toList.take k++(a.extract k i).toList) (b.toList.take j) o.toList.reverse (a.toList++b.toList):=by rw[lS hk];exact h
 have:=h'.a λx hx y hy=>by
  obtain⟨m,q1,q2,rfl⟩:=gC hx;obtain⟨m',q3,q4,q5,rfl⟩:=gB hk hy;exact En (wO sb (by lia) (by lia)) (l (by lia) m' q3 q4 q5)
 unfold GH;rw[Ci,Jm,Jx,Ru];exact this
theorem GH.eb (sa:a.toList.Pairwise (Le r))(h:GH r a b o i j)(hk:k<=j)(hi:i<=a.size)(l:0<i->∀ m,k<=m->m<j->m<b.size->r (a.getD (i-1) nv)<=r (b.getD m nv)):GH r a b (o++(b.extract k j).reverse) i k:=by
 have h':Mh r (a.toList.take i) (b.toList.take k++(b.extract k j).toList) o.toList.reverse (a.toList++b.toList):=by rw[lS hk];exact h
 have:=h'.b λx hx y hy=>by
  obtain⟨m,q1,q2,rfl⟩:=gC hx;obtain⟨m',q3,q4,q5,rfl⟩:=gB hk hy;exact En (wO sa (by lia) (by lia)) (l (by lia) m' q3 q4 q5)
 unfold GH;rw[Ci,Jm,Jx,Ru];exact this
theorem GH.fin (h:GH r a b o i j)(e:i=0\/j=0):Mo r (a.toList++b.toList) (a.extract 0 i++b.extract 0 j++o.reverse):=by
 refine⟨?_,?_⟩ <;> rw[Ci,Ci,kW,kW,Jm]
 .exact h.pm
 .rcases e with rfl|rfl
  .rw[Xb,Fg];exact h.p2
  .rw[Xb,Eu];exact h.p1
theorem GH.first (h:GH r a b o i j)(e:j=1)(hb:0<b.size)(l:∀ x∈a.toList,Le r (b.getD 0 nv) x):Mo r (a.toList++b.toList) (b.extract 0 j++a.extract 0 i++o.reverse):=by
 subst e;have hd:b.toList.take 1=[b.getD 0 nv]:=by rw[tK (by lia) (by lia)];rfl
 refine⟨?_,?_⟩ <;> rw[Ci,Ci,kW,kW,Jm]
 .refine Mz ?_ h.pm
  exact IN _ IY
 .have p2:=h.p2
  rw[hd] at p2 ⊢;rw[By];rw[Dl] at p2 ⊢;refine⟨p2.1,h.p1,λx hx y hy=>?_⟩;rcases Bo.mp hy with hy|hy
  .cases Ca.mp hx
   exact l y (Rv hy)
  .exact p2.2.2 x hx y hy
end
section
variable {prog:AV}{w:Bk}{A:Bh}{E:Ac->Ag->Prop}{s:Ag}{κ : Kh}{U:Be->Prop}{r:Be->Aj}
theorem rK (C:Cm (Au prog w) A s κ U r){a b:AZ Be}{Q:AZ Be->Ep->Prop}{st:Ep}(hk:kindOf st=κ)(ua:∀ x∈a.toList,U x)(ub:∀ x∈b.toList,U x)(sa:a.toList.Pairwise (Le r))(sb:b.toList.Pairwise (Le r))
  (h:∀ m g,Mo r (a.toList++b.toList) m->Q m (yW st g)) (ha:0<a.size) (hb:0<b.size) (h0:∀ x∈a.toList,Le r (b.getD 0 nv) x) (h1:r (b.getD (b.size-1) nv)<=r (a.getD (a.size-1) nv)):wpS (Au prog w) A E s (XY a b) Q st:=by
 have G0:GH r a b #[] a.size b.size:=by
  unfold GH;rw[IP (by simp),IP (by simp)]
  exact⟨by simpa using sa,by simpa using sb,by simp⟩
 have G1:=G0.pa sb ha (Aq _) (Aq _) λ_=>h1;refine Av (On (Gk ⟨rfl,?_⟩));refine Av (zA (i:=a.size-1) (by lia) ?_)
 dsimp only;refine qR (λe=>AY (h _ (Pz st) (G1.fin (.inl (by simpa using e))))) λe1=>?_
 refine qR (λe=>AY (h _ (Pz st) (G1.first (by simpa using e) hb h0))) λe2=>?_
 have e1:¬ a.size-1=0:=by simpa using e1
 have e2:¬ b.size=1:=by simpa using e2
 refine Av (Kx ?_);refine Av (Fv (Ef (I:=λx c st'=>(∃ g,st'=yW st g)/\∃ o i j g,c=(none,i,j,o,g)/\GH r a b o i j/\0<i/\i<=a.size/\1<j/\j<=b.size/\x+i+j<a.size+b.size)
  (Q:=λc st'=>(∃ g,st'=yW st g)/\∃ m,c.1=Ab m/\Mo r (a.toList++b.toList) m) ?_ ?_ ⟨⟨Pz st,rfl⟩,_,a.size-1,b.size,_,rfl,G1,by lia,by lia,by lia,by lia,by lia⟩) ?_)
 .rintro x c st' _ hx ⟨⟨g,rfl⟩,o,i,j,mg,rfl,G,hi,hi2,hj,hj2,hp⟩
  dsimp only;refine Av (Fv (Ef (I:=λy c st'=>(∃ g,st'=yW st g)/\∃ o i' j' p q,c=(none,i',j',o,p,q)/\GH r a b o i' j'/\0<i'/\i'<=a.size/\1<j'/\j'<=b.size/\i'+j'+y<=i+j)
   (Q:=λc st'=>(∃ g,st'=yW st g)/\((∃ m,c.1=Ab m/\Mo r (a.toList++b.toList) m)\/∃ o i' j' p q,c=(none,i',j',o,p,q)/\GH r a b o i' j'/\0<i'/\i'<=a.size/\1<j'/\j'<=b.size/\x+1+i'+j'<a.size+b.size)) ?_ ?_ ⟨⟨g,rfl⟩,o,i,j,0,0,rfl,G,hi,hi2,hj,hj2,by lia⟩) ?_)
  .rintro y c st' _ hy ⟨⟨g,rfl⟩,o,i',j',p,q,rfl,G,hi,hi2,hj,hj2,hq⟩
   dsimp only;refine Av (zA (i:=j'-1) (by lia) (Av (zA (i:=i'-1) (by lia) (Av (C.lt (ub _ (zL (i:=j'-1) (by lia))) (ua _ (zL (i:=i'-1) (by lia))) hk ?_)))))
   dsimp only;refine qR (λl=>?_) λl=>?_
   .have l:r (b.getD (j'-1) nv)<r (a.getD (i'-1) nv):=by simpa using l
    have G2:=G.pa sb hi hi2 hj2 λ_=>Fq l;refine Av (zA (i:=i'-1) (by lia) ?_)
    refine qR (λe=>AY ⟨⟨g,rfl⟩,.inl ⟨_,rfl,G2.fin (.inl (by simpa using e))⟩⟩) λe=>?_
    have e:¬ i'-1=0:=by simpa using e
    exact qR (λ_=>AY ⟨⟨g,rfl⟩,.inr ⟨_,_,_,_,_,rfl,G2,by lia,by lia,hj,hj2,by lia⟩⟩) λ_=>AY ⟨⟨g,rfl⟩,_,_,_,_,_,rfl,G2,by lia,by lia,hj,hj2,by lia⟩
   .have l:¬ r (b.getD (j'-1) nv)<r (a.getD (i'-1) nv):=by simpa using l
    have G2:=G.pb sa (by lia) hj2 hi2 λ_=>Wz.mp l
    refine Av (zA (i:=j'-1) (by lia) ?_)
    refine qR (λe=>AY ⟨⟨g,rfl⟩,.inl ⟨_,rfl,G2.first (by simpa using e) hb h0⟩⟩) λe=>?_
    have e:¬ j'-1=1:=by simpa using e
    exact qR (λ_=>AY ⟨⟨g,rfl⟩,.inr ⟨_,_,_,_,_,rfl,G2,hi,hi2,by lia,by lia,by lia⟩⟩) λ_=>AY ⟨⟨g,rfl⟩,_,_,_,_,_,rfl,G2,hi,hi2,by lia,by lia,by lia⟩
  .rintro c st' ⟨z,o,i',j',p,q,rfl,G,hi,hi2,hj,hj2,hq⟩
   exact⟨z,.inr ⟨_,_,_,_,_,rfl,G,hi,hi2,hj,hj2,by lia⟩⟩
  .rintro c st' ⟨⟨g,rfl⟩,⟨m,hc,hm⟩|⟨o,i',j',p,q,rfl,G,hi,hi2,hj,hj2,hq⟩⟩
   .obtain⟨c0,c1⟩:=c
    cases hc;exact AY ⟨⟨g,rfl⟩,m,rfl,hm⟩
   dsimp only;refine Av (On (Gk ⟨rfl,?_⟩));refine Av (Fv (Ef (I:=λy c st'=>(∃ g,st'=yW st g)/\∃ o i' j' p q t,c=(none,i',j',o,p,q,t)/\GH r a b o i' j'/\0<i'/\i'<=a.size/\1<j'/\j'<=b.size/\x+1+i'+j'<a.size+b.size)
    (Q:=λc st'=>(∃ g,st'=yW st g)/\((∃ m,c.1=Ab m/\Mo r (a.toList++b.toList) m)\/∃ o i' j' p q t,c=(none,i',j',o,p,q,t)/\GH r a b o i' j'/\0<i'/\i'<=a.size/\1<j'/\j'<=b.size/\x+1+i'+j'<a.size+b.size)) ?_ ?_ ⟨⟨g,rfl⟩,o,i',j',_,_,_,rfl,G,hi,hi2,hj,hj2,hq⟩) ?_)
   .rintro y c st' _ hy ⟨⟨g,rfl⟩,o,i,j,p,q,t,rfl,G,hi,hi2,hj,hj2,hq⟩
    dsimp only;generalize p-1=p1;apply c9 (x:=p1) (y:=p);intro mg;refine Av (Hu ?_);have j0:0<j:=O9 hj;have jb:j-1<b.size:=Aw (Jy j0 Ja) hj2;refine Av (zA jb ?_);refine Av (X7 C hk (Jy hi Ja) (by rw[Hv];exact hi2) (λi' hi'=>ua _ (zL (by rw[Hv];exact Aw hi' hi2))) (ub _ (zL jb)) (λi' j' h1 h2=>wO sa (Ha h1 0) (by rw[Hv];exact Aw h2 hi2)) λk k1 k2 k3=>?_)
    simp only[Hv] at k2 k3;dsimp only;have G2:=G.ea sb k1 hj2 λ_ m q1 q2 _=>Fq (k3 m q1 q2);have kc:i-k=0->k=i:=λh=>Py k1 (Qv h);generalize i-k=ac at kc ⊢;generalize o++(a.extract k i).reverse=o1 at G2 ⊢;apply Z0 (x:=k) (w:=o1) (y:=i) (v:=o) (P:=λna out=>GH r a b out na j/\0<na/\na<=a.size/\x+1+na+j<a.size+b.size/\r (a.getD (na-1) nv)<=r (b.getD (j-1) nv))
    case h1=>exact λ_ e=>AY ⟨⟨_,rfl⟩,.inl ⟨_,rfl,G2.fin (.inl (by simpa using e))⟩⟩
    case hK =>
     rintro na out ⟨G2,hl,hl2,hq,hc⟩;have na1:na-1<a.size:=Aw (Jy hl Ja) hl2;refine Av (zA jb ?_);have G3:=G2.pb sa j0 hj2 hl2 λ_=>hc;refine qR (λe=>AY ⟨⟨_,rfl⟩,.inl ⟨_,rfl,G3.first (by simpa using e) hb h0⟩⟩) λe5=>?_
     have e5:¬ j-1=1:=by simpa using e5
     have j1:0<j-1:=OA hj;refine Av (zA na1 ?_);refine Av (X8 C hk (Jy j1 Ja) (by rw[Hv];exact Ee jb) (λi hi=>ub _ (zL (by rw[Hv];exact Jj hi jb))) (ua _ (zL na1)) (λi j h1 h2=>wO sb (Ha h1 0) (by rw[Hv];exact Jj h2 jb)) λm m1 m2 m3=>?_)
     simp only[Hv] at m2 m3;dsimp only;have G4:=G3.eb sa m1 hl2 λ_ m q1 q2 _=>m3 m q1 q2;have mc:j-1-m=0->m=j-1:=λh=>Py m1 (Qv h);generalize j-1-m=bc at mc ⊢;generalize out.push (b.getD (j-1) nv)++(b.extract m (j-1)).reverse=o2 at G4 ⊢;apply Z1 (x:=m) (w:=o2) (y:=j-1) (v:=out.push (b.getD (j-1) nv)) (P:=λnb out=>GH r a b out na nb/\1<nb/\nb<=j-1/\r (b.getD (nb-1) nv)<=r (a.getD (na-1) nv))
     case h1=>exact λ_ e=>AY ⟨⟨_,rfl⟩,.inl ⟨_,rfl,G4.first (by simpa using e) hb h0⟩⟩
     case h1'=>exact λ_ _ e=>AY ⟨⟨_,rfl⟩,.inl ⟨_,rfl,G4.fin (.inr (by simpa using e))⟩⟩
     case hK =>
      rintro nb out ⟨G4,h4,h5,hc4⟩;have h6:nb<=b.size:=Bu h5 (Ee jb);have hq2:x+1+(na-1)+nb<a.size+b.size:=Kn (Xa (Ha (Nat.sub_le _ _) _) (Bu h5 (Nat.sub_le _ _))) hq;refine Av (zA na1 ?_);have G5:=G4.pa sb hl hl2 h6 λ_=>hc4;refine qR (λe=>AY ⟨⟨_,rfl⟩,.inl ⟨_,rfl,G5.fin (.inl (by simpa using e))⟩⟩) λe7=>?_
      have e7:0<na-1:=IF (by simpa using e7)
      exact qR (λ_=>AY ⟨⟨_,rfl⟩,.inr ⟨_,_,_,_,_,_,rfl,G5,e7,Ee na1,h4,h6,hq2⟩⟩) λ_=>AY ⟨⟨_,rfl⟩,_,_,_,_,_,_,rfl,G5,e7,Ee na1,h4,h6,hq2⟩
     case h2 =>
      intro _ e6 e7;have e6:¬ m=1:=by simpa using e6
      have e7:¬ m=0:=by simpa using e7
      exact⟨G4,Gg (IF e7) (Fa e6),m1,Fq (m2 (m-1) (Jy (IF e7) Ja))⟩
     case h3 =>
      intro e;cases mc (IQ e);exact⟨G3,Gg j1 (Fa e5),Aq _,Fq (m2 (j-1-1) (Jy j1 Ja))⟩
    case h2 =>
     intro _ e;have e3:0<k:=IF (by simpa using e)
     exact⟨G2,e3,Bu k1 hi2,Kn (Rr (Ha k1 _) _) hq,k2 (k-1) (Jy e3 Ja)⟩
    case h3 =>
     intro e;have e:=kc (IQ e);exact⟨G,hi,hi2,hq,k2 (i-1) (by rw[e];exact Jy hi Ja)⟩
   .rintro c st' ⟨z,o,i',j',p,q,t,rfl,G,hi,hi2,hj,hj2,hq⟩
    exact⟨z,.inr ⟨_,_,_,_,_,_,rfl,G,hi,hi2,hj,hj2,by lia⟩⟩
   .rintro c st' ⟨⟨g,rfl⟩,⟨m,hc,hm⟩|⟨o,i',j',p,q,t,rfl,G,hi,hi2,hj,hj2,hq⟩⟩
    .obtain⟨c0,c1⟩:=c
     cases hc;exact AY ⟨⟨g,rfl⟩,m,rfl,hm⟩
    dsimp only;refine Av (Hu ?_);exact AY ⟨⟨_,rfl⟩,_,_,_,_,rfl,G,hi,hi2,hj,hj2,by lia⟩
 .rintro c st' ⟨z,o,i',j',p,rfl,G,hi,hi2,hj,hj2,hq⟩
  exfalso
  lia
 .rintro c st' ⟨⟨g,rfl⟩,m,hc,hm⟩
  obtain⟨c0,c1⟩:=c;cases hc;exact AY (h m g hm)
end
theorem aW:∀ (l:Aa Be) (arr:AZ Be) (o d:Af),o+d+l.length<=arr.size->∀ k,((l.zipIdx d).foldl (λa p=>a.setIfInBounds (o+p.2) p.1) arr)[k]? = if o+d<=k/\k<o+d+l.length then l[k-(o+d)]? else arr[k]?
 |[],arr,o,d,h,k=>by
  rw[AX (by simp only[Ew];lia)];rfl
 |x::l,arr,o,d,h,k=>by
  rw[Bv] at h;rw[OS,Wc,aW l _ o (d+1) (by rw[Array.size_setIfInBounds];lia) k,Bv]
  by_cases h1:k=o+d
  .subst h1
   rw[AX (by lia),AS (by lia),Ud,Array.getElem?_setIfInBounds_self_of_lt (by lia)]
   rfl
  .by_cases h2:o+(d+1)<=k/\k<o+(d+1)+l.length
   .rw[AS h2,AS (by lia),show k-(o+d)=(k-(o+(d+1)))+1 by lia,Pb]
   .rw[AX h2,AX (by lia),Array.getElem?_setIfInBounds_ne (by lia)]
noncomputable def wb (arr:AZ Be)(o:Af)(m:AZ Be):AZ Be:=m.toList.zipIdx.foldl (λa p=>a.setIfInBounds (o+p.2) p.1) arr
theorem GT {o:Af}(h:o+m.size<=arr.size)(k:Af):(wb arr o m).getD k nv=if o<=k/\k<o+m.size then m.getD (k-o) nv else arr.getD k nv:=by
 have e:=aW m.toList arr o 0 (by simpa using h) k
 simp only[Ue,Bm,Dn] at e;rw[Ea,Ea,Ea];unfold wb;rw[e]
 split <;> rfl
theorem GU {o:Af}(h:o+m.size<=arr.size):(wb arr o m).toList=arr.toList.take o++(m.toList++arr.toList.drop (o+m.size)):=by
 apply List.ext_getElem?;intro k;have e:=aW m.toList arr o 0 (by simpa using h) k
 simp only[Ue,Bm,Dn] at e;unfold wb;rw[Dn,e];have lt:(arr.toList.take o).length=o:=by rw[Ey,Bm];lia
 by_cases h1:k<o
 .rw[AX (by lia),Bz (by lia),OE h1,Dn]
 .rw[Ct (by lia),lt]
  by_cases h2:k<o+m.size
  .rw[AS (by lia),Bz (by rw[Bm];lia),Dn]
  .rw[AX (by lia),Ct (by rw[Bm];lia),List.getElem?_drop,Bm,Dn]
   congr 1
   lia
theorem GV {o:Af}(h:o+n<=arr.size)(p:m.toList.Perm (arr.extract o (o+n)).toList):(wb arr o m).toList.Perm arr.toList:=by
 have hm:m.size=n:=by
  have:=p.length_eq;rw[Bm,Bm,Hl] at this
  lia
 rw[GU (by lia),hm]
 have e:arr.toList=arr.toList.take o++((arr.extract o (o+n)).toList++arr.toList.drop (o+n)):=by rw[bI,Me]
 conv=>rhs;rw[e]
 exact IX _ (IN _ p)
def Seg (r:Be->Aj)(a:AZ Be)(lo n:Af):Prop:=∀ i j,lo<=i->i<=j->j<lo+n->r (a.getD i nv)<=r (a.getD j nv)
theorem hJ {r:Be->Aj}{a:AZ Be}(h:Seg r a lo n){i k:Af}(h1:lo<=i)(h2:i+k<=lo+n)(h3:i+k<=a.size):(a.extract i (i+k)).toList.Pairwise (Le r):=by
 rw[Jw];intro x y hx hy l;have hx':x<k:=by rw[Bm,Hl] at hx;lia
 have hy':y<k:=by rw[Bm,Hl] at hy;lia
 have e:=h (i+x) (i+y) (by lia) (by lia) (by lia)
 have q1:i+x<a.size:=by lia
 have q2:i+y<a.size:=by lia
 simpa [Ht,q1,q2,Le] using e
theorem lR {a:AZ Be}{i k m:Af}(h:m<k)(h3:i+k<=a.size):(a.extract i (i+k)).getD m nv=a.getD (i+m) nv:=by
 have q1:i+m<a.size:=by lia
 have q2:m<(a.extract i (i+k)).size:=by rw[Hl];lia
 have q3:m<min (i+k) a.size-i:=by lia
 simp[Ht,q1,q3]
theorem X5 {a:AZ Be}{i j k:Af}(h1:i<=j)(h2:j<=k):(a.extract i j).toList++(a.extract j k).toList=(a.extract i k).toList:=by
 rw[<- Ci,Array.extract_append_extract]
 congr 2 <;> lia
section
variable {prog:AV}{w:Bk}{A:Bh}{E:Ac->Ag->Prop}{s:Ag}{κ : Kh}{U:Be->Prop}{r:Be->Aj}
theorem GW {M:Jl}{σ:Type}{Q:PUnit->σ->Prop}{st st':σ}(h:Q ⟨⟩ st'):wpS M A E s (set st':Mc σ IT PUnit) Q st:=by
 unfold wpS;rw[StateT.run_set];exact Ap ⟨rfl,h⟩
theorem rJ (C:Cm (Au prog w) A s κ U r){i sa na pw nb pz:Af}{Q:Ao->Ep->Prop}{arr:AZ Be}{pd:AZ (Af × Af × Af)}{g:Af}(ua:∀ x∈arr.toList,U x)(e1:pd[i]? = Ab (sa,na,pw))(e2:pd[i+1]? = Ab (sa+na,nb,pz))(p1:0<na)(p2:0<nb)(hz:sa+na+nb<=arr.size)
  (s1:Seg r arr sa na) (s2:Seg r arr (sa+na) nb)
  (h:∀ arr' g,arr'.toList.Perm arr.toList->(∀ k,k<sa\/sa+na+nb<=k->arr'.getD k nv=arr.getD k nv)->Seg r arr' sa (na+nb)->Q true (Cc κ arr' ((pd.setIfInBounds i (sa,na+nb,pw)).eraseIdxIfInBounds (i+1)) g none)) :
  wpS (Au prog w) A E s (mergeAt' i) Q (Cc κ arr pd g none):=by
 refine Av (Kx ?_);dsimp only;rw[e1,e2];dsimp only;refine Av (GW ?_);refine Av (zA (i:=sa+na) (by omega) ?_)
 refine Av (X7 C rfl (by omega) (by omega) (λi hi=>ua _ (zL (by omega))) (ua _ (zL (by omega))) (λi j a b=>s1 _ _ (by omega) (by omega) (by omega)) λk k1 k2 k3=>?_)
 dsimp only;refine qR (λe=>AY (h arr g (Nr _) (λ_ _=>rfl) λi j a b c=>?_)) λe=>?_
 .have e:na-k=0:=by simpa using e
  by_cases q1:j<sa+na
  .exact s1 i j a b q1
  .by_cases q2:sa+na<=i
   .exact s2 i j q2 b (by omega)
   .have:=k2 (i-sa) (by omega)
    rw[show sa+(i-sa)=i by omega] at this
    exact En this (s2 _ _ (Aq _) (by omega) (by omega))
 have e:¬ na-k=0:=by simpa using e
 refine Av (zA (i:=sa+k+(na-k)-1) (by omega) ?_)
 refine Av (X8 C rfl (by omega) (by omega) (λi hi=>ua _ (zL (by omega))) (ua _ (zL (by omega))) (λi j a b=>s2 _ _ (by omega) (by omega) (by omega)) λm m1 m2 m3=>?_)
 dsimp only;rw[show sa+k+(na-k)-1=sa+na-1 by omega] at m2 m3
 have hk3:=k3 k (Aq _) (by omega)
 refine qR (λe=>?_) λe'=>?_
 .exfalso
  have e:m=0:=by simpa using e
  subst e;have q1:=m3 0 (Aq _) p2;have q2:=s1 (sa+k) (sa+na-1) (by omega) (by omega) (by omega)
  rw[Ue] at q1;omega
 have e':¬ m=0:=by simpa using e'
 have ex:arr.extract (sa+k) (sa+na)=arr.extract (sa+k) (sa+k+(na-k)):=by rw[show sa+k+(na-k)=sa+na by omega]
 have zx:(arr.extract (sa+k) (sa+na)).size=na-k:=by rw[Hl];omega
 have zy:(arr.extract (sa+na) (sa+na+m)).size=m:=by rw[Hl];omega
 have gx:∀ i,i<na-k->(arr.extract (sa+k) (sa+na)).getD i nv=arr.getD (sa+k+i) nv:=λi hi=>by rw[ex];exact lR hi (by omega)
 have gy:∀ i,i<m->(arr.extract (sa+na) (sa+na+m)).getD i nv=arr.getD (sa+na+i) nv:=λi hi=>lR hi (by omega)
 have px:(arr.extract (sa+k) (sa+na)).toList.Pairwise (Le r):=by rw[ex];exact hJ s1 (by omega) (by omega) (by omega)
 have py:(arr.extract (sa+na) (sa+na+m)).toList.Pairwise (Le r):=hJ s2 (by omega) (by omega) (by omega)
 have mx:∀ x∈(arr.extract (sa+k) (sa+na)).toList,∃ j,sa+k<=j/\j<sa+na/\x=arr.getD j nv:=λx hx=>by
  obtain⟨j,q1,q2,q3,q4⟩:=gB (by omega) hx
  exact⟨j,q1,q2,q4⟩
 have my:∀ x∈(arr.extract (sa+na) (sa+na+m)).toList,∃ j,sa+na<=j/\j<sa+na+m/\x=arr.getD j nv:=λx hx=>by
  obtain⟨j,q1,q2,q3,q4⟩:=gB (by omega) hx
  exact⟨j,q1,q2,q4⟩
 have lox:∀ x∈(arr.extract (sa+k) (sa+na)).toList,r (arr.getD (sa+na) nv)<=r x/\r x<=r (arr.getD (sa+na-1) nv):=λx hx=>by
  obtain⟨j,q1,q2,rfl⟩:=mx x hx;have:=s1 (sa+k) j (by omega) q1 q2
  exact⟨by omega,s1 j _ (by omega) (by omega) (by omega)⟩
 have loy:∀ x∈(arr.extract (sa+na) (sa+na+m)).toList,r (arr.getD (sa+na) nv)<=r x/\r x<=r (arr.getD (sa+na-1) nv):=λx hx=>by
  obtain⟨j,q1,q2,rfl⟩:=my x hx;have:=m2 (j-(sa+na)) (by omega)
  rw[show sa+na+(j-(sa+na))=j by omega] at this
  exact⟨s2 _ _ (Aq _) q1 (by omega),by omega⟩
 have fin:∀ mg g',Mo r ((arr.extract (sa+k) (sa+na)).toList++(arr.extract (sa+na) (sa+na+m)).toList) mg->Q true (Cc κ (wb arr (sa+k) mg) ((pd.setIfInBounds i (sa,na+nb,pw)).eraseIdxIfInBounds (i+1)) g' none):=by
  intro mg g' M;have ej:(arr.extract (sa+k) (sa+na)).toList++(arr.extract (sa+na) (sa+na+m)).toList=(arr.extract (sa+k) (sa+k+(na-k+m))).toList:=by
   rw[X5 (by omega) (by omega),show sa+k+(na-k+m)=sa+na+m by omega]
  have hm:mg.size=na-k+m:=by
   have:=M.pm.length_eq;rw[Dg,Bm,Bm,Bm,zx,zy] at this;exact this
  have gd:=λj=>GT (arr:=arr) (m:=mg) (o:=sa+k) (by omega) j
  refine h _ g' (GV (n:=na-k+m) (by omega) (ej▸M.pm)) (λj hj=>?_) λi j a b c=>?_
  .rw[gd,AX (by omega)]
  .have bd:∀ j,sa+k<=j->j<sa+na+m->r (arr.getD (sa+na) nv)<=r (mg.getD (j-(sa+k)) nv)/\r (mg.getD (j-(sa+k)) nv)<=r (arr.getD (sa+na-1) nv):=λj h1 h2=>by
    have:=M.pm.mem_iff.mp (zL (a:=mg) (i:=j-(sa+k)) (by omega))
    rcases Bo.mp this with q|q
    .exact lox _ q
    .exact loy _ q
   rw[gd,gd,hm];by_cases i1:i<sa+k
   .rw[AX (by omega)]
    have u:=k2 (i-sa) (by omega)
    rw[show sa+(i-sa)=i by omega] at u
    by_cases j1:j<sa+k
    .rw[AX (by omega)];exact s1 i j a b (by omega)
    .by_cases j2:j<sa+na+m
     .rw[AS (by omega)];exact En u (bd j (by omega) j2).1
     .rw[AX (by omega)];exact En u (s2 _ _ (Aq _) (by omega) (by omega))
   .by_cases i2:i<sa+na+m
    .rw[AS (by omega)]
     by_cases j2:j<sa+na+m
     .rw[AS (by omega)];exact wO M.up (by omega) (by omega)
     .rw[AX (by omega)]
      have v:=m3 (j-(sa+na)) (by omega) (by omega)
      rw[show sa+na+(j-(sa+na))=j by omega] at v
      exact En (bd i (by omega) i2).2 v
    .rw[AX (by omega),AX (by omega)]
     exact s2 i j (by omega) b (by omega)
 have ux:∀ x∈(arr.extract (sa+k) (sa+na)).toList,U x:=λx hx=>by obtain⟨j,q1,q2,rfl⟩:=mx x hx;exact ua _ (zL (by omega))
 have uy:∀ x∈(arr.extract (sa+na) (sa+na+m)).toList,U x:=λx hx=>by obtain⟨j,q1,q2,rfl⟩:=my x hx;exact ua _ (zL (by omega))
 have y0:(arr.extract (sa+na) (sa+na+m)).getD 0 nv=arr.getD (sa+na) nv:=gy 0 (by omega)
 have xl:(arr.extract (sa+k) (sa+na)).getD ((arr.extract (sa+k) (sa+na)).size-1) nv=arr.getD (sa+na-1) nv:=by rw[zx,gx _ (by omega)];congr 1;omega
 refine qR (λ_=>?_) λ_=>?_
 .refine Av (rL C rfl ux uy px py (λmg g' M=>?_) (by rw[zx];omega) (by rw[zy];omega) ?_ λx hx=>?_)
  .refine Av (Hu (Av (Kx (AY ?_))))
   exact fin mg g' M
  .rw[y0];exact(lox _ (zL (by rw[zx];omega))).1
  .rw[xl];exact(loy x hx).2
 .refine Av (rK C rfl ux uy px py (λmg g' M=>?_) (by rw[zx];omega) (by rw[zy];omega) (λx hx=>?_) ?_)
  .refine Av (Hu (Av (Kx (AY ?_))))
   exact fin mg g' M
  .rw[y0];exact(lox x hx).1
  .rw[xl];exact(loy _ (zL (by rw[zy];omega))).2
end
noncomputable def mir (a:AZ Be)(i j:Af):AZ Be:=mirror a i j ((j-i)/2)
theorem wI {a:AZ Be}{i j:Af}(hj:j<=a.size)(k:Af):(mir a i j).getD k nv=if i<=k/\k<j then a.getD (i+j-1-k) nv else a.getD k nv:=by
 rw[Ea,Ea,Ea];unfold mir;rw[getElem?_mirror_all hj]
 split <;> rfl
structure Cr (a b:AZ Be)(lo n:Af):Prop where
 pm:b.toList.Perm a.toList
 out:∀ k,k<lo\/lo+n<=k->b.getD k nv=a.getD k nv
theorem Cr.z {a b:AZ Be}(h:Cr a b lo n):b.size=a.size:=by
 have:=h.pm.length_eq;simpa using this
theorem Cr.rfl' {a:AZ Be}:Cr a a lo n:=⟨Nr _,λ_ _=>rfl⟩
theorem Cr.mir {a b:AZ Be}{i j:Af}(h:Cr a b lo n)(h1:lo<=i)(h2:j<=lo+n)(h3:j<=a.size):Cr a (mir b i j) lo n:=
 ⟨(Ol.mp (mirror_perm _ _ _ _)).trans h.pm,λk hk=>by rw[wI (by rw[h.z];exact h3),AX (by lia)];exact h.out k hk⟩
def Dsg (r:Be->Aj)(a:AZ Be)(lo n:Af):Prop:=∀ i j,lo<=i->i<=j->j<lo+n->r (a.getD j nv)<=r (a.getD i nv)
theorem Y1 {r:Be->Aj}{a:AZ Be}(h:Seg r a lo n)(h1:1<=n)(l:r (a.getD (lo+n-1) nv)<=r (a.getD (lo+n) nv)):Seg r a lo (n+1):=λi j h2 h3 h4=>by
 by_cases q:j<lo+n
 .exact h i j h2 h3 q
 .have:j=lo+n:=by lia
  subst this;by_cases q2:i=lo+n
  .subst q2;exact Md _
  .exact En (h i (lo+n-1) h2 (by lia) (by lia)) l
theorem uH {r:Be->Aj}{a:AZ Be}(h:Dsg r a lo n)(h1:1<=n)(l:r (a.getD (lo+n) nv)<=r (a.getD (lo+n-1) nv)):Dsg r a lo (n+1):=λi j h2 h3 h4=>by
 by_cases q:j<lo+n
 .exact h i j h2 h3 q
 .have:j=lo+n:=by lia
  subst this;by_cases q2:i=lo+n
  .subst q2;exact Md _
  .exact En l (h i (lo+n-1) h2 (by lia) (by lia))
theorem hV {r:Be->Aj}{a:AZ Be}:Seg r a lo 1:=λi j h2 h3 h4=>by
 have:i=j:=by lia
 subst this;exact Md _
theorem UJ {r:Be->Aj}{a:AZ Be}:Dsg r a lo 1:=λi j h2 h3 h4=>by
 have:i=j:=by lia
 subst this;exact Md _
def Z5 (r:Be->Aj)(a:AZ Be)(lo n q:Af):Prop:=q+1<=n/\∀ k,lo+n-(q+1)<=k->k<lo+n->r (a.getD k nv)=r (a.getD (lo+n-1) nv)
set_option tactic.hygienic true in
theorem kU {r:Be->Aj}{a:AZ Be}{q:Af}(hn:lo+n<=a.size)(h:Z5 r a lo n q)(k:Af):r ((mir a (lo+n-(q+1)) (lo+n)).getD k nv)=r (a.getD k nv):=by
 rw[wI hn];have:=h.1
 split
 .rename_i c
  rw[h.2 k (by lia) c.2,h.2 _ (by lia) (by lia)]
 .rfl
theorem UI {r:Be->Aj}{a:AZ Be}(hn:lo+n<=a.size)(h:Dsg r a lo n):Seg r (mir a lo (lo+n)) lo n:=λi j h2 h3 h4=>by
 rw[wI hn,wI hn,AS (by lia),AS (by lia)]
 exact h _ _ (by lia) (by lia) (by lia)
section
variable {prog:AV}{w:Bk}{A:Bh}{E:Ac->Ag->Prop}{s:Ag}{κ : Kh}{U:Be->Prop}{r:Be->Aj}
theorem kN (C:Cm (Au prog w) A s κ U r){i j:Af}{arr:AZ Be}{pd:AZ (Af × Af × Af)}{g:Af}{Q:Al Ao->Ep->Prop}(ua:∀ x∈arr.toList,U x)(hi:i<arr.size)(hj:j<arr.size)
  (q:Q (Ab (decide (r (arr.getD i nv)<r (arr.getD j nv)))) (Cc κ arr pd g none)):wpS (Au prog w) A E s (ltAt' i j) Q (Cc κ arr pd g none):=by
 refine Av (Kx ?_);exact Av (zA hi (Av (zA hj (C.lt (ua _ (zL hi)) (ua _ (zL hj)) rfl q))))
theorem b7 {i j:Af}{pd:AZ (Af × Af × Af)}{g:Af}{Q:PUnit->Ep->Prop}(q:Q ⟨⟩ (Cc κ (mir arr i j) pd g none)):wpS (Au prog w) A E s (reverseSlice' i j) Q (Cc κ arr pd g none):=Hu q
theorem nN (C:Cm (Au prog w) A s κ U r){lo N:Af}{arr:AZ Be}{pd:AZ (Af × Af × Af)}{g:Af}{Q:Al Af->Ep->Prop}(ua:∀ x∈arr.toList,U x)(h1:1<=N)(hz:lo+N<=arr.size)
  (h:∀ n b,1<=n->n<=N->Cr arr b lo N->Seg r b lo n->Q (Ab n) (Cc κ b pd g none)):wpS (Au prog w) A E s (countRun' lo N) Q (Cc κ arr pd g none):=by
 have uc:∀ {b:AZ Be},Cr arr b lo N->∀ x∈b.toList,U x:=λh x hx=>ua x (h.pm.mem_iff.mp hx);have asc:∀ {b:AZ Be} {n:Af} {f:Af->Al (Al Af) × Af->Mc Ep IT (ForInStep (Al (Al Af) × Af))},Cr arr b lo N->1<=n->n<=N->Seg r b lo n ->
   (∀ x m,f x (none,m)=(ltAt' (lo+m) (lo+m-1) >>= λo=>match o with
    |some z=>if z then pure (.done (none,m)) else pure (.yield (none,m+1))
    |_=>pure (.done (Ab none,m))))->wpS (Au prog w) A E s (forIn [n:N] (none,n) f) (λc st'=>st'=Cc κ b pd g none/\∃ m,c=(none,m)/\n<=m/\m<=N/\Seg r b lo m/\(m=N\/r (b.getD (lo+m) nv)<r (b.getD (lo+m-1) nv))) (Cc κ b pd g none):=by
  intro b n f cr hn hN sg hf;have zb:=cr.z;refine Ef (I:=λx c st'=>st'=Cc κ b pd g none/\c=(none,x)/\n<=x/\Seg r b lo x) ?_ ?_ ⟨rfl,rfl,Aq _,sg⟩
  .rintro x c st' hx1 hx ⟨rfl,rfl,hx3,sg⟩
   rw[hf];refine Av (kN C (uc cr) (by lia) (by lia) ?_)
   by_cases l:r (b.getD (lo+x) nv)<r (b.getD (lo+x-1) nv)
   .simp only[l,Iq,Cq]
    exact AY ⟨rfl,x,rfl,hx1,by lia,sg,.inr l⟩
   .simp only[l,Iy,Cd,Ff]
    exact AY ⟨rfl,rfl,by lia,Y1 sg (by lia) (by lia)⟩
  .rintro c st' ⟨rfl,rfl,hx3,sg⟩
   rw[show max n N=N by lia] at sg ⊢
   exact⟨rfl,N,rfl,hN,Aq _,sg,.inl rfl⟩
 refine Av (Fv (asc Cr.rfl' (Aq 1) h1 hV λ_ _=>rfl) ?_);rintro c st' ⟨rfl,n,rfl,n1,n2,sg,nd⟩;dsimp only;refine qR (λe=>AY (h n arr n1 n2 Cr.rfl' sg)) λe=>?_;have e:¬ n=N:=by simpa using e
 have nd:r (arr.getD (lo+n) nv)<r (arr.getD (lo+n-1) nv):=by lia
 apply qR
 case' h1 =>
  intro np;refine Av (kN C ua (by lia) (by lia) ?_)
  dsimp only;refine qR (λe=>AY (h n arr n1 n2 Cr.rfl' sg)) λl=>?_;have l:¬ r (arr.getD lo nv)<r (arr.getD (lo+n-1) nv):=by simpa using l
  refine Av (b7 ?_);have cr:Cr arr (mir arr lo (lo+n)) lo N:=Cr.rfl'.mir (Aq _) (by lia) (by lia)
  have ds:Dsg r (mir arr lo (lo+n)) lo (n+1):=by
   refine uH (λi j a b c=>?_) n1 ?_
   .rw[wI (by lia),wI (by lia),AS (by lia),AS (by lia)]
    exact sg _ _ (by lia) (by lia) (by lia)
   .rw[wI (by lia),wI (by lia),AX (by lia),AS (by lia),show lo+(lo+n)-1-(lo+n-1)=lo by lia]
    lia
 case' h2 =>
  intro np;have cr:Cr arr arr lo N:=Cr.rfl';have ds:Dsg r arr lo (n+1):=by
   have:n=1:=by lia
   subst this;exact uH UJ (Aq _) (Fq nd)
 all_goals
  refine Av (On (Gk ⟨rfl,?_⟩));refine Av (Fv (Ef (I:=λx c st'=>∃ b q,st'=Cc κ b pd g none/\c=(none,x,q)/\Cr arr b lo N/\Dsg r b lo x/\Z5 r b lo x q)
   (Q:=λc st'=>∃ b m q,st'=Cc κ b pd g none/\c=(none,m,q)/\1<=m/\m<=N/\Cr arr b lo N/\Dsg r b lo m/\Z5 r b lo m q) ?_ ?_ ⟨_,0,rfl,rfl,cr,ds,by lia,λk a b=>by rw[show k=lo+(n+1)-1 by lia]⟩) ?_)
  .rintro x c st' hx1 hx ⟨b,q,rfl,rfl,cr,ds,eq⟩
   dsimp only;have zb:=cr.z;refine Av (kN C (uc cr) (by lia) (by lia) ?_)
   dsimp only;refine qR (λl=>?_) λl=>?_
   .have l:r (b.getD (lo+x) nv)<r (b.getD (lo+x-1) nv):=by simpa using l
    refine qR (λqp=>Av (b7 (AY ⟨_,0,rfl,rfl,cr.mir (by have:=eq.1;lia) (by lia) (by lia),λi j a c d=>?_,by lia,λk a b=>by rw[show k=lo+(x+1)-1 by lia]⟩))) λqp=>AY ⟨_,0,rfl,rfl,cr,uH ds (by lia) (Fq l),by lia,λk a b=>by rw[show k=lo+(x+1)-1 by lia]⟩
    rw[kU (by lia) eq,kU (by lia) eq]
    exact uH ds (by lia) (Fq l) i j a c d
   .have l:¬ r (b.getD (lo+x) nv)<r (b.getD (lo+x-1) nv):=by simpa using l
    refine Av (kN C (uc cr) (by lia) (by lia) ?_)
    dsimp only;refine qR (λl2=>AY ⟨b,x,q,rfl,rfl,by lia,by lia,cr,ds,eq⟩) λl2=>?_
    have l2:¬ r (b.getD (lo+x-1) nv)<r (b.getD (lo+x) nv):=by simpa using l2
    have ee:r (b.getD (lo+x) nv)=r (b.getD (lo+x-1) nv):=by lia
    refine AY ⟨b,q+1,rfl,rfl,cr,uH ds (by lia) (by lia),by have:=eq.1;lia,λk a c=>?_⟩
    rw[show lo+(x+1)-1=lo+x by lia]
    by_cases kx:k=lo+x
    .rw[kx]
    .rw[ee];exact eq.2 k (by lia) (by lia)
  .rintro c st' ⟨b,q,rfl,rfl,cr,ds,eq⟩
   rw[show max (n+1) N=N by lia] at ds eq ⊢
   exact⟨b,N,q,rfl,rfl,h1,Aq _,cr,ds,eq⟩
  .rintro c st' ⟨b,m,q,rfl,rfl,m1,m2,cr,ds,eq⟩
   dsimp only;have zb:=cr.z;apply qR
   case' h1 =>
    intro qp;refine Av (b7 ?_);have cr2:=cr.mir (i:=lo+m-(q+1)) (j:=lo+m) (by have:=eq.1;lia) (by lia) (by lia)
    have ds2:Dsg r (mir b (lo+m-(q+1)) (lo+m)) lo m:=λi j a c d=>by
     rw[kU (by lia) eq,kU (by lia) eq]
     exact ds i j a c d
   case' h2 =>
    intro qp;have cr2:=cr;have ds2:=ds
   all_goals
    have z2:=cr2.z;refine Av (b7 ?_);refine Av (Fv (asc (cr2.mir (Aq _) (by lia) (by lia)) m1 m2 (UI (by lia) ds2) λ_ _=>rfl) ?_)
    rintro c st' ⟨rfl,n',rfl,q1,q2,q3,_⟩;exact AY (h n' _ (by lia) q2 (cr2.mir (Aq _) (by lia) (by lia)) q3)
end
theorem lF {a:AZ Be}{src d:Af}(hs:src<a.size)(hd:d<=src)(k:Af):(bubble a src d).getD k nv=if k=src-d then a.getD src nv else if src-d<k/\k<=src then a.getD (k-1) nv else a.getD k nv:=by
 simp only[Ea];rw[getElem?_bubble hs d hd]
 repeat' split
 all_goals rfl
section
variable {prog:AV}{w:Bk}{A:Bh}{E:Ac->Ag->Prop}{s:Ag}{κ : Kh}{U:Be->Prop}{r:Be->Aj}
theorem r0 (C:Cm (Au prog w) A s κ U r){lo n ok:Af}{arr:AZ Be}{pd:AZ (Af × Af × Af)}{g:Af}{Q:Ao->Ep->Prop}(ua:∀ x∈arr.toList,U x)(h1:ok<=n)(hz:lo+n<=arr.size)(sg:Seg r arr lo ok)
  (h:∀ b,Cr arr b lo n->Seg r b lo n->Q true (Cc κ b pd g none)):wpS (Au prog w) A E s (binarySort' lo n ok) Q (Cc κ arr pd g none):=by
 have uc:∀ {b:AZ Be},Cr arr b lo n->∀ x∈b.toList,U x:=λh x hx=>ua x (h.pm.mem_iff.mp hx);have sg1:Seg r arr lo (max ok 1):=by
  by_cases q:ok=0
  .rw[q];exact hV
  .rw[show max ok 1=ok by lia];exact sg
 refine Av (Fv (Ef (I:=λk c st'=>c=(none,())/\∃ b,st'=Cc κ b pd g none/\Cr arr b lo n/\Seg r b lo (min k (max ok (max n 1))))
  (Q:=λc st'=>c=(none,())/\∃ b,st'=Cc κ b pd g none/\Cr arr b lo n/\Seg r b lo n) ?_ ?_ ⟨rfl,arr,rfl,Cr.rfl',?_⟩) ?_)
 .rintro k c st' hk hkn ⟨rfl,b,rfl,cr,sg⟩
  have zb:=cr.z;rw[show min k (max ok (max n 1))=k by lia] at sg
  dsimp only;refine Av (Fv (Ef (I:=λx c st'=>st'=Cc κ b pd g none/\∃ l u,c=(none,l,u)/\l<=u/\u<=k/\u-l<=k-x/\(∀ i,i<l->r (b.getD (lo+i) nv)<=r (b.getD (lo+k) nv))/\∀ i,u<=i->i<k->r (b.getD (lo+k) nv)<r (b.getD (lo+i) nv))
   (Q:=λc st'=>st'=Cc κ b pd g none/\∃ l u,c=(none,l,u)/\l<=k/\(∀ i,i<l->r (b.getD (lo+i) nv)<=r (b.getD (lo+k) nv))/\∀ i,l<=i->i<k->r (b.getD (lo+k) nv)<r (b.getD (lo+i) nv)) ?_ ?_
   ⟨rfl,0,k,rfl,by lia,by lia,by lia,λi hi=>by lia,λi a b=>by lia⟩) ?_)
  .rintro x c st' _ hx ⟨rfl,l,u,rfl,q1,q2,q3,q4,q5⟩
   dsimp only;refine qR (λe=>AY ⟨rfl,l,u,rfl,by lia,q4,λi a b=>q5 i (by lia) b⟩) λe=>?_
   refine Av (kN C (uc cr) (by lia) (by lia) ?_)
   dsimp only;refine qR (λz=>?_) λz=>?_
   .have z:r (b.getD (lo+k) nv)<r (b.getD (lo+(l+u)/2) nv):=by simpa using z
    exact AY ⟨rfl,_,_,rfl,by lia,by lia,by lia,q4,λi a c=>Int.lt_of_lt_of_le z (sg _ _ (by lia) (by lia) (by lia))⟩
   .have z:¬ r (b.getD (lo+k) nv)<r (b.getD (lo+(l+u)/2) nv):=by simpa using z
    exact AY ⟨rfl,_,_,rfl,by lia,by lia,by lia,λi a=>En (sg _ _ (by lia) (by lia) (by lia)) (Wz.mp z),q5⟩
  .rintro c st' ⟨rfl,l,u,rfl,q1,q2,q3,q4,q5⟩
   exact⟨rfl,l,u,rfl,by lia,q4,λi a b=>q5 i (by lia) b⟩
  .rintro c st' ⟨rfl,l,u,rfl,q1,q4,q5⟩
   dsimp only;refine Av (Hu (AY ⟨rfl,_,rfl,⟨(Ol.mp (bubble_perm _ _ _)).trans cr.pm,λj hj=>?_⟩,?_⟩))
   .show (bubble b (lo+k) (lo+k-(lo+l))).getD j nv=_
    rw[lF (by lia) (by lia),AX (by lia),AX (by lia)]
    exact cr.out j hj
   .rw[show min (k+1) (max ok (max n 1))=k+1 by lia]
    have e:∀ j,(bubble b (lo+k) (lo+k-(lo+l))).getD j nv=if j=lo+l then b.getD (lo+k) nv else if lo+l<j/\j<=lo+k then b.getD (j-1) nv else b.getD j nv:=λj=>by
     rw[lF (by lia) (by lia),show lo+k-(lo+k-(lo+l))=lo+l by lia]
    intro i j a c d;show r ((bubble b (lo+k) (lo+k-(lo+l))).getD i nv)<=r ((bubble b (lo+k) (lo+k-(lo+l))).getD j nv);rw[e,e];by_cases i1:i<lo+l
    .rw[AX (by lia),AX (by lia)]
     have u1:=q4 (i-lo) (by lia)
     rw[show lo+(i-lo)=i by lia] at u1
     by_cases j1:j<lo+l
     .rw[AX (by lia),AX (by lia)];exact sg i j a c (by lia)
     .by_cases j2:j=lo+l
      .rw[AS j2];exact u1
      .rw[AX j2,AS (by lia)];exact sg _ _ a (by lia) (by lia)
    .by_cases i2:i=lo+l
     .rw[AS i2]
      by_cases j2:j=lo+l
      .rw[AS j2];exact Md _
      .rw[AX j2,AS (by lia)]
       have:=q5 (j-1-lo) (by lia) (by lia)
       rw[show lo+(j-1-lo)=j-1 by lia] at this
       exact Fq this
     .rw[AX i2,AS (by lia),AX (by lia),AS (by lia)]
      exact sg _ _ (by lia) (by lia) (by lia)
 .rintro c st' ⟨rfl,b,rfl,cr,sg⟩
  refine⟨rfl,b,rfl,cr,?_⟩;intro i j a c d;exact sg i j a c (by lia)
 .rw[show min (max ok 1) (max ok (max n 1))=max ok 1 by lia];exact sg1
 .rintro c st' ⟨rfl,b,rfl,cr,sg⟩
  exact AY (h b cr sg)
end
def Rn (r:Be->Aj)(a:AZ Be):Aa (Af × Af × Af)->Af->Af->Prop
 |[],x,y=>x=y
 |(s,n,_)::t,x,y=>s=x/\0<n/\Seg r a s n/\Rn r a t (x+n) y
section
variable {r:Be->Aj}{a b:AZ Be}
theorem Rn.app:∀ {L1 L2:Aa (Af × Af × Af)} {x y:Af},Rn r a (L1++L2) x y↔∃ m,Rn r a L1 x m/\Rn r a L2 m y
 |[],L2,x,y=>⟨λh=>⟨x,rfl,h⟩,λ⟨m,h1,h2⟩=>by cases h1;exact h2⟩
 |(s,n,p)::t,L2,x,y=>by
  show s=x/\0<n/\Seg r a s n/\Rn r a (t++L2) (x+n) y↔∃ m,(s=x/\0<n/\Seg r a s n/\Rn r a t (x+n) m)/\Rn r a L2 m y;rw[Rn.app];exact⟨λ⟨h1,h2,h3,m,h4,h5⟩=>⟨m,⟨h1,h2,h3,h4⟩,h5⟩,λ⟨m,⟨h1,h2,h3,h4⟩,h5⟩=>⟨h1,h2,h3,m,h4,h5⟩⟩
theorem Rn.le:∀ {L:Aa (Af × Af × Af)} {x y:Af},Rn r a L x y->x+L.length<=y
 |[],x,y,h=>by cases h;simp
 |(s,n,p)::t,x,y,h=>by have:=Rn.le h.2.2.2;have:=h.2.1;simp only[Bv];lia
theorem Rn.congr:∀ {L:Aa (Af × Af × Af)} {x y:Af},Rn r a L x y->(∀ k,x<=k->k<y->b.getD k nv=a.getD k nv)->Rn r b L x y
 |[],x,y,h,_=>h
 |(s,n,p)::t,x,y,h,e=>by
  obtain⟨rfl,h2,h3,h4⟩:=h;have l:=Rn.le h4;refine⟨rfl,h2,λi j a c d=>?_,Rn.congr h4 λk h1 h2=>e k (by lia) h2⟩
  rw[e i (by lia) (by lia),e j (by lia) (by lia)]
  exact h3 i j a c d
theorem Rn.mod {f:Af × Af × Af->Af × Af × Af}(hf:∀ u v p,∃ p',f (u,v,p)=(u,v,p')):∀ {L:Aa (Af × Af × Af)} {i x y:Af},Rn r a L x y->Rn r a (L.modify i f) x y
 |[],i,x,y,h=>by simpa using h
 |(s,n,p)::t,0,x,y,h=>by
  obtain⟨p',e⟩:=hf s n p;rw[List.modify_zero_cons,e];exact h
 |(s,n,p)::t,i+1,x,y,h=>by
  rw[List.modify_succ_cons];exact⟨h.1,h.2.1,h.2.2.1,Rn.mod hf h.2.2.2⟩
end
theorem L0 {α:Type}{l:Aa α}{i:Af}(h:i+1<l.length):∃ L1 x y L2,l=L1++x::y::L2/\L1.length=i:=by
 refine⟨l.take i,l[i],l[i+1],l.drop (i+2),?_,by rw[Ey];lia⟩
 rw[<- Fz h,<- Fz (by lia),Me]
section
variable {prog:AV}{w:Bk}{A:Bh}{E:Ac->Ag->Prop}{s:Ag}{κ : Kh}{U:Be->Prop}{r:Be->Aj}
theorem fQ (C:Cm (Au prog w) A s κ U r){i e:Af}{Q:Ao->Ep->Prop}{arr:AZ Be}{pd:AZ (Af × Af × Af)}{g:Af}(ua:∀ x∈arr.toList,U x)(hi:i+1<pd.size)(R:Rn r arr pd.toList 0 e)(he:e<=arr.size)
  (h:∀ b pd' g,b.toList.Perm arr.toList->(∀ k,e<=k->b.getD k nv=arr.getD k nv)->Rn r b pd'.toList 0 e->pd'.size+1=pd.size->Q true (Cc κ b pd' g none)):wpS (Au prog w) A E s (mergeAt' i) Q (Cc κ arr pd g none):=by
 obtain⟨L1,⟨sa,na,pa⟩,⟨sb,nb,pb⟩,L2,el,hl⟩:=L0 (l:=pd.toList) (i:=i) (by simpa using hi)
 rw[el] at R;obtain⟨m,R1,rfl,p1,s1,rfl,p2,s2,R2⟩:=Rn.app.mp R;have l2:=Rn.le R2;have e1:pd[i]? = Ab (sa,na,pa):=by
  rw[<- Dn,el,<- hl,Ct (Aq _),Ud];rfl
 have e2:pd[i+1]? = Ab (sa+na,nb,pb):=by
  rw[<- Dn,el,<- hl,Ct (by lia),IA];rfl
 refine rJ C ua e1 e2 p1 p2 (by lia) s1 s2 λb g pm out sg=>?_
 have ep:((pd.setIfInBounds i (sa,na+nb,pa)).eraseIdxIfInBounds (i+1)).toList=L1++(sa,na+nb,pa)::L2:=by
  rw[Array.toList_eraseIdxIfInBounds,Array.toList_setIfInBounds,el,<- hl,List.set_append_right _ _ (Aq _),Ud,IG,List.eraseIdx_append_of_length_le (by lia),IA]
  rfl
 refine h b _ g pm (λk hk=>out k (by lia)) ?_ ?_
 .rw[ep]
  refine Rn.app.mpr ⟨sa,R1.congr λk _ hk=>out k (by lia),rfl,by lia,sg,?_⟩
  rw[<- Nat.add_assoc];exact R2.congr λk hk _=>out k (by lia)
 .have:=congrArg Ls ep
  have q:=congrArg Ls el;simp only[Bm,Dg,Bv] at this q
  lia
theorem nO (C:Cm (Au prog w) A s κ U r){Q:Nh->Ep->Prop}{arr:AZ Be}{g:Af}(ua:∀ x∈arr.toList,U x)(h2:0<arr.size)
  (h:∀ b pd g,b.toList.Perm arr.toList->b.toList.Pairwise (Le r)->Q () (Cc κ b pd g none)):wpS (Au prog w) A E s sortRuns' Q (Cc κ arr #[] g none):=by
 have uc:∀ {b:AZ Be},b.toList.Perm arr.toList->∀ x∈b.toList,U x:=λh x hx=>ua x (h.mem_iff.mp hx);have zc:∀ {b:AZ Be},b.toList.Perm arr.toList->b.size=arr.size:=λh=>by simpa using h.length_eq
 refine Av (Kx ?_);dsimp only;refine Av (Fv (Ef (I:=λx c st'=>∃ b pd g lo,st'=Cc κ b pd g none/\c=(none,lo)/\b.toList.Perm arr.toList/\lo<=arr.size/\min x arr.size<=lo/\Rn r b pd.toList 0 lo)
  (Q:=λc st'=>∃ b pd g,st'=Cc κ b pd g none/\c=(none,arr.size)/\b.toList.Perm arr.toList/\Rn r b pd.toList 0 arr.size) ?_ ?_ ⟨arr,#[],g,0,rfl,rfl,Nr _,by lia,by lia,rfl⟩) ?_)
 .rintro x c st' _ hx ⟨b,pd,g,lo,rfl,rfl,pm,lo1,lo2,R⟩
  have zb:=zc pm;dsimp only;refine qR (λe=>AY ⟨b,pd,g,rfl,by rw[show lo=arr.size by lia],pm,by rw[show arr.size=lo by lia];exact R⟩) λe=>?_
  refine Av (nN C (uc pm) (by lia) (by lia) λn b2 n1 n2 cr sg=>?_)
  have R2:Rn r b2 pd.toList 0 lo:=R.congr λk _ hk=>cr.out k (.inl hk);have pm2:=cr.pm.trans pm;have z2:=zc pm2;dsimp only;apply qR
  case' h1 =>
   intro lt;refine Av (On (Gk ⟨rfl,?_⟩));refine Av (r0 C (uc pm2) (by lia) (by lia) sg λb3 cr3 sg3=>?_)
   have R3:Rn r b3 pd.toList 0 lo:=R2.congr λk _ hk=>cr3.out k (.inl hk);have pm3:=cr3.pm.trans pm2;refine qR (λe=>by simp at e) λ_=>?_
   have n3:lo+min (arr.size-lo) ((sortPriv% PySem.Builtin.minRun) arr.size arr.size 0)<=arr.size:=by lia
   have n4:0<min (arr.size-lo) ((sortPriv% PySem.Builtin.minRun) arr.size arr.size 0):=by lia
  case' h2 =>
   intro lt;have R3:=R2;have pm3:=pm2;have sg3:=sg;have n3:lo+n<=arr.size:=by lia
   have n4:0<n:=n1
  all_goals
   refine Av (Kx ?_);dsimp only;rcases hb:pd.back? with _|⟨s1,l1,p1⟩
   .dsimp only
    refine Av (Hu (AY ⟨_,_,_,_,rfl,rfl,pm3,n3,by lia,?_⟩))
    show Rn r _ (pd.push _).toList 0 _;rw[Ie];exact Rn.app.mpr ⟨lo,R3,rfl,n4,sg3,rfl⟩
   .dsimp only
    refine Av (Fv (Ef (I:=λ_ c st'=>c=(none,())/\∃ b pd g,st'=Cc κ b pd g none/\b.toList.Perm arr.toList/\Rn r b pd.toList 0 lo/\Seg r b lo _)
     (Q:=λc st'=>c=(none,())/\∃ b pd g,st'=Cc κ b pd g none/\b.toList.Perm arr.toList/\Rn r b pd.toList 0 lo/\Seg r b lo _) ?_ (λ_ _ z=>z) ⟨rfl,_,pd,g,rfl,pm3,R3,sg3⟩) ?_)
    .rintro y c st' _ hy ⟨rfl,b,pd,g,rfl,pm,R,sg⟩
     have zb:=zc pm;refine Av (Kx ?_);dsimp only;by_cases hp:pd.size>1
     .rw[AS hp]
      rcases hq:pd[pd.size-2]? with _|⟨u,v,old⟩
      .exact AY ⟨rfl,b,pd,g,rfl,pm,R,sg⟩
      .dsimp only
       refine qR (λ_=>AY ⟨rfl,b,pd,g,rfl,pm,R,sg⟩) λ_=>?_;refine Av (fQ C (uc pm) (by lia) R (by lia) λb' pd' g' p' out R' _=>?_)
       refine qR (λe=>by simp at e) λ_=>AY ⟨rfl,b',pd',g',rfl,p'.trans pm,R',λi j a c d=>?_⟩
       rw[out i a,out j (by lia)]
       exact sg i j a c d
     .rw[AX hp]
      exact AY ⟨rfl,b,pd,g,rfl,pm,R,sg⟩
    .rintro c st' ⟨rfl,b,pd,g,rfl,pm,R,sg⟩
     dsimp only;refine Av (Hu (Av (Hu (AY ⟨_,_,_,_,rfl,rfl,pm,n3,by lia,?_⟩))))
     show Rn r b ((pd.modify (pd.size-1) _).push _).toList 0 _;rw[Ie,Array.toList_modify];exact Rn.app.mpr ⟨lo,Rn.mod (λ_ _ _=>⟨_,rfl⟩) R,rfl,n4,sg,rfl⟩
 .rintro c st' ⟨b,pd,g,lo,rfl,rfl,pm,lo1,lo2,R⟩
  have:lo=arr.size:=by lia
  subst this;exact⟨b,pd,g,rfl,rfl,pm,R⟩
 .rintro c st' ⟨b,pd,g,rfl,rfl,pm,R⟩
  dsimp only;have hl:=R.le;rw[Bm] at hl;refine Av (Fv (Ef (I:=λx c st'=>c=(none,())/\∃ b pd g,st'=Cc κ b pd g none/\b.toList.Perm arr.toList/\Rn r b pd.toList 0 arr.size/\(pd.size<=1\/pd.size+x<=arr.size))
   (Q:=λc st'=>c=(none,())/\∃ b pd g,st'=Cc κ b pd g none/\b.toList.Perm arr.toList/\Rn r b pd.toList 0 arr.size/\pd.size<=1) ?_ ?_ ⟨rfl,b,pd,g,rfl,pm,R,by lia⟩) ?_)
  .rintro x c st' _ hx ⟨rfl,b,pd,g,rfl,pm,R,hs⟩
   have zb:=zc pm;refine Av (Kx ?_);dsimp only;refine qR (λe=>AY ⟨rfl,b,pd,g,rfl,pm,R,e⟩) λe=>?_;refine Av (fQ C (uc pm) ?_ R (by lia) λb' pd' g' p' out R' z'=>?_)
   .have e:¬ pd.size<=1:=e
    have q:∀ (c:Prop) [Iu c],(if c then pd.size-2-1 else pd.size-2)+1<pd.size:=λc _=>by split <;> lia
    exact q _
   exact qR (λe=>by simp at e) λ_=>AY ⟨rfl,b',pd',g',rfl,p'.trans pm,R',by lia⟩
  .rintro c st' ⟨rfl,b,pd,g,rfl,pm,R,hs⟩
   exact⟨rfl,b,pd,g,rfl,pm,R,by lia⟩
  .rintro c st' ⟨rfl,b,pd,g,rfl,pm,R,hs⟩
   have zb:=zc pm;refine AY (h b pd g pm ?_);have hs:pd.toList.length<=1:=by simpa using hs
   revert R hs
   cases pd.toList with
   |nil=>intro R;have:0=arr.size:=R;lia
   |cons q t =>
    obtain⟨s0,n0,p0⟩:=q;intro R hs;have:t=[]:=by cases t with|nil=>rfl|cons _ _=>simp at hs
    subst this;obtain⟨rfl,_,sg,e⟩:=R;have e:n0=arr.size:=by have:0+n0=arr.size:=e;lia
    subst e;rw[Jw];intro i j hi hj l;have hi':i<b.size:=by simpa using hi
    have hj':j<b.size:=by simpa using hj
    have:=sg i j (by lia) (by lia) (by lia)
    simpa [Ht,hi',hj',Le] using this
end
structure Cmps (prog:AV)(w:Bk)(h0:Bc)(vs:Aa Ac)(f:Af->Af->Ao):Prop where
 ex:∃ κ,∀ (A:Bh),A.units+8<Hz->∀ (s:Ag),Sup h0 s.heap->(∀ (Q:Kh->Ag->Prop) (E:Ac->Ag->Prop),Q κ s->Ar (Au prog w) A (keyKind' vs.toArray) Q E s)/\∀ i j (C:Ao->Ag->Prop),i<vs.length->j<vs.length->C (f i j) s->kas_ask prog w A κ vs i j C s
open Classical in
def kV {K:Type}(is:K->Ac->Prop)(d:K)(v:Ac):K:=if h:∃ k,is k v then choose h else d
open Classical in
theorem fO {K:Type}{is:K->Ac->Prop}{d:K}{v:Ac}(h:∃ k,is k v):is (kV is d v) v:=by
 unfold kV;rw[dif_pos h];exact choose_spec h
section
variable {prog:AV}{w:Bk}{A:Bh}{E:Ac->Ag->Prop}{s:Ag}
theorem SC {K:Type}{is:K->Ac->Prop}{lt':K->K->Ao}{d:K}(O:Ord lt')(inj:∀ {k k':K} {v:Ac},is k v->is k' v->k=k'){a:Ad}{vs:Aa Ac}{ks:Aa K}{n:Af}{h0:Bc}{P:PySem.Fin->Ag->Prop}(hlen:vs.length=ks.length)(hks:∀ i v,vs[i]? = Ab v->is (ks.getD i d) v)(ho:s.heap.get? a=Ab (Fl "list" vs.toArray n))(hu:A.units+8<Hz)(hz:vs.length<=100000)(c:2<=vs.length->Cmps prog w h0 vs (cN lt' ks d))(hS:Sup h0 s.heap)(ha:h0.get? a=none)
  (h:∀ ps:Aa (K × Ac),ps.Perm (ks.zip vs)->Nf lt' (ps.map (·.1))->P (.done (.ret .none)) { s with heap:=sortedHeap s.heap a vs (ps.map (·.2)).toArray }) : Ar (Au prog w) A (Lx.«list.sort» ⟨[.ref a],[]⟩) P E s:=by
 rw[list_sort_plain];have hb:a<s.heap.objs.size:=Ay ho;have hsz:vs.toArray.size=vs.length:=by simp
 refine Ai (listItems_at ho rfl (Ai (listUpdate_at ho rfl ?_ (by rw[hsz,Fe];lia) (Hn _))))
 obtain⟨e1,ho1⟩:∃ e1,(s.heap.update a (Gn λ_=>#[])).get? a=Ab (Fl "list" #[] e1):=⟨_,Qb ho (λ_=>#[])⟩;refine Ai (seqEpoch_at ho1 rfl (Ai (wpAny_newTuple (Ai (wpAny_newList (Fo ?_) (Hn _))) (by show vs.length<=_;rw[Fe];lia))))
 have ho6:(((s.heap.update a (Gn λ_=>#[])).push (Fl "tuple" vs.toArray 0)).push (Fl "list" #[] 0)).get? a=Ab (Fl "list" #[] e1):=
  Ak _ (Ak _ ho1)
 have S6:Sup h0 (((s.heap.update a (Gn λ_=>#[])).push (Fl "tuple" vs.toArray 0)).push (Fl "list" #[] 0)):=λb o e =>
  Ak _ (Ak _ ((Hb _ _ (λz:a=b=>by rw[<- z,ha] at e;cases e)).trans (hS b o e)))
 show Ar (Au prog w) A _ P E { s with heap:=((s.heap.update a (Gn λ_=>#[])).push (Fl "tuple" vs.toArray 0)).push (Fl "list" #[] 0) }
 dsimp only;have fin:∀ (st':Ep) (ps:Aa (K × Ac)),(arrOf st').map (·.2)=(ps.map (·.2)).toArray->failedOf st'=none->ps.Perm (ks.zip vs)->Nf lt' (ps.map (·.1))->Ar (Au prog w) A (do
   let touched:=(<- seqEpoch a) != e1
   Yn (.ref a) λ_=>(arrOf st').map (·.2)
   if let Ab e:=failedOf st' then rule "list.sort.comparison-raised";throw e
   if touched then rule "list.sort.modified";raiseError "ValueError" "list modified during sort"
   ret .none) P E { s with heap:=((s.heap.update a (Gn λ_=>#[])).push (Fl "tuple" vs.toArray 0)).push (Fl "list" #[] 0) }:=by
  intro st' ps h1 h2 h3 h4;have hl:(ps.map (·.2)).length=vs.length:=by rw[Ba,h3.length_eq,Qc,hlen,Ua]
  refine Ai (seqEpoch_at ho6 rfl ?_);rw[h1];refine Ai (listUpdate_at ho6 rfl ?_ (Hn _) (by show (ps.map (·.2)).toArray.size<=_;rw[Bf,hl,Fe];lia))
  rw[h2];simp only[bne_self_eq_false,Cd,Ff];exact Ap (h ps h3 h4)
 by_cases h2:vs.toArray.size<2
 .rw[AS h2,AS h2]
  refine Ai (Ap ?_);rw[StateT.run_pure];refine Ai (Ap ?_);refine fin (Cc general' (vs.toArray.zip vs.toArray) #[] 7 none) (ks.zip vs) ?_ rfl (Nr _) ?_
  .show (vs.toArray.zip vs.toArray).map (·.2)=_
   apply Vr.mp;simp[List.map_snd_zip,hlen]
  .rw[Vs (by lia)]
   match ks,hlen with
   |[],_=>exact Oy
   |[_],_=>exact Pa _ _
   |_::_::_,e=>simp at e h2;lia
 .rw[AX h2,AX h2]
  have h2':2<=vs.length:=by lia
  obtain⟨κ,C⟩:=c h2';obtain⟨k1,k2⟩:=C A hu { s with heap:=((s.heap.update a (Gn λ_=>#[])).push (Fl "tuple" vs.toArray 0)).push (Fl "list" #[] 0) } S6
  have kv:∀ i,i<vs.length->kV is d (vs.getD i Dd)=ks.getD i d:=λi hi=>by
   have q:=hks i (vs.getD i Dd) (by rw[Hr,AW hi];rfl)
   exact inj (fO ⟨_,q⟩) q
  have km:∀ i,i<vs.length->ks.getD i d∈ks:=λi hi=>by
   have:i<ks.length:=by lia
   simp[Qq,this]
  have cm:Cm (Au prog w) A { s with heap:=((s.heap.update a (Gn λ_=>#[])).push (Fl "tuple" vs.toArray 0)).push (Fl "list" #[] 0) } κ (λx=>∃ i,i<vs.length/\x=(vs.getD i Dd,vs.getD i Dd)) (λx=>gF lt' ks (kV is d x.1)):=by
   refine⟨?_⟩;rintro x y ⟨i,hi,rfl⟩ ⟨j,hj,rfl⟩ E Q st hk q;rw[lt'_eq];refine Av (Kx ?_);rw[hk];rw[kv i hi,kv j hj,<- sD O (km i hi)] at q;refine Av (On (Ly (Gj (k2 i j (λb s'=>s'=_/\b=cN lt' ks d i j) hi hj ⟨rfl,rfl⟩) ?_ λ_ _ e=>e.elim)));rintro b s' ⟨rfl,rfl⟩;exact⟨rfl,AY q⟩
  have pl:(vs.toArray.zip vs.toArray).toList=(Cw vs.length).map λi=>(vs.getD i Dd,vs.getD i Dd):=by
   apply Vt
   .simp
   .intro i h1 h2
    have:i<vs.length:=by simpa using h2
    simp[this]
  refine Ai (k1 _ _ ?_);refine Ai (Gj (nO (E:=E) (Q:=λ_ st'=>∃ b pd g,st'=Cc κ b pd g none/\b.toList.Perm (vs.toArray.zip vs.toArray).toList/\b.toList.Pairwise (Le λx=>gF lt' ks (kV is d x.1))) cm (arr:=vs.toArray.zip vs.toArray) (g:=7) ?_ ?_ λb pd g p q=>⟨b,pd,g,rfl,p,q⟩) ?_ λ_ _ e=>e)
  .intro x hx
   rw[pl] at hx;obtain⟨i,hi,rfl⟩:=Ce.mp hx;exact⟨i,Es.mp hi,rfl⟩
  .simp;lia
  .rintro⟨⟨⟩,st'⟩ s' ⟨rfl,b,pd,g,rfl,pm,up⟩
   refine fin _ (b.toList.map λx=>(kV is d x.1,x.2)) ?_ rfl ?_ ?_
   .show b.map (·.2)=_
    apply Vr.mp;simp
   .refine(pm.map _).trans ?_
    rw[pl,Ft];have:ks.zip vs=(Cw vs.length).map λi=>(ks.getD i d,vs.getD i Dd):=by
     apply Vt
     .simp[hlen]
     .intro i h1 h2
      have h3:i<vs.length:=by simpa using h2
      have h4:i<ks.length:=by lia
      simp[h3,h4]
    rw[this];refine List.Perm.of_eq (Fw λi hi=>?_);show (kV is d (vs.getD i Dd),_)=_;rw[kv i (Es.mp hi)]
   .unfold Nf
    rw[Ft,Gu];refine up.imp_of_mem λ{x y} hx hy h=>?_;have hx:=pm.mem_iff.mp hx;have hy:=pm.mem_iff.mp hy;rw[pl] at hx hy;obtain⟨i,hi,rfl⟩:=Ce.mp hx;obtain⟨j,hj,rfl⟩:=Ce.mp hy;have h:gF lt' ks (kV is d (vs.getD i Dd))<=gF lt' ks (kV is d (vs.getD j Dd)):=h;show lt' (kV is d (vs.getD j Dd)) (kV is d (vs.getD i Dd))=false;have hj:=Es.mp hj;rw[sD O (ks:=ks) (by rw[kv j hj];exact km j hj)]
    exact Cj (by lia)
end
section
variable {prog:AV}{w:Bk}{h0:Bc}
theorem PY {vs:Aa Ac}{ks:Aa Aj}(hl:vs.length=ks.length)(hv:∀ i v,vs[i]? = Ab v->isI prog w (ks.getD i 0) v)(h2:2<=vs.length):Cmps prog w h0 vs (cN ltI ks 0):=by
 have hi:∀ v∈vs,∃ n t,v=Hd n t:=λv hm=>by
  obtain⟨i,hi,e⟩:=Fm.mp hm;obtain⟨t,q⟩:=mZ (hv i v (by rw[AW hi,e]))
  exact⟨_,t,q⟩
 refine⟨oneType',λA hu s hS=>⟨λQ E h=>?_,λi j C hi hj h=>?_⟩⟩
 .obtain⟨v₁,v₂,qL,rfl⟩:∃ v₁ v₂ qL,vs=v₁::v₂::qL:=by
   match vs,h2 with
   |v₁::v₂::qL,_=>exact⟨v₁,v₂,qL,rfl⟩
  rw[keyKind_ints (intsAre_map _ hi)];exact Ap h
 .have g:∀ k (hk:k<vs.length),∃ t,vs.getD k Dd=.int (ks.getD k 0) t:=λk hk=>by
   obtain⟨t,q⟩:=mZ (hv k vs[k] (AW hk));exact⟨t,by rw[<- q];simp[Qq,hk]⟩
  obtain⟨t,et⟩:=g i hi;obtain⟨u,eu⟩:=g j hj;unfold kas_ask;rw[et,eu];exact kat_lt_int h
end
section
variable {K:Type}{lt':K->K->Ao}
theorem LS {α:Type}{ks:Aa K}{vs:Aa α}{d:K}(hl:vs.length=ks.length){p:K × α}(h:p∈ks.zip vs):∃ i,vs[i]? = Ab p.2/\ks.getD i d=p.1:=by
 obtain⟨i,hi,e⟩:=Fm.mp h;have h1:i<ks.length:=by rw[Qc] at hi;lia
 have h2:i<vs.length:=by lia
 rw[List.getElem_zip] at e;subst e;exact⟨i,AW h2,by simp[h1]⟩
end
structure Kind (prog:AV)(w:Bk){K:Type}(is:K->Ac->Prop)(hash:K->Aj)(lt':K->K->Ao)(d:K)(Fit:K->Prop)(h0:Bc):Prop where
 ord:Ord lt'
 inj:∀ {k k':K} {v:Ac},is k v->is k' v->k=k'
 cmps:∀ {vs:Aa Ac} {ks:Aa K},vs.length=ks.length->(∀ i v,vs[i]? = Ab v->is (ks.getD i d) v)->(∀ k∈ks,Fit k)->2<=vs.length->Cmps prog w h0 vs (cN lt' ks d)
theorem DZ (prog:AV)(w:Bk)(h0:Bc):Kind prog w (isI prog w) (Rw prog w).hash ltI 0 (λ_=>Mm) h0:=⟨WB,λa b=>(Rw prog w).inj _ _ _ a b,λh1 h2 _ h4=>PY h1 h2 h4⟩
end _S
namespace _D
open PySem PySem.Spec PyProof.Rows _L
noncomputable def aR:Aa D->Al (Aa (Aa Aj))
 |[]=>Ab []
 |.tup ys::r=>(xG ys).bind λk=>(aR r).map (k::·)
 |_::_=>none
noncomputable def tpD (k:Aa Aj):D:=.tup (k.map D.int)
noncomputable def HJ:D->Al (Aa D)
 |.lst xs=>Ab xs
 |.tup xs=>Ab xs
 |_=>none
section
variable {X:Cx}{e:Bd}{fa:DE}{p1 p2 pos1 pos2:Do}
theorem i7:El "sorted" = Ab (.builtin "sorted"):=by decide +kernel
end
end _D
section
namespace _D
open PySem PySem.Spec PyProof.Rows _L
mutual
noncomputable def pyD:D->Al Tg
 |.non=>Ab .none
 |.bl b=>Ab (.bool b)
 |.int i=>Ab (.int i)
 |.str x=>Ab (.str x)
 |.tup xs=>(uQ xs).map .tuple
 |.lst xs=>(uQ xs).map .list
 |.dct0=>Ab (.dict [])
 |_=>none
noncomputable def uQ:Aa D->Al (Aa Tg)
 |[]=>Ab []
 |d::ds=>(pyD d).bind λx=>(uQ ds).map (x::·)
end
mutual
noncomputable def u4:D->Ao
 |.lst _=>false
 |.tup xs=>kA xs
 |_=>true
noncomputable def kA:Aa D->Ao
 |[]=>true
 |d::ds=>u4 d&&kA ds
end
noncomputable def pF (d:D)(p:Tg):Ao:=p.showable&&p.leavesShort 40&&decide (p.bulk<=2 ^ 16)&&decide (p.depth<=60)&&(!p.hasDict||u4 d)
noncomputable def gG (d:D):Al An:=(pyD d).bind λp=>if pF d p then Ab p.shown else none
noncomputable def pQ:DF:=λds S=>match ds with
 |[d]=>match gG d with
  |some x=>.ok (.str x) S
  |none=>.bad
 |_=>.bad
section
variable {X:Cx}{pins:Aa (Ad × Bq)}{σ : _L.St}{H P:Hp}{α : Aa Ad}{S:Sto}{s:Ag}
mutual
theorem sE (I:Inv X pins σ H s)(r:Rel X.K H P α S):∀ (d:D) (p:Tg) (v:V) (u:Ac),pyD d=Ab p->Rep X.K P α d v->qM v u->∃ as,Reads s.heap u p as/\(u4 d=true->Gi ∉ as)
 |.non,p,v,u,h,q,rv=>by
  cases h;simp only[Rep] at q;subst q;cases (show u=Dd from rv);exact⟨_,.none,by simp⟩
 |.bl b,p,v,u,h,q,rv=>by
  cases h;simp only[Rep] at q;subst q;cases (show u=Eb b from rv);exact⟨_,.bool b,by simp⟩
 |.int i,p,v,u,h,q,rv=>by
  cases h;simp only[Rep] at q;subst q;obtain⟨t,rfl⟩:=rv;exact⟨_,.int i t,by simp⟩
 |.str x,p,v,u,h,q,rv=>by
  cases h;simp only[Rep] at q;subst q;obtain⟨t,rfl⟩:=rv;exact⟨_,.str x t,by simp⟩
 |.tup xs,p,v,u,h,q,rv=>by
  simp only[pyD] at h;obtain⟨ps,h1,rfl⟩:=Cg.mp h;obtain⟨a,vs,its,rfl,_,t,rvs,⟨o,e,hc,n,hd⟩,_,_⟩:=kM I r q;cases (show u=Bn a from rv)
  obtain⟨as,ra,ha⟩:=pE I r xs ps vs its h1 t rvs;exact⟨as,.tuple e hc hd (by simpa using ra),λz=>ha (by simpa only [u4] using z)⟩
 |.lst xs,p,v,u,h,q,rv=>by
  simp only[pyD] at h;obtain⟨ps,h1,rfl⟩:=Cg.mp h;obtain⟨a,vs,its,n,rfl,_,t,rvs,e,_,_⟩:=vS I r q;cases (show u=Bn a from rv)
  obtain⟨as,ra,_⟩:=pE I r xs ps vs its h1 t rvs;exact⟨a::as,.list e rfl rfl (by simpa using ra),λz=>by simp[u4] at z⟩
 |.dct0,p,v,u,h,q,rv=>by
  cases h;simp only[Rep] at q;obtain⟨a,rfl,q⟩:=q;cases (show u=Bn a from rv)
  obtain⟨_,ne,vs,kv,o,es,ep,e,hx,hd,_,hp,_⟩:=I.hok _ _ (r.sub _ _ q);cases kv;have he:es.toList=[]:=by
   generalize es.toList=l at hp;cases hp;rfl
  refine⟨[a]++[],.dict (kvs:=[]) e hx.1 hd ?_ ?_,λ_=>by simpa using (λz=>(Jr.mp ne) z.symm)⟩
  .rw[he];exact .nil
  .rw[he];exact .nil
 |.ty _,p,v,u,h,_,_=>by simp[pyD] at h
 |.obj _,p,v,u,h,_,_=>by simp[pyD] at h
 |.loc _,p,v,u,h,_,_=>by simp[pyD] at h
 |.exn _,p,v,u,h,_,_=>by simp[pyD] at h
 |.fd _ _,p,v,u,h,_,_=>by simp[pyD] at h
 |.clo _ _ _,p,v,u,h,_,_=>by simp[pyD] at h
theorem pE (I:Inv X pins σ H s)(r:Rel X.K H P α S):∀ (ds:Aa D) (ps:Aa Tg) (vs:Aa V) (us:Aa Ac),uQ ds=Ab ps->qE X.K P α ds vs->qN vs us->∃ as,ReadsAll s.heap us ps as/\(kA ds=true->Gi ∉ as)
 |[],ps,vs,us,h,q,rv=>by
  cases h;cases q.nil_inv;cases rv;exact⟨[],.nil,by simp⟩
 |d::ds,ps,vs,us,h,q,rv=>by
  simp only[uQ] at h;obtain⟨p,h1,h2⟩:=Dq.mp h;obtain⟨ps',h3,rfl⟩:=Cg.mp h2;obtain⟨w,ws,rfl,q1,q2⟩:=q.cons_inv;cases rv with
  |cons r1 r2 =>
   obtain⟨as,a1,a2⟩:=sE I r d p w _ h1 q1 r1;obtain⟨bs,b1,b2⟩:=pE I r ds ps' ws _ h3 q2 r2;refine⟨as++bs,.cons a1 b1,λz=>?_⟩;simp only[kA,As] at z;simp only[Bo,Xk];exact⟨a2 z.1,b2 z.2⟩
end
set_option tactic.hygienic true in
theorem Q9 {d:D}{x:An}(h:gG d=Ab x):∃ p,pyD d=Ab p/\p.shown=x/\p.showable=true/\p.shown.length<=sizeLine/\p.depth<=60/\(p.hasDict=true->u4 d=true):=by
 unfold gG at h;obtain⟨p,h1,h2⟩:=Dq.mp h
 split at h2
 .rename_i hk
  cases h2;simp only[pF,As,Ax,Gs,Ib] at hk;obtain⟨⟨⟨⟨k1,k2⟩,k3⟩,k4⟩,k5⟩:=hk;refine⟨p,h1,rfl,k1,?_,k4,λz=>k5.resolve_left (by rw[z];simp)⟩
  have:=PyData.shown_le_bulk 40 om p k2;rw[Fe];omega
 .cases h2
theorem VT (hg:X.A.guards=Ab [])(hu:X.A.units+64<Hz):xJ X (.builtin "repr") pQ:=by
 intro pins σ H s P α S vs us ds Q I r rv rp af
 match ds,af,rp with
 |[],af,_=>exact Am af
 |_::_::_,af,_=>exact Am af
 |[d],af,rp =>
  simp only[pQ] at af;cases hd:gG d with
  |none=>rw[hd] at af;exact Am af
  |some x =>
   rw[hd] at af;obtain⟨p,h1,rfl,hs,hz,hp,hn⟩:=Q9 hd;obtain⟨v,u,rfl,rfl,q,rv1⟩:=vN rp rv;obtain⟨as,ra,ha⟩:=sE I r d p v u h1 q rv1;have fin:∀ (h':Bc) (u tk:Oo),(∀ b o,s.heap.get? b=Ab o->h'.get? b=Ab o)->EP X pins σ Q (.str p.shown u) { s with heap:=h',toks:=tk }:=λh' u tk hk =>
    ⟨.str p.shown,H,I.kept hk,⟨u,rfl⟩,xr af r (by simp only[Rep])⟩
   cases ra with
   |none=>exact PySem.P.repr_of_none (fin s.heap _ _ λ_ _ e=>e)
   |bool b=>exact PySem.P.repr_of_bool (fin s.heap _ _ λ_ _ e=>e)
   |int i t=>exact PySem.P.repr_of_int (by simpa [Wi] using hs) (fin s.heap _ _ λ_ _ e=>e)
   |str y t=>exact PySem.P.repr_of_str (fin s.heap _ _ λ_ _ e=>e) hz
   |list a1 a2 a3 a4=>exact Ri (.list a1 a2 a3 a4) hs (λz=>ha (hn z)) hg om (λ_ _ e=>e) fin hz
   |tuple a1 a2 a3 a4=>exact Ri (.tuple a1 a2 a3 a4) hs (λz=>ha (hn z)) hg om (λ_ _ e=>e) fin hz
   |dict a1 a2 a3 a4 a5=>exact Ri (.dict a1 a2 a3 a4 a5) hs (λz=>ha (hn z)) hg om (λ_ _ e=>e) fin hz
end
end _D
end
section
namespace _H
open PySem PyProof.Rows
noncomputable def stepLo (n:Af)(k:Aj):Aj:=(Ek none none k (n:Aj)).1
noncomputable def stepHi (n:Af)(k:Aj):Aj:=(Ek none none k (n:Aj)).2
noncomputable def stepN (n:Af)(k:Aj):Af:=Fb (stepLo n k) (stepHi n k) k
noncomputable def stepL {α:Type}(xs:Aa α)(k:Aj):Aa α:=(Cw (stepN xs.length k)).filterMap λ(m:Af)=>xs[(stepLo xs.length k+(m:Aj)*k).toNat]?
section
variable {prog:AV}{w:Bk}{A:Bh}{E:Ac->Ag->Prop}{s:Ag}
theorem b8 {sl:Ad}{k:Aj}{t:Oo}{n:Af}{Q:Aj × Aj × Af->Ag->Prop}(hs:s.heap.IsSliceOf sl .none .none (.int k t))(hk:k≠0)
  (h:Q (stepLo n k,k,stepN n k) s):Ar (Au prog w) A (Hm (.ref sl) (pure (n:Aj))) Q E s:=by
 obtain⟨os,hos,hcs,hds⟩:=id hs;unfold Hm Ov;refine Ai (Ai (Dv hos hds (x:=.none) rfl (Ai (Dv hos hds (x:=.none) rfl (Ai (Dv hos hds (x:=.int k t) rfl (Ap ?_)))))));refine Ai (slicePart_int ?_);show Ar _ _ (if (k == 0)=true then _ else _) _ _ s
 rw[AX (by simpa using hk)]
 refine Ai (No (Ai (No (Ai (Ap ?_)))));exact Ap h
theorem stepL_length {α:Type}(xs:Aa α)(k:Aj):(stepL xs k).length<=stepN xs.length k:=by
 unfold stepL;exact Bu (OH _ _) (by rw[Er];exact Aq _)
theorem getItem_tuple_step {t sl:Ad}{items:AZ Ac}{k:Aj}{u:Oo}{Q:Ac->Ag->Prop}(ht:Qj s.heap t items)(hs:s.heap.IsSliceOf sl .none .none (.int k u))(h0:k≠0)(h1:k≠1)
  (h:Q (.ref s.heap.objs.size) { s with heap:=s.heap.push { cls:=.type "tuple",data:=.seq (stepL items.toList k).toArray } })
  (hsz:stepN items.size k<=sizeLine):Ar (Au prog w) A (Lu (.ref t) (.ref sl)) Q E s:=by
 have htake:sizeOk (.seq (stepL items.toList k).toArray):=by
  show (stepL items.toList k).toArray.size<=sizeLine;rw[Bf];exact Bu (stepL_length _ _) (by simpa using hsz)
 obtain⟨os,hos,hcs,hds⟩:=id hs;have hTs:s.TypeIs (.ref sl) "slice":=⟨os,hos,hcs⟩;unfold Lu
 try with_reducible refine Fo ?_
 first|refine Ai (Ap ?_)|skip
 refine Ai (Ow ht.typeIs (by decide) ?_)
 refine Ai (Ev (name:=Ji "__getitem__") ht.typeIs Ch
  (Fy Ch ht.typeIs Ni ?_ (Nz _ _)))
 show Ar _ _ (Jp (.ref t) >>= _) _ _ s;refine Ai (Sm ht ?_);refine Ai (OT hTs ?_);rw[AS (by decide)]
 refine Ai (b8 hs h0 ?_);have hno:¬ ((stepLo items.size k == 0&&k == 1&&stepN items.size k == items.size)=true):=by
  intro q;rw[As,As] at q;exact h1 (eq_of_beq q.1.2)
 show Ar _ _ (if (stepLo items.size k == 0&&k == 1&&stepN items.size k == items.size)=true then _ else _) _ _ s
 rw[AX hno];have e:((Cw (stepN items.size k)).filterMap λ(m:Af)=>items[(stepLo items.size k+(m:Aj)*k).toNat]?)=stepL items.toList k:=by
  unfold stepL;simp
 rw[e]
 first
  |exact Ai (m:=Dx _) (Cz (Ap ⟨_,rfl,Ap h⟩) htake)
  |exact Ai (m:=Dx _) (Cz (Ai (Ap (Ap ⟨_,rfl,Ap h⟩))) htake)
  |exact Ai (Ai (m:=Dx _) (Cz (Ap (Ap ⟨_,rfl,Ap h⟩)) htake))
  |exact Ai (Ai (m:=Dx _) (Cz (Ap ⟨_,rfl,Ap h⟩) htake))
end
end _H
namespace _D
open PySem PySem.Spec PyProof.Rows _L
noncomputable def nV:G2:=λd k S=>match d,k with
 |.tup xs,.int k=>if k≠0/\k≠1/\_H.stepN xs.length k<=lim then .ok (.tup (_H.stepL xs k)) S else .bad
 |_,_=>.bad
noncomputable def cS (fe fk:DE):DE:=d2 nV fe fk
section
variable {X:Cx}{e ek:Bd}{fe fk:DE}{p2 pos:Do}
theorem QX {vs:Aa V}{us:Aa Ac}(rv:qN vs us)(l:Aa Af)(f:Af->Af):qN (l.filterMap λm=>vs[f m]?) (l.filterMap λm=>us[f m]?):=by
 induction l with
 |nil=>exact .nil
 |cons m l ih =>
  simp only[Gx];cases h:vs[f m]? with
  |none =>
   have:us[f m]? = none:=by
    rw[OB] at h ⊢;rw[<- rv.length];exact h
   rw[this];exact ih
  |some v =>
   obtain⟨u,hu,r⟩:=rv.get h;rw[hu];exact .cons r ih
theorem QC {K:Ah}{P:Hp}{α:Aa Ad}{ds:Aa D}{vs:Aa V}(rp:qE K P α ds vs)(l:Aa Af)(f:Af->Af):qE K P α (l.filterMap λm=>ds[f m]?) (l.filterMap λm=>vs[f m]?):=by
 induction l with
 |nil=>exact .nil
 |cons m l ih =>
  simp only[Gx];cases h:ds[f m]? with
  |none =>
   have:vs[f m]? = none:=by
    rw[OB] at h ⊢;rw[<- rp.length];exact h
   rw[this];exact ih
  |some d =>
   obtain⟨u,hu,r⟩:=rp.get h;rw[hu];exact .cons r ih
set_option tactic.hygienic true in
theorem U7 (he:PE X e (tD X fe))(hk:PE X ek (tD X fk)):PE X (.Subscript e (.Slice none none (Ab ek) p2) pos) (tD X (cS fe fk)):=by
 intro pins s σ H Q I h;obtain⟨P,α,env,S,r,re,af⟩:=h;have af':qJ X P α ((fe env S).bind λd S1=>(fk env S1).bind λk S2=>nV d k S2) (OkV X P α Q):=af;refine Wu (thn (zM he I r re af') λv s1 ⟨x,H1,P1,α1,d,S1,G1,af1⟩=>?_);refine wpAny_Slice ?_;rw[Sn];refine Ap (Ap ?_);rw[evalPart_some];refine thn (zM hk G1.inv G1.rel G1.env (qU.base G1.same G1.pre af1)) λvk s2 ⟨y,H2,P2,α2,k,S2,G2,af2⟩=>?_;have af2:=qU.base G2.same G2.pre af2;cases d with
 |tup xs =>
  cases k with
  |int k =>
   simp only[nV] at af2
   split at af2
   .rename_i hk'
    have rp:=Rep.mono G2.same G2.pre _ _ G1.rep;obtain⟨a,vs,its,rfl,q,t,rvs,ht,hl,_⟩:=kM G2.inv G2.rel rp;cases (show v=Bn a from G1.val)
    have gr:=G2.rep;simp only[Rep] at gr;subst gr;obtain⟨tk,rfl⟩:=G2.val;have I4:Inv X pins σ H2 { s2 with heap:=s2.heap.push { cls:=.type "slice",data:=.fields #[.none,.none,.int k tk] } }:=G2.inv.kept (t':=s2.toks) λb ob q=>Ak _ q
    have ht':Qj (s2.heap.push { cls:=.type "slice",data:=.fields #[.none,.none,.int k tk] }) a its.toArray:=ht.keeps λb ob q=>Ak _ q;refine tail_any (ops:=[.ref a,.ref s2.heap.objs.size]) (s:={ s2 with heap:=s2.heap.push { cls:=.type "slice",data:=.fields #[.none,.none,.int k tk] } }) ht'.typeIs Ch.lookup ?_ (by with_unfolding_all rfl)
    refine _H.getItem_tuple_step (s:={ s2 with heap:=s2.heap.push { cls:=.type "slice",data:=.fields #[.none,.none,.int k tk] } }) ht' (Tl ..) hk'.1 hk'.2.1 ?_ ?_
    .have lv:vs.length=its.length:=rvs.length
     have ld:xs.length=vs.length:=t.length;have t':qE X.K P2 α2 (_H.stepL xs k) (_H.stepL vs k):=by
      unfold _H.stepL;rw[ld];exact QC t _ λm=>(_H.stepLo vs.length k+(m:Aj)*k).toNat
     have rv':qN (_H.stepL vs k) (_H.stepL its k):=by
      unfold _H.stepL;rw[lv];exact QX rvs _ λm=>(_H.stepLo its.length k+(m:Aj)*k).toNat
     exact dB I4 G2.rel t' rv' (Bu (_H.stepL_length _ _) hk'.2.2) af2
    .rw[Bf,<- hl,<- zQ];exact hk'.2.2
   .exact Am af2
  |_=>exact Am af2
 |_=>exact Am af2
end
end _D
end
namespace _D
open PySem PySem.Spec PyProof.Rows _L
section
variable {X:Cx}{cm:Ao}{k:Af}{e ek:Bd}{fe fk:DE}{p2 pos:Do}
theorem LQ (hr:RoomC cm k X.A):ZCall X (.builtin "repr") pQ:=⟨VT hr.gd hr.units⟩
theorem KZ (he:QE X e fe)(hk:QE X ek fk):QE X (.Subscript e (.Slice none none (Ab ek) p2) pos) (cS fe fk):=⟨U7 he.1 hk.1⟩
end
noncomputable def RL (xs:Aa D):Al (Aa D):=match xG xs with
 |some ns=>if ns.length<=100000 then Ab ((_S.vG _S.ltI ns).map D.int) else none
 |none=>match aR xs with
  |some ks=>if (decide (ks.length<=100000)&&ks.all λk=>!k.isEmpty) then Ab ((_S.vG _H.lexLt ks).map tpD) else none
  |none=>none
noncomputable def tJ (R:Aa D->Sto->Res D):DF:=λds S=>match ds with
 |[d]=>match (HJ d).bind RL with
  |some ys=>R ys S
  |none=>.bad
 |_=>.bad
end _D
namespace _L
open PySem PySem.Spec PyProof.Rows
variable {loose:Aa An}{mg mb:An->Al Ac}
def E5 (H:Hp):Prop:=∀ b,H b=none\/(∃ o xs,H b=Ab (.frz o (.lst xs)))\/H b=Ab (.tbl #[])
def Tb0 (K:Ah)(H:Hp):Prop:=∀ x∈xX,∀ c T,Co K x=Ab (c,T)->H T=Ab (.tbl #[])
structure Tabs (K:Ah)(h:Bc):Prop where
 at':∀ x∈xX,∀ c T,Co K x=Ab (c,T)->Rb h c T/\h.get? T=Ab (Jg #[]) /\ K.lookup T=none
 inj:∀ x∈xX,∀ y∈xX,∀ c d T,Co K x=Ab (c,T)->Co K y=Ab (d,T)->x=y
theorem XN {P:AV}{w:Bk}{K:Ah}{CX:CXT}{k:Af}{fa a:Ad}{fd:Ej}{x:An}{sp:Sp}{s₁:Ag}{vs:Aa Ac}{ns:Aa Aj}
  (KX:K.In s₁.heap) (hns:s₁.heap.Ns Br mg) (hb:s₁.heap.Ns Ng mb) (hbb:∀ x:An,x ≠ "__name__" -> mb x=El x) (hlim:s₁.heap.NoLimit) (hg:s₁.gens=#[]) (hbm:P9 mg s₁.heap) (tbs:Tabs K s₁.heap)
  (ha:s₁.heap.get? a=Ab { cls:=.type "list",data:=.seq vs.toArray }) (hi:Vi vs ns) (hl:ns.length<=sizeLine) (hr:Room k Ox)
  (F:∀ base:Bc,K.In base->base.Ns Br mg->FnOk P w K mg base CX k fa fd [x] sp) (hbind:∀ (s:Ag) (u:Ac),Lr s fd ⟨[u],[]⟩ [(x,u)])
  (hsp:∀ H:Hp,Tb0 K H->SqX K H a (ns.map V.int)->sp [.ref a] H (λv _=>v=.bl true) λ_ _ _=>Eh)
  (hCX:∀ H e s',CX [] H s₁ (λ_ _ _=>Eh) e s'->Eh) :
  Hi (Au P w) Ox (.call (.ref fa) ⟨[.ref a],[]⟩) (λr s'=>r=.ok (.ret (.bool true))/\OldK s₁.heap s'.heap/\s'.os=s₁.os/\Lo s'.gens) s₁:=by
 have rv:=QV hi;have lenV:=hi.length
 let isT:Ad->Prop:=λb=>∃ x∈xX,∃ c,Co K x=Ab (c,b)
 have tab:∀ b,isT b->s₁.heap.get? b=Ab (Jg #[]) /\ K.lookup b=none:=λb ⟨x,hx,c,h⟩=>(tbs.at' x hx c b h).2;have core:∀ H:Hp,E5 H->Tb0 K H->SqX K H a (ns.map V.int)->HOk P w H s₁.heap->(∀ b,H b≠none->b=a\/isT b)->(H a≠none->K.lookup a=none) ->
   Hi (Au P w) Ox (.call (.ref fa) ⟨[.ref a],[]⟩) (λr s'=>r=.ok (.ret (.bool true))/\OldK s₁.heap s'.heap/\s'.os=s₁.os/\Lo s'.gens) s₁:=by
  intro H hO hT hS hok hA hK;have base_of:∀ {b:Ad} {o:Bq},s₁.heap.get? b=Ab o->H b=none->(kZ s₁.heap H).get? b=Ab o:=λe n=>XA e n;have noA:∀ {b:Ad} {o:Bq},s₁.heap.get? b=Ab o->o.cls≠.none->(o.cls≠.type "list" \/ ∃ es ep,o.data=.dict es ep)->H b=none:=λ{b o} e c1 c2=>by
   cases q:H b with
   |none=>rfl
   |some u =>
    rcases hA b (by rw[q];simp) with e'|e'
    .subst e'
     rw[ha] at e;cases e;rcases c2 with z|⟨es,ep,d⟩
     .exact absurd rfl z
     .cases d
    .rw[(tab b e').1] at e;cases e
     exact absurd rfl c1
  have noD:∀ {b:Ad} {o:Bq} {es:AZ DictEntry} {ep:Af},s₁.heap.get? b=Ab o->o.data=.dict es ep->H b=none:=λ{b o es ep} e d=>by
   cases q:H b with
   |none=>rfl
   |some u =>
    rcases hA b (by rw[q];simp) with e'|e'
    .subst e'
     rw[ha] at e;cases e;cases d
    .rw[(tab b e').1] at e;cases e;cases d
  have nsK:∀ {b:Ad} {m:An->Al Ac},s₁.heap.Ns b m->(kZ s₁.heap H).Ns b m:=λ{b m} ⟨o,es,ep,e,d,r⟩=>⟨o,es,ep,base_of e (noD e d),d,r⟩;have hKb:K.In (kZ s₁.heap H):=λb o e=>base_of (KX b o e) (by
   cases q:H b with
   |none=>rfl
   |some u =>
    rcases hA b (by rw[q];simp) with e'|e'
    .subst e'
     rw[hK (by rw[q];simp)] at e;cases e
    .rw[(tab b e').2] at e;cases e)
  have hM:Mod K mg (kZ s₁.heap H):=by
   refine⟨hKb,nsK hns,⟨mb,nsK hb,hbb⟩,let ⟨mc,h1,h2⟩:=hlim;⟨mc,nsK h1,h2⟩,?_,λx hx c T h=>?_,tbs.inj⟩
   .obtain⟨bm,o,b1,b2,b3,b4,b5⟩:=hbm
    exact⟨bm,o,b1,b2,base_of b3 (noA b3 (by rw[b4];nofun) (.inl (by rw[b4];decide))),b4,b5⟩
   .obtain⟨o,vs,file,tf,flags,tg,inF,text,tt,e1,e2,r⟩:=(tbs.at' x hx c T h).1
    exact⟨o,vs,file,tf,flags,tg,inF,text,tt,base_of e1 (noA e1 (by rw[e2];nofun) (.inl (by rw[e2];decide))),e2,r⟩
  have e0:Env0 P w K mg (kZ s₁.heap H) Ox [] s₁ H:=⟨rfl,hM,λb o e=>K7 e,Uc (iR _ _),trivial,λb hb=>absurd (show b∈([]:Aa Ad) from hb) (by simp),hok,.of_eq hg⟩
  refine OV ((F _ hKb (nsK hns)).run Ox [] s₁ H ⟨[.ref a],[]⟩ [.ref a] [.ref a] _ _ hr e0 (hbind s₁ (.ref a)) (.cons rfl .nil) (hsp H hT hS)) λr s' h=>?_;cases r with
  |error e=>exact(hCX H e s' h).elim
  |ok fl =>
   cases fl with
   |next=>exact Am h
   |brk=>exact Am h
   |cont=>exact Am h
   |ret u =>
    obtain⟨v,H',os,bare,un,hok',r',q⟩:=h;have q':v=.bl true:=q;subst q';obtain rfl:u=Eb true:=r';refine⟨rfl,⟨λb o e=>?_,λb o e=>un.there b o e (by simp)⟩,os,bare⟩
    cases q:H b with
    |none=>exact .inl (un.keep b o e q (by intro z;exact absurd (show b∈([]:Aa Ad) from z) (by simp)) (by simp))
    |some u =>
     rcases hO b with z|⟨ob,xs,z⟩|z
     .rw[q] at z;cases z
     .have z2:=un.frzs b ob _ z
      obtain⟨e1,_⟩:=hok b _ z;obtain⟨e2,_⟩:=hok' b _ z2;rw[e] at e1;cases e1;exact .inl e2
     .obtain⟨more,z2⟩:=un.tbls b _ z
      have e1:s₁.heap.get? b=Ab (Jg #[]):=hok b _ z;have e2:s'.heap.get? b=Ab (Jg (#[] ++ more)):=hok' b _ z2;rw[e] at e1;cases e1;rcases hA b (by rw[q];simp) with e'|⟨x,hx,c,h⟩
      .subst e';rw[ha] at e;cases e
      .exact .inr (.inl ⟨((tbs.at' x hx c b h).1.tab e).isCodeTable,rfl,#[],more,rfl,e2⟩)
 have nT:¬ isT a:=λh=>by
  have z:=(tab a h).1;rw[ha] at z;cases z
 have tT:∀ x∈xX,∀ c T,Co K x=Ab (c,T)->isT T:=λx hx c T h=>⟨x,hx,c,h⟩;have dec:∀ b,Iu (isT b):=λb=>Classical.propDecidable _;cases hk:K.lookup a with
 |some o =>
  have e:=KX a o hk;rw[ha] at e;cases e;refine core (λb=>if isT b then Ab (.tbl #[]) else none) (λb=>?_) (λx hx c T h=>AS (tT x hx c T h)) (.inr ⟨vs,_,hk,by rw[Ba];exact hl,rv⟩) (λb u z=>?_) (λb z=>?_) λz=>absurd (AX nT) z
  .by_cases h:isT b
   .exact .inr (.inr (AS h))
   .exact .inl (AX h)
  .by_cases h:isT b
   .have z':=(AS h).symm.trans z
    cases z';exact(tab b h).1
   .have z':=(AX h).symm.trans z
    cases z'
  .by_cases h:isT b
   .exact .inr h
   .exact absurd (AX h) z
 |none =>
  refine core (λb=>if b=a then Ab (.frz { cls:=.type "list",data:=.seq vs.toArray } (.lst (ns.map V.int))) else if isT b then Ab (.tbl #[]) else none) (λb=>?_) (λx hx c T h=>?_) (.inl (.inr ⟨{ cls:=.type "list",data:=.seq vs.toArray },AS rfl⟩)) (λb u z=>?_) (λb z=>?_) λ_=>hk
  .by_cases hb:b=a
   .exact .inr (.inl ⟨_,_,AS hb⟩)
   .by_cases h:isT b
    .exact .inr (.inr ((AX hb).trans (AS h)))
    .exact .inl ((AX hb).trans (AX h))
  .have h':=tT x hx c T h
   exact(AX (λ(z:T=a)=>nT (z▸h'))).trans (AS h')
  .by_cases hb:b=a
   .have z':=(AS hb).symm.trans z
    cases z';subst hb;exact⟨ha,by rw[Ba];exact hl,vs,_,rv,ha⟩
   .by_cases h:isT b
    .have z':=((AX hb).trans (AS h)).symm.trans z
     cases z';exact(tab b h).1
    .have z':=((AX hb).trans (AX h)).symm.trans z
     cases z'
  .by_cases hb:b=a
   .exact .inl hb
   .by_cases h:isT b
    .exact .inr h
    .exact absurd ((AX hb).trans (AX h)) z
noncomputable def lJ (q:AV)(K:Ah):Ao:=xX.all λx=>match Co K x with
 |none=>true
 |some (_,T)=>((recsOf q).find? λe=>e.name == x).isSome&&((K.lookup T).isNone&&xX.all λy=>match Co K y with
  |none=>true
  |some (_,U)=>x == y||!decide (T=U))
theorem GO {q:AV}{mean:ExcName->Al Ac}{h:Bc}{K:Ah}(T:Top q loose mean mg mb h)(X:K.In h)(c:lJ q K=true):Tabs K h:=by
 unfold lJ at c;have g:∀ x∈xX,∀ d U,Co K x=Ab (d,U)->((recsOf q).find? λe=>e.name == x).isSome=true/\(K.lookup U).isNone=true/\(xX.all λy=>match Co K y with
  |none=>true
  |some (_,V)=>x == y||!decide (U=V))=true:=λx hx d U e=>by
  have z:=Cb.mp c x hx;rw[e] at z;simpa only [As] using z
 refine⟨λx hx d U e=>?_,λx hx y hy d d' U e1 e2=>?_⟩
 .obtain⟨z1,z2,_⟩:=g x hx d U e
  obtain⟨r,hr⟩:=Ik.mp z1;obtain⟨k1,k2⟩:=PySem.W.tab_of T X hr e;exact⟨k1,k2,by simpa using z2⟩
 .have z:=Cb.mp (g x hx d U e1).2.2 y hy
  rw[e2] at z;simpa using z
theorem GS {l:Wj}{n k:Af}{q:AV}{loose:Aa An}{XP:(An->Al Ac)->Bc->Prop}{YP:Bk->Bc->Prop}{d:DefRec}{K:Params->Ah}{CX:Bk->CXT}{sp:Bk->Sp}{x:An}
  (hn:l.most=Ab n) (hn2:n<=sizeLine) (hdf:d.params.defaults=[]) (hr:Room k Ox) (ht:∀ p,lJ q (K p)=true)
  (hY:∀ (w:Bk) (h:Bc),YP w h->(K w.params).In h)
  (F:∀ (w:Bk) (mg:An->Al Ac) (fa:Ad) (h:Bc),(K w.params).In h->h.Ns Br mg->mg d.name=Ab (.ref fa) ->
   ∃ fd:Ej,(∀ (s:Ag) (u:Ac),Lr s fd ⟨[u],[]⟩ [(x,u)]) /\
    ∀ base:Bc,(K w.params).In base->base.Ns Br mg->FnOk l.prog w (K w.params) mg base (CX w) k fa fd [x] (sp w))
  (hsp:∀ (w:Bk) (H:Hp) (a:Ad) (ns:Aa Aj),ns.length<=n->Tb0 (K w.params) H->SqX (K w.params) H a (ns.map V.int)->sp w [.ref a] H (λv _=>v=.bl true) λ_ _ _=>Eh)
  (hCX:∀ (w:Bk) (H:Hp) (s:Ag) (e:Ac) (s':Ag),CX w [] H s (λ_ _ _=>Eh) e s'->Eh) :
  Xy q loose XP YP l.row.toRowW d [] (λf vs=>Wx f vs):=by
 refine _A.attach_call hn hdf λw s₀ s₁ mg mb fa o pm cd doc a vs ns G Y ho hd hcd hmg hobj hints hlen hg=>?_;have KX:=hY w _ Y;obtain⟨fd,hb,hF⟩:=F w mg fa _ KX G.T.g hmg;exact XN KX G.T.g G.T.b G.T.builtins G.T.nolimit hg (let ⟨bm,ob,b1,b2,b3,b4,b5,b6⟩:=G.T.bmain;⟨bm,ob,b1,b2,b3,b4,b5,b6⟩) (GO G.T KX (ht _)) hobj hints (Bu hlen hn2) hr hF hb (λH hT hS=>hsp w H a ns hlen hT hS) λH e s'=>hCX w H s₁ e s'
end _L
namespace _D
open PySem PySem.Spec PyProof.Rows _L
variable {K:Ah}{mg:An->Al Ac}
theorem NQ {h:Bc}(X:K.In h)(G:h.Ns Br mg){x:An}{st:Ds}{ps:Aa An}{f:Ad}{oc:Ac}{od an:Al Ad}{osl:AZ (Al Ac)}{kV doc pm cdv ct:Ac}
  (a:Cy K Br x=Ab (Ab (.ref f)))
  (l:K.lookup f=Ab ⟨oc,od,.func (Fd x x (wQ st) (zI st) (qG st) .none kV doc pm an cdv ct),osl⟩) (c:Jf K cdv x=true) (k:Dz K (.ref f)=true)
  (hb:∀ (kV doc pm:Ac) (an:Al Ad) (cdv ct:Ac) (us:Aa Ac),us.length=ps.length->Po (Fd x x (wQ st) (zI st) (qG st) .none kV doc pm an cdv ct) ⟨us,[]⟩=pure (ps.zip us)):Src K mg x st ps:=
 have F:=FD (st:=st) l c k
 ⟨f,_,Tc X G a,F,F.binds hb⟩
noncomputable def lI (K:Ah)(C:Ad):Ao:=
 decide (Lb K (.ref C) "__getattribute__" = Ab (Ab (.builtin "BaseException.__getattribute__")))&&decide (Lb K (.ref C) "__getattr__" = Ab none)
 && decide (Lb K (.ref C) "__class__" = Ab (Ab (.builtin "object.__class__")))&&decide (Si K C (.type "object")=Ab true)&&decide (Si K C (.type "BaseException")=Ab true)
 && (PySem.W.clsIn K C).isSome&&decide (Je K (.ref C) (.type "ValueError")=Ab true)
noncomputable def ZH (K:Ah):Ao:=
 decide (Uj K (.builtin "object.__class__") "__get__" = Ab (Ab (.builtin "getset_descriptor.__get__")))&&decide (Wb K (.builtin "object.__class__")=Ab true)
noncomputable def PU (K:Ah)(cl:Aa Ad):Ao:=cl.all λC=>cl.all λB=>decide (Je K (.ref C) (.ref B)=Ab (C == B))
theorem PX {cl:Aa Ad}(h1:cl.all (lI K)=true)(h2:ZH K=true)(h3:PU K cl=true):ClsK K cl:=by
 have g:=h2;unfold ZH at g;simp only[As,Ax] at g;have k1:∀ C∈cl,lI K C=true:=Cb.mp h1;refine⟨λC hC=>?_,λC hC B hB=>?_,λC hC=>?_⟩
 .have e:=k1 C hC
  unfold lI at e;simp only[As,Ax] at e;obtain⟨⟨⟨⟨⟨⟨e1,e2⟩,e3⟩,e4⟩,e5⟩,e6⟩,e7⟩:=e;exact⟨e1,e2,e3,g.1,g.2,e4,e5,e6⟩
 .have e:=Cb.mp (Cb.mp h3 C hC) B hB
  exact Bi e
 .have e:=k1 C hC
  unfold lI at e;simp only[As,Ax] at e;exact e.2
noncomputable def ED (K:Ah)(cs:Aa Ac)(A:Ad):Ao:=cs.all λv=>decide (Il K v (.ref A)=Ab true)
noncomputable def EB (K:Ah)(cs:Aa Ad)(A:Ad):Ao:=cs.all λC=>bH K C A
noncomputable def EC (K:Ah)(cs:Aa Ad):Ao:=cs.all λC=>Dz K (.ref C)
def l8 (K:Ah):Sp:=λvs H Q E=>Tb0 K H/\∃ a ns,vs=[.ref a]/\SqX K H a (List.map V.int ns)/\ns.length<=63/\∀ H',Q (.bl true) H'
theorem sF {P:Hp}{α:Aa Ad}:∀ ns:Aa Aj,qE K P α (ns.map D.int) (ns.map V.int)
 |[]=>.nil
 |n::ns=>.cons (by simp only[Rep]) (sF ns)
noncomputable def noT (H:Hp):Hp:=λb=>match H b with
 |some (.tbl _)=>none
 |u=>u
theorem JQ {P:AV}{w:Bk}{fa:Ad}{st:Ds}{k:Af}{x:An}(hs:Src K mg "law" st [x])(hfa:mg "law" = Ab (.ref fa))
  (hbd:∀ (kV doc pm:Ac) (an:Al Ad) (cdv ct:Ac) (s:Ag) (v:Ac),Lr s (Fd "law" "law" (wQ st) (zI st) (qG st) .none kV doc pm an cdv ct) ⟨[v],[]⟩ [(x,v)])
  (hall:∀ base:Bc,∃ F,lA P w K mg base true k "law" [x] F/\∀ ns:Aa Aj,ns.length<=63->∃ S,F [.lst (ns.map D.int)] [] = .ok (.bl true) S) :
  ∃ fd:Ej,(∀ (s:Ag) (v:Ac),Lr s fd ⟨[v],[]⟩ [(x,v)])/\∀ base:Bc,K.In base->base.Ns Br mg->FnOk P w K mg base (CXd P w) k fa fd [x] (l8 K):=by
 obtain⟨f,fd,hm,F,hb⟩:=hs;cases hfa.symm.trans hm;refine⟨fd,?_,λbase _ _=>?_⟩
 .obtain⟨oc,od,kV,doc,pm,an,cdv,ct,osl,rfl,_,_⟩:=F.ex
  exact hbd kV doc pm an cdv ct
 .obtain⟨G,⟨f',fd',hm',_,hb',hl,X⟩,hG⟩:=hall base
  cases hm.symm.trans hm';cases hl.one (pS F);refine(X.imp λvs H Q E h=>?_).ok;obtain⟨tb,a,ns,rfl,hS,hl,k⟩:=h;obtain⟨S,e⟩:=hG ns hl;have keep:∀ (b:Ad) (u:HO),H b=Ab u->(∀ ps,u≠.tbl ps)->noT H b=Ab u:=λb u q h=>by
   unfold noT;rw[q];cases u with
   |tbl ps=>exact absurd rfl (h ps)
   |_=>rfl
  have hS':SqX K (noT H) a (List.map V.int ns):=by
   rcases hS with (h|⟨o,h⟩)|h
   .exact .inl (.inl (keep _ _ h λ_ z=>by cases z))
   .exact .inl (.inr ⟨o,keep _ _ h λ_ z=>by cases z⟩)
   .exact .inr h
  have sub:qF (noT H) H:=λb u q=>by
   unfold noT at q;cases z:H b with
   |none=>rw[z] at q;cases q
   |some v =>
    rw[z] at q;cases v with
    |tbl ps=>cases q
    |_=>exact q
  refine⟨rfl,noT H,[],[.lst (ns.map D.int)],[],⟨λx hx c T h=>⟨#[],tb x hx c T h,by unfold noT;rw[tb x hx c T h],by simp,trivial,λpos cv z=>by cases z⟩,sub,rfl,.nil,by simp,by simp,by simp⟩,.cons (pX hS' (sF ns)) .nil,?_⟩
  rw[e];intro v H' P' α' _ _ _ rv;simp only[Rep] at rv;subst rv;exact k H'
theorem RP {l:Wj}{q:AV}{loose:Aa An}{XP:(An->Al Ac)->Bc->Prop}{YP:Bk->Bc->Prop}{d:DefRec}{K:Params->Ah}{k:Af}{x:An}(hn:l.most=Ab 63)(hdf:d.params.defaults=[])(hr:Room k Ox)(ht:∀ p,lJ q (K p)=true)
  (hY:∀ (w:Bk) (h:Bc),YP w h->(K w.params).In h)
  (F:∀ (w:Bk) (mg:An->Al Ac) (fa:Ad) (h:Bc),(K w.params).In h->h.Ns Br mg->mg d.name=Ab (.ref fa) ->
   ∃ fd:Ej,(∀ (s:Ag) (u:Ac),Lr s fd ⟨[u],[]⟩ [(x,u)])/\∀ base:Bc,(K w.params).In base->base.Ns Br mg->FnOk l.prog w (K w.params) mg base (CXd l.prog w) k fa fd [x] (l8 (K w.params))) :
  Xy q loose XP YP l.row.toRowW d [] (λf vs=>Wx f vs):=
 _L.GS (n:=63) (k:=k) (x:=x) (CX:=λw=>CXd l.prog w) (sp:=λw=>l8 (K w.params)) hn (by decide) hdf hr ht hY F (λ_ _ a ns hl hT hS=>⟨hT,a,ns,rfl,hS,hl,λ_=>rfl⟩) λw H s e s' h=>by
  obtain⟨_,_,_,_,_,_,_,_,_,_,_,_,z⟩:=h;exact z
end _D
namespace _D
open PySem
variable {us:Aa Ac}
theorem us0 (h:us.length=0):us=[]:=IR h
theorem usS {n:Af}(h:us.length=n+1):∃ a vs,us=a::vs/\vs.length=n:=by
 cases us with
 |nil=>exact absurd h (by simp)
 |cons a vs=>exact⟨a,vs,rfl,by simpa using h⟩
theorem us1 (h:us.length=1):∃ a,us=[a]:=by
 obtain⟨a,vs,rfl,h'⟩:=usS h;exact⟨a,by rw[us0 h']⟩
theorem us2 (h:us.length=2):∃ a b,us=[a,b]:=by
 obtain⟨a,vs,rfl,h'⟩:=usS h;obtain⟨b,rfl⟩:=us1 h';exact⟨a,b,rfl⟩
theorem us3 (h:us.length=3):∃ a b c,us=[a,b,c]:=by
 obtain⟨a,vs,rfl,h'⟩:=usS h;obtain⟨b,c,rfl⟩:=us2 h';exact⟨a,b,c,rfl⟩
end _D
namespace _D
open PySem PySem.Spec PyProof.Rows _L
variable {us:Aa Ac}{caps:Aa D}{E:Ac->Ag->Prop}{c':Ad}{tk j:Af}{oc:Bq}{sc:Di}{H':Hp}{Q:VK}{env:qD}
theorem V8 (F:DF):∃ G:DF,G=F:=⟨F,rfl⟩
def sh (F:DF):DF:=Jq (V8 F)
theorem zK (F:DF):sh F=F:=Ho (V8 F)
noncomputable def isV:Al Gd->Ao
 |some .local => true
 |some .cell=>true
 |some .free=>true
 |_=>false
noncomputable def isL:Al Gd->Ao
 |some .local => true
 |some .cell=>true
 |_=>false
noncomputable def isG:Al Gd->Ao
 |some .globalImplicit=>true
 |_=>false
noncomputable def okN (x:An):Ao:=!(x == ("__debug__" : An))&&(!(x == ("__classdict__" : An))&&!decide (x = "__name__"))
noncomputable def okG (X:Cx)(x:An):Ao:=isG (X.env.kindOf x)&&okN x
noncomputable def okB (v:Ac)(x:An):Ao:=decide (El x=Ab v)
noncomputable def jL (sc:Di):Aa An:=sc.names.filterMap λy=>if isL (Ab y.2) then Ab y.1 else none
noncomputable def jB (sc:Di):Aa An:=(sc.names.filterMap λy=>if isL (Ab y.2)&&!(y.1 == (".0" : An)) then Ab y.1 else none)++sc.names.filterMap λy=>if y.2 == .free then Ab y.1 else none
def Ck (b:Ao):Prop:=b=true
theorem ck {b:Ao}(h:b=true:=by kernel_rfl):Ck b:=h
structure DfS (F:DF)(P:AV)(w:Bk)(K:Ah)(mg:An->Al Ac)(base:Bc)(cm:Ao)(k:Af)(x:An)(n:Af):Prop where
 get:Def P w K mg base cm k x n F
noncomputable def okT (X:Cx)(m:Af)(x:An):Ao:=decide (X.N[m]? = Ab x)&&(isL (X.env.scope.names.lookup x)&&(decide X.N.Nodup&&(X.fn x||decide (X.env.scope.names.lookup x=Ab .local))))
noncomputable def okP (X:Cx)(m:Af)(x:An):Ao:=decide (X.N[m]? = Ab x)&&decide (X.env.scope.names.lookup x=Ab .local)
noncomputable def cP (scX:Di)(NX:Aa An)(scope:Di)(cap:Aa (Al Af)):Ao:=
 decide (scope.kind=.function)&&(decide (∀ y∈scope.names,y.2=.local -> scope.names.lookup y.1=Ab .local)&&(decide (∀ y∈scope.names,y.2=.cell->scope.names.lookup y.1=Ab .cell)&&(decide (∀ y∈scope.names,y.2=.free->scX.names.lookup y.1=Ab .cell\/scX.names.lookup y.1=Ab .free)
 && (decide (∀ y∈scope.names,y.2=.free->scope.names.lookup y.1=Ab .free)&&(decide (cap.length=(jB scope).length)&&(((cap.zip (jB scope)).all λp=>match p.1 with|none=>true|some i=>NX[i]? == Ab p.2&&scope.names.lookup p.2 == Ab .free)&&decide (jB scope).Nodup))))))
noncomputable def fnB (N P:Aa An)(sc:Di):Ao:=
 decide (sc.kind=.function)&&(decide (sc.isCoroutine=false)&&(decide (sc.isGenerator=false)&&(decide N.Nodup&&(decide (N.take P.length=P)&&(decide (∀ x∈P,sc.names.lookup x=Ab .local \/ sc.names.lookup x=Ab .cell)&&decide (∀ y∈sc.names,y.2≠.free))))))
theorem ZI {scX:Di}{NX:Aa An}{scope:Di}{cap:Aa (Al Af)}(h:cP scX NX scope cap=true):CompSc scX NX scope (jB scope) cap:=by
 simp only[cP,As,Ax] at h;obtain⟨a,b,c,d,e,f,g,k⟩:=h;exact⟨a,b,c,d,e,f,g,k⟩
theorem lV {N P:Aa An}(h:fnB N P sc=true):FnScope N P sc:=by
 simp only[fnB,As,Ax] at h;obtain⟨a,b,c,d,e,f,g⟩:=h;exact⟨a,b,c,d,e,f,g⟩
section
variable {X:Cx}{a b c e o elt tg iter:Bd}{ifs qL:Aa Bd}{f g:DS}{fa:DE}{f2:DI2}{dg:DG}{t:DT}{kk:DK}{gens grest:Aa Dm}{scope:Di}{cap:Aa (Al Af)}{mm:Ao}{l q:Af}{y z:An}{G2':G2}{es:Aa Bd}{fA:DA}{x:An}{p pos:Do}{cm:Ao}{k n m:Af}{F:DF}
theorem eE (h:isV (sc.names.lookup x)=true):Vis sc x:=by
 unfold Vis
 revert h
 cases sc.names.lookup x with
 |none=>intro h;cases h
 |some y=>cases y <;> intro h <;> first|cases h;done|exact .inl rfl|exact .inr (.inl rfl)|exact .inr (.inr rfl)
theorem JD (h:isL (sc.names.lookup x)=true):_L.Loc sc x:=by
 unfold _L.Loc
 revert h
 cases sc.names.lookup x with
 |none=>intro h;cases h
 |some y=>cases y <;> intro h <;> first|cases h;done|exact .inl rfl|exact .inr rfl
theorem kG (h:okN x=true):(x == ("__debug__" : An))=false/\(x == ("__classdict__" : An))=false/\x ≠ "__name__":=by
 unfold okN at h;rw[As,As] at h;exact⟨by simpa using h.1,by simpa using h.2.1,by simpa using h.2.2⟩
theorem w8 (h:okG X x=true):Gl X x/\(x == ("__debug__" : An))=false/\x ≠ "__name__":=by
 have h:=(As _ _).mp h;refine⟨?_,(kG h.2).1,(kG h.2).2.2⟩;have z:=h.1;unfold Gl
 revert z
 cases X.env.kindOf x with
 |none=>intro z;cases z
 |some y=>cases y <;> intro z <;> first|cases z;done|rfl
theorem dN (h:okT X m x=true):X.N[m]? = Ab x/\_L.Loc X.env.scope x/\X.N.Nodup/\(X.fn x=true\/X.env.scope.names.lookup x=Ab .local):=by
 simp only[okT,As,Ax,Gs] at h;exact⟨h.1,JD h.2.1,h.2.2⟩
theorem w9 (h:okP X m x=true):X.N[m]? = Ab x/\X.env.scope.names.lookup x=Ab .local:=by
 simp only[okP,As,Ax] at h;exact h
theorem YQ (h:Ck (okG X x)):Gl X x:=(w8 h).1
theorem aV (h:Ck (decide (X.N[m]? = Ab x)&&(isV (X.env.scope.names.lookup x)&&okN x))):QE X (.Name x pos) (qB m):=by
 unfold Ck at h;simp only[As,Ax] at h;exact N8 m h.1 (eE h.2.1) (kG h.2.2).1 (kG h.2.2).2.1
theorem aBt {nm:Cs}(h:Ck (okG X x))(hm:X.mg x=none)(hb:Ck (okB (.type nm) x)):QE X (.Name x pos) (dC (.ty nm)):=
 have h:=w8 h
 KQ h.1 hm (Bi hb) h.2.2 h.2.1
theorem aCl {C:Ad}(h:Ck (okG X x))(hm:X.mg x=Ab (.ref C)/\Dz X.K (.ref C)=true):QE X (.Name x pos) (dC (.obj C)):=
 have h:=w8 h
 N1 h.1 hm.1 hm.2 h.2.1
theorem aGi {v:Aj}(h:Ck (okG X x))(hm:∃ t,X.mg x=Ab (.int v t)):QE X (.Name x pos) (dC (.int v)):=
 have h:=w8 h
 KS h.1 hm h.2.1
abbrev St1 (X:Cx)(e:Bd)(es:Aa Bd)(pos:Do):Prop:=Az (e::es) X.env=(false,eval e X.env)::Az es X.env/\(Eo pos (Az es X.env)).any (·.1)=false
theorem aN (G:DfS F X.prog X.w X.K X.mg X.base cm k x n)(hr:RoomC cm k X.A)(hF:Fn1 X)(h:Ck (okG X x))(ha:QA X (e::es) fA)(s:St1 X e es pos):QE X (.Call (.Name x p) (e::es) [] pos) (qI n F fA):=
 have h:=w8 h
 qcN G.1 hr hF h.1 ha h.2.1 s.1 s.2
theorem aO (G:DfS F X.prog X.w X.K X.mg X.base cm k x n)(hr:RoomC cm k X.A)(h:Ck (okG X x))(ha:QA X (e::es) fA)(s:St1 X e es pos):QE X (.Call (.Name x p) (e::es) [] pos) (qI n (okO F) fA):=
 have h:=w8 h
 qcO G.1 hr h.1 ha h.2.1 s.1 s.2
theorem aB {id:Cs}(hc:ZCall X (.builtin id) F)(h:Ck (okG X x))(hm:X.mg x=none)(hb:Ck (okB (.builtin id) x))(ha:QA X (e::es) fA)(s:St1 X e es pos):QE X (.Call (.Name x p) (e::es) [] pos) (qQ F fA):=
 have h:=w8 h
 WL hc h.1 hm (Bi hb) ha h.2.2 h.2.1 s.1 s.2
theorem aT {T:Cs}(hc:ZCall X (.type T) F)(h:Ck (okG X x))(hm:X.mg x=none)(hb:Ck (okB (.type T) x))(ha:QA X (e::es) fA)(s:St1 X e es pos):QE X (.Call (.Name x p) (e::es) [] pos) (qQ F fA):=
 have h:=w8 h
 oR hc h.1 hm (Bi hb) ha h.2.2 h.2.1 s.1 s.2
theorem aC (S:Ck (cP X.env.scope X.N scope cap))(hc:X.calm=true)(hi:QI2 X tg iter f2)(hg:∀ cl C ex s₀ H₀,QG (zG X (jB scope) scope cl C ex s₀ H₀) tg dg)(ht:∀ cl C ex s₀ H₀,QTs (zG X (jB scope) scope cl C ex s₀ H₀) ifs t)
  (has:∀ g',(⟨tg,iter,ifs,0⟩::grest:Aa Dm)[0+1]? = Ab g'->g'.is_async=0)
  (he:∀ cl C ex s₀ H₀,QK accL (zG X (jB scope) scope cl C ex s₀ H₀) (λacc=>xR false elt (⟨tg,iter,ifs,0⟩::grest) scope pos 0 acc (zG X (jB scope) scope cl C ex s₀ H₀).env) kk) (hs:∀ x,Gq iter X.env x=pure x) :
  QE X (.ListComp elt (⟨tg,iter,ifs,0⟩::grest) scope pos) (xC mm cap f2 dg t kk):=WN hc (ZI S) hi hg ht has he hs
theorem aNm (h:Ck (okT X m x)):QG X (.Name x pos) (gNm m):=
 have h:=dN h
 G6 h.2.2.1 h.1 h.2.1 h.2.2.2
theorem aSt {pos':Do}(hs:Qp e (Ab (.Name x pos')) pos.line X.env=pure false)(he:QE X e fa)(h:Ck (okT X m x)):QS X (.Assign [.Name x pos'] e pos) (qV fa (gNm m)):=
 have h:=dN h
 NI h.2.2.1 he h.1 h.2.1 hs h.2.2.2
theorem aAu {op:Lh}{pos':Do}(h:Ck (okT X m x))(he:QE X e fa)(ho:ZIp X op G2'):QS X (.AugAssign (.Name x pos') op e pos) (vF m G2' fa):=
 have h:=dN h
 NF h.2.2.1 he ho h.1 h.2.1 h.2.2.2
theorem aP2 {px py pt:Do} {kt k2 pt2} (h:Ck (decide X.N.Nodup&&(okP X m x&&(okP X l y&&!decide (m=l))))) (hc:X.calm=true) (ha:QA X [a,b] fA)
  (hw:Gy [.Tuple [.Name x px,.Name y py] kt pt] (.Tuple [a,b] k2 pt2) X.env=pure (Ab [x,y])) (hs:Gz [.Tuple [.Name x px,.Name y py] kt pt] (.Tuple [a,b] k2 pt2) pos.line X.env=pure false) :
  QS X (.Assign [.Tuple [.Name x px,.Name y py] kt pt] (.Tuple [a,b] k2 pt2) pos) (bR m l fA):=by
 unfold Ck at h;simp only[As,Ax,Ib,Fp] at h;exact NH hc h.1 ha (w9 h.2.1).1 (w9 h.2.2.1).1 h.2.2.2 (w9 h.2.1).2 (w9 h.2.2.1).2 hw hs
theorem aP3 {px py pz pt:Do} {kt k2 pt2} (h:Ck (decide X.N.Nodup&&(okP X m x&&(okP X l y&&(okP X q z&&(!decide (m=l)&&(!decide (m=q)&&!decide (l=q)))))))) (hc:X.calm=true) (ha:QA X [a,b,c] fA)
  (hw:Gy [.Tuple [.Name x px,.Name y py,.Name z pz] kt pt] (.Tuple [a,b,c] k2 pt2) X.env=pure (Ab [x,y,z])) (hs:Gz [.Tuple [.Name x px,.Name y py,.Name z pz] kt pt] (.Tuple [a,b,c] k2 pt2) pos.line X.env=pure false) :
  QS X (.Assign [.Tuple [.Name x px,.Name y py,.Name z pz] kt pt] (.Tuple [a,b,c] k2 pt2) pos) (m8 m l q fA):=by
 unfold Ck at h;simp only[As,Ax,Ib,Fp] at h;obtain⟨h1,h2,h3,h4,h5,h6,h7⟩:=h;exact GB hc h1 ha (w9 h2).1 (w9 h3).1 (w9 h4).1 h5 h6 h7 (w9 h2).2 (w9 h3).2 (w9 h4).2 hw hs
theorem aRs {C:Ad}{np cpos:Do}(h:Ck (okG X x))(hc:X.calm=true)(hF:Fn1 X)(hm:∃ Ae,X.mg x=Ab (.ref C)/\bH X.K C Ae=true)(ha:QA X (e::qL) fA)(s:St1 X e qL cpos) :
  QS X (.Raise (Ab (.Call (.Name x np) (e::qL) [] cpos)) none pos) (wY (.ref C) fA):=
 have h:=w8 h
 let ⟨_,hm,hx⟩:=hm
 WT hc hF h.1 hm hx ha h.2.1 s.1 s.2
theorem aTr {nm:An}{body:Aa Ds}{b₀:Ds}{suite:Aa Ds}{np hpos:Do}{cs:Aa Ac}(h:Ck (okG X x&&(okP X m nm&&(decide X.N.Nodup&&decide (X.N.length=n)))))(hF:Fn1 X)(hm:∃ C0,X.mg x=Ab (.ref C0)/\∀ c∈cs,Il X.K c (.ref C0)=Ab true)(hb:∀ E pn,ZPass (Cx.tryIn X E pn)->QB (Cx.tryIn X E pn) body f)(hs:∀ e,QB (Cx.suite X e) (b₀::suite) g) :
  QS X (.Try body [.ExceptHandler (Ab (.Name x np)) (Ab nm) (b₀::suite) hpos] [] [] pos) (bS n m cs f g):=by
 unfold Ck at h;simp only[As,Ax] at h;obtain⟨C0,hm,hcs⟩:=hm;exact NJ hF hb hs (w8 h.1).1 hm hcs h.2.2.1 (w9 h.2.1).1 (w9 h.2.1).2 (w8 h.1).2.1 h.2.2.2
end
structure TxS (K:Ah)(mg:An->Al Ac)(tp:Af->Ds)(tab:Aa (An × Af × Aa An))(bl:Aa An)(clt plt:Aa (An × Ad))(cs:Aa Ac)(exl:Aa Ad)(cst:Aa (An × Aj)):Prop where
 src:∀ (j:Af) {x:An} {i:Af} {ps:Aa An},tab[j]? = Ab (x,i,ps)->Src K mg x (tp i) ps
 nb:∀ {x:An},Ck (bl.contains x)->mg x=none
 cl:∀ {x:An} {C:Ad},clt.lookup x=Ab C->mg x=Ab (.ref C)/\Dz K (.ref C)=true
 rz:∀ {x:An} {C:Ad},plt.lookup x=Ab C->∃ Ae,mg x=Ab (.ref C)/\bH K C Ae=true
 ct:∃ C0,mg "FarError" = Ab (.ref C0)/\∀ c∈cs,Il K c (.ref C0)=Ab true
 cls:ClsK K exl
 gi:∀ {x:An} {v:Aj},cst.lookup x=Ab v->∃ t,mg x=Ab (.int v t)
section
variable {K:Ah}{mg:An->Al Ac}{cm:Ao}{tp:Af->Ds}{tab:Aa (An × Af × Aa An)}{bl:Aa An}{clt plt:Aa (An × Ad)}{cs:Aa Ac}{exl:Aa Ad}{cst:Aa (An × Aj)}{x:An}{i m:Af}{ps:Aa An}{F:DF}{g:DS}
theorem dq (P:AV)(w:Bk)(base:Bc)(k j:Af)(T:TxS K mg tp tab bl clt plt cs exl cst)(hj:tab[j]? = Ab (x,i,ps))(h:Ck (fnB (jL (qG (tp i))) ps (qG (tp i))&&decide ((jL (qG (tp i))).length=m)))(hF:F=qP m g)
  (hb:∀ (f:Ad) (cdv:Ac) (A:Bh) (outer:Aa Gv) (s:Ag) (H:Hp) (E:XK),kO K x cdv->RoomC cm k (A.deeper (EQ x (qG (tp i)) s.heap.objs.size f cdv)) ->
   QB (cxC cm P w K mg base (jL (qG (tp i))) x (qG (tp i)) f cdv A outer s H E) (zI (tp i)) g):DfS F P w K mg base cm (k+1) x ps.length:=by
 unfold Ck at h;simp only[As,Ax] at h;obtain⟨h,rfl⟩:=h;exact⟨hF▸EF (T.src j hj) (lV h) rfl hb⟩
theorem dqP {P:AV}{w:Bk}{base:Bc}(k j:Af)(T:TxS K mg tp tab bl clt plt cs exl cst)(hj:tab[j]? = Ab (x,i,ps))(h:Ck (fnB (jL (qG (tp i))) ps (qG (tp i))&&decide ((jL (qG (tp i))).length=m)))
  (hb:∀ (f:Ad) (cdv:Ac) (A:Bh) (outer:Aa Gv) (s:Ag) (H:Hp) (E:XK),kO K x cdv->RoomC cm k (A.deeper (EQ x (qG (tp i)) s.heap.objs.size f cdv)) ->
   QB (cxC cm P w K mg base (jL (qG (tp i))) x (qG (tp i)) f cdv A outer s H E) (zI (tp i)) g):lA P w K mg base cm (k+1) x ps (qP m g):=by
 unfold Ck at h;simp only[As,Ax] at h;obtain⟨h,rfl⟩:=h;exact DB (T.src j hj) (lV h) rfl hb
end
theorem hv {a b:Prop}(f:a->b)(h:a):b:=f h
inductive SrcF (K:Ah)(x:An)(st:Ds)(ps:Aa An):Prop
 |mk {f:Ad} {oc:Ac} {od an:Al Ad} {osl:AZ (Al Ac)} {kV doc pm cdv ct:Ac} (a:Cy K Br x=Ab (Ab (.ref f)))
  (l:K.lookup f=Ab ⟨oc,od,.func (Fd x x (wQ st) (zI st) (qG st) .none kV doc pm an cdv ct),osl⟩) (c:Jf K cdv x=true) (k:Dz K (.ref f)=true):SrcF K x st ps
def cI (K:Ah)(tp:Af->Ds):Aa (An × Af × Aa An)->Prop
 |[]=>Mm
 |(x,i,ps)::t=>SrcF K x (tp i) ps/\cI K tp t
def BdF (tp:Af->Ds):Aa (An × Af × Aa An)->Prop
 |[]=>Mm
 |(x,i,ps)::t=>(∀ (kV doc pm:Ac) (an:Al Ad) (cdv ct:Ac) (us:Aa Ac),us.length=ps.length->Po (Fd x x (wQ (tp i)) (zI (tp i)) (qG (tp i)) .none kV doc pm an cdv ct) ⟨us,[]⟩=pure (ps.zip us))/\BdF tp t
def cF (K:Ah):Aa (An × Ad)->Prop
 |[]=>Mm
 |(x,C)::t=>Cy K Br x=Ab (Ab (.ref C))/\cF K t
def cG (K:Ah):Aa (An × Aj)->Prop
 |[]=>Mm
 |(x,v)::t=>(∃ k,Cy K Br x=Ab (Ab (.int v k)))/\cG K t
noncomputable def EM:Al (Al Ac)->Ao
 |some none=>true
 |_=>false
section
variable {K:Ah}{h:Bc}{mg:An->Al Ac}{tp:Af->Ds}
theorem c5 (X:K.In h)(G:h.Ns Br mg):∀ (tab:Aa (An × Af × Aa An)),cI K tp tab->BdF tp tab->∀ (j:Af) {x:An} {i:Af} {ps:Aa An},tab[j]? = Ab (x,i,ps)->Src K mg x (tp i) ps
 |[],_,_,_,_,_,_,e=>by cases e
 |(x,i,ps)::t,H,B,0,_,_,_,e=>by
  cases e;obtain⟨a,l,c,k⟩:=H.1;exact NQ X G a l c k B.1
 |(x,i,ps)::t,H,B,j+1,_,_,_,e=>c5 X G t H.2 B.2 j e
theorem wH {β:Type}{p:An->β->Prop}{x:An}{C:β}:∀ {l:Aa (An × β)},(∀ y∈l,p y.1 y.2)->l.lookup x=Ab C->p x C
 |[],_,e=>by cases e
 |(y,b)::t,H,e=>by
  rw[Io] at e;cases q:x == y with
  |true =>
   rw[q] at e;cases e;rw[eq_of_beq q];exact H (y,_) (.head _)
  |false =>
   rw[q] at e;exact wH (λz hz=>H z (.tail _ hz)) e
theorem pL (X:K.In h)(G:h.Ns Br mg):∀ {l:Aa (An × Ad)},cF K l->∀ y∈l,mg y.1=Ab (.ref y.2)
 |(x,C)::t,H,y,hy=>by
  rcases Bg.mp hy with rfl|hy
  .exact Tc X G H.1
  .exact pL X G H.2 y hy
theorem rQ (X:K.In h)(G:h.Ns Br mg):∀ {l:Aa (An × Aj)},cG K l->∀ y∈l,∃ k,mg y.1=Ab (.int y.2 k)
 |(x,C)::t,H,y,hy=>by
  rcases Bg.mp hy with rfl|hy
  .obtain⟨k,e⟩:=H.1
   exact⟨k,Tc X G e⟩
  .exact rQ X G H.2 y hy
theorem RO {tab:Aa (An × Af × Aa An)}{bl:Aa An}{clt plt:Aa (An × Ad)}{cs:Aa Ac}{exl:Aa Ad}{cst:Aa (An × Aj)}{far:Ad}(B:BdF tp tab)(hp:∀ y∈plt,y∈clt)(hf:clt.lookup ("FarError" : An)=Ab far)(X:K.In h)(G:h.Ns Br mg)
  (s:cI K tp tab) (z:(bl.all λx=>EM (Cy K Br x))=true) (q:cF K clt) (g:cG K cst) (e1:exl.all (lI K)=true) (e2:ZH K=true) (e3:PU K exl=true) (e4:ED K cs far=true) (e5:EB K (plt.map (·.2)) far=true) (e6:EC K (clt.map (·.2))=true):TxS K mg tp tab bl clt plt cs exl cst where
 src:=c5 X G tab s B
 nb:=λ{x} hx=>by
  have e:=Cb.mp z x (by simpa using Dh.mp hx)
  refine PySem.W.mg_none_of X G ?_
  revert e
  cases Cy K Br x with
  |none=>intro e;cases e
  |some y=>cases y with
   |none=>intro _;rfl
   |some y=>intro e;cases e
 cl:=λh=>⟨wH (p:=λx C=>mg x=Ab (.ref C)) (pL X G q) h,wH (p:=λ_ C=>Dz K (.ref C)=true) (λy hy=>Cb.mp e6 y.2 (Td hy)) h⟩
 rz:=λh=>⟨far,wH (p:=λx C=>mg x=Ab (.ref C)) (λy hy=>pL X G q y (hp y hy)) h,wH (p:=λ_ C=>bH K C far=true) (λy hy=>Cb.mp e5 y.2 (Td hy)) h⟩
 ct:=⟨far,wH (p:=λx C=>mg x=Ab (.ref C)) (pL X G q) hf,λv hv=>Bi (Cb.mp e4 v hv)⟩
 cls:=PX e1 e2 e3
 gi:=λh=>wH (p:=λx v=>∃ k,mg x=Ab (.int v k)) (rQ X G g) h
end
structure LamT where
 qual:An
 params:Mw
 body:Bd
 scope:Di
noncomputable def xK (sc:Di):Aa An:=sc.names.filterMap λy=>if y.2 == .free then Ab y.1 else none
inductive CloAt (h:Bc)(H:Hp)(fs:Aa Ad)(L:LamT)(a:Ad)(cv:Aa V):Prop
 |mk (cl:Aa (An × Ad)) (pm ctv:Ac) (c:Ad) (oc:Bq) (ws:AZ Ac) (t:Oo) (o:h.get? a=Ab (Ki "<lambda>" L.qual L.params L.body L.scope cl pm c ctv)) (hc:H c=Ab (.frz oc (.frz oc (.own 0)))) (hd:oc.data=.fields ws) (ht:ws[1]? = Ab (.str L.qual t))
  (inj:∀ x y d,cl.lookup x=Ab d->cl.lookup y=Ab d->x=y) (cel:∀ x d,cl.lookup x=Ab d->H d=none/\∃ v,h.IsCell d v) (has:∀ x,L.scope.names.lookup x=Ab .free->∃ d,cl.lookup x=Ab d)
  (len:cv.length=(xK L.scope).length) (val:∀ (j:Af) x v,(xK L.scope)[j]? = Ab x->cv[j]? = Ab v->∃ d u,cl.lookup x=Ab d/\qM v u/\h.IsCell d (Ab u)) (hn:H a=none) (hf:a ∉ fs):CloAt h H fs L a cv
theorem CloAt.at {X:Cx}{pins:Aa (Ad × Bq)}{σ:_L.St}{H:Hp}{s:Ag}{L:LamT}{a:Ad}{cv:Aa V}(C:CloAt X.s₀.heap X.H₀ X.fs L a cv)(F:Fn1 X)(I:Inv X pins σ H s):CloAt s.heap H (frs X.stack) L a cv:=by
 obtain⟨cl,pm,ctv,c,oc,ws,t,o,hc,hd,ht,inj,cel,has,len,val,hn,hf⟩:=C;have nx:∀ b,b ∉ X.ex:=λb=>by rw[F.1];simp
 have nf:∀ b o,X.s₀.heap.get? b=Ab o->b ∉ X.fs->b ∉ frs X.stack:=λb o e n z=>(F.mem.mp z).elim (Bs (Aw (Ay e) I.ok.above)) n;have kc:∀ d v,X.H₀ d=none->X.s₀.heap.IsCell d v->s.heap.IsCell d v:=λd v h1 ⟨o,e,q⟩=>let ⟨_,z⟩:=I.base.any e h1 (nx d);⟨_,z,q⟩
 refine⟨cl,pm,ctv,c,oc,ws,t,I.base.keep a _ o hn hf (nx a),I.base.frzs _ _ _ hc,hd,ht,inj,λx d e=>?_,has,len,λj x v e1 e2=>?_,I.base.free a _ o hn (nx a),nf a _ o hf⟩
 .obtain⟨h1,v,h3⟩:=cel x d e
  obtain⟨ob,e3,q⟩:=id h3;exact⟨I.base.free d ob e3 h1 (nx d),v,kc d v h1 h3⟩
 .obtain⟨d,u,q1,q2,q3⟩:=val j x v e1 e2
  exact⟨d,u,q1,q2,kc d _ (cel x d q1).1 q3⟩
noncomputable def XH (cm:Ao)(P:AV)(w:Bk)(K:Ah)(mg:An->Al Ac)(base:Bc)(N:Aa An)(L:LamT)(cl:Aa (An × Ad))(f:Ad)(cd:Ac)(A:Bh)(outer:Aa Gv)(s:Ag)(H:Hp)(E:XK):Cx where
 prog:=P
 w:=w
 K:=K
 mg:=mg
 base:=base
 A:=A.deeper (Jk L.qual L.scope s.heap.objs.size f cd cl)
 N:=N
 s₀:=s
 H₀:=H
 env:=Jk L.qual L.scope s.heap.objs.size f cd cl
 outer:=outer
 stack:=Jk L.qual L.scope s.heap.objs.size f cd cl::outer
 ex:=[]
 calm:=cm
 fn:=λ_=>false
 pn:=[]
 xe:=xeL P w A (Jk L.qual L.scope s.heap.objs.size f cd cl) outer H s E
structure LamSc (L:LamT)(ps:Aa An):Prop where
 kind:L.scope.kind=.function
 co:L.scope.isCoroutine=false
 gen:L.scope.isGenerator=false
 nocell:∀ y∈L.scope.names,y.2≠.cell
 par:∀ x∈ps,L.scope.names.lookup x=Ab .local
 one:ps.length<=1
 fr:∀ x∈xK L.scope,L.scope.names.lookup x=Ab .free
def mI (P:AV)(w:Bk)(K:Ah)(mg:An->Al Ac)(base:Bc)(cm:Ao)(k:Af)(L:LamT)(n:Af)(G:Aa D->DF):Prop:=
 ∀ (A:Bh) (outer:Aa Gv) (s:Ag) (H:Hp) (us:Aa Ac) (ws cv:Aa V) (a:Ad) (P':Hp) (α : Aa Ad) (S:Sto) (caps ds:Aa D) (Q:VK) (E:XK),RoomC cm k A->Env0 P w K mg base A outer s H->CloAt s.heap H (frs outer) L a cv->Rel K H P' α S ->
  qE K P' α caps cv->qE K P' α ds ws->qN ws us->ds.length=n->spR K P' α (G caps ds S) Q E->Hi (Au P w) A (.call (.ref a) ⟨us,[]⟩) (CR (CXd P w) outer P w H s Q E) s
section
variable {P:AV}{w:Bk}{K:Ah}{mg:An->Al Ac}{base:Bc}{cm:Ao}{L:LamT}{ps:Aa An}
theorem J7 {cl:Aa (An × Ad)}{f:Ad}{cd:Ac}{A:Bh}{outer:Aa Gv}{s:Ag}{H:Hp}{E:XK}{ws cv:Aa V}{h':Bc}{tk:Af}(S:LamSc L ps)(hd:cm=true->A.handled=none)(e0:Env0 P w K mg base A outer s H)
  (inj:∀ x y d,cl.lookup x=Ab d->cl.lookup y=Ab d->x=y) (cel:∀ x d,cl.lookup x=Ab d->H d=none/\∃ v,s.heap.IsCell d v) (has:∀ x,L.scope.names.lookup x=Ab .free->∃ d,cl.lookup x=Ab d)
  (len:cv.length=(xK L.scope).length) (val:∀ (j:Af) x v,(xK L.scope)[j]? = Ab x->cv[j]? = Ab v->∃ d u,cl.lookup x=Ab d/\qM v u/\s.heap.IsCell d (Ab u)) (hl:ws.length=ps.length) (r:qN ws us)
  (hns:h'.Ns s.heap.objs.size λy=>(ps.zip us).reverse.lookup y) (hk:∀ b o,s.heap.get? b=Ab o->h'.get? b=Ab o) :
  Inv (XH cm P w K mg base (ps++xK L.scope) L cl f cd A outer s H E) [] ((ws++cv).map Ab) H { s with heap:=h',toks:=tk }:=by
 have kc:∀ d v,s.heap.IsCell d v->h'.IsCell d v:=λd v ⟨o,e,q⟩=>⟨o,hk d o e,q⟩;have no:∀ b:Ad,b ∉ ([]:Aa Ad):=λb=>by simp
 refine⟨⟨e0.mod,S.kind,rfl,rfl,Aq _,inj,λy hy=>?_,(λy c z=>nomatch z),hd,Mn e0.frames,.inr ⟨rfl,rfl⟩,λb z=>absurd z (no b),e0.bs,e0.bsz,λb _ _=>no b,λb z=>absurd z (no b),e0.funs,e0.frf⟩,
  rfl,e0.bare,Un.kept hk,⟨_,hns,λi y v h1 h2 h3=>?_⟩,λy c h=>?_,e0.hok.fresh (Aq _),λy c h=>(cel y c h).1,λp hp=>absurd (show p∈([]:Aa (Ad × Bq)) from hp) (by simp),e0.hok.kept hk,?_⟩
 .rcases hy with hy|hy
  .exact absurd rfl (S.nocell _ (Ec hy))
  .exact has y hy
 .have h1:(ps++xK L.scope)[i]? = Ab y:=h1
  rw[Dt] at h2;obtain⟨v',h2,e⟩:=Cg.mp h2;cases e;by_cases hi:i<ps.length
  .rw[Bz hi] at h1
   rw[Bz (by rw[hl];exact hi)] at h2
   obtain⟨u,hu,rv⟩:=r.get h2;refine⟨u,rv,.inl ⟨S.par y (Cn h1),?_⟩⟩;have one:=S.one;cases ps with
   |nil=>cases h1
   |cons p t =>
    cases t with
    |cons _ _=>simp at one
    |nil =>
     have i0:i=0:=by simpa using hi
     subst i0;cases us with
     |nil=>cases hu
     |cons u' us =>
      cases h1;cases hu;simp
  .rw[Ct (ON hi)] at h1
   rw[Ct (by rw[hl];exact ON hi),hl] at h2
   obtain⟨d,u,q1,q2,q3⟩:=val _ y v h1 h2;exact⟨u,q2,.inr ⟨.inr (S.fr y (Cn h1)),d,q1,kc d _ q3⟩⟩
 .obtain⟨_,v,q⟩:=cel y c h
  exact⟨v,kc c v q⟩
 .show _=(ps++xK L.scope).length
  simp[hl,len]
theorem FV {k:Af}{fe:DE}(S:LamSc L ps)(hb:∀ (cl:Aa (An × Ad)) (pm cdv ctv:Ac) (us:Aa Ac),us.length=ps.length->Po (Xc "<lambda>" L.qual L.params L.body L.scope cl pm cdv ctv) ⟨us,[]⟩=pure (ps.zip us))
  (hbody:∀ (cl:Aa (An × Ad)) (f:Ad) (cd:Ac) (A:Bh) (outer:Aa Gv) (s:Ag) (H:Hp) (E:XK),RoomC cm k (A.deeper (Jk L.qual L.scope s.heap.objs.size f cd cl)) ->
   QE (XH cm P w K mg base (ps++xK L.scope) L cl f cd A outer s H E) L.body fe):mI P w K mg base cm (k+1) L ps.length λcaps ds S=>fe ((ds++caps).map Ab) S:=by
 intro A outer s H us ws cv a P' α St caps ds Q E hr e0 C r rc rd rv hn af;obtain⟨cl,pm,ctv,c,oc,vs,t,o,hc,hd,ht,inj,cel,has,len,val,hna,hf⟩:=C;have af:spR K P' α (fe ((ds++caps).map Ab) St) Q E:=af;have lim:s.heap.NoLimit:=e0.mod.nolimit.keeps λb o e=>(e0.bs b o e).1;have hul:us.length=ps.length:=by rw[<- rv.length,<- rd.length];exact hn
 have hloc:∀ y∈ps.zip us,L.scope.names.lookup y.1=Ab .local:=λy hy=>S.par _ (Ka hy).1;refine PySem.W.kla_callFunE hr.depth o rfl S.co S.gen rfl ⟨c,oc,vs,t,rfl,(e0.hok c _ hc).1,hd,ht⟩ ?_;rw[hb cl pm (.ref c) ctv us hul];refine Ap (wpAny_newFunctionEnv S.nocell hloc (λh₁ hns hsb=>?_) S.kind);have hk₁:∀ b o,s.heap.get? b=Ab o->h₁.get? b=Ab o:=λb o e=>hsb.extBut b o (Bs (Ay e)) (Ak _ e);refine⟨lim.keeps hk₁,?_⟩;show Hi _ _ (.expr L.body (Jk L.qual L.scope s.heap.objs.size a (.ref c) cl)) _ _;have I:=J7 (cm:=cm) (f:=a) (cd:=.ref c) (E:=E) (tk:=s.toks+(ps.zip us).length) S hr.hd e0 inj cel has len val (by rw[<- rd.length];exact hn) rv hns hk₁
 have re:qZ K P' α ((ws++cv).map Ab) ((ds++caps).map Ab):=by
  have z:=rd.append rc;refine⟨by simp[z.length,rd.length,rc.length],λi d e=>?_⟩
  rw[Dt] at e;obtain⟨d',e1,e2⟩:=Cg.mp e;cases e2;obtain⟨v,h1,h2⟩:=z.get e1;exact⟨v,by rw[Dt,h1];rfl,h2⟩
 refine PySem.W.kla_codeExpr (Gj ((hbody cl a (.ref c) A outer s H E (hr.deeper _)).1 [] _ _ H Q I ⟨P',α,_,St,r,re,?_⟩) (λu s' q=>?_) λ_ _ y=>y)
 .cases z:fe ((ds++caps).map Ab) St with
  |ok d S'=>rw[z] at af;exact af
  |ex e x S'=>rw[z] at af;exact λu s' q=>lN (A:=A) rfl q λH' P1 α1 r1 e1 e2=>af H' P1 α1 r1 e1 e2
  |bad=>rw[z] at af;exact Am af
 .obtain⟨v,H',I',rv',q⟩:=q
  exact⟨v,H',I'.os,I'.bare,I'.base,I'.hok,rv',q⟩
end
open Classical in
def kT (i:Af)(fa:DA)(a:Ad)(cv:Aa V)(n:Af)(G:Aa D->DF):DE:=λenv S=>match env[i]? with
 |some (Ab (.clo b vs caps))=>if b=a/\vs=cv then (fa env S).bind λds S1=>if ds.length=n then G caps ds S1 else .bad else .bad
 |_=>.bad
section
variable {X:Cx}{cm:Ao}{k n i:Af}{x:An}{p pos:Do}{e:Bd}{es:Aa Bd}{fa:DA}{L:LamT}{G:Aa D->DF}{a:Ad}{cv:Aa V}
set_option tactic.hygienic true in
theorem VU {S:Sto}{P:Hp}{α:Aa Ad}{Ok:D->Sto->Prop}(h:qJ X P α (kT i fa a cv n G env S) Ok):∃ caps,env[i]? = Ab (Ab (.clo a cv caps))/\qJ X P α ((fa env S).bind λds S1=>if ds.length=n then G caps ds S1 else .bad) Ok:=by
 unfold kT at h
 split at h
 .rename_i b vs caps e
  obtain⟨⟨rfl,rfl⟩,h1⟩:=xT h;exact⟨caps,e,h1⟩
 .exact Am h
theorem EG {h:Bc}{H:Hp}{fs:Aa Ad}(C:CloAt h H fs L a cv):PySem.W.FnAt a h:=by
 obtain⟨cl,pm,ctv,c,oc,ws,t,o,_⟩:=C;exact⟨_,_,_,_,o⟩
theorem VV {pins:Aa (Ad × Bq)}{σ:_L.St}{H P:Hp}{α:Aa Ad}{s:Ag}{ws:Aa V}{ds:Aa D}{S:Sto}(LX:mI X.prog X.w X.K X.mg X.base cm k L n G)(hr:RoomC cm k X.A)(F:Fn1 X)(C:CloAt X.s₀.heap X.H₀ X.fs L a cv)
  (I:Inv X pins σ H s) (r:Rel X.K H P α S) (rc:qE X.K P α caps cv) (rp:qE X.K P α ds ws) (rv:qN ws us) (af:qU X P α (if ds.length=n then G caps ds S else .bad) Q):Ar (Au X.prog X.w) X.A (call (.ref a) us) (EP X pins σ Q) X.xe s:=by
 obtain⟨hn,af⟩:=xT af;exact bF (λ_=>F) I af (LX X.A X.stack s H us ws cv a P α S caps ds Q _ hr I.env0 (C.at F I) r rc rp rv hn (sO af))
theorem FX {pins:Aa (Ad × Bq)}{σ:_L.St}{H P:Hp}{α:Aa Ad}{s:Ag}{Q:Ac->Ag->Prop}(hN:X.N[i]? = Ab x)(hv:Vis X.env.scope x)(hd:(x == ("__debug__" : An))=false)(hcd:(x == ("__classdict__" : An))=false)
  (I:Inv X pins σ H s) (re:qZ X.K P α σ env) (he:env[i]? = Ab (Ab (.clo a cv caps))) (h:∀ s1,Inv X pins σ H s1->qE X.K P α caps cv->Q (.ref a) s1):Ar (Au X.prog X.w) X.A (eval (.Name x p) X.env) Q X.xe s:=by
 obtain⟨v,e1,rp⟩:=re.2 i _ he;simp only[Rep] at rp;obtain⟨rfl,rc⟩:=rp;refine thn (oK hN hv hd hcd pins s σ H (λv H'=>v=.ref a/\H'=H) I ⟨_,e1,rfl,rfl⟩) λu s1 ⟨v,H1,I1,rv,z1,z2⟩=>?_;subst z1;subst z2;cases (show u=Bn a from rv)
 exact h s1 I1 rc
theorem U2 (LX:mI X.prog X.w X.K X.mg X.base cm k L n G)(hr:RoomC cm k X.A)(F:Fn1 X)(C:CloAt X.s₀.heap X.H₀ X.fs L a cv)(hN:X.N[i]? = Ab x)(hv:Vis X.env.scope x)(hd:(x == ("__debug__" : An))=false)(hcd:(x == ("__classdict__" : An))=false) :
  PE X (.Call (.Name x p) [] [] pos) (tD X (kT i qC a cv n G)):=by
 intro pins s σ H Q I h;obtain⟨P,α,env,S,r,re,af⟩:=h;obtain⟨caps,e1,af⟩:=VU af;refine Ge (FX hN hv hd hcd I re e1 λs1 I1 rc=>?_);exact PySem.W.callWith_F0 (EG (C.at F I1)) (VV (us:=[]) LX hr F C I1 r rc .nil .nil af)
end
theorem rF {i:Af}{c:Ac}(l:Aa Ac)(h:Ju l):Ju (l++[Gp i,Gp j,c]):=by
 fun_induction Ju l with
 |case1=>simp[Ju,Gp]
 |case2 _ _ _ _ _ qL ih=>simp only[Mf,Ju];exact ih h
 |case3=>exact Am h
set_option tactic.hygienic true in
theorem aY {pos:Do}{i:Af}{c v:Ac}(l:Aa Ac)(h:Ju l)(e:Mx pos (l++[Gp i,Gp j,c])=Ab v):Mx pos l=Ab v\/v=c:=by
 fun_induction Ju l with
 |case1 =>
  simp only[Fg,Mx,Gp] at e
  split at e
  .exact .inr (Bx e).symm
  .cases e
 |case2 _ _ _ _ _ qL ih =>
  simp only[Mf,Mx] at e ⊢
  split at e
  .rename_i hc;rw[AS hc];exact .inl e
  .rename_i hc;rw[AX hc];exact ih h e
 |case3=>exact Am h
theorem MOk.at {K:Ah}{H P:Hp}{α:Aa Ad}{a:Ad}(e:H' a=H a):∀ {o:MO},MOk K H P α a o->MOk K H' P α a o
 |.dead,_=>trivial
 |.lst _,⟨vs,q,r⟩=>⟨vs,e.trans q,r⟩
 |.dct _,⟨vs,q,r⟩=>⟨vs,e.trans q,r⟩
 |.dcT _,⟨vs,q,r⟩=>⟨vs,e.trans q,r⟩
 |.ins _ _,⟨dx,vs,q,r⟩=>⟨dx,vs,e.trans q,r⟩
section
variable {X:Cx}{pins:Aa (Ad × Bq)}{σ : _L.St}{H P:Hp}{α : Aa Ad}{s:Ag}{S:Sto}{y:An}{c T:Ad}
theorem Rel.grown {ps:AZ Ac}{ws:AZ Ac}{t:Oo}{i:Af}(r:Rel X.K H P α S)(m:Mod X.K X.mg X.base)(hy:y∈xX)(ht:Co X.K y=Ab (c,T))(e:H T=Ab (.tbl ps))(pn:P T=none)(an:T ∉ α)(ok:Ju ps.toList)
  (cd:∀ pos cv,Mx pos ps.toList=Ab cv->∃ c oc vs t,cv=.ref c/\H c=Ab (.frz oc (.frz oc (.own 0)))/\oc.data=.fields vs/\vs[1]? = Ab (.str (y ++ ".<locals>." ++ "<lambda>") t)) (hn:H c'=none) (hd:oc.data=.fields ws) (hs:ws[1]? = Ab (.str (y ++ ".<locals>." ++ "<lambda>") t)) :
  Rel X.K (upd (upd H T (.tbl (ps++#[Gp i,Gp j,.ref c']))) c' (.frz oc (.frz oc (.own 0)))) P α S:=by
 have ne:T≠c':=qS e hn;have go:∀ b u,b≠T->H b=Ab u->upd (upd H T (.tbl (ps++#[Gp i,Gp j,.ref c']))) c' (.frz oc (.frz oc (.own 0))) b=Ab u:=λb u h q=>by rw[qH (qS q hn),qH h];exact q
 have nT:∀ b∈α,b≠T:=λb h z=>an (z▸h);have nc:∀ (k:Af) b,α[k]? = Ab b->b≠c':=λk b h z=>r.own k b h (z▸hn);have at':∀ (k:Af) b,α[k]? = Ab b->upd (upd H T (.tbl (ps++#[Gp i,Gp j,.ref c']))) c' (.frz oc (.frz oc (.own 0))) b=H b:=λk b h=>by rw[qH (nc k b h),qH (nT b (Cn h))]
 refine⟨λx hx d U hU=>?_,λb u q=>go b u (λz=>by rw[z,pn] at q;cases q) (r.sub b u q),r.len,r.nd,r.sep,λk b o h1 h2=>MOk.at (at' k b h1) (r.at' k b o h1 h2),λk b h=>by rw[at' k b h];exact r.own k b h⟩
 by_cases hT:U=T
 .subst hT
  cases m.inj x hx y hy d c U hU ht;refine⟨_,by rw[qH ne];exact qX,pn,an,?_,λpos cv q=>?_⟩
  .rw[Ci];exact rF _ ok
  .rw[Ci] at q
   rcases aY _ ok q with q|q
   .obtain⟨d,od,vs,t,a1,a2,a3⟩:=cd pos cv q
    exact⟨d,od,vs,t,a1,go d _ (λz=>by rw[z,e] at a2;cases a2) a2,a3⟩
   .exact⟨c',oc,ws,t,q,qX,hd,hs⟩
 .obtain⟨qs,e1,p1,a1,ok1,cd1⟩:=r.tb x hx d U hU
  exact⟨qs,go U _ hT e1,p1,a1,ok1,λpos cv q=>let ⟨d,od,vs,t,b1,b2,b3⟩:=cd1 pos cv q;⟨d,od,vs,t,b1,go d _ (λz=>by rw[z,e] at b2;cases b2) b2,b3⟩⟩
theorem Inv.pinned {a:Ad}{o:Bq}{h':Bc}{tk:Af}(I:Inv X pins σ H' { s with heap:=h'.push o,toks:=tk })(ha:a=h'.objs.size)(hs:s.heap.objs.size<=h'.objs.size)(I0:Inv X pins σ H s)(hn:H' a=none)(hd:∀ v,o.data≠.cell v)(hfr:o.isFreed=false:=by rfl):Inv X ((a,o)::pins) σ H' { s with heap:=h'.push o,toks:=tk }:=by
 refine I.pins_of λp hp=>?_;rcases Bg.mp hp with rfl|hp
 .subst ha
  exact⟨Bb _ hfr,hn,Iw (Aw I0.lt hs),I0.nofs hs,hd⟩
 .exact I.pin p (Bj _ hp)
theorem XM {M:Jl}{params:Mw}{body:Bd}{scope:Di}{lpos:Do}{cl:Aa (An × Ad)}{Q:Ac->Ag->Prop}(I:Inv X pins σ H s)(r:Rel X.K H P α S)(hy:y∈xX)(ht:Co X.K y=Ab (c,T))(hc:X.env.code=.ref c)(hq:X.env.qual=y ++ ".<locals>.")
  (hdef:WF params X.env=([],[])) (hcl:OO scope X.env=pure cl)
  (h:∀ (a:Ad) (H':Hp) (s':Ag) (pm ctv:Ac) (c':Ad) (oc:Bq) (ws:AZ Ac) (t:Oo),Inv X ((a,Ki "<lambda>" (y ++ ".<locals>." ++ "<lambda>") params body scope cl pm c' ctv)::pins) σ H' s'->Rel X.K H' P α S ->
   H' c'=Ab (.frz oc (.frz oc (.own 0)))->oc.data=.fields ws->ws[1]? = Ab (.str (y ++ ".<locals>." ++ "<lambda>") t)->Q (.ref a) s'):Ar M X.A (eval (.Lambda params body scope lpos) X.env) Q E s:=by
 obtain⟨ps,e,pn,an,ok,cd⟩:=r.tb y hy c T ht;have hP:s.heap.get? T=Ab (Jg ps):=I.hok T _ e;have hC:Rb s.heap c T:=(I.mod.code y hy c T ht).keeps I.bk;have hg:s.heap.Ns Br X.mg:=I.mod.glob.keeps I.bk;have hgP:Br≠T:=λz=>by
  obtain⟨o,es,ep,e1,d1,_⟩:=hg;rw[z,hP] at e1;cases e1;cases d1
 have hb:s.heap.BuiltinsAt X.mg T:=by
  obtain⟨bm,o,b1,b2,b3,b4,b5,b6⟩:=I.mod.bm;have b3':=I.bk _ _ b3;refine⟨bm,o,b1,b2,λz=>?_,λz=>?_,b3',b4,b5,b6⟩
  .obtain⟨o',es,ep,e1,d1,_⟩:=hg
   rw[<- z,b3'] at e1;cases e1;rw[b6] at d1;cases d1
  .rw[z,hP] at b3';cases b3';cases b4
 refine PySem.W.kla_eval hdef ?_;rw[hq];cases hf:Mx lpos ps.toList with
 |none =>
  refine PySem.W.kla_makeFunction (mg:=X.mg) hcl I.ok.glob hg hc hC hP ok hf hgP hb λc' ctv h' tk hx hge hlt hrec htb=>?_;obtain⟨c2,oc,ws,t,z,hoc,hd,hs⟩:=hrec;cases z;have hn:H c'=none:=I.hok.fresh hge;have ne:T≠c':=qS e hn;have hsz:s.heap.objs.size<=h'.objs.size:=Bu hge (Ee hlt)
  let o:=Ki "<lambda>" (y ++ ".<locals>." ++ "<lambda>") params body scope cl ((X.mg "__name__").getD .none) c' ctv
  have kp:∀ b u,b≠T->s.heap.get? b=Ab u->(h'.push o).get? b=Ab u:=λb u hb q=>Ak _ (hx b u hb q);have eT:(h'.push o).get? T=Ab (Jg (ps++#[Gp lpos.line,Gp lpos.col,.ref c'])):=Ak _ htb
  let H2:=upd (upd H T (.tbl (ps++#[Gp lpos.line,Gp lpos.col,.ref c']))) c' (.frz oc (.frz oc (.own 0)))
  have go:∀ b u,b≠T->H b=Ab u->H2 b=Ab u:=λb u h q=>by show upd _ _ _ b=_;rw[qH (qS q hn),qH h];exact q
  have go0:∀ b,b≠T->b≠c'->H b=none->H2 b=none:=λb h h' q=>by show upd _ _ _ b=_;rw[qH h',qH h];exact q
  have nT:∀ b,H b=none->b≠T:=λb q z=>by rw[z,e] at q;cases q
  have eH:H2 T=Ab (.tbl (ps++#[Gp lpos.line,Gp lpos.col,.ref c'])):=by show upd _ _ _ T=_;rw[qH ne];exact qX
  have un:Un X.fs [] H H2 s.heap (h'.push o):=by
   refine⟨λb u q n _ _=>kp b u (nT b n) q,λb u q n _ _=>⟨u.slots,kp b u (nT b n) q⟩,λb u q n _=>go0 b (nT b n) (Bs (Aw (Ay q) hge)) n,λb u q _=>?_,λb xs q=>go b _ (λz=>by rw[z,e] at q;cases q) q,λb u xs q=>go b _ (λz=>by rw[z,e] at q;cases q) q,λb qs q=>?_⟩
   .by_cases hb:b=T
    .rw[hb];exact⟨_,eT⟩
    .exact⟨u,kp b u hb q⟩
   .by_cases hb:b=T
    .rw[hb,e] at q;cases q
     exact⟨_,by rw[hb];exact eH⟩
    .exact⟨#[],by rw[go b _ hb q];simp⟩
  have hok:HOk X.prog X.w H2 (h'.push o):=λb u q=>by
   by_cases hb:b=c'
   .have q':Ab (HO.frz oc (.frz oc (.own 0)))=Ab u:=by rw[<- q,hb];exact qX.symm
    cases q';have z:(h'.push o).get? b=Ab oc:=by rw[hb];exact Ak _ hoc
    exact⟨z,z,_,z⟩
   .by_cases hb2:b=T
    .rw[hb2,eH] at q;cases q
     rw[hb2];exact eT
    .have q':H b=Ab u:=by have q2:upd _ _ _ b=Ab u:=q;rw[qH hb,qH hb2] at q2;exact q2
     refine(I.hok b u q').stay (λd v hd q=>kp d v ?_ q) (λd q=>go d _ (λz=>by rw[z,e] at q;cases q) q) λd xs q=>go d _ (λz=>by rw[z,e] at q;cases q) q
     rcases hd with z|z
     .rw[z];exact hb2
     .intro w;rw[w,e] at z;cases z
  have I2:=I.un (t':=tk) un hok;refine h h'.objs.size H2 _ _ ctv c' oc ws t (Inv.pinned I2 rfl hsz I (go0 _ (λz=>?_) (Iw hlt) (I.hok.fresh hsz)) λv z=>by cases z) (r.grown I.mod hy ht e pn an ok cd hn hd hs) qX hd hs
  rw[<- z] at e;exact absurd (Aw (I.hok.lt e) hsz) (Dr _)
 |some cv =>
  obtain⟨c',oc,ws,t,rfl,a2,a3,a4⟩:=cd lpos cv hf;refine PySem.W.kla_makeFunctionHit (mg:=X.mg) hcl I.ok.glob hg hc hC hP ok hf hb λctv h' tk hk hsz=>?_;have I2:=I.kept (t':=tk) (h':=h'.push (Ki "<lambda>" (y ++ ".<locals>." ++ "<lambda>") params body scope cl ((X.mg "__name__").getD .none) c' ctv)) λb u q=>Ak _ (hk b u q);exact h h'.objs.size H _ _ ctv c' oc ws t (Inv.pinned I2 rfl hsz I (I.hok.fresh hsz) λv z=>by cases z) r a2 a3 a4
end
noncomputable def bG:Aa Af->qD->Al (Aa D)
 |[],_=>Ab []
 |i::r,env=>match env[i]? with
  |some (Ab d)=>(bG r env).map (d::·)
  |_=>none
set_option tactic.hygienic true in
theorem rO {K:Ah}{P:Hp}{α:Aa Ad}{σ:_L.St}(re:qZ K P α σ env):∀ (cap:Aa Af) (caps:Aa D),bG cap env=Ab caps->∃ cv,qE K P α caps cv/\cv.length=cap.length/\∀ (j i:Af) v,cap[j]? = Ab i->cv[j]? = Ab v->σ[i]? = Ab (Ab v)
 |[],caps,h=>by cases h;exact⟨[],.nil,rfl,λj i v e=>by simp at e⟩
 |i::r,caps,h=>by
  unfold bG at h
  split at h
  .rename_i d e
   obtain⟨ds,h1,rfl⟩:=Cg.mp h;obtain⟨cv,a1,a2,a3⟩:=rO re r ds h1;obtain⟨v,b1,b2⟩:=re.2 i d e;refine⟨v::cv,.cons b2 a1,by simp[a2],λj k w e1 e2=>?_⟩
   cases j with
   |zero=>cases e1;cases e2;exact b1
   |succ j=>exact a3 j k w (by simpa using e1) (by simpa using e2)
  .cases h
open Classical in
def uni (f:Ad->Aa V->Res D):Res D:=if ∀ a cv,f a cv=f 0 [] then f 0 [] else .bad
theorem L7 {f:Ad->Aa V->Res D}{R:Res D}(h:∀ a cv,f a cv=R):uni f=R:=by
 unfold uni;rw[AS λa cv=>(h a cv).trans (h 0 []).symm];exact h 0 []
set_option tactic.hygienic true in
theorem L6 {f:Ad->Aa V->Res D}(h:uni f≠.bad)(a:Ad)(cv:Aa V):f a cv=uni f:=by
 unfold uni at h ⊢
 split at h
 .rename_i z;rw[AS z];exact z a cv
 .exact absurd rfl h
noncomputable def exO (nx:Ao)(R:Res D):Res D:=match nx,R with
 |true,.ex _ _ _=>.bad
 |_,R=>R
def vR (nx:Ao)(cap:Aa Af)(n N:Af)(fa:DA)(g:Ad->Aa V->DS):DE:=λenv S=>match bG cap env with
 |none=>.bad
 |some caps=>(fa env S).bind λds S1=>if ds.length+1=n then exO nx (uni λa cv=>qP N (g a cv) (.clo a cv caps::ds) S1) else .bad
def PC (P:AV)(w:Bk)(K:Ah)(mg:An->Al Ac)(base:Bc)(cm:Ao)(k kl m:Af)(x:An)(n N:Af)(g:(Aa D->DF)->Ad->Aa V->DS):Prop:=
 ∃ f fd st Ns ps,ps.length=n/\Ns.length=N/\mg x=Ab (.ref f)/\Fun K x x st f fd/\vI K fd ps [] /\ FnScope Ns ps (qG st)/\∀ (L:LamT) (G:Aa D->DF) (a:Ad) (cv:Aa V),mI P w K mg base cm kl L m G ->
  ∀ (cdv:Ac) (A:Bh) (outer:Aa Gv) (s:Ag) (H:Hp) (E:XK),CloAt s.heap H (frs outer) L a cv->RoomC cm k (A.deeper (EQ x (qG st) s.heap.objs.size f cdv))->QB (cxC cm P w K mg base Ns x (qG st) f cdv A outer s H E) (zI st) (g G a cv)
noncomputable def p9 (scX:Di)(NX:Aa An)(sc:Di)(cap:Aa Af):Ao:=decide ((xK sc).length=cap.length)&&(cap.zip (xK sc)).all λp=>NX[p.1]? == Ab p.2&&(scX.names.lookup p.2 == Ab .cell||scX.names.lookup p.2 == Ab .free)
section
variable {X:Cx}{pins:Aa (Ad × Bq)}{σ : _L.St}{H P:Hp}{α : Aa Ad}{s:Ag}{S:Sto}{y x:An}{c T:Ad}{params:Mw}{body:Bd}{scope:Di}{lpos p pos:Do}{es:Aa Bd}{fa:DA}{nx cm:Ao}{k kl m n N:Af}{cap:Aa Af}{G:Aa D->DF}{g:(Aa D->DF)->Ad->Aa V->DS}
theorem F5 {R:Res D}{Ok:D->Sto->Prop}(h:qJ X P α (exO nx R) Ok):R≠.bad/\qJ X P α R Ok/\((∃ c x S',R=.ex c x S')->nx=false):=by
 cases R with
 |ok d S'=>exact⟨nofun,by cases nx <;> exact h,λ⟨_,_,_,z⟩=>nomatch z⟩
 |bad=>cases nx <;> exact Am h
 |ex c x S' =>
  cases nx with
  |true=>exact Am h
  |false=>exact⟨nofun,h,λ_=>rfl⟩
theorem Rel.know {K:Ah}(r:Rel K H P α S)(h:H c'=Ab (.frz oc (.frz oc (.own 0)))):Rel K H (upd P c' (.frz oc (.frz oc (.own 0)))) α S/\qF P (upd P c' (.frz oc (.frz oc (.own 0)))):=by
 have sP:qF P (upd P c' (.frz oc (.frz oc (.own 0)))):=λb u q=>by
  by_cases hb:b=c'
  .have z:=r.sub b u q
   rw[hb,h] at z;cases z;rw[hb];exact qX
  .rw[qH hb];exact q
 refine⟨⟨λx hx d T hT=>let ⟨ps,e,pn,an,ok,cd⟩:=r.tb x hx d T hT;⟨ps,e,(qH λ(z:T=c')=>by rw[z,h] at e;cases e).trans pn,an,ok,cd⟩,λb u q=>?_,r.len,r.nd,λi a o h1 h2 h3=>?_,λi a o h1 h2=>(r.at' i a o h1 h2).mono sP (AU _),r.own⟩,sP⟩
 .by_cases hb:b=c'
  .rw[hb,qX] at q;cases q;rw[hb];exact h
  .rw[qH hb] at q;exact r.sub b u q
 .have hb:a≠c':=by
   rintro rfl;have z:=r.at' i a o h1 h2;cases o with
   |dead=>exact h3 rfl
   |lst ds=>obtain⟨vs,z,_⟩:=z;rw[h] at z;cases z
   |dct kvs=>obtain⟨vs,z,_⟩:=z;rw[h] at z;cases z
   |dcT kvs=>obtain⟨vs,z,_⟩:=z;rw[h] at z;cases z
   |ins C fs=>obtain⟨dx,vs,z,_⟩:=z;rw[h] at z;cases z
  rw[qH hb];exact r.sep i a o h1 h2 h3
theorem nE {z:An × Gd}(h:z∈sc.names)(hk:z.2=.free):z.1∈xK sc:=Gc.mpr ⟨z,h,by rw[hk];rfl⟩
set_option tactic.hygienic true in
theorem W9 {z:An}(h:z∈xK sc):(z,Fc)∈sc.names:=by
 obtain⟨⟨n,k⟩,h1,h2⟩:=Gc.mp h
 split at h2
 .rename_i e
  have:k=Fc:=by simpa using e
  cases h2;subst this;exact h1
 .cases h2
theorem t8 (hB:p9 X.env.scope X.N scope cap=true){j:Af}{z:An}(h:(xK scope)[j]? = Ab z):∃ i,cap[j]? = Ab i/\X.N[i]? = Ab z/\(X.env.scope.names.lookup z=Ab .cell\/X.env.scope.names.lookup z=Ab .free):=by
 simp only[p9,As,Ax] at hB;obtain⟨hl,ha⟩:=hB;have hj:j<cap.length:=by rw[<- hl];exact(Bl.mp h).1
 have e:=AW hj;have hz:(cap[j],z)∈cap.zip (xK scope):=IW.mpr ⟨j,by rw[O7];exact⟨e,h⟩⟩
 have q:=Cb.mp ha _ hz;simp only[As,Gs,Nj] at q;exact⟨_,e,q.1,q.2⟩
theorem XJ (hB:p9 X.env.scope X.N scope cap=true)(ok:X.Ok):OO scope X.env=pure (wC X.env.cells scope.names []):=gO λz hz hk=>by
 obtain⟨j,hj⟩:=IW.mp (nE hz hk);obtain⟨i,_,_,q⟩:=t8 hB hj;exact ok.has z.1 q
theorem uM (hB:p9 X.env.scope X.N scope cap=true)(ok:X.Ok){z:An}{d:Ad}(h:(wC X.env.cells scope.names []).lookup z=Ab d):X.env.cells.lookup z=Ab d:=by
 rcases jG _ _ h with h|⟨hm,hc⟩
 .cases h
 .obtain⟨j,hj⟩:=IW.mp (nE hm rfl)
  obtain⟨i,_,_,q⟩:=t8 hB hj;obtain⟨d',e⟩:=ok.has z q;rw[e,OP] at hc;rw[e,hc]
theorem PV {a:Ad}{ws:AZ Ac}{t:Oo}{pm ctv:Ac}{cv:Aa V}{s':Ag}(hB:p9 X.env.scope X.N scope cap=true)(I:Inv X ((a,Ki "<lambda>" (y ++ ".<locals>." ++ "<lambda>") params body scope (wC X.env.cells scope.names []) pm c' ctv)::pins) σ H' s')
  (hc:H' c'=Ab (.frz oc (.frz oc (.own 0)))) (hd:oc.data=.fields ws) (hs:ws[1]? = Ab (.str (y ++ ".<locals>." ++ "<lambda>") t)) (hl:cv.length=cap.length) (hv:∀ (j i:Af) v,cap[j]? = Ab i->cv[j]? = Ab v->σ[i]? = Ab (Ab v)) :
  CloAt s'.heap H' (frs X.stack) ⟨y ++ ".<locals>." ++ "<lambda>",params,body,scope⟩ a cv:=by
 obtain⟨e1,n1,n2,n3,_⟩:=I.pin _ (Bj _ (.head _));refine⟨_,pm,ctv,c',oc,ws,t,e1,hc,hd,hs,λz z' d h1 h2=>I.ok.inj z z' d (uM hB I.ok h1) (uM hB I.ok h2),λz d h=>⟨I.freeC z d (uM hB I.ok h),I.cell z d (uM hB I.ok h)⟩,λz hz=>uZ _ _ (.inl (Ec hz)),?_,λj z v h1 h2=>?_,n1,λz=>?_⟩
 .simp only[p9,As,Ax] at hB
  rw[hl,<- hB.1]
 .obtain⟨i,q1,q2,q3⟩:=t8 hB h1
  obtain⟨m,hm,hlk⟩:=I.loc;obtain⟨u,ru,lk⟩:=hlk i z v q2 (hv j i v q1 h2) (q3.elim (λk=>.inr (.inl k)) λk=>.inr (.inr k));rcases lk with⟨kl,_⟩|⟨_,d,hcl,hcell⟩
  .have kl':X.env.scope.names.lookup z=Ab .local:=kl
   rcases q3 with k|k <;> (rw[kl'] at k;cases k)
  .obtain⟨d',hd'⟩:=uZ (cells:=X.env.cells) scope.names [] (.inl (W9 (Cn h1)))
   have:=uM hB I.ok hd';rw[hcl] at this;cases this;exact⟨d,u,hd',ru,hcell⟩
 .rcases Bg.mp (I.stkSub a z) with z|z
  .exact n2 z
  .exact n3 z
theorem ZP (D:PC X.prog X.w X.K X.mg X.base cm k kl m x n N g)(LX:mI X.prog X.w X.K X.mg X.base cm kl ⟨y ++ ".<locals>." ++ "<lambda>",params,body,scope⟩ m G)(hr:RoomC cm (k+1) X.A)(hF:nx=false->Fn1 X)(hg:Gl X x)(hdb:(x == ("__debug__" : An))=false)
  (hy:y∈xX) (ht:Co X.K y=Ab (c,T)) (hc:X.env.code=.ref c) (hq:X.env.qual=y ++ ".<locals>.") (hdef:WF params X.env=([],[])) (hB:p9 X.env.scope X.N scope cap=true) (ha:PA X es (tDA X fa))
  (he:Az (.Lambda params body scope lpos::es) X.env=(false,eval (.Lambda params body scope lpos) X.env)::Az es X.env) (hpl:(Eo pos (Az es X.env)).any (·.1)=false) :
  PE X (.Call (.Name x p) (.Lambda params body scope lpos::es) [] pos) (tD X (vR nx cap n N fa (g G))):=by
 intro pins s σ H Q I h;obtain⟨P,α,env,S,r,re,af⟩:=h;obtain⟨f,fd,st,Ns,ps,hn,hN,hm,F,hb,hS,hbody⟩:=D;subst hn;subst hN;have af:qJ X P α (match bG cap env with
  |none=>.bad
  |some caps=>(fa env S).bind λds S1=>if ds.length+1=ps.length then exO nx (uni λa cv=>qP Ns.length (g G a cv) (.clo a cv caps::ds) S1) else .bad) (OkV X P α Q):=af
 cases hcap:bG cap env with
 |none=>rw[hcap] at af;exact Am af
 |some caps =>
  rw[hcap] at af;obtain⟨cv,rc,hcl,hv⟩:=rO re cap caps hcap;refine Ge (uC I hg hm ?_ hdb);refine NE (h₀:=X.base) I.ok.mod.kin F.kp ?_ he hpl;rw[he];show Ar _ _ (spliced ((false,eval (.Lambda params body scope lpos) X.env)::Eo pos (Az es X.env))) _ _ s;refine ID (XM I r hy ht hc hq hdef (XJ hB I.ok) λa H1 s1 pm ctv c' oc ws t I1 r1 hc' hd hs=>?_);obtain⟨rk,sk⟩:=Rel.know r1 hc';refine thn (w5 ha I1 rk (re.mono sk (AU _)) (qU.base sk (AU _) af) pos) λus s2 ⟨vs,H2,P2,α2,ds,S2,I2,rv,r2,re2,rp,q1,q2,af2⟩=>⟨I2.kIn,?_⟩;obtain⟨hl,af3⟩:=xT af2;obtain⟨nb,af4,nf⟩:=F5 af3;have e1:=L6 nb a cv;rw[<- e1] at af4 nf;have C:=PV hB I2 (r2.sub _ _ (q1 _ _ qX)) hd hs hcl hv;have I3:Inv X pins σ H2 s2:=I2.pins_of λp hp=>I2.pin p (Bj _ (AT _ hp));obtain⟨oc',od,kV,doc,pm',an,cdv,ct,osl,rfl,lk,hcd⟩:=F.ex;have hz:(Bn a::us).length=ps.length:=by rw[<- hl,rp.length,rv.length];rfl
  have hb':=hb s2 (.ref a::us) I2.kIn (by rw[Eu];exact hz)
  rw[Eu] at hb';have rc2:=qE.mono (sk.trans q1) q2 _ _ rc;have af5:=qU.base q1 q2 af4;have rv2:qN (V.ref a::vs) (Bn a::us):=.cons rfl rv;exact bF (λz=>hF (nf z)) I3 af5 (iO lk hcd hS (by rw[<- hz];exact rv2.length) hr I3.env0 hb' rv2 (lE (hbody _ G a cv LX cdv X.A X.stack s2 H2 _ C (hr.deeper _)).1 r2 (.cons (by simp only[Rep];exact⟨trivial,rc2⟩) rp) (sO af5)))
end
section
variable {X:Cx}{pins:Aa (Ad × Bq)}{σ : _L.St}{H P:Hp}{α : Aa Ad}{s:Ag}{S:Sto}
noncomputable def kX:DF:=λds S=>match ds with
 |[d,.tup [.ty b,.ty c]]=>if uN b=true/\uN c=true then match tyD d S with
   |some a=>.ok (.bl (xW a b||xW a c)) S
   |none=>.bad
  else .bad
 |_=>.bad
inductive KitAt (X:Cx)(u:Ac)(t:Ac)(h:Bc):Prop
 |mk (Hh:Bc->Prop) (Z:PySem.W.KitX X.K u t Hh) (p:Hh h) (ne:u≠.builtin "__main__.__loader__#opaque"):KitAt X u t h
theorem FT {v:V}{u:Ac}{d:D}{a:Cs}(I:Inv X pins σ H s)(r:Rel X.K H P α S)(q:qM v u)(p:Rep X.K P α d v)(ha:tyD d S=Ab a):KitAt X u (.type a) s.heap:=by
 cases VA r p ha with
 |tup p' ws e sq ea =>
  subst e ea;cases (show u=Bn p' from q)
  obtain⟨its,rv',⟨o,h1,h2,_⟩,_⟩:=I.tuple sq;exact⟨_,Km,⟨o,h1,h2⟩,λz=>nomatch z⟩
 |lst p' ws e sq ea =>
  subst e ea;cases (show u=Bn p' from q)
  obtain⟨its,rv',⟨o,_,h1,h2,_⟩,_⟩:=I.list sq;exact⟨_,Hy,⟨o,h1,h2⟩,λz=>nomatch z⟩
 |of ty =>
  cases ty with
  |non=>cases (show u=Dd from q);exact⟨_,Uk,Gm,λz=>nomatch z⟩
  |bl y=>cases (show u=Eb y from q);exact⟨_,Ul,Gm,λz=>nomatch z⟩
  |int i=>obtain⟨t,q⟩:=(show ∃ t,u=Hd i t from q);cases q;exact⟨_,Vd,Gm,λz=>nomatch z⟩
  |str y=>obtain⟨t,q⟩:=(show ∃ t,u=Qi y t from q);cases q;exact⟨_,Ve,Gm,λz=>nomatch z⟩
  |flt y=>cases d <;> first|(exact nn ha)|(simp only[Rep] at p;cases p;done)|(simp only[Rep] at p;obtain⟨_,p⟩:=p;cases p.1;done)|(simp only[Rep] at p;obtain⟨_,_,p⟩:=p;cases p.1;done)
  |@lst b xs ea =>
   cases (show u=Bn b from q)
   obtain⟨_,_,n,_,h1⟩:=(show z9 X.prog X.w H s.heap b (.lst xs) from I.hok b _ ea)
   exact⟨_,Hy,⟨_,h1,rfl⟩,λz=>nomatch z⟩
  |@frz b ob xs ea =>
   cases (show u=Bn b from q)
   obtain⟨_,_,_,n,_,h1⟩:=(show z9 X.prog X.w H s.heap b (.frz ob (.lst xs)) from I.hok b _ ea)
   exact⟨_,Hy,⟨_,h1,rfl⟩,λz=>nomatch z⟩
  |@tup b xs ea =>
   cases (show u=Bn b from q)
   obtain⟨_,_,_,p⟩:=(show z9 X.prog X.w H s.heap b (.tup xs) from I.hok b _ ea)
   obtain⟨o,h1,h2,_⟩:=p;exact⟨_,Km,⟨o,h1,h2⟩,λz=>nomatch z⟩
  |@dK b kvs ea =>
   cases (show u=Bn b from q)
   obtain⟨_,_,vs,_,p⟩:=(show z9 X.prog X.w H s.heap b (.dK kvs) from I.hok b _ ea)
   obtain⟨o,es,ep,h1,h2,_⟩:=p;exact⟨_,Ld,⟨o,h1,h2.1⟩,λz=>nomatch z⟩
  |@dT b kvs ea =>
   cases (show u=Bn b from q)
   obtain⟨_,_,xs,_,o,es,ep,h1,h2,_⟩:=(show z9 X.prog X.w H s.heap b (.dT kvs) from I.hok b _ ea)
   exact⟨_,Ld,⟨o,h1,h2.1⟩,λz=>nomatch z⟩
set_option tactic.hygienic true in
theorem XB {ds:Aa D}{Ok:D->Sto->Prop}(h:qJ X P α (kX ds S) Ok):∃ d b c a,ds=[d,.tup [.ty b,.ty c]]/\uN b=true/\uN c=true/\tyD d S=Ab a/\Ok (.bl (xW a b||xW a c)) S:=by
 unfold kX at h
 split at h
 .rename_i d b c
  obtain⟨⟨h1,h2⟩,h⟩:=xT h
  split at h
  .rename_i a ha
   exact⟨d,b,c,a,rfl,h1,h2,ha,h⟩
  .exact Am h
 .exact Am h
theorem VO:xJ X (.builtin "isinstance") kX:=by
 intro pins σ H s P α S vs us ds Q I r rv rp af;obtain⟨d,b,c,a,rfl,hb,hc,ha,ok⟩:=XB af;obtain⟨v,w,u,x,rfl,rfl,p,p',q,q'⟩:=u9 rp rv;simp only[Rep] at p';obtain⟨tp,ws,rfl,sq,t⟩:=p';obtain⟨w1,ws1,rfl,z1,t⟩:=t.cons_inv;obtain⟨w2,ws2,rfl,z2,t⟩:=t.cons_inv;cases t.nil_inv;simp only[Rep] at z1 z2;subst z1 z2;cases (show x=Bn tp from q')
 obtain⟨its,rvi,⟨o,h1,h2,n,h3⟩,_⟩:=I.tuple (xA r.sub sq);obtain⟨i1,i2,rfl,y1,y2⟩:=mC rvi;cases (show i1=Lg b from y1)
 cases (show i2=Lg c from y2)
 obtain⟨Hh,Z,hp,ne⟩:=FT I r q p ha;obtain⟨oc,od,odt,osl⟩:=o;cases h2;cases h3;have k1:=t7 (K:=X.K) (sW ha) hb;have k2:=t7 (K:=X.K) (sW ha) hc;refine PySem.W.kia_tup (its:=[.type b,.type c]) (b:=xW a b||xW a c) Z I.kIn hp h1 ?_ ne λtk=>⟨.bl _,H,I.tok tk,rfl,xr ok r (by simp only[Rep])⟩
 cases z:xW a b with
 |true=>rw[z] at k1;simp only[Rj,k1];rfl
 |false =>
  rw[z] at k1;cases z':xW a c with
  |true=>rw[z'] at k2;simp only[Rj,k1,k2];rfl
  |false=>rw[z'] at k2;simp only[Rj,k1,k2];rfl
end
noncomputable def okV (X:Cx)(i:Af)(x:An):Ao:=decide (X.N[i]? = Ab x)&&(isV (X.env.scope.names.lookup x)&&okN x)
noncomputable def jK (fe:DE):Aa D->DF:=λcaps ds S=>fe ((ds++caps).map Ab) S
noncomputable def XI (sc:Di)(ps:Aa An):Ao:=decide (sc.kind=.function)&&(decide (sc.isCoroutine=false)&&(decide (sc.isGenerator=false)&&(decide (∀ y∈sc.names,y.2≠.cell)&&(decide (∀ x∈ps,sc.names.lookup x=Ab .local)&&decide (∀ x∈xK sc,sc.names.lookup x=Ab .free)))))
structure LmX (G:Aa D->DF)(P:AV)(w:Bk)(K:Ah)(mg:An->Al Ac)(base:Bc)(cm:Ao)(k:Af)(L:LamT)(n:Af):Prop where
 get:mI P w K mg base cm k L n G
structure DfL (g:(Aa D->DF)->Ad->Aa V->DS)(P:AV)(w:Bk)(K:Ah)(mg:An->Al Ac)(base:Bc)(cm:Ao)(k kl m:Af)(x:An)(n N:Af):Prop where
 get:PC P w K mg base cm k kl m x n N g
structure ClA (X:Cx)(L:LamT)(a:Ad)(cv:Aa V):Prop where
 get:CloAt X.s₀.heap X.H₀ X.fs L a cv
structure LmK (X:Cx)(y:An):Prop where
 get:y∈xX/\kO X.K y X.env.code/\X.env.qual=y ++ ".<locals>." /\ ∃ c T,Co X.K y=Ab (c,T)
section
variable {X:Cx}{cm nx:Ao}{k kl m n N i:Af}{x y:An}{p pos lpos:Do}{e:Bd}{es:Aa Bd}{fA:DA}{fe:DE}{L:LamT}{G:Aa D->DF}{a:Ad}{cv:Aa V}{g:(Aa D->DF)->Ad->Aa V->DS}{Fs:FnL}{cap:Aa Af}{params:Mw}{body:Bd}{scope:Di}
theorem MW (h:Ck (okV X i x)):X.N[i]? = Ab x/\Vis X.env.scope x/\(x == ("__debug__" : An))=false/\(x == ("__classdict__" : An))=false:=by
 unfold Ck okV at h;simp only[As,Ax] at h;exact⟨h.1,eE h.2.1,(kG h.2.2).1,(kG h.2.2).2.1⟩
theorem aK0 (LX:LmX G X.prog X.w X.K X.mg X.base cm k L n)(C:ClA X L a cv)(hr:RoomC cm k X.A)(F:Fn1 X)(h:Ck (okV X i x)):QE X (.Call (.Name x p) [] [] pos) (kT i qC a cv n G):=
 have h:=MW h
 ⟨U2 LX.1 hr F C.1 h.1 h.2.1 h.2.2.1 h.2.2.2⟩
theorem EU {ps:Aa An}{q:An}(h:Ck (XI scope ps))(one:ps.length<=1):LamSc ⟨q,params,body,scope⟩ ps:=by
 unfold Ck at h;simp only[XI,As,Ax] at h;obtain⟨a,b,c,d,e,f⟩:=h;exact⟨a,b,c,d,e,one,f⟩
theorem E7 (D:DfL g X.prog X.w X.K X.mg X.base cm k (kl+1) 0 x n N)(M:LmK X y)(hr:RoomC cm (k+1) X.A)(hF:nx=false->Fn1 X)(h:Ck (okG X x&&p9 X.env.scope X.N scope cap))(hs:Ck (XI scope []))(hdef:WF params X.env=([],[]))
  (hb:∀ (q:An) (b:Bd) (cl:Aa (An × Ad)) (pm cdv ctv:Ac),Po (Xc "<lambda>" q params b scope cl pm cdv ctv) ⟨[],[]⟩ = pure [])
  (hbody:∀ (cl:Aa (An × Ad)) (f:Ad) (cd:Ac) (A:Bh) (outer:Aa Gv) (s:Ag) (H:Hp) (E:XK),RoomC cm kl (A.deeper (Jk (y ++ ".<locals>." ++ "<lambda>") scope s.heap.objs.size f cd cl)) ->
   QE (XH cm X.prog X.w X.K X.mg X.base ([] ++ xK scope) ⟨y ++ ".<locals>." ++ "<lambda>",params,body,scope⟩ cl f cd A outer s H E) body fe)
  (ha:QA X es fA) (s:St1 X (.Lambda params body scope lpos) es pos):QE X (.Call (.Name x p) (.Lambda params body scope lpos::es) [] pos) (vR nx cap n N fA (g (jK fe))):=by
 unfold Ck at h;rw[As] at h;obtain⟨m1,m2,m3,c,T,m4⟩:=M.1;have hg:=w8 h.1;exact⟨ZP D.1 (FV (ps:=[]) (EU hs (by decide)) (λcl pm cdv ctv us hl=>by cases us with|nil=>exact hb _ _ _ _ _ _|cons _ _=>cases hl) hbody) hr hF hg.1 hg.2.1 m1 m4 (m2 c T m4) m3 hdef h.2 ha.1 s.1 s.2⟩
theorem ClA.tr {pn:Aa (Ad × Bq)}(h:ClA X L a cv):ClA (Cx.tryIn X E pn) L a cv:=⟨h.1⟩
theorem lmK {ls:Aa An}(h:(ls.all λy=>(Co X.K y).isSome)=true)(hc:kO X.K y X.env.code)(hy:Ck (ls.contains y&&xX.contains y))(hq:X.env.qual=y ++ ".<locals>."):LmK X y:=by
 unfold Ck at hy;rw[As] at hy;obtain⟨⟨c,T⟩,e⟩:=Ik.mp (Cb.mp h y (by simpa using hy.1))
 exact⟨by simpa using hy.2,hc,hq,c,T,e⟩
theorem Z3:ZCall X (.builtin "isinstance") kX:=⟨VO⟩
end
section
variable {P:AV}{w:Bk}{K:Ah}{mg:An->Al Ac}{base:Bc}{cm:Ao}{tp:Af->Ds}{tab:Aa (An × Af × Aa An)}{bl:Aa An}{clt plt:Aa (An × Ad)}{cs:Aa Ac}{exl:Aa Ad}{cst:Aa (An × Aj)}{x:An}{i:Af}{ps:Aa An}{N:Af}
theorem dqL {g:(Aa D->DF)->Ad->Aa V->DS}(P:AV)(w:Bk)(base:Bc)(k kl m j:Af)(T:TxS K mg tp tab bl clt plt cs exl cst)(hj:tab[j]? = Ab (x,i,ps))(h:Ck (fnB (jL (qG (tp i))) ps (qG (tp i))&&decide ((jL (qG (tp i))).length=N)))
  (hb:∀ (L:LamT) (G:Aa D->DF) (a:Ad) (cv:Aa V),LmX G P w K mg base cm kl L m->∀ (f:Ad) (cdv:Ac) (A:Bh) (outer:Aa Gv) (s:Ag) (H:Hp) (E:XK),ClA (cxC cm P w K mg base (jL (qG (tp i))) x (qG (tp i)) f cdv A outer s H E) L a cv->RoomC cm k (A.deeper (EQ x (qG (tp i)) s.heap.objs.size f cdv)) ->
   QB (cxC cm P w K mg base (jL (qG (tp i))) x (qG (tp i)) f cdv A outer s H E) (zI (tp i)) (g G a cv)):DfL g P w K mg base cm k kl m x ps.length N:=by
 unfold Ck at h;simp only[As,Ax] at h;obtain⟨h,rfl⟩:=h;obtain⟨f,fd,hm,F,hbd⟩:=T.src j hj;exact⟨f,fd,tp i,_,ps,rfl,rfl,hm,F,hbd,lV h,λL G a cv LX cdv A outer s H E C hr=>hb L G a cv ⟨LX⟩ f cdv A outer s H E ⟨C⟩ hr⟩
end
section
variable {X:Cx}
theorem XG {pins:Aa (Ad × Bq)}{σ:_L.St}{H P:Hp}{α:Aa Ad}{S:Sto}{s:Ag}{xs:Aa D}{vs:Aa V}{its:Aa Ac}(I:Inv X pins σ H s)(r:Rel X.K H P α S)(t:qE X.K P α xs vs)(rv:qN vs its)(hz:xs.length<=lim)
  (ok:OkV X P α Q (.loc S.length) (S++[.lst xs])):EP X pins σ Q (.ref s.heap.objs.size) { s with heap:=s.heap.push { cls:=.type "list",data:=.seq its.toArray } }:=by
 refine⟨.ref s.heap.objs.size,_,I.laid (t':=s.toks) (o:=.lst vs) (λb ob q=>Ak _ q) (Aq _) ⟨by rw[<- t.length,<- zQ];exact hz,its,0,rv,Bb _ rfl⟩,rfl,tE r (I.hok.fresh (Aq _)) t ok⟩
end
section
variable {X:Cx}
theorem WA:OpR X (De .FloorDiv) (rI (λ_ j=>j≠0/\j.natAbs.log2<9000) λi j=>.int (i.fdiv j)):=opI λ_ _ _ _ _ _ _ hc q=>floordiv_int hc.1 q (.inl (PyProof.noPylong_of_log2 hc.2))
theorem YF:∃ C:Aj->Aj->Ao,C=λ_ j=>decide (j≠0/\j.natAbs.log2<9000):=⟨_,rfl⟩
def YE:Aj->Aj->Ao:=Jq YF
theorem lG:YE=λ_ j=>decide (j≠0/\j.natAbs.log2<9000):=Ho YF
def j7:G2:=i2 YE λi j=>.int (i.fdiv j)
theorem K1:OpD X (De .FloorDiv) j7:=by
 unfold j7;rw[lG];exact kH WA (λi j h=>Bi h) λP α i j=>by simp only[Rep]
theorem LB:ZOp X (De .FloorDiv) j7:=⟨K1⟩
end
section
variable {prog:AV}{w:Bk}{A:Bh}{E:Ac->Ag->Prop}{s:Ag}{r:Ad}{a b c:Aj}{t u v:Oo}{n:Af}
theorem r9 {Q:Aa Ac->Ag->Prop}(hh:A.handled=none)(hr:Xz s.heap r a b c t u v)(hs:Ir a b c=true)(hn:Dp a b c=↑n)(hl:n<=2 ^ 24)
  (h:∀ (h':Bc) (tk:Af) (acc:AZ Ac),(∀ b o,s.heap.get? b=Ab o->h'.get? b=Ab o)->Te (λi v=>∃ t,v=Hd (a+↑i*c) t) acc n->Q acc.toList { s with heap:=h',toks:=tk }) : Ar (Au prog w) A (collect (.ref r)) Q E s:=by
 unfold collect;refine Ai (wpAny_runValue (Kc Nt ?_));rw[Jn Nu _];show Ar _ A.in1 (newList [] >>= λl=>again (.builtin "list.__iadd__" ⟨[l,.ref r],[]⟩)) _ _ s;refine Ai (Cz (Ap ⟨plainId_quiet IB _,Kc Pc ?_⟩));rw[Jn IB _];have hD:(s.heap.push { cls:=.type "list",data:=.seq ([] : Aa Ac).toArray }).get? s.heap.objs.size=Ab { cls:=.type "list",data:=.seq #[] }:=Bb _ rfl;have hr1:Xz (s.heap.push { cls:=.type "list",data:=.seq ([] : Aa Ac).toArray }) r a b c t u v:=Ak _ hr;show Ar _ A.in1 (Nv (.ref s.heap.objs.size) (.ref r) (.ref s.heap.objs.size)) _ _ _;refine wpAny_extend_range (R:=λr s'=>match r with
  |.ok (.ret v)=>Ar (Au prog w) A (match v with
   |.ref a=>do
    let o <- load a
    match o.data with
    |.seq xs epoch=>pure xs.toList
    |x=>unsupported "internal:collect"
   |x=>unsupported "internal:collect") Q E s'
  |.ok _=>Eh
  |.error e=>E e s') (s:={ s with heap:=s.heap.push { cls:=.type "list",data:=.seq ([] : Aa Ac).toArray } }) hh hr1 hs hn hl s.heap.objs.size _ _ hD λh' tk acc c' kp hS hacc=>?_
 show Ar _ A (load s.heap.objs.size >>= _) _ _ _;refine Ai (Ws hS (Ap ?_));exact h h' tk acc (λb o q=>kp b o (Bs (Ay q)) (Ak _ q)) hacc
theorem rG (r:Ad)(a b c:Aj)(t u v:Oo)(n:Af)(hs:Ir a b c=true)(hn:Dp a b c=↑n)(hl:n<=2 ^ 24) :
  Meets (Lx.«tuple.__new__» ⟨[.type "tuple",.ref r],[]⟩) (λA R s=>A.handled=none/\Xz s.heap r a b c t u v/\∀ (h':Bc) (tk:Af) (acc:AZ Ac),(∀ b o,s.heap.get? b=Ab o->h'.get? b=Ab o)->Te (λi v=>∃ t,v=Hd (a+↑i*c) t) acc n->R (.ok (.ret (.ref h'.objs.size))) { s with heap:=h'.push { cls:=.type "tuple",data:=.seq acc },toks:=tk }):=
 .of_wp λprog w A R s h=>by
  obtain⟨hh,hr,h⟩:=h;have hsub:=Mq.sub;have hi:=Mq.init.lookup;have hm:=madeHere_tuple;unfold Lx.«tuple.__new__»;dsimp only;generalize hg:PySem.collect (Bn r)=cc
  wp_walk
  rw[<- hg];refine r9 (s:=⟨s.heap,s.gens,s.drawn,s.toks,s.os⟩) hh hr hs hn hl λh' tk acc kp hacc=>?_;rw[Mr]
  wp_walk
  rw[AX (by rw[hacc.1,Fe];omega)]
  wp_walk
  exact⟨_,rfl,h h' tk acc kp hacc⟩
theorem mL {Q:Ac->Ag->Prop}(hh:A.handled=none)(hr:Xz s.heap r a b c t u v)(hs:Ir a b c=true)(hn:Dp a b c=↑n)(hl:n<=2 ^ 24)
  (h:∀ (h':Bc) (tk:Af) (acc:AZ Ac),(∀ b o,s.heap.get? b=Ab o->h'.get? b=Ab o)->Te (λi v=>∃ t,v=Hd (a+↑i*c) t) acc n->Q (.ref h'.objs.size) { s with heap:=h'.push { cls:=.type "tuple",data:=.seq acc },toks:=tk }) : Ar (Au prog w) A (call (.type "tuple") [.ref r]) Q E s:=
 callType_new Mq (by decide) (PySem.F.typeCall_tuple_1 _) (PySem.F.newCall_tuple_1 _) (λobj=>PySem.F.args_object_init_2 obj _) PySem.F.entry_tuple_new (rG r a b c t u v n hs hn hl) ⟨hh,hr,λh' tk acc kp hacc=>⟨⟨_,Bb _ rfl,rfl⟩,h h' tk acc kp hacc⟩⟩
end
noncomputable def rsN:Ao->Cs
 |true => "tuple"
 |false => "list"
noncomputable def rsD:Ao->Aa D->D
 |true,l=>.tup l
 |false,l=>.lst l
noncomputable def pM (tp:Ao)(f:DA):DE:=λenv S=>(f env S).bind λds S1=>match yU ds with
 |some its=>if its.length<=lim then .ok (rsD tp its) S1 else .bad
 |none=>.bad
theorem sZ {acc:AZ Ac}{lo:Aj}{n:Af}(h:Te (λi v=>∃ t,v=Hd (lo+↑i*1) t) acc n):qN ((Cw n).map λ(i:Af)=>V.int (lo+i)) acc.toList:=by
 have key:∀ (m:Af) (l:Aa Ac) (k:Af),l.length=m->(∀ j v,l[j]? = Ab v->∃ t,v=Hd (lo+((j+k:Af):Aj)*1) t)->qN ((List.range' k m).map λ(i:Af)=>V.int (lo+i)) l:=by
  intro m
  induction m with
  |zero=>intro l k hl _;rw[IR hl];exact .nil
  |succ m ih =>
   intro l k hl hv;cases l with
   |nil=>cases hl
   |cons v l =>
    obtain⟨t,rfl⟩:=hv 0 v rfl;rw[List.range'_succ,Bt];refine .cons ⟨t,by rw[Oe,Hv]⟩ (ih l (k+1) (Tz hl) λj v e=>?_)
    obtain⟨t,rfl⟩:=hv (j+1) v e;exact⟨t,by rw[show j+1+k=j+(k+1) by omega]⟩
 rw[List.range_eq_range'];exact key n acc.toList 0 (by rw[Bm];exact h.1) λj v e=>h.2 j v (by rwa [Dn] at e)
theorem sH {K:Ah}{P:Hp}{α:Aa Ad}(lo:Aj)(n:Af):qE K P α (xE lo n) ((Cw n).map λ(i:Af)=>V.int (lo+i)):=by
 unfold xE;generalize Cw n=l
 induction l with
 |nil=>exact .nil
 |cons i l ih=>exact .cons (by simp only[Rep]) ih
section
variable {X:Cx}{e:Bd}{es:Aa Bd}{f:DA}{p p0 pos pos0:Do}
theorem eY {tp:Ao}{pins:Aa (Ad × Bq)}{σ:_L.St}{H P:Hp}{α:Aa Ad}{S:Sto}{s:Ag}{lo hi:Aj}{t u v:Oo}{tk:Af}(hc:X.calm=true)(I:Inv X pins σ H s)(r:Rel X.K H P α S)(h1 : -(2 ^ 62)<=lo)(h2:lo<2 ^ 62)(h3 : -(2 ^ 62)<=hi)(h4:hi<2 ^ 62)
  (hl:(hi-lo).toNat<=lim) (af:OkV X P α Q (rsD tp (xE lo (hi-lo).toNat)) S) :
  Ar (Au X.prog X.w) X.A (call (.type (rsN tp)) [.ref s.heap.objs.size]) (EP X pins σ Q) X.xe { s with heap:=s.heap.push { cls:=.type "range",data:=.fields #[.int lo t,.int hi u,.int 1 v] },toks:=tk }:=by
 have hz:Dp lo hi 1=(((hi-lo).toNat:Af):Aj):=by rw[rangeSize_one];split <;> omega
 have hm:(hi-lo).toNat<=2 ^ 24:=by unfold lim at hl;omega
 have I1:Inv X pins σ H { s with heap:=s.heap.push { cls:=.type "range",data:=.fields #[.int lo t,.int hi u,.int 1 v] },toks:=tk }:=I.kept λb o e=>Ak _ e
 cases tp with
 |true =>
  refine mL (I1.ok.hd hc) (Ql ..) (Xo h1 h2 h3 h4) hz hm λh' tk' acc kp hacc=>?_;have I2:Inv X pins σ H { s with heap:=h',toks:=tk' }:=I1.kept (t':=tk') kp
  have hr:=sZ hacc;have I3:=I2.laid (t':=tk') (h':=h'.push { cls:=.type "tuple",data:=.seq acc }) (a:=h'.objs.size) (λb o e=>Ak _ e) (Aq _) (show z9 X.prog X.w _ _ _ (.tup _) from⟨by rw[Ba,Er,Fe];omega,acc.toList,hr,by rw[Mr];exact Ot _ _⟩)
  exact⟨.ref h'.objs.size,_,I3,rfl,uP r (I2.hok.fresh (Aq _)) (sH lo _) af⟩
 |false =>
  refine call_list_range (I1.ok.hd hc) (Ql ..) (Xo h1 h2 h3 h4) hz hm λh' tk' acc c' kp hS hacc=>?_;have hr:=sZ hacc;have I3:=I1.laid (t':=tk') (h':=h') kp (Aq _) (show z9 X.prog X.w _ _ _ (.lst _) from⟨by rw[Ba,Er,Fe];omega,acc.toList,c',hr,by rw[Mr];exact hS⟩)
  exact⟨.ref _,_,I3,rfl,wK r (I1.hok.fresh (Aq _)) (sH lo _) af⟩
theorem U6 {tp:Ao}{T:An}(hc:X.calm=true)(hT:El T=Ab (.type (rsN tp)))(hn:T≠("__name__" : An))(hd:(T == ("__debug__" : An))=false)(hg0:Gl X T)(hm0:X.mg T=none)(hg:Gl X "range")(hm:X.mg "range" = none)(ha:PA X (e::es) (tDA X f))(hs:Az (e::es) X.env=(false,eval e X.env)::Az es X.env:=by rfl)(hpl:(Eo pos (Az es X.env)).any (·.1)=false:=by rfl) :
  PE X (.Call (.Name T p0) [.Call (.Name "range" p) (e::es) [] pos] [] pos0) (tD X (pM tp f)):=by
 intro pins s σ H Q I h;obtain⟨P,α,env,S,r,re,af⟩:=h;refine Xr (wX I hg0 hm0 hT (DL ?_ rfl rfl) hn hd);refine ID ?_;refine Xr (wX I hg hm Wy (DL (thn (w5 ha I r re af pos) λus s1 ⟨vs,H1,P1,α1,ds,S1,I1,rv,r1,re1,rp,e1,e2,af1⟩=>?_) hs hpl));cases hi:yU ds with
 |none=>rw[hi] at af1;exact Am af1
 |some its =>
  rw[hi] at af1;obtain⟨hl,af2⟩:=xT af1;have af3:OkV X P1 α1 Q _ S1:=λv H' P' α' r' s' p' q'=>af2 v H' P' α' r' (e1.trans s') (e2.trans p') q';cases eZ hi with
  |one j c =>
   obtain⟨ws,rfl,t1⟩:=wU rp;cases t1.nil_inv;obtain⟨u,rfl,t,rfl⟩:=uA rv;rw[yS] at hl;exact call_range_1 (IU (eY (lo:=0) hc I1 r1 om om c.1 c.2 (by rw[Tx];exact hl) (by rw[Tx];exact af3)))
  |two i j c =>
   obtain⟨ws,rfl,t1⟩:=wU rp;obtain⟨ws2,rfl,t2⟩:=wU t1;cases t2.nil_inv;obtain⟨u,u',rfl,⟨t,rfl⟩,t',rfl⟩:=mC rv;rw[yS] at hl;exact call_range_2 (IU (eY hc I1 r1 c.1 c.2.1 c.2.2.1 c.2.2.2 hl af3))
theorem KY (hc:X.calm=true)(hg0:Gl X "tuple")(hm0:X.mg "tuple" = none)(hg:Gl X "range")(hm:X.mg "range" = none)(ha:QA X (e::es) f)(hs:Az (e::es) X.env=(false,eval e X.env)::Az es X.env:=by rfl)(hpl:(Eo pos (Az es X.env)).any (·.1)=false:=by rfl) :
  QE X (.Call (.Name "tuple" p0) [.Call (.Name "range" p) (e::es) [] pos] [] pos0) (pM true f):=⟨U6 hc Z8 (by decide +kernel) (by decide +kernel) hg0 hm0 hg hm ha.1 hs hpl⟩
end
section
variable {X:Cx}{o:Bd}{fo:DE}{apos cpos:Do}{elts:Aa Bd}{x1:Af}{tpos:Do}
noncomputable def vD:G2:=λa b S=>match a,b with
 |.bl x,.bl y=>.ok (.bl (x != y)) S
 |_,_=>.bad
theorem oI:OpD X (Cp .IsNot) vD:=by
 intro pins σ H s P α S v u vv uu a b Q I r rv ru pa pb af;cases a with
 |bl x =>
  cases b with
  |bl y =>
   simp only[Rep] at pa pb;subst pa pb;cases (show vv=Eb x from rv)
   cases (show uu=Eb y from ru)
   have h:EP X pins σ Q (.bool (x != y)) s:=⟨.bl _,H,I,rfl,xr af r (by simp only[Rep])⟩
   cases x <;> cases y <;> exact Ap h
  |_=>exact Am af
 |_=>exact Am af
theorem Y8:ZOp X (Cp .IsNot) vD:=⟨oI⟩
end
noncomputable def fC (d:D)(S:Sto):Al (Aa (Key × D)):=match d with
 |.loc n=>match S[n]? with
  |some (.dct kvs)=>Ab kvs
  |_=>none
 |_=>none
theorem dA {K:Ah}{P:Hp}{α:Aa Ad}:∀ {kvs:Aa (Key × D)} {vs:Aa (Key × V)},KVs K P α kvs vs->kvs.map (·.1)=vs.map (·.1)
 |_,_,.nil=>rfl
 |_,_,.cons z t=>by rw[Bt,Bt,z.1,dA t]
section
variable {X:Cx}{o:Bd}{fo:DE}{apos cpos pos p2:Do}
set_option tactic.hygienic true in
theorem iE {d:D}{S:Sto}{kvs:Aa (Key × D)}(h:fC d S=Ab kvs):∃ n,d=.loc n/\S[n]? = Ab (.dct kvs):=by
 unfold fC at h
 split at h
 .split at h
  .rename_i hS
   cases h;exact⟨_,rfl,hS⟩
  .cases h
 .cases h
end
end _D
section
end
namespace _D
open PySem PySem.Spec PyProof.Rows _L
inductive AccT {K:Type}(w:Bk)(hash:K->Aj)(enc:K->D)(Kf:Ah)(P:Hp)(α : Aa Ad)(ds:Aa D)(o:Bq):Prop
 |mk (es:AZ (Aj × Ac)) (ep:Af) (t:Om) (ks:Aa K) (kv:Aa (K × Ac)) (ho:o=_S.setO es ep t) (T:_S.TabT t es) (led:t.led=_S.FY w) (hds:ds=ks.map enc) (hes:es.toList=kv.map λp=>(hash p.1,p.2)) (nd:(kv.map (·.1)).Nodup) (mem:∀ k,k∈kv.map (·.1)↔k∈ks) (rp:∀ p∈kv,∃ v,qM v p.2/\Rep Kf P α (enc p.1) v):AccT w hash enc Kf P α ds o
section
variable {K:Type}{w:Bk}{hash:K->Aj}{enc:K->D}{Kf:Ah}{P P1:Hp}{α α1:Aa Ad}{ds:Aa D}{o:Bq}
theorem AccT.mono (e:qF P P1)(h:α<+:α1)(a:AccT w hash enc Kf P α ds o):AccT w hash enc Kf P1 α1 ds o:=by
 obtain⟨es,ep,t,ks,kv,h1,h2,h3,h4,h5,h6,h7,h8⟩:=a;exact⟨es,ep,t,ks,kv,h1,h2,h3,h4,h5,h6,h7,λp hp=>let ⟨v,a,b⟩:=h8 p hp;⟨v,a,Rep.mono e h _ _ b⟩⟩
theorem AccT.cell (a:AccT w hash enc Kf P α ds o):∀ v,o.data≠.cell v:=by
 obtain⟨es,ep,t,ks,kv,rfl,_⟩:=a;intro v z;cases z
end
@[reducible] def accS {K:Type}(w:Bk)(hash:K->Aj)(enc:K->D):Acc:=⟨true,AccT w hash enc,AccT.mono,AccT.cell⟩
noncomputable def lJ (ds:Aa D):Ao:=match aR ds with
 |some ks=>decide ((_S.srt _H.lexLt ks).length<=1000)&&ks.all λk=>!k.isEmpty
 |none=>false
section
variable {X:Cx}{K:Type}{is:Bc->K->Ac->Prop}{hash:K->Aj}{enc:K->D}{lt:K->K->Ao}{d:K}{Fit:K->Prop}{chk:Aa D->Ao}{elt tg iter:Bd}{ifs:Aa Bd}{scope:Di}{pos:Do}{N':Aa An}{cap:Aa (Al Af)}{fi:DI2}{g:DG}{t:DT}{kk:DK}{qL:Aa Dm}
inductive SetEnd (X:Cx){K:Type}(hash:K->Aj)(enc:K->D)(pins:Aa (Ad × Bq))(σ : _L.St)(P1:Hp)(α1:Aa Ad)(ds:Aa D)(SF:Sto)(acc:Ad)(s:Ag):Prop
 |mk (H' P':Hp) (α' : Aa Ad) (o:Bq) (I:Inv X pins σ H' s) (r:Rel X.K H' P' α' SF) (e1:qF P1 P') (e2:α1<+:α') (ho:s.heap.get? acc=Ab o) (a:AccT X.w hash enc X.K P' α' ds o):SetEnd X hash enc pins σ P1 α1 ds SF acc s
theorem uE {pins:Aa (Ad × Bq)}{σ σ':_L.St}{H2:Hp}{s2 s':Ag}{fp:Aa Ad}{acc C:Ad}{P1:Hp}{α1:Aa Ad}{H' P':Hp}{α' : Aa Ad}{envF:qD}{SF:Sto}{ds:Aa D}{o:Bq}{cl:Aa (An × Ad)}(I2:Inv X pins σ H2 s2)
  (hf:∀ b∈fp,zX X pins H2 b) (hC:s2.heap.objs.size<=C) (hne:acc≠C) (st:TurnSt (accS X.w hash enc) (zG X N' scope cl C fp s2 H2) [] P1 α1 fp acc envF SF ds s' σ' H' P' α' o)
  {h':Bc} (sb:Hs C s'.heap h'):SetEnd X hash enc pins σ P1 α1 ds SF acc { s' with heap:=h' }:=by
 have kC:∀ b o,b≠C->s'.heap.get? b=Ab o->h'.get? b=Ab o:=λb o hb e=>(sb.2 b hb).trans e;have nC:∀ b o,s2.heap.get? b=Ab o->b≠C:=λb o e=>Bs (Aw (Ay e) hC);have base:Un (frs X.stack) fp H2 H' s2.heap s'.heap:=st.inv.base;have un:Un (frs X.stack) fp H2 H' s2.heap h':=by
  refine⟨λb ob q hn hb hx=>kC b ob (nC b ob q) (base.keep b ob q hn hb hx),λb ob q hn hb hx=>?_,base.free,λb ob q hx=>?_,base.tups,base.frzs,base.tbls⟩
  .obtain⟨sl,e⟩:=base.slot b ob q hn hb hx
   exact⟨sl,kC b _ (nC b ob q) e⟩
  .obtain⟨o',e⟩:=base.there b ob q hx
   exact⟨o',kC b o' (nC b ob q) e⟩
 have hok':HOk X.prog X.w H' h':=tZ st.inv.hok st.inv.free kC;refine⟨H',P',α',o,?_,st.rel,st.same,st.pre,kC acc o hne st.at',st.acc⟩;exact I2.call' (s':={ s' with heap:=h' }) (ch:=fp) (st.inv.os) un hok' st.inv.bare λb hb=>by
  obtain⟨_,h1,h2,h3,h4,h5⟩:=hf b hb;exact⟨h3,h1,h4,h5⟩
end
end _D
section
end
namespace _D
open PySem PySem.Spec PyProof.Rows _L
variable {α:Aa Ad}{es:Aa Bd}{K:Ah}
noncomputable def cH (lo c:Aj)(n:Af):It:=⟨λi _=>i<n,λi H x H'=>H'=H/\x=.int (lo+i*c),λi _=>n<=i⟩
theorem rH {P:AV}{w:Bk}{tg:Bd}(it:Ad)(lo c:Aj)(n:Af):Turn P w K tg (cH lo c n) [it] it (λi h=>Qk h it (lo+(i:Af)*c) ((n:Aj)-(i:Af)) c) where
 mem:=by simp
 obj:=λi h st b hb=>by
  have e:b=it:=by simpa using hb
  subst e;exact⟨_,st,λv z=>by
   have z':Yt _=Data.cell v:=z;cases z'⟩
 keep:=λi h h' st k=>k it (by simp) _ st
 item:=by
  intro X hP hw hK hc i pins s σ H E I hf st hg;subst hP hw hK;obtain⟨f0,f1,f2,f3,f4,f5⟩:=hf it (by simp)
  have W:=Yu (prog:=X.prog) (w:=X.w) (I.ok.hd hc) it lo c n;refine W.item i s _ _ hg st λv h' tk hv st' kk=>?_;obtain⟨t,rfl⟩:=hv;have I1:Inv X pins σ H { s with heap:=h',toks:=tk }:=I.turned (λb o hb e=>kk b o (by simpa using hb) e) f0 f1 f3 f4 f5
  exact⟨_,rfl,nW (s:={ s with heap:=h',toks:=tk }) (n:="range_iterator") st' rfl rfl (by decide) ⟨.int (lo+i*c),H,I1,⟨t,rfl⟩,⟨rfl,rfl⟩,st',λb hb=>(hf b hb).1⟩⟩
 done:=by
  intro X hP hw hK hc i pins s σ H E I hf st hg;subst hP hw hK;obtain⟨f0,f1,f2,f3,f4,f5⟩:=hf it (by simp)
  exact Pl (I.ok.hd hc) st (by have:n<=i:=hg;omega) λh' eb=>⟨rfl,I.turned (t':=s.toks) (λb o hb e=>eb b o hb e) f0 f1 f3 f4 f5⟩
 self:=λ_ _ _ _ _ st h=>Pm st h
noncomputable def rsz (a b c:Aj):Af:=if a<b then ((b-a-1)/c+1).toNat else 0
noncomputable def yT (lo c:Aj)(n:Af):Aa D:=(Cw n).map λ(i:Af)=>D.int (lo+(i:Aj)*c)
theorem a8 {P:Hp}{lo c:Aj}{n:Af}:ItD K (cH lo c n) P α (yT lo c n) where
 go:=λi H P1 α1 S hi r e _=>show i<n by simpa [yT] using hi
 yld:=λi H x H' P1 α1 S hi r e e2 y=>by
  obtain⟨rfl,rfl⟩:=y;have hi:i<n:=by simpa [yT] using hi
  exact⟨P1,.int (lo+i*c),by simp[yT,hi],r,qF.refl _,by simp only[Rep]⟩
 stop:=λi H P1 α1 S hi r e _=>show n<=i by simpa [yT] using hi
noncomputable def sI (ds:Aa D):Al (Aa D):=match ds with
 |[.int a,.int b,.int c]=>if (-(2 ^ 40)<=a/\a<2 ^ 40)/\(-(2 ^ 40)<=b/\b<2 ^ 40)/\0<c/\c<1073741824 then Ab (yT a c (rsz a b c)) else none
 |_=>none
noncomputable def j6 (f:DA):DI:=λenv S=>(f env S).bind λds S1=>match sI ds with
 |some xs=>.ok xs S1
 |none=>.bad
inductive RsV (ds:Aa D):Prop
 |none (e:sI ds=none)
 |some (a b c:Aj) (ed:ds=[.int a,.int b,.int c]) (h:(-(2 ^ 40)<=a/\a<2 ^ 40)/\(-(2 ^ 40)<=b/\b<2 ^ 40)/\0<c/\c<1073741824) (e:sI ds=Ab (yT a c (rsz a b c)))
set_option tactic.hygienic true in
theorem rsV (ds:Aa D):RsV ds:=by
 cases e:sI ds with
 |none=>exact .none e
 |some xs =>
  have e0:=e;unfold sI at e
  split at e
  .rename_i a b c
   split at e
   .rename_i h
    exact .some a b c rfl h (e0.trans e.symm)
   .cases e
  .cases e
section
variable {X:Cx}{tg:Bd}{f:DA}{p pos:Do}
theorem Q6 {pins:Aa (Ad × Bq)}{σ:_L.St}{H:Hp}{s:Ag}{R:It->Hp->Prop}{E:Ac->Ag->Prop}{lo hi c:Aj}{t u v:Oo}{tk:Af}(I:Inv X pins σ H s)(h:(-(2 ^ 40)<=lo/\lo<2 ^ 40)/\(-(2 ^ 40)<=hi/\hi<2 ^ 40)/\0<c/\c<1073741824)
  (q:R (cH lo c (rsz lo hi c)) H):Ar (Au X.prog X.w) X.A (OL (.ref s.heap.objs.size)) (PIE X pins σ tg R) E { s with heap:=s.heap.push { cls:=.type "range",data:=.fields #[.int lo t,.int hi u,.int c v] },toks:=tk }:=by
 have hsz:((rsz lo hi c:Af):Aj)=Dp lo hi c:=by
  unfold rsz Dp;rw[AS h.2.2.1]
  split
  .have:0<=(hi-lo-1)/c:=Wk om om
   omega
  .rfl
 have le:(rsz lo hi c:Aj)<=2 ^ 41:=by
  unfold rsz
  split
  .have h1:(hi-lo-1)/c<=hi-lo-1:=Int.ediv_le_self _ om
   omega
  .omega
 have sm:Ir lo hi c=true:=by
  unfold Ir;rw[<- hsz];have ge:0<=((rsz lo hi c:Af):Aj):=by omega
  generalize ((rsz lo hi c:Af):Aj)=n at le ge;simp only[Xd,As,Gs,Ax,Nj,show c>0 from h.2.2.1,Cq]
  omega
 refine Tj (Ql ..) sm ?_;have I1:Inv X pins σ H { s with heap:=s.heap.push { cls:=.type "range",data:=.fields #[.int lo t,.int hi u,.int c v] },toks:=tk }:=I.kept λb o e=>Ak _ e
 refine⟨(s.heap.push { cls:=.type "range",data:=.fields #[.int lo t,.int hi u,.int c v] }).objs.size,[(s.heap.push { cls:=.type "range",data:=.fields #[.int lo t,.int hi u,.int c v] }).objs.size],_,_,H,rfl,
  I1.kept (t':=tk) λb o e=>Ak _ e,rH _ lo c (rsz lo hi c),?_,λb hb=>?_,q⟩
 .have e1:lo+((0:Af):Aj)*c=lo:=by simp
  show Qk _ _ (lo+((0:Af):Aj)*c) (((rsz lo hi c:Af):Aj)-((0:Af):Aj)) c;rw[e1,hsz,show Dp lo hi c-((0:Af):Aj)=Dp lo hi c by simp]
  exact Bb _ rfl
 .have e:b=(s.heap.push { cls:=.type "range",data:=.fields #[.int lo t,.int hi u,.int c v] }).objs.size:=by simpa using hb
  subst e;exact I1.fpOk (Aq _) (I1.hok.fresh (Aq _))
theorem iH {e:Bd}(hg:Gl X "range")(hm:X.mg "range" = none)(ha:PA X (e::es) (tDA X f))(hs:Az (e::es) X.env=(false,eval e X.env)::Az es X.env:=by rfl)(hpl:(Eo pos (Az es X.env)).any (·.1)=false:=by rfl) :
  PI X tg (.Call (.Name "range" p) (e::es) [] pos) (tDI X (j6 f)):=by
 intro pins s σ H R I h;obtain⟨P,α,env,S,r,re,af⟩:=h;refine Xr (wX I hg hm Wy (DL (thn (w5 ha I r re af pos) λus s1 ⟨vs,H1,P1,α1,ds,S1,I1,rv,r1,re1,rp,e1,e2,af1⟩=>?_) hs hpl));cases rsV ds with
 |none e=>simp only[e] at af1;exact Am af1
 |some a b c ed hb e =>
  simp only[e] at af1;subst ed;obtain⟨ws,rfl,t1⟩:=wU rp;obtain⟨ws2,rfl,t2⟩:=wU t1;obtain⟨ws3,rfl,t3⟩:=wU t2;cases t3.nil_inv;cases rv with
  |cons z1 rv =>
   cases rv with
   |cons z2 rv =>
    cases rv with
    |cons z3 rv =>
     cases rv;obtain⟨k1,rfl⟩:=z1;obtain⟨k2,rfl⟩:=z2;obtain⟨k3,rfl⟩:=z3;exact call_range_3 om (Q6 I1 hb (af1 (cH a c (rsz a b c)) H1 P1 α1 r1 e1 e2 a8)) (.inl (Li om))
theorem oZ {e:Bd}(hg:Gl X "range")(hm:X.mg "range" = none)(ha:QA X (e::es) f)(hs:Az (e::es) X.env=(false,eval e X.env)::Az es X.env:=by rfl)(hpl:(Eo pos (Az es X.env)).any (·.1)=false:=by rfl) :
  QI X tg (.Call (.Name "range" p) (e::es) [] pos) (j6 f):=⟨iH hg hm ha.1 hs hpl⟩
end
section
open _S PySem.W
variable {prog:AV}{w:Bk}{A:Bh}{E:Ac->Ag->Prop}{s:Ag}
theorem QN {K:Type}{is:K->Ac->Prop}{hash:K->Aj}{lt':K->K->Ao}{d:K}{Fit:K->Prop}{Q:Ac->Ag->Prop}{arg:Ac}{Rc:Aa Ac->Ag->Prop}(kd:∀ h0:Bc,Kind prog w is hash lt' d Fit h0)(hu:A.units+16<Hz)
  (hcol:∀ {R:Aa Ac->Ag->Prop},(∀ vs s1,Rc vs s1->R vs s1)->Ar (Au prog w) A.in1 (collect arg) R E s)
  (h:∀ (vs:Aa Ac) (s1:Ag),Rc vs s1->∃ ks:Aa K,vs.length=ks.length/\(∀ i v,vs[i]? = Ab v->is (ks.getD i d) v)/\(∀ k∈ks,Fit k)/\vs.length<=63 /\
   ∀ (h':Bc) (a:Ad) (c:Af) (ps:Aa (K × Ac)),(∀ b o,s1.heap.get? b=Ab o->h'.get? b=Ab o)->s1.heap.objs.size<=a->h'.get? a=Ab (Fl "list" (ps.map (·.2)).toArray c)->ps.map (·.1)=vG lt' ks->(∀ p∈ps,is p.1 p.2/\p.2∈vs)->Q (.ref a) { s1 with heap:=h' }) :
  Ar (Au prog w) A (call (.builtin "sorted") [arg]) Q E s:=by
 refine Calls.call_function_entry kind_sorted plain_sorted entry_sorted (args_sorted1 _) ?_;unfold Lx.«sorted»;refine Ai (m:=checkCount "sorted" 1 1 _) (Ap ?_);refine Ai (hcol λvs s1 hR=>?_);obtain⟨ks,hlen,hks,hf,hz,h⟩:=h vs s1 hR;refine Ai (wpAny_newList ?_ (by rw[Fe];omega))
 have hD:(s1.heap.push (Fl "list" vs.toArray 0)).get? s1.heap.objs.size=Ab (Fl "list" vs.toArray 0):=Bb _ rfl;have n0:s1.heap.get? s1.heap.objs.size=none:=by
  cases q:s1.heap.get? s1.heap.objs.size with
  |none=>rfl
  |some o=>exact absurd (Ay q) (Dr _)
 have kd:=kd s1.heap;show Ar _ _ _ _ _ { s1 with heap:=s1.heap.push (Fl "list" vs.toArray 0),toks:=s1.toks }
 refine Ai (Fo (Fy slot_list_sort ⟨_,hD,rfl⟩ entry_list_sort (SC (h0:=s1.heap) (is:=is) kd.ord kd.inj (d:=d) (vs:=vs) hlen hks hD (by show A.units+2+8<Hz;omega) om (λh2=>kd.cmps hlen hks hf h2) (λb o e=>Ak _ e) n0 λps pm nf=>⟨_,rfl,?_⟩) (args_list_sort _)))
 refine Ap ⟨_,rfl,?_⟩;have old:∀ b o,b≠s1.heap.objs.size->(s1.heap.push (Fl "list" vs.toArray 0)).get? b=Ab o->((((s1.heap.push (Fl "list" vs.toArray 0)).update s1.heap.objs.size (Gn λ_=>#[])).push (Fl "tuple" vs.toArray 0)).push (Fl "list" #[] 0)).get? b=Ab o:=λb o hb e =>
  Ak _ (Ak _ ((Hb _ _ (Fa hb)).trans e))
 obtain⟨e1,he1⟩:∃ e1,((s1.heap.push (Fl "list" vs.toArray 0)).update s1.heap.objs.size (Gn λ_=>#[])).get? s1.heap.objs.size=Ab (Fl "list" #[] e1):=⟨_,Qb hD (λ_=>#[])⟩;have he6:=Qb (Ak (Fl "list" #[] 0) (Ak (Fl "tuple" vs.toArray 0) he1)) (λ_=>(ps.map (·.2)).toArray)
 have pk:(ps.map (·.1)).Perm ks:=by
  have:=pm.map (·.1)
  rwa [Vs om] at this
 refine h _ s1.heap.objs.size _ ps (λb o e=>?_) (Aq _) he6 (eJ kd.ord nf (c6 kd.ord ks) (pk.trans (yI ks).symm)) (λp hp=>?_)
 .have hb:b≠s1.heap.objs.size:=λz=>by
   subst z;exact absurd (Ay e) (Dr _)
  exact(Hb _ _ (Fa hb)).trans (old b o hb (Ak _ e))
 .obtain⟨i,e1,e2⟩:=LS (d:=d) hlen (pm.mem_iff.mp hp)
  exact⟨e2▸hks i _ e1,Cn e1⟩
theorem r8 {T:Cs}{r d:Ad}{n:Af}{P:Af->Ac->Prop}{OK:Bc->Prop}{Q:Aa Ac->Ag->Prop}(K:KdlSrc prog w T r d n P OK)(hh:A.handled=none)(hok:OK s.heap)(hn:n<=sizeLine)
  (h:∀ (h':Bc) (tk:Af) (acc:AZ Ac),(∀ b o,s.heap.get? b=Ab o->h'.get? b=Ab o)->Te P acc n->Q acc.toList { s with heap:=h',toks:=tk }) : Ar (Au prog w) A (collect (.ref r)) Q E s:=by
 unfold collect;refine Ai (wpAny_runValue (Kc Nt ?_));rw[Jn Nu _];show Ar _ A.in1 (newList [] >>= λl=>again (.builtin "list.__iadd__" ⟨[l,.ref r],[]⟩)) _ _ s;refine Ai (Cz (Ap ⟨plainId_quiet IB _,Kc Pc ?_⟩));rw[Jn IB _];have hD:(s.heap.push { cls:=.type "list",data:=.seq ([] : Aa Ac).toArray }).get? s.heap.objs.size=Ab { cls:=.type "list",data:=.seq #[] }:=Bb _ rfl;have hok1:OK (s.heap.push { cls:=.type "list",data:=.seq ([] : Aa Ac).toArray }):=K.keep _ _ hok λb _ o e=>Ak _ e;obtain⟨t1,t2⟩:=K.there _ hok;show Ar _ A.in1 (Nv (.ref s.heap.objs.size) (.ref r) (.ref s.heap.objs.size)) _ _ _;refine kdl_extend (R:=λr s'=>match r with
  |.ok (.ret v)=>Ar (Au prog w) A (match v with
   |.ref a=>do
    let o <- load a
    match o.data with
    |.seq xs epoch=>pure xs.toList
    |x=>unsupported "internal:collect"
   |x=>unsupported "internal:collect") Q E s'
  |.ok _=>Eh
  |.error e=>E e s') (s:={ s with heap:=s.heap.push { cls:=.type "list",data:=.seq ([] : Aa Ac).toArray } }) K hh hok1 s.heap.objs.size (Iw t1) (Iw t2) _ _ hD (λh' tk acc c' kp hS hacc=>?_) hn
 show Ar _ A (load s.heap.objs.size >>= _) _ _ _;refine Ai (Ws hS (Ap ?_));exact h h' tk acc (λb o q=>kp b o (Bs (Ay q)) (Ak _ q)) hacc
end
noncomputable def p5:Aa (Key × D)->Al (Aa Aj)
 |[]=>Ab []
 |(.inl i,_)::r=>(p5 r).map (i::·)
 |_::_=>none
noncomputable def f9 (f:DE):DE:=λenv S=>(f env S).bind λd S1=>match fC d S1 with
 |some kvs=>match p5 kvs with
  |some ns=>if ns.length<=63 then .ok (.lst ((_S.vG _S.ltI ns).map D.int)) S1 else .bad
  |none=>.bad
 |none=>.bad
theorem eC:∀ {kvs:Aa (Key × D)} {ns:Aa Aj},p5 kvs=Ab ns->kvs.map (·.1)=ns.map Ei
 |[],ns,h=>by cases h;rfl
 |(.inl i,d)::r,ns,h=>by
  obtain⟨m,h1,rfl⟩:=Cg.mp (show (p5 r).map (i::·)=Ab ns from h)
  rw[Bt,Bt,eC h1]
 |(.inr _,_)::_,_,h=>nn h
theorem nI {P:Hp}:∀ ms:Aa Aj,qE K P α (ms.map D.int) (ms.map V.int)
 |[]=>.nil
 |m::ms=>.cons (by simp only[Rep]) (nI ms)
section
variable {X:Cx}{o:Bd}{fo:DE}{pos p2:Do}
theorem ZT (hc:X.calm=true)(hu:X.A.units+64<Hz)(hg:Gl X "sorted")(hm:X.mg "sorted" = none)(ho:PE X o (tD X fo))(he:Az [o] X.env=(false,eval o X.env)::Az [] X.env:=by rfl) :
  PE X (.Call (.Name "sorted" p2) [o] [] pos) (tD X (f9 fo)):=by
 intro pins s σ H Q I h;obtain⟨P,α,env,S,r,re,af⟩:=h;refine Ge (wX I hg hm i7 ?_);refine Ml ?_ he rfl;rw[he];refine ID (thn (zM ho I r re af) λvv s1 ⟨v,H1,P1,α1,d,S1,G1,af1⟩=>IU ?_);cases hd:fC d S1 with
 |none=>rw[hd] at af1;exact Am af1
 |some kvs =>
  rw[hd] at af1;dsimp only at af1;cases hk:p5 kvs with
  |none=>rw[hk] at af1;exact Am af1
  |some ns =>
   rw[hk] at af1;dsimp only at af1;obtain⟨hz5,af1⟩:=xT (X:=X) af1;obtain⟨n,rfl,hS⟩:=iE hd;have rp:=G1.rep;have I1:=G1.inv;have r1:=G1.rel;simp only[Rep] at rp;obtain⟨a,rfl,ha⟩:=rp;cases (show vv=Bn a from G1.val)
   obtain⟨vs,z,t⟩:=r1.at' n a _ ha hS;obtain⟨hz,hds,us,rel,dd⟩:=cT I1.hok z;obtain⟨ep,hat⟩:=dd.dictAt;have hlu:us.length<=sizeLine:=by rw[<- rel.length];exact hz
   have ek:us.map (·.1)=ns.map Ei:=by
    rw[<- eC hk,<- rel.keys];exact(dA t).symm
   have eln:us.length=ns.length:=by have:=congrArg Ls ek;simpa using this
   refine QN (Rc:=λvs' s'=>∃ (h':Bc) (tk:Af) (acc:AZ Ac),vs'=acc.toList/\s'={ s1 with heap:=h',toks:=tk } /\ (∀ b o,s1.heap.get? b=Ab o->h'.get? b=Ab o)/\Te (λi v=>∃ k x,us[i]? = Ab (k,x)/\(zJ X.prog X.w).is k v=true) acc us.length)
    (λh0=>_S.DZ X.prog X.w h0) om (λ{R} hR=>r8 (PySem.W.kdl_dict (knd:=zJ X.prog X.w) (kvs:=us) (ep:=ep) hds) (I1.ok.hd hc) hat hlu λh' tk acc kp hacc=>hR _ _ ⟨h',tk,acc,rfl,rfl,kp,hacc⟩) ?_
   rintro _ _ ⟨h',tk,acc,rfl,rfl,kp,hacc⟩;have at':∀ (i:Af) (v:Ac),acc.toList[i]? = Ab v->∃ t,v=Hd (ns.getD i 0) t:=λi v hv=>by
    rw[Dn] at hv;obtain⟨k,x,e1,e2⟩:=hacc.2 i v hv;have e3:(ns.map Ei)[i]? = Ab k:=by rw[<- ek,Dt,e1];rfl
    rw[Dt] at e3;obtain⟨m,e4,e5⟩:=Cg.mp e3;subst e5;obtain⟨t,e⟩:=(show ∃ t,v=Hd m t from YR (k:=Ei m) (show jA (Ei m) v=true from e2))
    exact⟨t,by rw[e,Hr,e4];rfl⟩
   refine⟨ns,by rw[Bm,hacc.1,eln],λi v hv=>?_,λ_ _=>trivial,by rw[Bm,hacc.1,eln];exact hz5,λh2 b c ps kp2 hb hob hps hp=>?_⟩
   .obtain⟨t,rfl⟩:=at' i v hv
    exact intKind_is _ _ _ _
   .have I2:Inv X pins σ H1 { s1 with heap:=h',toks:=tk }:=I1.kept kp
    have vv:∀ (ps:Aa (Aj × Ac)),(∀ p∈ps,_S.isI X.prog X.w p.1 p.2)->qN ((ps.map (·.1)).map V.int) (ps.map (·.2)):=by
     intro ps
     induction ps with
     |nil=>exact λ_=>.nil
     |cons p ps ih =>
      intro h;obtain⟨t,e⟩:=_S.mZ (h p (by simp))
      exact .cons ⟨t,e⟩ (ih λq hq=>h q (by simp[hq]))
    have a1:=vv ps λp hpm=>(hp p hpm).1;rw[hps] at a1;have hln:(_S.vG _S.ltI ns).length<=sizeLine:=by rw[(_S.yI ns).length_eq,Fe];omega
    have I3:=Inv.laid (a:=b) (o:=HO.lst ((_S.vG _S.ltI ns).map V.int)) (t':=tk) (h':=h2) I2 kp2 hb ⟨by rw[Ba];exact hln,ps.map (·.2),c,a1,hob⟩
    obtain⟨r3,e3⟩:=r1.pure (o:=HO.lst ((_S.vG _S.ltI ns).map V.int)) (I2.hok.fresh hb);refine⟨.ref b,_,I3,rfl,af1 _ _ _ α1 r3 (G1.same.trans e3) G1.pre ?_⟩;refine pX (.inl (.inl qX)) ?_;exact nI _
theorem WQ {cm:Ao}{k:Af}(hc:X.calm=true)(hr:RoomC cm k X.A)(hg:Gl X "sorted")(hm:X.mg "sorted" = none)(ho:QE X o fo)(he:Az [o] X.env=(false,eval o X.env)::Az [] X.env:=by rfl) :
  QE X (.Call (.Name "sorted" p2) [o] [] pos) (f9 fo):=⟨ZT hc hr.units hg hm ho.1 he⟩
end
noncomputable def fH:G2:=λa b S=>match a,b with
 |.lst xs,.int k=>if 0<=k/\k<2 ^ 62/\xs.length*k.toNat<=lim then .ok (.loc S.length) (S++[.lst (Bw k.toNat xs).flatten]) else .bad
 |_,_=>.bad
section
variable {X:Cx}
set_option tactic.hygienic true in
theorem K3:OpD X (De .Mult) fH:=by
 intro pins σ H s P α S v u vv uu a b Q I r rv ru pa pb af;unfold fH at af
 split at af
 .rename_i xs k
  obtain⟨hk,af⟩:=xT (X:=X) af;obtain⟨h1,h2,hz⟩:=hk;obtain⟨l,vs,its,n,rfl,q1,t1,rv1,e,l1,_⟩:=vS I r pa;cases (show vv=Bn l from rv)
  have:=zF pb;subst this;obtain⟨t,rfl⟩:=ru;have hl:its.length=vs.length:=rv1.length.symm;have hlen:its.toArray.size*k.toNat<=sizeLine:=by rw[Bf,<- l1,<- zQ];exact hz
  have hcap:¬ its.toArray.size*k.toNat>(2 ^ 63-1)/8:=by
   have:(sizeLine:Af)<=(2 ^ 63-1)/8:=by decide
   omega
  have hfit:¬ (!Builtin.List.listFitsIndex k)=true:=by
   rw[fitsIndex_both om om];exact Fh
  have hlong:¬ Kl (its.toArray.size*k.toNat)=true:=by
   rw[W5 hlen];exact Fh
  have hnew:Ww (λx1 x2=>x1++x2) #[] (Bw (if its.toArray.isEmpty=true then 0 else k.toNat) its.toArray)=(Bw k.toNat its).flatten.toArray:=by
   have f0:∀ m:Af,Ww (λx1 x2=>x1++x2) #[] (Bw m its.toArray)=(Bw m its).flatten.toArray:=λm=>by
    have:=tY its m [];rw[Fg] at this;exact this
   rw[f0];cases its with
   |nil=>simp
   |cons a r'=>rw[AX (by simp)]
  refine wpAny_binaryOp_repeat_ref (T:="list") (U:="int") (by decide) ⟨_,e,rfl⟩ (λs'=>Wv s' k t) noFill_list_mul F.fills_int_mul Wl repeat_list F.slot_int_index.lookup
   (OR Wl (Wv s k t) F.entry_int_rmul (F.args_int_rmul_2 _ _) (int___rmul___int_list k t l its.toArray n)
    ⟨e,rfl,⟨_,e,rfl⟩,OR F.slot_list_mul ⟨_,e,rfl⟩ F.entry_list_mul (F.args_list_mul_2 _ _) (AutoListH.list___mul___list_int_3 l its.toArray n k t hfit hcap hlong) ⟨e,?_⟩⟩)
  rw[hnew];exact XG I r (sG t1 k.toNat) (rv1.rep k.toNat) (by rw[JR,Dw];exact hz) af
 .exact Am af
theorem LO:ZOp X (De .Mult) fH:=⟨K3⟩
end
end _D
section
end
namespace _D
open PySem
variable {kvs:Aa (_L.Key × D)}{ds:Aa D}{v:Ac}{n p:Af}{lo hi:Al Aj}{f1:DE}{F:DF}{S1 S' S2:Sto}{env':qD}
def Nx (o:Out)(Q:qD->Sto->Prop):Prop:=∃ env S,o=.nx env S/\Q env S
def Rt (o:Out)(Q:D->Sto->Prop):Prop:=∃ d S,o=.rt d S/\Q d S
def Ok {β:Type}(r:Res β)(Q:β->Sto->Prop):Prop:=∃ d S,r=.ok d S/\Q d S
theorem pU {o:Out}{Q:qD->Sto->Prop}{env:qD}{S:Sto}(h:o=.nx env S)(q:Q env S):Nx o Q:=⟨env,S,h,q⟩
theorem qK {β:Type}{r:Res β}{Q:β->Sto->Prop}{d:β}{S:Sto}(h:r=.ok d S)(q:Q d S):Ok r Q:=⟨d,S,h,q⟩
theorem M8 {f g:DS}{env:qD}{S:Sto}{Q:qD->Sto->Prop}(h:Nx (f env S) λenv1 S1=>Nx (g env1 S1) Q):Nx (qO f g env S) Q:=by
 obtain⟨env1,S1,e,env2,S2,e2,q⟩:=h;exact⟨env2,S2,by unfold qO;rw[e];exact e2,q⟩
theorem kK {f g:DS}{env:qD}{S:Sto}{Q:D->Sto->Prop}(h:Nx (f env S) λenv1 S1=>Rt (g env1 S1) Q):Rt (qO f g env S) Q:=by
 obtain⟨env1,S1,e,env2,S2,e2,q⟩:=h;exact⟨env2,S2,by unfold qO;rw[e];exact e2,q⟩
theorem aE {t:DT}{f g:DS}{env:qD}{S:Sto}{b:Ao}{Q:qD->Sto->Prop}(h:t env S=.ok b S1)(k:Nx ((if b then f else g) env S1) Q):Nx (sIf t f g env S) Q:=by
 obtain⟨env2,S2,e2,q⟩:=k;refine⟨env2,S2,?_,q⟩;unfold sIf;rw[h];cases b <;> exact e2
theorem dI {f:DE}{i:Af}{env:qD}{S:Sto}{Q:qD->Sto->Prop}(h:Ok (f env S) λd S1=>Q (env.set i (Ab d)) S1):Nx (qV f (gNm i) env S) Q:=by
 obtain⟨d,S1,e,q⟩:=h;exact⟨_,S1,by unfold qV gNm;rw[e];rfl,q⟩
theorem QD {f:DE}{env:qD}{S:Sto}{Q:D->Sto->Prop}(h:Ok (f env S) Q):Rt (qT f env S) Q:=by
 obtain⟨d,S1,e,q⟩:=h;exact⟨_,S1,by unfold qT;rw[e];rfl,q⟩
theorem W6 {t:DT}{f:DS}{Q:qD->Sto->Prop}(I:Af->qD->Sto->Prop)(turn:∀ n env S,I n env S->∃ b S1,t env S=.ok b S1/\(if b then Nx (f env S1) (λenv2 S2=>∃ m,m<n/\I m env2 S2) else Q env S1)) :
  ∀ {n:Af} {env:qD} {S:Sto},n<big->I n env S->Nx (wZ t f env S) Q:=by
 have key:∀ N n env S,n<N->I n env S->Nx (wM t f N env S) Q:=by
  intro N
  induction N with
  |zero=>intro n env S h;omega
  |succ N ih =>
   intro n env S h hI;obtain⟨b,S1,e1,k⟩:=turn n env S hI;cases b with
   |false =>
    refine⟨env,S1,?_,by simpa using k⟩
    unfold wM;rw[e1];rfl
   |true =>
    simp only[Cq] at k;obtain⟨env2,S2,e2,m,hm,hI2⟩:=k;obtain⟨env3,S3,e3,q⟩:=ih m env2 S2 om hI2;refine⟨env3,S3,?_,q⟩;unfold wM;rw[e1];simp only[Res.toS,Cq,e2];exact e3
 exact λ{n env S} h hI=>key big n env S h hI
theorem d0 {fe:DE}{env:qD}{S:Sto}{acc:Aa D}{x:D}(h:fe env S=.ok x S1)(hl:acc.length<lim):xH fe env S acc=.ok (env,acc++[x]) S1:=by
 unfold xH;rw[h];simp[Res.bind,hl]
theorem tV {cap:Aa (Al Af)}{fi:DI2}{g:DG}{t:DT}{k:DK}{env:qD}{S:Sto}{o:Al (Af × MO)}{items:Aa D}(h:fi env S=.ok (o,items) S1)(e:goL o g t k items (wL cap env) S1 [] = .ok (env',ds) S'):xC false cap fi g t k env S=.ok (.lst ds) S':=by
 unfold xC;rw[h];simp only[Res.bind,e,mkM];rfl
theorem GJ {f:DE}{S:Sto}{d:D}{env:qD}(hs:xV n ds=env)(h:f env S=.ok d S'):qP n (qT f) ds S=.ok d S':=by
 subst hs;unfold qP qT;rw[h];rfl
theorem NM {g:DS}{S:Sto}{d:D}{env:qD}(hs:xV n ds=env)(h:g env S=.rt d S'):qP n g ds S=.ok d S':=by
 subst hs;unfold qP;rw[h];rfl
theorem GK {o:Al (Af × MO)}{S:Sto}(h:stn o S)(e:S<+:S'):stn o S':=by
 cases o with
 |none=>trivial
 |some p =>
  obtain⟨r,rfl⟩:=e;have h':S[p.1]? = Ab p.2:=h;show (S++r)[p.1]? = Ab p.2;rw[Bz (Bl.mp h').1];exact h'
theorem rX {α β:Type}(sel:α->Ao)(val:α->β)(l:Aa α) : (l.flatMap λd=>if sel d then [val d] else []) = (l.filter sel).map val:=by
 induction l with
 |nil=>rfl
 |cons d l ih =>
  rw[Jb,ih];cases h:sel d <;> simp[h]
theorem goT {α:Type}{enc:α->D}{o:Al (Af × MO)}{g:DG}{t:DT}{k:DK}(out:α->Aa D)(C:qD->Sto->Prop)(hC:∀ env S,C env S->stn o S) :
  ∀ (xs:Aa α) (env:qD) (S:Sto) (acc:Aa D),C env S->acc.length+(xs.flatMap out).length<=lim ->
  (∀ x∈xs,∀ env S acc,C env S->acc.length+(out x).length<=lim->∃ env1 S1 b S2,g (enc x) env S=.ok env1 S1/\t env1 S1=.ok b S2/\((b=false/\out x=[]/\C env1 S2)\/(b=true/\∃ env3 S3,k env1 S2 acc=.ok (env3,acc++out x) S3/\C env3 S3))) ->
  ∃ env' S',goL o g t k (xs.map enc) env S acc=.ok (env',acc++xs.flatMap out) S'/\C env' S'
 |[],env,S,acc,h,hl,_=>⟨env,S,by simp[goL,uT.mpr (hC _ _ h)],h⟩
 |x::xs,env,S,acc,h,hl,step=>by
  rw[Jb,Dg] at hl;obtain⟨env1,S1,b,S2,e1,e2,r⟩:=step x (Bp ..) env S acc h om;have hst:=uT.mpr (hC _ _ h);rcases r with⟨rfl,h0,h2⟩|⟨rfl,env3,S3,e3,h3⟩
  .obtain⟨env',S',e,q⟩:=goT out C hC xs env1 S2 acc h2 om λd hd=>step d (AT _ hd)
   refine⟨env',S',?_,q⟩;simp only[Bt,goL,hst,Cq,e1,e2,Res.bind,Cd,Ff,Jb,h0,Fg];exact e
  .obtain⟨env',S',e,q⟩:=goT out C hC xs env3 S3 (acc++out x) h3 (by rw[Dg];omega) λd hd=>step d (AT _ hd)
   refine⟨env',S',?_,q⟩;simp only[Bt,goL,hst,Cq,e1,e2,Res.bind,e3,Jb];rw[e,By]
section
variable {α β:Type}{enc:α->D}{enc2:β->D}{cap:Aa (Al Af)}{fi:DI2}{g:DG}{t:DT}{fe:DE}{env:qD}{S S0:Sto}{o:Al (Af × MO)}{xs:Aa α}
theorem EK (hst:stn o S)(sel:α->Ao)(val:α->D)(C:qD->Prop)(h0:C env)(hl:xs.length<=lim)
  (step:∀ x∈xs,∀ env S',C env->S<+:S'->∃ env1 S1,g (enc x) env S'=.ok env1 S'/\C env1/\t env1 S'=.ok (sel x) S1/\S'<+:S1/\(sel x=true->∃ S2,fe env1 S1=.ok (val x) S2/\S1<+:S2)) :
  ∃ env' S',goL o g t (xH fe) (xs.map enc) env S [] = .ok (env',(xs.filter sel).map val) S'/\S<+:S':=by
 have lf:(xs.flatMap λd=>if sel d then [val d] else []).length<=lim:=by
  rw[rX,Ba];exact Bu (Qw _ _) hl
 obtain⟨env',S',e,_,q⟩:=goT (enc:=enc) (o:=o) (g:=g) (t:=t) (k:=xH fe) (λd=>if sel d then [val d] else []) (λenv S'=>C env/\S<+:S') (λ_ _ h=>GK hst h.2) xs env S [] ⟨h0,AU _⟩ (by simpa using lf) (λd hd env S' acc hC hl=>by
  obtain⟨env1,S1,e1,c1,e2,p1,k⟩:=step d hd env S' hC.1 hC.2;refine⟨env1,S',sel d,S1,e1,e2,?_⟩;cases hs:sel d with
  |false=>exact .inl ⟨rfl,by simp,c1,hC.2.trans p1⟩
  |true =>
   obtain⟨S2,e3,p2⟩:=k hs;refine .inr ⟨rfl,env1,S2,?_,c1,(hC.2.trans p1).trans p2⟩;simp only[Cq];exact d0 e3 (by simp only[hs,Cq,Jc] at hl;omega))
 refine⟨env',S',?_,q⟩;rw[e,Fg,rX]
theorem PZ (h:fi env S0=.ok (o,xs.map enc) S)(hst:stn o S)(sel:α->Ao)(val:α->D)(C:qD->Prop)(h0:C (wL cap env))(hl:xs.length<=lim)
  (step:∀ x∈xs,∀ env S',C env->S<+:S'->∃ env1 S1,g (enc x) env S'=.ok env1 S'/\C env1/\t env1 S'=.ok (sel x) S1/\S'<+:S1/\(sel x=true->∃ S2,fe env1 S1=.ok (val x) S2/\S1<+:S2)) :
  ∃ S',xC false cap fi g t (xH fe) env S0=.ok (.lst ((xs.filter sel).map val)) S'/\S<+:S':=by
 obtain⟨env',S',e,q⟩:=EK hst sel val C h0 hl step;exact⟨S',tV h e,q⟩
end
theorem YI {env:qD}{S:Sto}{a:D}(h1:f1 env S=.ok a S1):qI 1 F (qA f1 (qC)) env S=F [a] S1:=by
 simp only[qI,qA,qC,h1,Res.bind,Bv,Ew,Cq]
theorem nP {f2:DE}{env:qD}{S:Sto}{a b:D}(h1:f1 env S=.ok a S1)(h2:f2 env S1=.ok b S2):qI 2 F (qA f1 (qA f2 (qC))) env S=F [a,b] S2:=by
 simp only[qI,qA,qC,h1,h2,Res.bind,Bv,Ew,Cq]
theorem cO {f2 f3:DE}{env:qD}{S S3:Sto}{a b c:D}(h1:f1 env S=.ok a S1)(h2:f2 env S1=.ok b S2)(h3:f3 env S2=.ok c S3):qI 3 F (qA f1 (qA f2 (qA f3 (qC)))) env S=F [a,b,c] S3:=by
 simp only[qI,qA,qC,h1,h2,h3,Res.bind,Bv,Ew,Cq]
theorem iC {env:qD}{S:Sto}{a:D}(h1:f1 env S=.ok a S1):qA f1 (qC) env S=.ok [a] S1:=by
 simp only[qA,qC,h1,Res.bind]
theorem QZ {env:qD}{i:Af}{d:D}{S:Sto}(h:env[i]? = Ab (Ab d)):qB i env S=.ok d S:=by simp only[qB,h]
theorem i4 {α:Type}(p:α->Ao)(l:Aa α) : zT (l.map λx=>D.bl (p x))=Ab (l.map p):=by
 induction l with
 |nil=>rfl
 |cons x l ih =>
  show (zT (l.map λx=>D.bl (p x))).map (p x::·)=_
  rw[ih];rfl
section
variable {β γ:Type}{env:qD}{S:Sto}
theorem qW {r:Res β}{k:β->Sto->Res γ}{Q:γ->Sto->Prop}(h:Ok r λd S1=>Ok (k d S1) Q):Ok (r.bind k) Q:=by
 obtain⟨d,S1,rfl,h⟩:=h;exact h
theorem x8 {r:Res β}{d:β}(h:Ok r λd' S'=>d'=d/\S'=S):r=.ok d S:=by
 obtain⟨_,_,e,rfl,rfl⟩:=h;exact e
theorem zE {r:Res β}{Q Q':β->Sto->Prop}(h:Ok r Q)(k:∀ d S,Q d S->Q' d S):Ok r Q':=by
 obtain⟨d,S,e,q⟩:=h;exact⟨d,S,e,k d S q⟩
variable {Q:D->Sto->Prop}{f g:DE}{fa:DA}{o:G2}{i j:Af}
theorem o_c {d:D}(h:Q d S):Ok (dC d env S) Q:=⟨_,_,rfl,h⟩
theorem o_v {d:D}(e:env[i]? = Ab (Ab d))(h:Q d S):Ok (qB i env S) Q:=⟨_,_,QZ e,h⟩
theorem o_2 (h:Ok (f env S) λa S1=>Ok (g env S1) λb S2=>Ok (o a b S2) Q):Ok (d2 o f g env S) Q:=qW (zE h λ_ _=>qW)
theorem o_1 {u:D->Sto->Res D}(h:Ok (f env S) λa S1=>Ok (u a S1) Q):Ok (d1 u f env S) Q:=qW h
theorem fT {Q:Aa D->Sto->Prop}(h:Q [] S):Ok (qC env S) Q:=⟨_,_,rfl,h⟩
theorem wJ {Q:Aa D->Sto->Prop}(h:Ok (f env S) λa S1=>Ok (fa env S1) λas S2=>Q (a::as) S2):Ok (qA f fa env S) Q:=qW (zE h λ_ _ k=>qW (zE k λ_ _ q=>⟨_,_,rfl,q⟩))
theorem A6 (h:Ok (fa env S) λas S1=>as.length<=lim/\Q (.tup as) S1):Ok (xP fa env S) Q:=qW (zE h λ_ _ k=>⟨_,_,AS k.1,k.2⟩)
theorem YZ (h:Ok (fa env S) λas S1=>as.length<=lim/\Q (.lst as) S1):Ok (zU fa env S) Q:=qW (zE h λ_ _ k=>⟨_,_,AS k.1,k.2⟩)
theorem CL (h:Ok (fa env S) λas S1=>as.length<=lim/\Q (.loc S1.length) (S1++[.lst as])):Ok (nR fa env S) Q:=qW (zE h λ_ _ k=>⟨_,_,AS k.1,k.2⟩)
theorem CU (h:Q (.loc S.length) (S++[.dct []])) : Ok (mO env S) Q:=⟨_,_,rfl,h⟩
theorem CI (h:Q .dct0 S):Ok (f7 env S) Q:=⟨_,_,rfl,h⟩
theorem oC (h:Ok (fa env S) λas S1=>as.length=n/\Ok (F as S1) Q):Ok (qI n F fa env S) Q:=qW (zE h λ_ _ k=>by rw[AS k.1];exact k.2)
theorem A0 {as:Aa D}(h:Ok (F as S) Q):Ok (okO F as S) Q:=by
 obtain⟨d,S1,e,q⟩:=h;exact⟨d,S1,MV e,q⟩
theorem AA (h:Ok (fa env S) λas S1=>Ok (F as S1) Q):Ok (qQ F fa env S) Q:=qW h
theorem SH {a b:Aj}(h:Q (.int (a+b)) S):Ok (qY (.int a) (.int b) S) Q:=⟨_,_,rfl,h⟩
theorem pC {a b:Aa D}(l:a.length+b.length<=lim)(h:Q (.tup (a++b)) S):Ok (qY (.tup a) (.tup b) S) Q:=⟨_,_,AS l,h⟩
theorem w6 {a b:Aa D}(l:a.length+b.length<=lim)(h:Q (.lst (a++b)) S):Ok (qY (.lst a) (.lst b) S) Q:=⟨_,_,AS l,h⟩
theorem A5 {a b:Aj}(h:Q (.int (a-b)) S):Ok (uK (.int a) (.int b) S) Q:=⟨_,_,rfl,h⟩
theorem CZ {a:Aj}(h:Q (.int (-a)) S):Ok (bK (.int a) S) Q:=⟨_,_,rfl,h⟩
theorem CY {a b:Aj}(l : -(2 ^ 64)<a/\a<2 ^ 64)(h:Q (.int (a*b)) S):Ok (zD (.int a) (.int b) S) Q:=by
 refine⟨_,_,?_,h⟩;unfold zD i2;rw[kQ];unfold bE;simp only[l,and_self,Iq,Tv,Cq]
theorem MA {a b:Aj}(l:b≠0/\b.natAbs.log2<9000)(h:Q (.int (a.fdiv b)) S):Ok (j7 (.int a) (.int b) S) Q:=by
 refine⟨_,_,?_,h⟩;unfold j7 i2;rw[lG];exact AS (Cu l)
theorem CW {a b:Aj}(l:0<b)(h:Q (.int (a % b)) S):Ok (zW (.int a) (.int b) S) Q:=by
 refine⟨_,_,?_,h⟩;unfold zW i2;simp[l]
theorem CV {a b:Aj}(l:0<b/\b<1073741824)(h:Q (.int (a/b)) S):Ok (wV (.int a) (.int b) S) Q:=by
 refine⟨_,_,?_,h⟩;unfold wV i2 Z9;simp[l]
theorem AI {a b:Aj}(h:Q (.bl (decide (a<b))) S):Ok (gLt (.int a) (.int b) S) Q:=⟨_,_,rfl,h⟩
theorem AH {a b:Aj}(h:Q (.bl (decide (a<=b))) S):Ok (gLe (.int a) (.int b) S) Q:=⟨_,_,rfl,h⟩
theorem AG {a b:Aj}(h:Q (.bl (decide (b<a))) S):Ok (gGt (.int a) (.int b) S) Q:=⟨_,_,rfl,h⟩
theorem AE {a b:Aj}(h:Q (.bl (decide (b<=a))) S):Ok (gGe (.int a) (.int b) S) Q:=⟨_,_,rfl,h⟩
theorem MB {a b:Aj}(h:Q (.bl (decide (a=b))) S):Ok (gEq (.int a) (.int b) S) Q:=⟨_,_,by kernel_rfl!,h⟩
theorem AJ {a b:Aj}(h:Q (.bl (!decide (a=b))) S):Ok (gNe (.int a) (.int b) S) Q:=⟨_,_,by kernel_rfl!,h⟩
theorem YY {a:Aa D}{k:Aj}{d:D}(e:_L.atI a k=Ab d)(h:Q d S):Ok (gIx (.tup a) (.int k) S) Q:=⟨d,S,by show _D.vW (_L.atI a k) S=_;rw[e];rfl,h⟩
theorem nY {a:Aa D}{k:Aj}{d:D}(e:_L.atI a k=Ab d)(h:Q d S):Ok (gIx (.lst a) (.int k) S) Q:=⟨d,S,by show _D.vW (_L.atI a k) S=_;rw[e];rfl,h⟩
theorem CK {a:Aa D}(h:Q (.int a.length) S):Ok (vK [.tup a] S) Q:=⟨_,_,rfl,h⟩
theorem CJ {a:Aa D}(h:Q (.int a.length) S):Ok (vK [.lst a] S) Q:=⟨_,_,rfl,h⟩
theorem CO {a:Aa D}(h:Q (.tup a) S):Ok (fE [.lst a] S) Q:=⟨_,_,rfl,h⟩
theorem CM {a:Aa D}(h:Q (.lst a) S):Ok (nS [.tup a] S) Q:=⟨_,_,rfl,h⟩
theorem aG (h:Ok (f env S) λd S1=>∃ b,d=.bl b/\(b=true->Ok (g env S1) Q)/\(b=false->Q (.bl false) S1)):Ok (gW f g env S) Q:=qW (zE h λd S1 ⟨b,e,k1,k2⟩=>by
 subst e;cases b with
 |true=>exact k1 rfl
 |false=>exact⟨_,_,rfl,k2 rfl⟩)
theorem AL {fl fh:DO}(h:Ok (f env S) λd S1=>Ok (fl env S1) λlo S2=>Ok (fh env S2) λhi S3=>Ok (gSl d lo hi S3) Q):Ok (dSl f fl fh env S) Q:=qW (zE h λ_ _ k=>qW (zE k λ_ _=>qW))
theorem A4 {a:Aa D}(h:Q (.tup (xB a lo hi)) S):Ok (gSl (.tup a) lo hi S) Q:=⟨_,_,rfl,h⟩
theorem A3 {a:Aa D}(h:Q (.lst (xB a lo hi)) S):Ok (gSl (.lst a) lo hi S) Q:=⟨_,_,rfl,h⟩
theorem AB {Q:Al Aj->Sto->Prop}(h:Q none S):Ok (yM env S) Q:=⟨_,_,rfl,h⟩
theorem AC {Q:Al Aj->Sto->Prop}(h:Ok (f env S) λd S1=>∃ k,d=.int k/\Q (Ab k) S1):Ok (xS f env S) Q:=qW (zE h λ_ _ ⟨_,e,q⟩=>by subst e;exact⟨_,_,rfl,q⟩)
theorem A9 {T:Cs}{m:D->Aa D->Sto->Res D}(h:Ok (f env S) λa S1=>tyD a S1=Ab T/\Ok (fa env S1) λas S2=>Ok (m a as S2) Q):Ok (dBm T m f fa env S) Q:=qW (zE h λ_ _ k=>by rw[k.1,AS (by simp)];exact qW k.2)
theorem CT {xs:Aa D}{d:D}(e:S[i]? = Ab (.lst xs))(l:xs.length<lim)(h:Q .non (S.set i (.lst (xs++[d])))):Ok (UV (.loc i) [d] S) Q:=by
 refine⟨_,_,?_,h⟩;show (match S[i]? with|some (.lst xs)=>(if xs.length<lim then Res.ok D.non (S.set i (.lst (xs++[d]))) else .bad)|_=>.bad)=_
 rw[e];exact AS l
theorem EW {t:DT}(h:Ok (t env S) λb S1=>(b=true->Ok (f env S1) Q)/\(b=false->Ok (g env S1) Q)):Ok (dIf t f g env S) Q:=qW (zE h λb S1 k=>by
 cases b with
 |true=>exact k.1 rfl
 |false=>exact k.2 rfl)
variable {Q:Ao->Sto->Prop}{t u:DT}
theorem MM (h:Ok (f env S) λd S1=>∃ b,x9 d S1=Ab b/\Q b S1):Ok (dTr f env S) Q:=qW (zE h λd S1 ⟨b,e,k⟩=>by
 rw[e];exact⟨_,_,rfl,k⟩)
theorem MF (h:Ok (t env S) λb S1=>Q (!b) S1):Ok (yL t env S) Q:=qW (zE h λ_ _ k=>⟨_,_,rfl,k⟩)
theorem SL (h:Q true S):Ok (vB env S) Q:=⟨_,_,rfl,h⟩
theorem jC (h:Ok (t env S) λb S1=>(b=true->Q true S1)/\(b=false->Ok (u env S1) Q)):Ok (jH t u env S) Q:=qW (zE h λb S1 k=>by
 cases b with
 |true=>exact⟨_,_,rfl,k.1 rfl⟩
 |false=>exact k.2 rfl)
theorem dJ (h:Ok (t env S) λb S1=>(b=true->Ok (u env S1) Q)/\(b=false->Q false S1)):Ok (y8 t u env S) Q:=qW (zE h λb S1 k=>by
 cases b with
 |true=>exact k.1 rfl
 |false=>exact⟨_,_,rfl,k.2 rfl⟩)
theorem lC {xs:Aa D}{a:Af}(h:a<xs.length):_L.atI xs (a:Aj)=Ab xs[a]:=by
 have e:_L.ixN xs.length (a:Aj)=Ab a:=by simp[_L.ixN];lia
 simp[_L.atI,e,h]
theorem rN (S:Sto)(m:MO):(S++[m])[S.length]? = Ab m:=by simp
theorem fR {Q:D->Sto->Prop}{a:Aa D}{k:Af}(h:k<a.length)(q:∀ d∈a,Q d S):Ok (gIx (.lst a) (.int (k:Aj)) S) Q:=nY (lC h) (q _ (Vm h))
theorem JY {Q:Aa D->Sto->Prop}(h:Ok (f env S) λd S1=>∃ ds,zH d=Ab ds/\Q ds S1):Ok (w4 f env S) Q:=qW (zE h λd S1 ⟨ds,e,k⟩=>⟨ds,S1,by rw[e];rfl,k⟩)
theorem SK {Q:Aa D->Sto->Prop}(h:Ok (fa env S) λas S1=>∃ ds,yU as=Ab ds/\Q ds S1):Ok (mP fa env S) Q:=qW (zE h λd S1 ⟨ds,e,k⟩=>⟨ds,S1,by rw[e];rfl,k⟩)
theorem RE (n:Af)(h:n<=1000000):yU [.int (n:Aj)]=Ab ((Cw n).map λ(i:Af)=>D.int (i:Aj)):=by
 unfold yU;have : -(2 ^ 62)<=(n:Aj)/\(n:Aj)<2 ^ 62:=⟨by lia,by lia⟩
 refine(AS this).trans ?_;unfold xE;rw[Ic]
 congr 2
 funext i
 rw[Int.zero_add]
theorem CN {Q:Aa D->Sto->Prop}(h:Ok (f env S) λd S1=>∃ k:Aj,d=.int k/\0<=k/\k<=1000000/\Q ((Cw k.toNat).map λ(i:Af)=>D.int (i:Aj)) S1):Ok (mP (qA f qC) env S) Q:=SK (wJ (zE h λ_ _ ⟨k,e,h0,h1,q⟩=>fT ⟨_,by
 have:=RE k.toNat li;rw[Int.toNat_of_nonneg h0] at this;rw[e,this],q⟩))
theorem u7 {Q:D->Sto->Prop}{xs:Aa D}{k:Aj}{d:D}(e:S[i]? = Ab (.lst xs))(e':_L.atI xs k=Ab d)(h:Q d S):Ok (gIx (.loc i) (.int k) S) Q:=by
 refine⟨d,S,?_,h⟩;show (match S[i]? with|some (.lst xs)=>_D.vW (_L.atI xs k) S|_=>.bad)=_
 rw[e];show _D.vW (_L.atI xs k) S=_;rw[e'];rfl
theorem oH {Q:Nh->Sto->Prop}{d:D}{n:Aj}(e:S[i]? = Ab (.dct kvs))(hl:kvs.length<lim)(h:Q () (S.set i (.dct (yQ kvs (.inl n) d)))):Ok (zS (.loc i) (.int n) d S) Q:=by
 refine⟨_,_,?_,h⟩;show (match S[i]? with|some (.dct kvs)=>(match vU (.int n) with|some k=>(if kvs.length<lim then Res.ok () (S.set i (.dct (yQ kvs k d))) else .bad)|none=>.bad)|_=>bL (.loc i) (.int n) d S)=_
 rw[e];exact AS hl
theorem dM {Q:Nh->Sto->Prop}{xs:Aa D}{d:D}{n:Aj}(e:S[i]? = Ab (.lst xs))(e':_L.ixN xs.length n=Ab j)(h:Q () (S.set i (.lst (xs.set j d)))):Ok (zS (.loc i) (.int n) d S) Q:=by
 refine⟨_,_,?_,h⟩;simp[zS,bL,e,e']
theorem B5 (h:S[i]? = Ab (.dct kvs)):fC (.loc i) S=Ab kvs:=by
 show (match S[i]? with|some (.dct kvs)=>Ab kvs|_=>none)=_
 rw[h]
theorem XC {xs:Aa D}(h:env[i]? = Ab (Ab (.tup xs))):dIt (qB i) env S=.ok (none,xs) S:=by
 unfold dIt;rw[QZ h];rfl
theorem lU {α:Type}(f:α->β):∀ l:Aa α,l.flatMap (λx=>[f x])=l.map f
 |[]=>rfl
 |x::l=>by rw[Jb,lU f l];rfl
theorem kF {α:Type}{enc:α->D}{o:Al (Af × MO)}{cap:Aa (Al Af)}{fi:DI2}{tg:DG}{fe:DE}{Q:D->Sto->Prop}(xs:Aa α)(val:α->D)(C:qD->Sto->Prop)(hi:fi env S=.ok (o,xs.map enc) S1)(h0:C (wL cap env) S1)(hl:xs.length<=lim)(hst:∀ env S,C env S->stn o S)
  (step:∀ x∈xs,∀ env S,C env S->Ok (tg (enc x) env S) λenv1 S1=>Ok (t env1 S1) λb S2=>b=true/\Ok (fe env1 S2) λd S3=>d=val x/\C env1 S3) (q:∀ env' S',C env' S'->Q (.lst (xs.map val)) S'):Ok (xC false cap fi tg t (xH fe) env S) Q:=by
 have fm:=lU val xs;obtain⟨env',S',e,c⟩:=goT (enc:=enc) (o:=o) (g:=tg) (t:=t) (k:=xH fe) (λx=>[val x]) C hst xs (wL cap env) S1 [] h0 (by rw[fm,Ba];simpa using hl) (λx hx env S acc hC hl=>by
  obtain⟨env1,S1,e1,b,S2,e2,rfl,d,S3,e3,rfl,c3⟩:=step x hx env S hC;exact⟨env1,S1,true,S2,e1,e2,.inr ⟨rfl,env1,S3,d0 e3 (by simp at hl;lia),c3⟩⟩)
 rw[fm,Fg] at e;exact⟨_,_,tV hi e,q env' S' c⟩
theorem aF {α:Type}{Q:D->Sto->Prop}{l:Aa α}{p:α->Ao}(h:Q (.bl (l.all p)) S):Ok (bJ false [.lst (l.map λx=>.bl (p x))] S) Q:=by
 refine⟨_,_,?_,h⟩;show (match (zH (.lst (l.map λx=>D.bl (p x)))).bind zT with|some bs=>Res.ok (D.bl (bs.all id)) S|none=>.bad)=_
 rw[show (zH (.lst (l.map λx=>D.bl (p x)))).bind zT=Ab (l.map p) from i4 p l]
 simp only[OX];rfl
theorem AK {Q:qD->Sto->Prop}{h:G3}{d:D}(k:Ok (f env S) λa S1=>Ok (g env S1) λb S2=>Ok (h a b d S2) λ_ S3=>Q env S3):Ok (gSb f g h d env S) Q:=qW (zE k λ_ _ k=>qW (zE k λ_ _ k=>qW (zE k λ_ _ q=>⟨_,_,rfl,q⟩)))
variable {Q:qD->Sto->Prop}
theorem EY {d:D}(h:Q (env.set i (Ab d)) S):Ok (gNm i d env S) Q:=⟨_,_,rfl,h⟩
theorem AM {gs:DGs}{xs:Aa D}(h:xs.length=n/\Ok (gs xs env S) Q):Ok (gTp n gs (.tup xs) env S) Q:=by
 obtain⟨d,S1,e,q⟩:=h.2;exact⟨d,S1,by show (if xs.length=n then gs xs env S else .bad)=_;rw[AS h.1];exact e,q⟩
theorem AF (h:Q env S):Ok (vZ [] env S) Q:=⟨_,_,rfl,h⟩
theorem AD {t:DG}{gs:DGs}{x:D}{xs:Aa D}(h:Ok (t x env S) λenv1 S1=>Ok (gs xs env1 S1) Q):Ok (xD t gs (x::xs) env S) Q:=qW h
def Wo (P:Out->Prop)(o:Out):Prop:=P o
def aM (g:DS)(P:Out->Prop):Out->Prop
 |.nx env S=>P (g env S)
 |o=>P o
noncomputable def cD (b:Ao)(f g:DS):DS:=match b with
 |true=>f
 |false=>g
def cU (Q:D->Sto->Prop):Out->Prop
 |.rt d S=>Q d S
 |.nx _ S=>Q .non S
 |_=>Eh
def nX {α:Type}(I:Aa α -> qD->Sto->Prop)(xs:Aa α)(P:Out->Prop):Out->Prop
 |.nx env S=>I xs env S
 |.ct env S=>I xs env S
 |.bk env S=>P (.nx env S)
 |o=>P o
variable {P:Out->Prop}{sf sg:DS}{fi:DI}{tg:DG}{d:D}
theorem gJ (h:Wo (aM sg P) (sf env S)):Wo P (qO sf sg env S):=by
 unfold qO;unfold Wo at h ⊢;cases e:sf env S <;> rw[e] at h <;> exact h
theorem vH (h:Wo P (sg env S)):Wo (aM sg P) (.nx env S):=h
theorem AQ (h:Wo P (.rt d S)):Wo (aM sg P) (.rt d S):=h
theorem AN (h:Wo P (.bk env S)):Wo (aM sg P) (.bk env S):=h
theorem AR (h:Wo P (.bk env S)):Wo P (fZ env S):=h
theorem pI (h:Wo P (.nx env S)):Wo P (zB env S):=h
theorem vO {r:Res β}{k:β->Sto->Out}(h:Ok r λd S1=>Wo P (k d S1)):Wo P (r.toS env k):=by
 obtain⟨d,S1,rfl,h⟩:=h;exact h
theorem VB (h:Ok (f env S) λd S1=>Ok (tg d env S1) λenv' S2=>Wo P (.nx env' S2)):Wo P (qV f tg env S):=vO (zE h λ_ _=>vO)
theorem CP (h:Ok (f env S) λ_ S1=>Wo P (.nx env S1)):Wo P (yV f env S):=vO h
theorem VE (h:Ok (f env S) λd S1=>Wo P (.rt d S1)):Wo P (qT f env S):=vO h
theorem A8 (h:Ok (fa env S) λds S1=>∃ a b,ds=[a,b]/\Wo P (.nx ((env.set i (Ab a)).set j (Ab b)) S1)):Wo P (bR i j fa env S):=vO (zE h λ_ _ ⟨_,_,e,q⟩=>by subst e;exact q)
theorem CQ {k:Af}(h:Ok (fa env S) λds S1=>∃ a b c,ds=[a,b,c]/\Wo P (.nx (((env.set i (Ab a)).set j (Ab b)).set k (Ab c)) S1)):Wo P (m8 i j k fa env S):=vO (zE h λ_ _ ⟨_,_,_,e,q⟩=>by subst e;exact q)
theorem AO (h:Ok (t env S) λb S1=>Wo P (cD b sf sg env S1)):Wo P (sIf t sf sg env S):=vO (zE h λb S1 q=>by cases b <;> exact q)
theorem w_t (h:Wo P (sf env S)):Wo P (cD true sf sg env S):=h
theorem w_f (h:Wo P (sg env S)):Wo P (cD false sf sg env S):=h
theorem A7 {b:Ao}(h:Wo P (cD b sg sf env S)):Wo P (cD (!b) sf sg env S):=by cases b <;> exact h
theorem xZ {p:Prop}[Iu p](h1:p->Wo P (sf env S))(h2:¬ p->Wo P (sg env S)):Wo P (cD (decide p) sf sg env S):=by
 by_cases h:p
 .rw[Cu h];exact h1 h
 .rw[Cj h];exact h2 h
theorem VD (h:Ok (fi env S) λds S1=>Wo P (xI tg sf ds env S1)):Wo P (wW fi tg sf env S):=vO h
theorem yZ {α:Type}{enc:α->D}(I:Aa α -> qD->Sto->Prop)(turn:∀ x xs env S,I (x::xs) env S->Ok (tg (enc x) env S) λenv1 S1=>Wo (nX I xs P) (sf env1 S1))(last:∀ env S,I [] env S->Wo P (.nx env S)) :
  ∀ {xs:Aa α} {env:qD} {S:Sto},I xs env S->Wo P (xI tg sf (xs.map enc) env S)
 |[],env,S,h=>last env S h
 |x::xs,env,S,h=>by
  obtain⟨env1,S1,e1,h1⟩:=turn x xs env S h;rw[Bt,xI];unfold Wo at h1 ⊢;simp only[e1,Res.toS];cases e2:sf env1 S1 with
  |nx env2 S2=>rw[e2] at h1;exact yZ I turn last h1
  |ct env2 S2=>rw[e2] at h1;exact yZ I turn last h1
  |bk env2 S2=>rw[e2] at h1;exact h1
  |rt d2 S2=>rw[e2] at h1;exact h1
  |ex c2 x2 env2 S2=>rw[e2] at h1;exact h1
  |bad=>rw[e2] at h1;exact h1
theorem c8 (I:Aa D->qD->Sto->Prop)(turn:∀ x xs env S,I (x::xs) env S->Ok (tg x env S) λenv1 S1=>Wo (nX I xs P) (sf env1 S1))(last:∀ env S,I [] env S->Wo P (.nx env S)){xs:Aa D}{env:qD}{S:Sto}(h:I xs env S):Wo P (xI tg sf xs env S):=by
 have:=yZ (enc:=id) I turn last h
 rwa [Vu] at this
def whQ (I:Af->qD->Sto->Prop)(n:Af)(P:Out->Prop):Out->Prop
 |.nx env S=>∃ m,m<n/\I m env S
 |.ct env S=>∃ m,m<n/\I m env S
 |.bk env S=>P (.nx env S)
 |o=>P o
theorem b0 (I:Af->qD->Sto->Prop)(turn:∀ n env S,I n env S->Ok (t env S) λb S1=>(b=true->Wo (whQ I n P) (sf env S1))/\(b=false->Wo P (.nx env S1))){n:Af}(hn:n<big)(h:I n env S):Wo P (wZ t sf env S):=by
 have key:∀ N n env S,n<N->I n env S->Wo P (wM t sf N env S):=by
  intro N
  induction N with
  |zero=>intro n env S h;lia
  |succ N ih =>
   intro n env S h hI;obtain⟨b,S1,e1,k1,k2⟩:=turn n env S hI;unfold wM;rw[e1];cases b with
   |false=>exact k2 rfl
   |true =>
    have k:=k1 rfl;unfold Wo at k ⊢;simp only[Res.toS,Cq];cases e2:sf env S1 with
    |nx env2 S2=>rw[e2] at k;obtain⟨m,hm,hI2⟩:=k;exact ih m env2 S2 li hI2
    |ct env2 S2=>rw[e2] at k;obtain⟨m,hm,hI2⟩:=k;exact ih m env2 S2 li hI2
    |bk env2 S2=>rw[e2] at k;exact k
    |rt d2 S2=>rw[e2] at k;exact k
    |ex c2 x2 env2 S2=>rw[e2] at k;exact k
    |bad=>rw[e2] at k;exact k
 exact key big n env S hn h
theorem mE {I:Af->qD->Sto->Prop}(m:Af)(hm:m<n)(h:I m env S):Wo (whQ I n P) (.nx env S):=⟨m,hm,h⟩
theorem QF {x:D}(hs:xV n ds=env)(h:sf env S=.ex v x env' S'):qP n sf ds S=.ex v x S':=by
 subst hs;unfold qP;rw[h];rfl
theorem DV {x:D}(h:t env S=.ok true S1)(k:sf env S1=.ex v x env' S'):sIf t sf sg env S=.ex v x env' S':=by
 simp only[sIf,h,Res.toS,Cq];exact k
theorem WZ (v:Ac)(x:An)(env:qD)(S:Sto):wY v (qA (dC (.str x)) (qC)) env S=.ex v .non env S:=by
 unfold wY;rw[iC (show dC (.str x) env S=.ok (.str x) S from rfl)]
 show (if ([D.str x]:Aa D).length<=lim then Out.ex v D.non env S else Out.bad)=_
 exact AS (Cf rfl)
def exQ (v:Ac)(x:D)(S0:Sto):Out->Prop:=λo=>∃ env',o=.ex v x env' S0
theorem kL {x:D}(hs:xV n ds=env)(h:Wo (exQ v x S') (sf env S)):qP n sf ds S=.ex v x S':=by
 obtain⟨env',e⟩:=h;exact QF hs e
theorem GR {x:An}(h:P (.ex v .non env S)):Wo P (wY v (qA (dC (.str x)) (qC)) env S):=by
 unfold Wo;rw[WZ];exact h
theorem tM {x:D}(e:f env S=.ex v x S')(h:P (.ex v x env S')):Wo P (yV f env S):=by
 unfold Wo yV;rw[e];exact h
theorem uB {α:Type}{I:Aa α -> qD->Sto->Prop}{xs:Aa α}(h:I xs env S):Wo (nX I xs P) (.nx env S):=h
theorem L8 {α:Type}{I:Aa α -> qD->Sto->Prop}{xs:Aa α}(h:Wo P (.nx env S)):Wo (nX I xs P) (.bk env S):=h
theorem mD {Q:D->Sto->Prop}(h:Q d S):Wo (cU Q) (.rt d S):=h
theorem zC {Q:D->Sto->Prop}(hs:xV n ds=env)(h:Wo (cU Q) (sf env S)):Ok (qP n sf ds S) Q:=by
 subst hs;unfold qP;unfold Wo at h;cases e:sf (xV n ds) S <;> rw[e] at h <;> first|exact⟨_,_,rfl,h⟩|exact Am h
end
abbrev Pt:=Aj × Aj
def InB (B:Aj)(q:Pt):Prop:=-B<=q.1/\q.1<=B /\ -B<=q.2/\q.2<=B
instance (B:Aj)(q:Pt):Iu (InB B q):=by unfold InB;exact inferInstance
def wN (S:Sto)(p:Af):Prop:=∃ v f:Aj,S[p]? = Ab (.lst [.int v,.int f])
theorem tH {S:Sto}(h:wN S p)(e:S<+:S'):wN S' p:=by
 obtain⟨v0,f0,hp⟩:=h;obtain⟨r,rfl⟩:=e;exact⟨v0,f0,by rw[Bz (Bl.mp hp).1];exact hp⟩
structure Kp (p:Af)(S S':Sto):Prop where
 pen:wN S' p
 len:S.length<=S'.length
 same:∀ m,m<S.length->m≠p->S'[m]? = S[m]?
theorem Kp.trans {S:Sto}(a:Kp p S S1)(b:Kp p S1 S2):Kp p S S2:=⟨b.pen,Bu a.len b.len,λm hm hp=>(b.same m (Aw hm a.len) hp).trans (a.same m hm hp)⟩
theorem TL {S:Sto}(h:wN S p):p<S.length:=by
 obtain⟨v,f,e⟩:=h;exact(Bl.mp e).1
theorem Kp.pre {S:Sto}(h:wN S p)(e:S<+:S'):Kp p S S':=⟨tH h e,e.length_le,λm hm _=>(OI.mp e m hm).trans (AW hm).symm⟩
theorem Kp.set {j:Af}{S:Sto}(h:Kp p S S')(hj:S.length<=j)(m:MO)(hp:p≠j):Kp p S (S'.set j m):=by
 obtain⟨v,f,e⟩:=h.pen;exact⟨⟨v,f,by rw[Dk (Fa hp)];exact e⟩,by rw[Pq];exact h.len,λi hi hn=>by rw[Dk om];exact h.same i hi hn⟩
end _D
local macro_rules|`(tactic|array_get_dec)=>`(tactic| first | (with_reducible first | apply _D.gJ | apply _D.vH | apply _D.VB | apply _D.o_2 | apply _D.o_c | apply _D.wJ | apply _D.fT | apply _D.SH | apply _D.A5 | apply _D.A6 | apply _D.YZ | apply _D.oC | apply _D.AA | apply _D.A0 | apply _D.MM | apply _D.MF | apply _D.AO | apply _D.w_t | apply _D.w_f | apply _D.A7 | apply _D.pI | apply _D.CP | apply _D.VE | apply _D.AQ | apply _D.A8 | apply _D.CQ | apply _D.VD | apply _D.AI | apply _D.AH | apply _D.AG | apply _D.AE | apply _D.MB | apply _D.AJ | apply _D.o_1 | apply _D.CZ | apply _D.CK | apply _D.CJ | apply _D.CO | apply _D.CM | apply _D.CL | apply _D.AL | apply _D.A4 | apply _D.A3 | apply _D.AB | apply _D.AC | apply _D.A9 | apply _D.CU | apply _D.AM | apply _D.AD | apply _D.AF | apply _D.AR | apply _D.AN | apply _D.SL | apply _D.CI | apply _D.AK | apply _D.JY | apply _D.CN) | ((with_reducible apply _D.o_v); exact rfl) | ((with_reducible apply _D.EY); dsimp only [List.set_cons_succ, List.set_cons_zero]) | ((with_reducible (first | apply _D.CY | apply _D.CW | apply _D.CV)); omega) | ((with_reducible apply And.intro); (first | exact rfl | exact Nat.le_of_ble_eq_true rfl)) | ((with_reducible apply Exists.intro); (with_reducible apply And.intro); exact rfl) | ((with_reducible apply Exists.intro); (with_reducible apply Exists.intro); (with_reducible apply And.intro); exact rfl; dsimp only [List.set_cons_succ, List.set_cons_zero]) | ((with_reducible apply Exists.intro); (with_reducible apply Exists.intro); (with_reducible apply Exists.intro); (with_reducible apply And.intro); exact rfl; dsimp only [List.set_cons_succ, List.set_cons_zero]))
local macro_rules|`(tactic|rfl')=>`(tactic| repeat array_get_dec)
namespace _D
open PySem
variable {xs:Aa D}{Q:D->Sto->Prop}
def Pn (d:D):Prop:=∃ p,pyD d=Ab p
theorem pns:∀ {ps:Aa Tg},uQ xs=Ab ps->∀ x∈xs,Pn x:=by
 induction xs with
 |nil=>intro ps _ x hx;cases hx
 |cons d ds ih =>
  intro ps h x hx;simp only[uQ] at h;obtain⟨p,h1,h2⟩:=Dq.mp h;obtain⟨ps',h3,_⟩:=Cg.mp h2;rcases Bg.mp hx with rfl|hx
  .exact⟨p,h1⟩
  .exact ih h3 x hx
theorem TQ (h:Pn (.tup xs)):∀ x∈xs,Pn x:=by
 obtain⟨p,h⟩:=h;simp only[pyD] at h;obtain⟨ps,h1,_⟩:=Cg.mp h;exact pns h1
theorem dU:∀ {xs:Aa D},(∀ x∈xs,Pn x)->∃ l,uQ xs=Ab l
 |[],_=>⟨[],rfl⟩
 |x::xs,h=>by
  obtain⟨l,e⟩:=dU (xs:=xs) λy hy=>h y (AT _ hy);obtain⟨q,e'⟩:=h x (Bp ..);refine⟨q::l,?_⟩;show (pyD x).bind (λx=>(uQ xs).map (x::·))=_
  rw[e,e'];rfl
theorem dS (h:∀ x∈xs,Pn x):Pn (.tup xs):=by
 obtain⟨l,e⟩:=dU h;exact⟨.tuple l,by simp only[pyD,e,Na]⟩
theorem HA (h:∀ x∈xs,Pn x):Pn (.lst xs):=by
 obtain⟨l,e⟩:=dU h;exact⟨.list l,by simp only[pyD,e,Na]⟩
noncomputable def inR (a b:Aj):D->Ao
 |.int i=>decide (a<=i/\i<=b)
 |_=>false
noncomputable def isW:D->Ao
 |.int _=>true
 |_=>false
noncomputable def isT:D->Ao
 |.tup _=>true
 |_=>false
theorem DY {d:D}(h:Pn d)(S:Sto):zV [d,.ty "tuple"] S=.ok (.bl (isT d)) S:=by
 obtain⟨p,h⟩:=h;cases d <;> first|kernel_rfl!|simp[pyD] at h
theorem eK {fa fb fc:DE}{env:qD}{S:Sto}{a b c:Aj}(h1:fa env S=.ok (.int a) S)(h2:fb env S=.ok (.int b) S)(h3:fc env S=.ok (.int c) S)(q:Q (.bl (decide (a<=b/\b<=c))) S):Ok (wF gLe gLe fa fb fc env S) Q:=by
 refine⟨_,_,?_,q⟩;unfold wF;rw[h1,Res.bind_ok,h2,Res.bind_ok];show (match x9 (.bl (decide (a<=b))) S with|some true=>(fc env S).bind λw S4=>gLe (.int b) w S4|some false=>Res.ok (.bl (decide (a<=b))) S|none=>.bad)=_
 by_cases h:a<=b
 .rw[Cu h]
  show (fc env S).bind _=_;rw[h3];simp only[h,true_and];rfl
 .rw[Cj h,Cj λz=>h z.1]
  rfl
theorem J0 {a b:Aj}{d:D}(h:inR a b d=true):∃ i,d=.int i/\a<=i/\i<=b:=by
 cases d <;> first|exact⟨_,rfl,Bi h⟩|cases h
theorem D3 (xs:Aa D):xB xs (Ab 1) none=xs.drop 1:=by
 unfold xB;have h1:_H.sIx xs.length 0 (Ab 1)=min 1 xs.length:=rfl;have h2:_H.sIx xs.length xs.length none=xs.length:=rfl;rw[h1,h2];cases xs with
 |nil=>rfl
 |cons x r=>simp
theorem VY (xs:Aa D)(x:D):xB (xs++[x]) (Ab (-1)) none=[x]:=by
 unfold xB;have h1:_H.sIx (xs++[x]).length (xs++[x]).length none=(xs++[x]).length:=rfl;have h2:_H.sIx (xs++[x]).length 0 (Ab (-1))=xs.length:=by
  show (if (-1:Aj)<0 then ((-1:Aj)+((xs++[x]).length:Aj)).toNat else min (-1:Aj).toNat (xs++[x]).length)=_
  rw[AS li,Dg];simp only[Bv,Ew]
  lia
 rw[h1,h2];simp
theorem B0 (xs:Aa D)(n:Af)(h:n<=xs.length):xB xs (Ab (n:Aj)) none=xs.drop n:=by
 unfold xB;have h1:_H.sIx xs.length xs.length none=xs.length:=rfl;have h2:_H.sIx xs.length 0 (Ab (n:Aj))=min n xs.length:=by
  show (if (n:Aj)<0 then ((n:Aj)+(xs.length:Aj)).toNat else min (n:Aj).toNat xs.length)=_
  rw[AX li,Ic]
 rw[h1,h2,Wm h];exact IP (by rw[Im];exact Aq _)
theorem iA (xs:Aa D)(n:Af)(h:n<=xs.length):xB xs none (Ab (n:Aj))=xs.take n:=by
 unfold xB;have h1:_H.sIx xs.length 0 none=0:=rfl;have h2:_H.sIx xs.length xs.length (Ab (n:Aj))=min n xs.length:=by
  show (if (n:Aj)<0 then ((n:Aj)+(xs.length:Aj)).toNat else min (n:Aj).toNat xs.length)=_
  rw[AX li,Ic]
 rw[h1,h2,Wm h];rfl
theorem gI (n:Af):_H.stepN n (-1)=n:=by
 unfold _H.stepN _H.stepLo _H.stepHi Ek Fb;simp
 split <;> lia
theorem QP {k:Aj}{x:D}(h:x∈_H.stepL xs k):x∈xs:=by
 unfold _H.stepL at h;obtain⟨m,_,e⟩:=Gc.mp h;exact Cn e
theorem MK {S:Sto}{a:Aa D}(l:a.length<=1000)(h:Q (.tup (_H.stepL a (-1))) S):Ok (nV (.tup a) (.int (-1)) S) Q:=⟨_,_,AS ⟨by lia,by lia,by rw[gI];unfold lim;lia⟩,h⟩
end _D
namespace _K
open PySem _D
theorem QR (b:Ao)(S:Sto):x9 (.bl b) S=Ab b:=rfl
theorem CG (i:Aj)(S:Sto):x9 (.int i) S=Ab (i != 0):=rfl
theorem CH (C:Aj->Aj->Ao)(f:Aj->Aj->D)(i j:Aj)(S:Sto):i2 C f (.int i) (.int j) S=if C i j=true then .ok (f i j) S else .bad:=rfl
theorem vC (i j:Aj)(S:Sto):gEq (.int i) (.int j) S=.ok (.bl (decide (i=j))) S:=by kernel_rfl!
theorem rZ (i j:Aj)(S:Sto)(h : -(2 ^ 64)<i/\i<2 ^ 64):zD (.int i) (.int j) S=.ok (.int (i*j)) S:=by
 unfold zD i2;rw[kQ];unfold bE;simp only[h,and_self,Iq,Tv,Cq]
theorem lW (i j:Aj)(S:Sto):qY (.int i) (.int j) S=.ok (.int (i+j)) S:=rfl
theorem mW (i j:Aj)(S:Sto)(h:0<j):zW (.int i) (.int j) S=.ok (.int (i % j)) S:=by
 unfold zW i2;simp[h]
theorem UW (i j:Aj)(S:Sto)(h:0<j/\j<1073741824):wV (.int i) (.int j) S=.ok (.int (i/j)) S:=by
 unfold wV i2 Z9;simp[h]
theorem eP (d:D)(S:Sto):aJ (.rt d S)=.ok d S:=rfl
theorem eO (e:qD)(S:Sto):aJ (.nx e S)=.ok .non S:=rfl
theorem CF (c:Ac)(x:D)(e:qD)(S:Sto):aJ (.ex c x e S)=.ex c x S:=rfl
theorem H0 (i j:Af)(env:qD)(S:Sto)(x y:D):dQ i j env S [x,y]=.nx ((env.set i (Ab x)).set j (Ab y)) S:=rfl
theorem CC (x:Aa D):zH (.lst x)=Ab x:=rfl
theorem CD (x:Aa D):zH (.tup x)=Ab x:=rfl
end _K
open PySem _D _K
namespace _K
open PySem PySem.Spec PyProof.Rows _L _D
noncomputable def top (i:Af):Ds:=Oa.main.body.getD i (.Pass ⟨0,0,0,0⟩)
structure Cl where
 (FarError NoPoint NoLot NoNumber NoCircle NoMarks NoFars NoText NoLine NoDeed Alike TooMany:Ad)
noncomputable def zZ (c:Cl):Aa Ad:=[c.NoPoint,c.NoLot,c.NoNumber,c.NoCircle,c.NoMarks,c.NoFars,c.NoText,c.NoLine,c.NoDeed,c.Alike,c.TooMany]
noncomputable def vQ (c:Cl):Aa Ac:=[.ref c.NoPoint,.ref c.NoLot,.ref c.NoNumber,.ref c.NoCircle,.ref c.NoMarks,.ref c.NoFars,.ref c.NoText,.ref c.NoLine,.ref c.NoDeed]
noncomputable abbrev clt (c:Cl):Aa (An × Ad):=[("FarError",c.FarError),("NoPoint",c.NoPoint),("NoLot",c.NoLot),("NoNumber",c.NoNumber),("NoCircle",c.NoCircle),("NoMarks",c.NoMarks),("NoFars",c.NoFars),("NoText",c.NoText),("NoLine",c.NoLine),("NoDeed",c.NoDeed),("Alike",c.Alike),("TooMany",c.TooMany)]
noncomputable abbrev plt (c:Cl):Aa (An × Ad):=[("NoPoint",c.NoPoint),("NoLot",c.NoLot),("NoNumber",c.NoNumber),("NoCircle",c.NoCircle),("NoMarks",c.NoMarks),("NoFars",c.NoFars),("NoText",c.NoText),("NoLine",c.NoLine),("NoDeed",c.NoDeed)]
noncomputable abbrev cst:Aa (An × Aj):=[("MOST_LOT",40),("MOST_FARS",100)]
noncomputable abbrev bl:Aa An:=["ValueError","all","bool","int","isinstance","len","list","max","min","range","repr","sorted","str","sum","tuple","zip"]
noncomputable abbrev tab:Aa (An × Af × Aa An):=[(("is_whole" : An),(14:Af),[("thing" : An)]),(("is_within" : An),(15:Af),[("thing" : An),("least" : An),("most" : An)]),(("is_rising" : An),(16:Af),[("some" : An)]),(("need_within" : An),(17:Af),[("thing" : An),("least" : An),("most" : An)]),(("above_root" : An),(19:Af),[("number" : An)]),(("primes_in" : An),(20:Af),[("number" : An)]),(("primes_to" : An),(21:Af),[("most" : An)]),(("primes_among" : An),(22:Af),[("number" : An),("primes" : An)]),(("points_by_primes" : An),(23:Af),[("primes" : An)]),(("circle_points" : An),(24:Af),[("number" : An)]),(("circles_points" : An),(25:Af),[("numbers" : An)]),(("on_circle" : An),(26:Af),[("number" : An)]),(("many_pairs" : An),(30:Af),[("n" : An)]),(("pairs_by_circles" : An),(31:Af),[("n" : An),("points" : An)]),(("most_by_circles" : An),(32:Af),[("n" : An),("number" : An)]),(("are_fars" : An),(33:Af),[("thing" : An)]),(("can_have" : An),(34:Af),[("n" : An),("some" : An)]),(("_law_kinds" : An),(36:Af),[("_law_e" : An)]),(("_law_refused" : An),(37:Af),[("_law_call" : An)]),(("_law_same" : An),(38:Af),[("_law_found" : An),("_law_due" : An)]),(("_law_cell" : An),(39:Af),[("_law_script" : An),("_law_k" : An)]),(("_law_pen" : An),(40:Af),[("_law_cell_here" : An)]),(("_law_draw" : An),(41:Af),[("_law_pen_here" : An),("_law_many" : An)]),(("_law_no_number" : An),(42:Af),[("_law_pen_here" : An),("_law_low" : An),("_law_high" : An)]),(("_law_rich" : An),(43:Af),[("_law_pen_here" : An),("_law_most_here" : An)]),(("_law_round" : An),(44:Af),[("_law_number" : An)]),(("_law_most" : An),(45:Af),[("_law_n" : An),("_law_number" : An)]),(("_law_some" : An),(46:Af),[("_law_pen_here" : An)]),(("_law_no_fars" : An),(47:Af),[("_law_pen_here" : An),("_law_some_here" : An)]),(("law" : An),(48:Af),[("_law_script" : An)])]
abbrev Txt (K:Ah)(mg:An->Al Ac)(c:Cl):Prop:=TxS K mg top tab bl (clt c) (plt c) (vQ c) (zZ c) cst
noncomputable abbrev FU:Aa An:=["law"]
@[reducible] def b_is_whole:DS:=qT (gW (qQ zV (qA (qB 0) (qA (dC (.ty "int")) (qC)))) (ZN (qQ zV (qA (qB 0) (qA (dC (.ty "bool")) (qC))))))
@[irreducible] def S_is_whole:DF:=sh (qP 1 b_is_whole)
theorem gM:S_is_whole=qP 1 b_is_whole:=by delta S_is_whole;exact zK _
@[reducible] def b_is_within:DS:=qT (gW (qI 1 S_is_whole (qA (qB 0) (qC))) (wF gLe gLe (qB 1) (qB 0) (qB 2)))
@[irreducible] def S_is_within:DF:=sh (qP 3 b_is_within)
theorem jV:S_is_within=qP 3 b_is_within:=by delta S_is_within;exact zK _
@[reducible] def b_is_rising:DS:=qT (qQ (bJ false) (qA (xC false [none,none] (vL (mQ (qA (qB 0) (qA (dSl (qB 0) (xS (dC (.int 1))) (yM)) (qC))))) (gTp 2 (xD (gNm 0) (xD (gNm 1) (vZ)))) (vB) (xH (d2 gLt (qB 0) (qB 1)))) (qC)))
@[irreducible] def S_is_rising:DF:=sh (qP 1 b_is_rising)
theorem jU:S_is_rising=qP 1 b_is_rising:=by delta S_is_rising;exact zK _
@[reducible] def b_need_within (c:Cl):DS:=sIf (yL (dTr (qI 3 S_is_within (qA (qB 0) (qA (qB 1) (qA (qB 2) (qC))))))) (wY (.ref c.NoNumber) (qA (nQ [dC (.str "a whole number from "),d1 jI (qB 1),dC (.str " to "),d1 jI (qB 2),dC (.str " is needed")]) (qC))) (zB)
@[irreducible] def S_need_within (c:Cl):DF:=sh (qP 3 (b_need_within c))
theorem y9 (c:Cl):S_need_within c=qP 3 (b_need_within c):=by delta S_need_within;exact zK _
@[reducible] def b_above_root:DS:=qT (d2 lX (dC (.int 1)) (d2 wV (d2 qY (ZM "int" nU (qB 0)) (dC (.int 1))) (dC (.int 2))))
@[irreducible] def S_above_root:DF:=sh (qP 1 b_above_root)
theorem uX:S_above_root=qP 1 b_above_root:=by delta S_above_root;exact zK _
@[reducible] def b_primes_in:DS:=qO (qV (mO) (gNm 1)) (qO (qV (qB 0) (gNm 2)) (qO (qV (dC (.int 2)) (gNm 3)) (qO (wZ (dTr (d2 gLe (d2 zD (qB 3) (qB 3)) (qB 2))) (sIf (dTr (d2 gEq (d2 zW (qB 2) (qB 3)) (dC (.int 0)))) (qO (qV (d2 qY (dBm "dict" uJ (qB 1) (qA (qB 3) (qA (dC (.int 0)) (qC)))) (dC (.int 1))) (gSb (qB 1) (qB 3) zS)) (vF 2 wV (qB 3))) (vF 3 pR (dIf (dTr (d2 gEq (qB 3) (dC (.int 2)))) (dC (.int 1)) (dC (.int 2)))))) (qO (sIf (dTr (d2 gGt (qB 2) (dC (.int 1)))) (qV (d2 qY (dBm "dict" uJ (qB 1) (qA (qB 2) (qA (dC (.int 0)) (qC)))) (dC (.int 1))) (gSb (qB 1) (qB 2) zS)) (zB)) (qT (wA (qB 1)))))))
@[irreducible] def S_primes_in:DF:=sh (qP 4 b_primes_in)
theorem jW:S_primes_in=qP 4 b_primes_in:=by delta S_primes_in;exact zK _
@[reducible] def b_primes_to:DS:=qO (qV (d2 fH (zU (qA (dC (.bl true)) (qC))) (d2 qY (qB 0) (dC (.int 1)))) (gNm 1)) (qO (qV (dC (.int 3)) (gNm 2)) (qO (wZ (dTr (d2 gLe (d2 zD (qB 2) (qB 2)) (qB 0))) (qO (sIf (dTr (d2 gIx (qB 1) (qB 2))) (wW (j6 (qA (d2 zD (qB 2) (qB 2)) (qA (d2 qY (qB 0) (dC (.int 1))) (qA (d2 zD (dC (.int 2)) (qB 2)) (qC))))) (gNm 3) (qV (dC (.bl false)) (gSb (qB 1) (qB 3) zS))) (zB)) (vF 2 pR (dC (.int 2))))) (qT (d2 qY (zU (qA (dC (.int 2)) (qC))) (xC false [none,Ab 1] (vL (j6 (qA (dC (.int 3)) (qA (d2 qY (qB 0) (dC (.int 1))) (qA (dC (.int 2)) (qC)))))) (gNm 0) (y8 (dTr (d2 gIx (qB 1) (qB 0))) (vB)) (xH (qB 0)))))))
@[irreducible] def S_primes_to:DF:=sh (qP 4 b_primes_to)
theorem jX:S_primes_to=qP 4 b_primes_to:=by delta S_primes_to;exact zK _
@[reducible] def b_primes_among:DS:=qO (qV (mO) (gNm 2)) (qO (qV (qB 0) (gNm 3)) (qO (wW (w4 (qB 1)) (gNm 4) (qO (sIf (dTr (d2 gGt (d2 zD (qB 4) (qB 4)) (qB 3))) (fZ) (zB)) (wZ (dTr (d2 gEq (d2 zW (qB 3) (qB 4)) (dC (.int 0)))) (qO (qV (d2 qY (dBm "dict" uJ (qB 2) (qA (qB 4) (qA (dC (.int 0)) (qC)))) (dC (.int 1))) (gSb (qB 2) (qB 4) zS)) (vF 3 wV (qB 4)))))) (qO (sIf (dTr (d2 gGt (qB 3) (dC (.int 1)))) (qV (dC (.int 1)) (gSb (qB 2) (qB 3) zS)) (zB)) (qT (wA (qB 2))))))
@[irreducible] def S_primes_among:DF:=sh (qP 5 b_primes_among)
theorem vY:S_primes_among=qP 5 b_primes_among:=by delta S_primes_among;exact zK _
@[reducible] def b_points_by_primes:DS:=qO (qV (dC (.int 4)) (gNm 1)) (qO (wW (w4 (qB 0)) (gTp 2 (xD (gNm 2) (xD (gNm 3) (vZ)))) (sIf (dTr (d2 gEq (d2 zW (qB 2) (dC (.int 4))) (dC (.int 1)))) (vF 1 zD (d2 qY (qB 3) (dC (.int 1)))) (sIf (y8 (dTr (d2 gEq (d2 zW (qB 2) (dC (.int 4))) (dC (.int 3)))) (dTr (d2 gEq (d2 zW (qB 3) (dC (.int 2))) (dC (.int 1))))) (qT (dC (.int 0))) (zB)))) (qT (qB 1)))
@[irreducible] def S_points_by_primes:DF:=sh (qP 4 b_points_by_primes)
theorem yG:S_points_by_primes=qP 4 b_points_by_primes:=by delta S_points_by_primes;exact zK _
@[reducible] def b_circle_points:DS:=qT (qI 1 S_points_by_primes (qA (qI 1 S_primes_in (qA (qB 0) (qC))) (qC)))
@[irreducible] def S_circle_points:DF:=sh (qP 1 b_circle_points)
theorem vP:S_circle_points=qP 1 b_circle_points:=by delta S_circle_points;exact zK _
@[reducible] def b_circles_points:DS:=qO (qV (qI 1 S_primes_to (qA (qI 1 S_above_root (qA (d2 gIx (qB 0) (d1 bK (dC (.int 1)))) (qC))) (qC))) (gNm 1)) (qT (xC false [none,Ab 1] (dIt (qB 0)) (gNm 0) (vB) (xH (qI 1 (okO S_points_by_primes) (qA (qI 2 (okO S_primes_among) (qA (qB 0) (qA (qB 1) (qC)))) (qC))))))
@[irreducible] def S_circles_points:DF:=sh (qP 2 b_circles_points)
theorem v9:S_circles_points=qP 2 b_circles_points:=by delta S_circles_points;exact zK _
@[reducible] def b_on_circle (c:Cl):DS:=qO (yV (qI 3 (S_need_within c) (qA (qB 0) (qA (dC (.int 1)) (qA (d2 wG (dC (.int 10)) (dC (.int 12))) (qC)))))) (qT (qI 1 S_circle_points (qA (qB 0) (qC))))
@[irreducible] def S_on_circle (c:Cl):DF:=sh (qP 1 (b_on_circle c))
theorem vA (c:Cl):S_on_circle c=qP 1 (b_on_circle c):=by delta S_on_circle;exact zK _
@[reducible] def b_many_pairs:DS:=qT (d2 wV (d2 zD (qB 0) (d2 uK (qB 0) (dC (.int 1)))) (dC (.int 2)))
@[irreducible] def S_many_pairs:DF:=sh (qP 1 b_many_pairs)
theorem uY:S_many_pairs=qP 1 b_many_pairs:=by delta S_many_pairs;exact zK _
@[reducible] def b_pairs_by_circles:DS:=qT (d2 wV (d2 zD (qB 0) (qQ pP (qA (qB 1) (qA (d2 uK (qB 0) (dC (.int 1))) (qC))))) (dC (.int 2)))
@[irreducible] def S_pairs_by_circles:DF:=sh (qP 2 b_pairs_by_circles)
theorem yF:S_pairs_by_circles=qP 2 b_pairs_by_circles:=by delta S_pairs_by_circles;exact zK _
@[reducible] def b_most_by_circles (c:Cl):DS:=qO (yV (qI 3 (S_need_within c) (qA (qB 0) (qA (dC (.int 1)) (qA (dC (.int (40))) (qC)))))) (qT (qI 2 S_pairs_by_circles (qA (qB 0) (qA (qI 1 (S_on_circle c) (qA (qB 1) (qC))) (qC)))))
@[irreducible] def S_most_by_circles (c:Cl):DF:=sh (qP 2 (b_most_by_circles c))
theorem zY (c:Cl):S_most_by_circles c=qP 2 (b_most_by_circles c):=by delta S_most_by_circles;exact zK _
@[reducible] def b_are_fars:DS:=qO (sIf (jH (yL (dTr (qQ zV (qA (qB 0) (qA (dC (.ty "tuple")) (qC)))))) (yL (dTr (wF gLe gLe (dC (.int 1)) (qQ vK (qA (qB 0) (qC))) (dC (.int (100))))))) (qT (dC (.bl false))) (zB)) (qT (gW (qQ (bJ false) (qA (xC false [none] (dIt (qB 0)) (gNm 0) (vB) (xH (qI 3 (okO S_is_within) (qA (qB 0) (qA (dC (.int 1)) (qA (d2 wG (dC (.int 10)) (dC (.int 12))) (qC))))))) (qC))) (qI 1 S_is_rising (qA (qB 0) (qC)))))
@[irreducible] def S_are_fars:DF:=sh (qP 1 b_are_fars)
theorem gL:S_are_fars=qP 1 b_are_fars:=by delta S_are_fars;exact zK _
@[reducible] def b_can_have (c:Cl):DS:=qO (yV (qI 3 (S_need_within c) (qA (qB 0) (qA (dC (.int 1)) (qA (dC (.int (40))) (qC)))))) (qO (sIf (yL (dTr (qI 1 S_are_fars (qA (qB 1) (qC))))) (wY (.ref c.NoFars) (qA (dC (.str "a rising tuple of fars is needed")) (qC))) (zB)) (qT (d2 gGe (qQ mV (qA (xC false [none,Ab 0] (dIt (qI 1 S_circles_points (qA (qB 1) (qC)))) (gNm 0) (vB) (xH (qI 2 (okO S_pairs_by_circles) (qA (qB 1) (qA (qB 0) (qC)))))) (qC))) (qI 1 S_many_pairs (qA (qB 0) (qC))))))
@[irreducible] def S_can_have (c:Cl):DF:=sh (qP 2 (b_can_have c))
theorem y7 (c:Cl):S_can_have c=qP 2 (b_can_have c):=by delta S_can_have;exact zK _
@[reducible] def b__law_kinds (c:Cl):DS:=qO (qV (zU (qA (qQ (zP (zZ c)) (qA (qB 0) (qA (dC (.obj c.NoPoint)) (qC)))) (qA (qQ (zP (zZ c)) (qA (qB 0) (qA (dC (.obj c.NoLot)) (qC)))) (qA (qQ (zP (zZ c)) (qA (qB 0) (qA (dC (.obj c.NoNumber)) (qC)))) (qC))))) (gNm 1)) (qO (qV (d2 qY (qB 1) (zU (qA (qQ (zP (zZ c)) (qA (qB 0) (qA (dC (.obj c.NoCircle)) (qC)))) (qA (qQ (zP (zZ c)) (qA (qB 0) (qA (dC (.obj c.NoMarks)) (qC)))) (qA (qQ (zP (zZ c)) (qA (qB 0) (qA (dC (.obj c.NoFars)) (qC)))) (qC)))))) (gNm 1)) (qO (qV (d2 qY (qB 1) (zU (qA (qQ (zP (zZ c)) (qA (qB 0) (qA (dC (.obj c.NoText)) (qC)))) (qA (qQ (zP (zZ c)) (qA (qB 0) (qA (dC (.obj c.NoLine)) (qC)))) (qA (qQ (zP (zZ c)) (qA (qB 0) (qA (dC (.obj c.NoDeed)) (qC)))) (qC)))))) (gNm 1)) (qO (qV (d2 qY (qB 1) (zU (qA (qQ (zP (zZ c)) (qA (qB 0) (qA (dC (.obj c.Alike)) (qC)))) (qA (qQ (zP (zZ c)) (qA (qB 0) (qA (dC (.obj c.TooMany)) (qC)))) (qC))))) (gNm 1)) (qO (sIf (jH (yL (dTr (qQ (zP (zZ c)) (qA (qB 0) (qA (dC (.ty "ValueError")) (qC)))))) (dTr (d2 gNe (dBm "list" fF (qB 1) (qA (dC (.bl true)) (qC))) (dC (.int 1))))) (qT (dC (.str "other"))) (zB)) (qO (sIf (dTr (qQ (zP (zZ c)) (qA (qB 0) (qA (dC (.obj c.Alike)) (qC))))) (qT (xP (qA (dC (.str "alike")) (qA (gX) (qA (gX) (qA (gX) (qA (gX) (qC)))))))) (zB)) (qO (sIf (dTr (qQ (zP (zZ c)) (qA (qB 0) (qA (dC (.obj c.TooMany)) (qC))))) (qT (xP (qA (dC (.str "many")) (qA (gX) (qA (gX) (qC)))))) (zB)) (qO (qV (zU (qA (dC (.str "point")) (qA (dC (.str "lot")) (qA (dC (.str "number")) (qA (dC (.str "circle")) (qA (dC (.str "marks")) (qA (dC (.str "fars")) (qA (dC (.str "text")) (qA (dC (.str "line")) (qA (dC (.str "deed")) (qC))))))))))) (gNm 2)) (qT (d2 gIx (qB 2) (dBm "list" fG (qB 1) (qA (dC (.bl true)) (qC))))))))))))
@[irreducible] def S__law_kinds (c:Cl):DF:=sh (qP 3 (b__law_kinds c))
theorem yJ (c:Cl):S__law_kinds c=qP 3 (b__law_kinds c):=by delta S__law_kinds;exact zK _
@[reducible] def b__law_refused (c:Cl)(G:Aa D->DF)(a:Ad)(cv:Aa V):DS:=qO (bS 2 1 (vQ c) (yV (kT 0 (qC) a cv 0 G)) (qT (qI 1 (S__law_kinds c) (qA (qB 1) (qC))))) (qT (dC (.str "told")))
@[reducible] def b__law_same (S__law_same:DF):DS:=qO (sIf (dTr (d2 gIs (qB 1) (dC .non))) (qT (d2 gIs (qB 0) (dC .non))) (zB)) (qO (sIf (dTr (qQ kX (qA (qB 1) (qA (xP (qA (dC (.ty "list")) (qA (dC (.ty "tuple")) (qC)))) (qC))))) (qO (sIf (dTr (d2 gNe (qQ zV (qA (qB 1) (qA (dC (.ty "list")) (qC)))) (qQ zV (qA (qB 0) (qA (dC (.ty "list")) (qC)))))) (qT (dC (.bl false))) (zB)) (qO (sIf (jH (dTr (d2 gNe (qQ zV (qA (qB 1) (qA (dC (.ty "tuple")) (qC)))) (qQ zV (qA (qB 0) (qA (dC (.ty "tuple")) (qC)))))) (dTr (d2 gNe (qQ vK (qA (qB 0) (qC))) (qQ vK (qA (qB 1) (qC)))))) (qT (dC (.bl false))) (zB)) (qT (qQ (bJ false) (qA (xC false [none,none] (vL (mQ (qA (qB 0) (qA (qB 1) (qC))))) (gTp 2 (xD (gNm 0) (xD (gNm 1) (vZ)))) (vB) (xH (qI 2 (okO S__law_same) (qA (qB 0) (qA (qB 1) (qC)))))) (qC)))))) (zB)) (qO (sIf (dTr (qQ zV (qA (qB 1) (qA (dC (.ty "str")) (qC))))) (qT (gW (qQ zV (qA (qB 0) (qA (dC (.ty "str")) (qC)))) (d2 gEq (qB 0) (qB 1)))) (zB)) (qO (sIf (dTr (d2 gNe (qQ zV (qA (qB 0) (qA (dC (.ty "bool")) (qC)))) (qQ zV (qA (qB 1) (qA (dC (.ty "bool")) (qC)))))) (qT (dC (.bl false))) (zB)) (qT (gW (qQ zV (qA (qB 0) (qA (dC (.ty "int")) (qC)))) (d2 gEq (qB 0) (qB 1)))))))
def m9:Af->DF
 |0=>λ_ _=>.bad
 |n+1=>qP 2 (b__law_same (m9 n))
@[irreducible] def S__law_same:DF:=sh (m9 4)
theorem jS:S__law_same=m9 4:=by delta S__law_same;exact zK _
@[reducible] def b__law_cell:DS:=qO (sIf (dTr (d2 gLt (qB 1) (qQ vK (qA (qB 0) (qC))))) (qT (d2 gIx (qB 0) (qB 1))) (zB)) (qT (dC (.int 0)))
@[irreducible] def S__law_cell:DF:=sh (qP 2 b__law_cell)
theorem jO:S__law_cell=qP 2 b__law_cell:=by delta S__law_cell;exact zK _
@[reducible] def b__law_pen:DS:=qT (nR (qA (qB 0) (qA (qQ cV (qA (d2 gGe (qB 0) (d2 wG (dC (.int 10)) (dC (.int 18)))) (qC))) (qC))))
@[irreducible] def S__law_pen:DF:=sh (qP 1 b__law_pen)
theorem gK:S__law_pen=qP 1 b__law_pen:=by delta S__law_pen;exact zK _
@[reducible] def b__law_draw:DS:=qO (sIf (dTr (d2 gEq (d2 gIx (qB 0) (dC (.int 1))) (dC (.int 1)))) (qO (qV (d2 zW (d2 gIx (qB 0) (dC (.int 0))) (qB 1)) (gNm 2)) (qO (qV (d2 wV (d2 gIx (qB 0) (dC (.int 0))) (qB 1)) (gSb (qB 0) (dC (.int 0)) zS)) (qT (qB 2)))) (zB)) (qO (qV (d2 zW (d2 qY (d2 zD (d2 zW (d2 gIx (qB 0) (dC (.int 0))) (dC (.int 2147483629))) (dC (.int 48271))) (dC (.int 11))) (dC (.int 2147483629))) (gSb (qB 0) (dC (.int 0)) zS)) (qT (d2 zW (d2 wV (d2 zW (d2 qY (d2 zD (d2 gIx (qB 0) (dC (.int 0))) (d2 gIx (qB 0) (dC (.int 0)))) (d2 zD (dC (.int 40692)) (d2 gIx (qB 0) (dC (.int 0))))) (dC (.int 2147483647))) (dC (.int 8))) (qB 1))))
@[irreducible] def S__law_draw:DF:=sh (qP 3 b__law_draw)
theorem jP:S__law_draw=qP 3 b__law_draw:=by delta S__law_draw;exact zK _
@[reducible] def b__law_no_number:DS:=qO (qV (zU (qA (d2 uK (qB 1) (dC (.int 1))) (qA (d2 qY (qB 2) (dC (.int 1))) (qA (d2 uK (d2 uK (dC (.int 0)) (qB 2)) (dC (.int 1))) (qA (d2 qY (d2 qY (qB 2) (dC (.int 1))) (qI 2 S__law_draw (qA (qB 0) (qA (d2 wG (dC (.int 10)) (dC (.int 9))) (qC))))) (qA (dC (.bl true)) (qC))))))) (gNm 3)) (qO (qV (d2 qY (qB 3) (zU (qA (dC (.bl false)) (qC)))) (gNm 3)) (qT (d2 gIx (d2 qY (qB 3) (zU (qA (dC .non) (qA (dC (.str "1")) (qA (xP (qA (dC (.int 1)) (qC))) (qA (zU (qA (dC (.int 1)) (qC))) (qA (f7) (qA (d2 wG (dC (.int 10)) (dC (.int 29))) (qC))))))))) (qI 2 S__law_draw (qA (qB 0) (qA (dC (.int 12)) (qC)))))))
@[irreducible] def S__law_no_number:DF:=sh (qP 4 b__law_no_number)
theorem v8:S__law_no_number=qP 4 b__law_no_number:=by delta S__law_no_number;exact zK _
@[reducible] def b__law_rich:DS:=qO (qV (dC (.int 1)) (gNm 2)) (qO (wW (mP (qA (d2 qY (dC (.int 1)) (qI 2 S__law_draw (qA (qB 0) (qA (dC (.int 6)) (qC))))) (qC))) (gNm 3) (qO (qV (d2 gIx (zU (qA (dC (.int 2)) (qA (dC (.int 5)) (qA (dC (.int 13)) (qA (dC (.int 17)) (qA (dC (.int 4)) (qA (dC (.int 9)) (qA (dC (.int 5)) (qA (dC (.int 29)) (qC)))))))))) (qI 2 S__law_draw (qA (qB 0) (qA (dC (.int 8)) (qC))))) (gNm 4)) (sIf (dTr (d2 gLe (d2 zD (qB 2) (qB 4)) (qB 1))) (qV (d2 zD (qB 2) (qB 4)) (gNm 2)) (zB)))) (qT (qB 2)))
@[irreducible] def S__law_rich:DF:=sh (qP 5 b__law_rich)
theorem jR:S__law_rich=qP 5 b__law_rich:=by delta S__law_rich;exact zK _
@[reducible] def b__law_round:DS:=qO (m8 1 2 3 (qA (dC (.int 4)) (qA (qB 0) (qA (dC (.int 2)) (qC))))) (qO (wZ (dTr (d2 gGt (qB 2) (dC (.int 1)))) (qO (qV (dC (.int 0)) (gNm 4)) (qO (wZ (dTr (d2 gEq (d2 zW (qB 2) (qB 3)) (dC (.int 0)))) (bR 2 4 (qA (d2 j7 (qB 2) (qB 3)) (qA (d2 qY (qB 4) (dC (.int 1))) (qC))))) (qO (sIf (dTr (d2 gEq (d2 zW (qB 3) (dC (.int 4))) (dC (.int 1)))) (qV (d2 zD (qB 1) (d2 qY (qB 4) (dC (.int 1)))) (gNm 1)) (zB)) (qO (sIf (y8 (dTr (d2 gEq (d2 zW (qB 3) (dC (.int 4))) (dC (.int 3)))) (dTr (d2 gEq (d2 zW (qB 4) (dC (.int 2))) (dC (.int 1))))) (qT (dC (.int 0))) (zB)) (qV (dIf (dTr (d2 gLe (d2 zD (qB 3) (qB 3)) (qB 2))) (d2 qY (qB 3) (dC (.int 1))) (qQ pO (qA (qB 2) (qA (d2 qY (qB 3) (dC (.int 1))) (qC))))) (gNm 3))))))) (qT (qB 1)))
@[irreducible] def S__law_round:DF:=sh (qP 5 b__law_round)
theorem uW:S__law_round=qP 5 b__law_round:=by delta S__law_round;exact zK _
@[reducible] def b__law_most:DS:=qT (d2 wV (d2 zD (qB 0) (qQ pP (qA (qI 1 S__law_round (qA (qB 1) (qC))) (qA (d2 uK (qB 0) (dC (.int 1))) (qC))))) (dC (.int 2)))
@[irreducible] def S__law_most:DF:=sh (qP 2 b__law_most)
theorem jQ:S__law_most=qP 2 b__law_most:=by delta S__law_most;exact zK _
@[reducible] def b__law_some:DS:=qO (qV (mO) (gNm 1)) (qO (wW (mP (qA (d2 qY (dC (.int 1)) (qI 2 S__law_draw (qA (qB 0) (qA (dC (.int 12)) (qC))))) (qC))) (gNm 2) (qO (qV (qI 2 S__law_draw (qA (qB 0) (qA (dC (.int 4)) (qC)))) (gNm 3)) (qO (qV (zU (qA (qI 2 S__law_rich (qA (qB 0) (qA (d2 wG (dC (.int 10)) (dC (.int 12))) (qC)))) (qA (d2 qY (dC (.int 1)) (qI 2 S__law_draw (qA (qB 0) (qA (dC (.int 60)) (qC))))) (qA (d2 qY (dC (.int 1)) (qI 2 S__law_draw (qA (qB 0) (qA (d2 wG (dC (.int 10)) (dC (.int 6))) (qC))))) (qA (dC (.int 5)) (qC)))))) (gNm 4)) (qV (dC (.bl true)) (gSb (qB 1) (d2 gIx (qB 4) (qB 3)) zS))))) (qT (qQ fE (qA (f9 (qB 1)) (qC)))))
@[irreducible] def S__law_some:DF:=sh (qP 5 b__law_some)
theorem jT:S__law_some=qP 5 b__law_some:=by delta S__law_some;exact zK _
@[reducible] def b__law_no_fars:DS:=qO (bR 2 3 (qA (qI 2 S__law_draw (qA (qB 0) (qA (dC (.int 14)) (qC)))) (qA (qI 2 S__law_draw (qA (qB 0) (qA (qQ vK (qA (qB 1) (qC))) (qC)))) (qC)))) (qO (qV (d2 gIx (zU (qA (dC (.int 0)) (qA (d1 bK (dC (.int 1))) (qA (dC (.bl true)) (qA (dC .non) (qA (dC (.str "1")) (qA (xP (qA (dC (.int 1)) (qC))) (qA (d2 qY (d2 wG (dC (.int 10)) (dC (.int 12))) (dC (.int 1))) (qC))))))))) (qI 2 S__law_draw (qA (qB 0) (qA (dC (.int 7)) (qC))))) (gNm 4)) (qO (qV (d2 qY (d2 qY (dSl (qB 1) (yM) (xS (qB 3))) (xP (qA (qB 4) (qC)))) (dSl (qB 1) (xS (d2 qY (qB 3) (dC (.int 1)))) (yM))) (gNm 5)) (qO (qV (zU (qA (qB 5) (qA (qB 5) (qA (qB 5) (qA (xP (qC)) (qA (dC .non) (qA (qQ nS (qA (qB 1) (qC))) (qA (d2 gIx (qB 1) (dC (.int 0))) (qA (dC (.str "1 2")) (qA (f7) (qC))))))))))) (gNm 6)) (qO (qV (d2 qY (qB 6) (zU (qA (d2 qY (qB 1) (dSl (qB 1) (xS (d1 bK (dC (.int 1)))) (yM))) (qA (pM true (qA (dC (.int 1)) (qA (dC (.int 102)) (qC)))) (qC))))) (gNm 6)) (qT (d2 gIx (d2 qY (qB 6) (zU (qA (d2 qY (cS (qB 1) (d1 bK (dC (.int 1)))) (dSl (qB 1) (yM) (xS (dC (.int 1))))) (qA (xP (qA (dC (.int 2)) (qA (dC (.int 1)) (qC)))) (qA (xP (qA (dC (.int 1)) (qA (dC (.int 3)) (qA (dC (.int 2)) (qC))))) (qC)))))) (qB 2)))))))
@[irreducible] def S__law_no_fars:DF:=sh (qP 7 b__law_no_fars)
theorem vX:S__law_no_fars=qP 7 b__law_no_fars:=by delta S__law_no_fars;exact zK _
@[reducible] def b_law (c:Cl):DS:=qO (sIf (yL (dTr (qI 2 S__law_same (qA (zU (qA (qI 2 (S_most_by_circles c) (qA (dC (.int 40)) (qA (dC (.int 25)) (qC)))) (qA (qI 2 (S_most_by_circles c) (qA (dC (.int 40)) (qA (dC (.int 3)) (qC)))) (qA (qI 2 (S_most_by_circles c) (qA (dC (.int 1)) (qA (dC (.int 25)) (qC)))) (qC))))) (qA (zU (qA (dC (.int 240)) (qA (dC (.int 0)) (qA (dC (.int 0)) (qC))))) (qC)))))) (qT (dC (.bl false))) (zB)) (qO (sIf (jH (dTr (d2 vD (qI 2 (S_can_have c) (qA (dC (.int 2)) (qA (xP (qA (dC (.int 3)) (qC))) (qC)))) (dC (.bl false)))) (jH (dTr (d2 vD (qI 2 (S_can_have c) (qA (dC (.int 2)) (qA (xP (qA (dC (.int 1)) (qC))) (qC)))) (dC (.bl true)))) (dTr (d2 vD (qI 2 (S_can_have c) (qA (dC (.int 1)) (qA (xP (qA (dC (.int 3)) (qC))) (qC)))) (dC (.bl true)))))) (qT (dC (.bl false))) (zB)) (qO (sIf (jH (dTr (d2 vD (qI 2 (S_can_have c) (qA (dC (.int 40)) (qA (pM true (qA (dC (.int 1)) (qA (dC (.int 101)) (qC)))) (qC)))) (dC (.bl true)))) (dTr (d2 vD (qI 2 (S_can_have c) (qA (dC (.int 2)) (qA (xP (qA (d2 wG (dC (.int 10)) (dC (.int 12))) (qC))) (qC)))) (dC (.bl true))))) (qT (dC (.bl false))) (zB)) (qO (wW (w4 (d2 qY (zU (qA (qI 2 S__law_cell (qA (qB 0) (qA (dC (.int 0)) (qC)))) (qC))) (dSl (qB 0) (xS (dC (.int 1))) (xS (dC (.int 6)))))) (gNm 1) (qO (qV (qI 1 S__law_pen (qA (qB 1) (qC))) (gNm 2)) (qO (qV (xP (qA (d2 qY (dC (.int 1)) (qI 2 S__law_draw (qA (qB 2) (qA (dC (.int 40)) (qC))))) (qA (qI 1 S__law_some (qA (qB 2) (qC))) (qC)))) (gTp 2 (xD (gNm 11) (xD (gNm 3) (vZ))))) (qO (wW (w4 (d2 qY (qB 3) (xP (qA (d2 wG (dC (.int 10)) (dC (.int 12))) (qA (dC (.int 1)) (qA (d2 wG (dC (.int 5)) (dC (.int 17))) (qC))))))) (gNm 4) (sIf (yL (dTr (qI 2 S__law_same (qA (qI 2 (S_most_by_circles c) (qA (qB 11) (qA (qB 4) (qC)))) (qA (qI 2 S__law_most (qA (qB 11) (qA (qB 4) (qC)))) (qC)))))) (qT (dC (.bl false))) (zB))) (qO (qV (qQ pQ (qA (qB 3) (qC))) (gNm 5)) (qO (wW (w4 (xP (qA (qB 11) (qA (d2 qY (dC (.int 1)) (qI 2 S__law_draw (qA (qB 2) (qA (dC (.int 9)) (qC))))) (qC))))) (gNm 6) (qO (qV (qQ mV (qA (xC false [none,Ab 6] (dIt (qB 3)) (gNm 0) (vB) (xH (qI 2 (okO S__law_most) (qA (qB 1) (qA (qB 0) (qC)))))) (qC))) (gNm 7)) (qO (qV (d2 gGe (d2 zD (dC (.int 2)) (qB 7)) (d2 zD (qB 6) (d2 uK (qB 6) (dC (.int 1))))) (gNm 8)) (sIf (jH (yL (dTr (qI 2 S__law_same (qA (qI 2 (S_can_have c) (qA (qB 6) (qA (qB 3) (qC)))) (qA (qB 8) (qC)))))) (dTr (d2 gNe (qQ pQ (qA (qB 3) (qC))) (qB 5)))) (qT (dC (.bl false))) (zB))))) (qO (qV (xP (qA (qI 3 S__law_no_number (qA (qB 2) (qA (dC (.int 1)) (qA (dC (.int 40)) (qC))))) (qA (qI 3 S__law_no_number (qA (qB 2) (qA (dC (.int 1)) (qA (d2 wG (dC (.int 10)) (dC (.int 12))) (qC))))) (qC)))) (gTp 2 (xD (gNm 9) (xD (gNm 13) (vZ))))) (qO (qV (qI 2 S__law_no_fars (qA (qB 2) (qA (qB 3) (qC)))) (gNm 12)) (qO (wW (w4 (xP (qA (qB 13) (qA (dC (.int 25)) (qC))))) (gNm 10) (sIf (dTr (d2 gNe (vR false [9,10] 1 2 (qC) (b__law_refused c (jK (qI 2 (S_most_by_circles c) (qA (qB 0) (qA (qB 1) (qC))))))) (dC (.str "number")))) (qT (dC (.bl false))) (zB))) (qO (sIf (dTr (d2 gNe (vR false [11,13] 1 2 (qC) (b__law_refused c (jK (qI 2 (S_most_by_circles c) (qA (qB 0) (qA (qB 1) (qC))))))) (dC (.str "number")))) (qT (dC (.bl false))) (zB)) (qO (sIf (dTr (d2 gNe (vR false [9,12] 1 2 (qC) (b__law_refused c (jK (qI 2 (S_can_have c) (qA (qB 0) (qA (qB 1) (qC))))))) (dC (.str "number")))) (qT (dC (.bl false))) (zB)) (sIf (dTr (d2 gNe (vR false [11,12] 1 2 (qC) (b__law_refused c (jK (qI 2 (S_can_have c) (qA (qB 0) (qA (qB 1) (qC))))))) (dC (.str "fars")))) (qT (dC (.bl false))) (zB))))))))))))) (qT (dC (.bl true))))))
end _K
namespace _K
open PySem _D
variable {cl:Aa Ad}{xs:Aa D}{C:Ad}{p m i r:Af}{Q:D->Sto->Prop}{P:Out->Prop}{S:Sto}{env:qD}
theorem GD {d:D}(h:Pn d)(S:Sto):S_is_whole [d] S=.ok (.bl (isW d)) S:=by
 rw[gM];obtain⟨p,h⟩:=h;cases d <;> first|kernel_rfl!|simp[pyD] at h
theorem bQ {d:D}(h:Pn d)(a b:Aj)(S:Sto):S_is_within [d,.int a,.int b] S=.ok (.bl (inR a b d)) S:=by
 rw[jV];refine x8 (zC (env:=[Ab d,Ab (.int a),Ab (.int b)]) rfl ?_);rfl';refine aG ?_;rfl';refine qK (GD h S) ⟨_,rfl,λe=>?_,λe=>?_⟩
 .cases d with
  |int i=>exact eK rfl rfl rfl ⟨rfl,rfl⟩
  |_=>cases e
 .cases d <;> first|exact⟨rfl,rfl⟩|cases e
theorem k9 (c:Cl){i a b:Aj}(S:Sto)(h:a<=i/\i<=b):S_need_within c [.int i,.int a,.int b] S=.ok .non S:=by
 rw[y9];refine x8 (zC (env:=[Ab (.int i),Ab (.int a),Ab (.int b)]) rfl ?_);rfl';refine qK (bQ ⟨.int i,rfl⟩ a b S) ?_;rw[show inR a b (.int i)=true from Cu h]
 rfl';exact⟨rfl,rfl⟩
theorem iN (a:Aj)(S:Sto)(h:a.natAbs.log2<1920):jI (.int a) S=.ok (.str (toString a)) S:=by
 unfold jI;simp only[h,Cq]
noncomputable def M4 (a b:Aj):Aa An:=[Jt++("a whole number from " : An),Jt++("a whole number from " : An)++((toString a:Cs):An),Jt++("a whole number from " : An)++((toString a:Cs):An)++(" to " : An),Jt++("a whole number from " : An)++((toString a:Cs):An)++(" to " : An)++((toString b:Cs):An),Jt++("a whole number from " : An)++((toString a:Cs):An)++(" to " : An)++((toString b:Cs):An)++(" is needed" : An)]
noncomputable def YS (a b:Aj):Ao:=decide (a.natAbs.log2<1920)&&decide (b.natAbs.log2<1920)&&(M4 a b).all λm=>decide (m.length<=lim)
theorem p8 {out y:An}{p:DE}{ps:Aa DE}{S1:Sto}(h:p env S=.ok (.str y) S1)(hl:(out++y).length<=lim):g9 out (p::ps) env S=g9 (out++y) ps env S1:=by
 show ((p env S).bind λd S1=>match d with|.str y=>if (out++y).length<=lim then g9 (out++y) ps env S1 else .bad|_=>.bad)=_
 rw[h];exact AS hl
theorem GE {v:Ac}{f:DE}{y:An}(h:f env S=.ok (.str y) S):wY v (qA f (qC)) env S=.ex v .non env S:=by
 unfold wY;rw[iC h];show (if ([D.str y]:Aa D).length<=lim then Out.ex v D.non env S else Out.bad)=_
 exact AS (Cf rfl)
theorem tF (c:Cl){d:D}{a b:Aj}(S:Sto)(hm:YS a b=true)(h:Pn d)(k:inR a b d=false):S_need_within c [d,.int a,.int b] S=.ex (.ref c.NoNumber) .non S:=by
 simp only[YS,M4,Ma,List.all_nil,As,Xu,Ax] at hm;obtain⟨⟨la,lb⟩,j1,j2,j3,j4,j5⟩:=hm;have hj:nQ [dC (.str "a whole number from "),d1 jI (qB 1),dC (.str " to "),d1 jI (qB 2),dC (.str " is needed")] [Ab d,Ab (.int a),Ab (.int b)] S=.ok (.str (Jt++("a whole number from " : An)++((toString a:Cs):An)++(" to " : An)++((toString b:Cs):An)++(" is needed" : An))) S:=
  (p8 rfl j1).trans ((p8 (iN a S la) j2).trans ((p8 rfl j3).trans ((p8 (iN b S lb) j4).trans ((p8 rfl j5).trans (AS j5)))))
 rw[y9];refine QF (env:=[Ab d,Ab (.int a),Ab (.int b)]) (env':=[Ab d,Ab (.int a),Ab (.int b)]) rfl ?_;refine DV (x8 (MF (MM (oC (wJ (o_v rfl (wJ (o_v rfl (wJ (o_v rfl (fT ⟨rfl,qK ((bQ h a b S).trans (by rw[k])) ⟨_,rfl,rfl,rfl⟩⟩))))))))))) ?_
 exact GE hj
theorem xU {m:Aj}(h:wN S p)(hm:0<m/\m<1073741824)(q:∀ (r:Af) S1,Kp p S S1->(r:Aj)<m->Q (.int r) S1):Ok (S__law_draw [.loc p,.int m] S) Q:=by
 have fin:∀ r v f:Aj,0<=r->r<m->Q (.int r) (S.set p (.lst [.int v,.int f])):=λr v f h0 h1=>by
  obtain⟨r,rfl⟩:=Int.eq_ofNat_of_zero_le h0;obtain⟨v0,f0,e⟩:=h;have hpl:=(Bl.mp e).1;exact q r _ ⟨⟨v,f,by simp[hpl]⟩,by simp,λi hi hn=>Dk (Fa hn)⟩ h1
 obtain⟨v,f,e⟩:=h;have hpl:=(Bl.mp e).1;rw[jP];refine zC (env:=[Ab (.loc p),Ab (.int m),none]) rfl ?_;rfl';refine u7 e (d:=.int f) rfl ?_;rfl';refine xZ (λz=>?_) λz=>?_
 .rfl'
  refine u7 e (d:=.int v) rfl ?_;rfl';refine u7 e (d:=.int v) rfl ?_;rfl';refine dM e rfl ?_;rfl';exact fin _ _ _ (Nb _ om) (Ko _ hm.1)
 .rfl'
  refine u7 e (d:=.int v) rfl ?_;have hv:=Nb v (show (2147483629:Aj)≠0 by omega)
  have hv':=Ko v (show (0:Aj)<2147483629 by omega)
  rfl';have hw:=Nb (v % 2147483629*48271+11) (show (2147483629:Aj)≠0 by omega)
  have hw':=Ko (v % 2147483629*48271+11) (show (0:Aj)<2147483629 by omega)
  generalize (v % 2147483629*48271+11) % 2147483629=w at hw hw';refine dM e rfl ?_;have e2:(S.set p (MO.lst [.int w,.int f]))[p]? = Ab (.lst [.int w,.int f]):=by simp[hpl]
  rfl';refine u7 e2 (d:=.int w) rfl ?_;rfl';refine u7 e2 (d:=.int w) rfl ?_;rfl';refine u7 e2 (d:=.int w) rfl ?_;rfl';exact fin _ _ _ (Nb _ om) (Ko _ hm.1)
theorem SJ {x:Aj}(q:∀ p S1,wN S1 p->Q (.loc p) S1):Ok (S__law_pen [.int x] S) Q:=by
 rw[gK];refine zC (env:=[Ab (.int x)]) rfl ?_;rfl';refine qK (d:=.int 1000000000000000000) rfl ?_;rfl';refine qK (d:=.int (b01 (decide (1000000000000000000<=x)))) rfl ?_;rfl';exact q _ _ ⟨_,_,rN _ _⟩
theorem SD (nd:cl.Nodup){i j:Af}{a b:Ad}(ha:cl[i]? = Ab a)(hb:cl[j]? = Ab b)(h:i≠j):(a == b)=false:=by
 rw[Jr];rintro rfl;obtain⟨h1,e1⟩:=Bl.mp ha;obtain⟨h2,e2⟩:=Bl.mp hb;exact h ((OJ nd).mp (e1.trans e2.symm))
theorem YW {B:Ad}(hC:C∈cl)(hB:B∈cl)(q:Q (.bl (C == B)) S):Ok (zP cl [.exn (.ref C),.obj B] S) Q:=by
 refine⟨_,_,?_,q⟩;show (if (cl.contains C&&cl.contains B)=true then Res.ok (D.bl (C == B)) S else .bad)=_
 rw[Dh.mpr hC,Dh.mpr hB];rfl
theorem YX (hC:C∈cl)(q:Q (.bl true) S):Ok (zP cl [.exn (.ref C),.ty "ValueError"] S) Q:=by
 refine⟨_,_,?_,q⟩;show (if (cl.contains C&&(("ValueError" : Cs) == "ValueError"))=true then Res.ok (D.bl true) S else .bad)=_
 rw[Dh.mpr hC];rfl
theorem YT (nd:cl.Nodup){i j:Af}{a b:Ad}(ha:cl[i]? = Ab a)(hb:cl[j]? = Ab b):decide (i=j)=(a == b):=by
 by_cases h:i=j
 .subst h
  cases ha.symm.trans hb;rw[Cu rfl,Em]
 .rw[Cj h,SD nd ha hb h]
theorem vE (c:Cl)(nd:(zZ c).Nodup)(S:Sto):S__law_kinds c [.exn (.ref c.NoNumber)] S=.ok (.str "number") S:=by
 have s:∀ {Q:D->Sto->Prop} (j:Af) {B:Ad},(zZ c)[j]? = Ab B->Q (.bl (decide (2=j))) S->Ok (zP (zZ c) [.exn (.ref c.NoNumber),.obj B] S) Q:=λj B h q=>YW (Cn (i:=2) rfl) (Cn h) (YT nd (i:=2) rfl h▸q);rw[yJ];refine x8 (zC (env:=[Ab (.exn (.ref c.NoNumber)),none,none]) rfl ?_);rfl';refine s 0 rfl ?_;rfl';refine s 1 rfl ?_;rfl';refine s 2 rfl ?_;rfl';refine s 3 rfl ?_;rfl';refine s 4 rfl ?_;rfl';refine s 5 rfl ?_;rfl';refine w6 (Cf rfl) ?_;rfl';refine s 6 rfl ?_;rfl';refine s 7 rfl ?_;rfl';refine s 8 rfl ?_;rfl';refine w6 (Cf rfl) ?_;rfl';refine s 9 rfl ?_;rfl';refine s 10 rfl ?_;rfl';refine w6 (Cf rfl) ?_;rfl';refine jC ?_;rfl';refine YX (Cn (i:=2) rfl) ?_;rfl';refine⟨(λe=>by cases e),λ_=>?_⟩
 rfl';refine qK (d:=.int 1) (S:=S) (by kernel_rfl!) ?_
 rfl';refine xZ (λ_=>?_) λe=>absurd rfl e;rfl';refine s 9 rfl ?_;rfl';refine xZ (λe=>absurd e (by decide)) λ_=>?_
 rfl';refine s 10 rfl ?_;rfl';refine xZ (λe=>absurd e (by decide)) λ_=>?_
 rfl';refine qK (d:=.int 2) (S:=S) (by kernel_rfl!) ?_
 exact nY (d:=.str "number") rfl ⟨rfl,rfl⟩
noncomputable def sq (b:Ao)(ws:Aa D):D:=match b with
 |true=>.tup ws
 |false=>.lst ws
theorem YB (ws:Aa D):v7 ws ws=ws.map λx=>D.tup [x,x]:=by
 induction ws with
 |nil=>rfl
 |cons w ws ih=>exact congrArg (D.tup [w,w]::·) ih
theorem sL (F:DF)(b:Ao)(ws:Aa D)(S:Sto)(hw:ws.length<=lim)(ih:∀ x∈ws,F [x,x] S=.ok (.bl true) S):qP 2 (b__law_same F) [sq b ws,sq b ws] S=.ok (.bl true) S:=by
 have t1:zV [sq b ws,.ty "list"] S=.ok (.bl (!b)) S:=by cases b <;> kernel_rfl!
 have t2:zV [sq b ws,.ty "tuple"] S=.ok (.bl b) S:=by cases b <;> kernel_rfl!
 have t3:kX [sq b ws,.tup [.ty "list",.ty "tuple"]] S=.ok (.bl true) S:=by cases b <;> kernel_rfl!
 have l:vK [sq b ws] S=.ok (.int ws.length) S:=by cases b <;> rfl
 have n:∀ x:Ao,gNe (.bl x) (.bl x) S=.ok (.bl false) S:=λx=>by cases x <;> rfl
 have hz:vL (mQ (qA (qB 0) (qA (qB 1) (qC)))) [Ab (sq b ws),Ab (sq b ws)] S=.ok (none,ws.map λx=>D.tup [x,x]) S:=by
  rw[<- YB];cases b <;> rfl
 refine x8 (zC (env:=[Ab (sq b ws),Ab (sq b ws)]) rfl ?_);rfl';refine qK (d:=.bl false) (S:=S) (by cases b <;> rfl) ?_
 rfl';refine qK t3 ?_;rfl';refine qK t1 ?_;rfl';refine qK t1 ?_;rfl';refine qK (n _) ?_;rfl';refine jC ?_;rfl';refine qK t2 ?_;rfl';refine qK t2 ?_;rfl';refine qK (n _) ?_;rfl';refine⟨(λe=>by cases e),λ_=>?_⟩
 rfl';refine qK l ?_;rfl';refine qK l ?_;rfl';refine xZ (λ_=>?_) λe=>absurd rfl e;rfl';refine kF ws (λ_=>.bl true) (λenv S'=>S'=S/\∃ a b,env=[a,b]) hz ⟨rfl,none,none,rfl⟩ hw (λ_ _ _=>trivial) (λx hx env S' ⟨e1,a,b,e2⟩=>?_) λenv S' ⟨e1,_⟩=>?_
 .subst e1 e2
  rfl';exact qK (ih x hx) ⟨rfl,rfl,_,_,rfl⟩
 .subst e1
  rfl';exact aF (p:=λ_=>true) ⟨by simp,rfl⟩
theorem pY (F:DF){d:D}(S:Sto)(h1:gIs d .non S=.ok (.bl false) S)(h2:kX [d,.tup [.ty "list",.ty "tuple"]] S=.ok (.bl false) S)(h3:zV [d,.ty "str"] S=.ok (.bl false) S){b:Ao}(h4:zV [d,.ty "bool"] S=.ok (.bl b) S)(h5:zV [d,.ty "int"] S=.ok (.bl true) S)(h6:gEq d d S=.ok (.bl true) S):qP 2 (b__law_same F) [d,d] S=.ok (.bl true) S:=by
 refine x8 (zC (env:=[Ab d,Ab d]) rfl ?_);rfl';refine qK h1 ?_;rfl';refine qK h2 ?_;rfl';refine qK h3 ?_;rfl';refine qK h4 ?_;rfl';refine qK h4 ?_;rfl';refine qK (d:=.bl false) (S:=S) (by cases b <;> rfl) ?_
 rfl';refine aG ?_;rfl';refine qK h5 ⟨_,rfl,λ_=>?_,λe=>by cases e⟩
 rfl';exact qK h6 ⟨rfl,rfl⟩
def okD:Af->D->Prop
 |n+1,.tup xs=>xs.length<=lim/\∀ x∈xs,okD n x
 |n+1,.lst xs=>xs.length<=lim/\∀ x∈xs,okD n x
 |_,.int _=>Mm
 |_,.bl _=>Mm
 |_,_=>Eh
theorem QH:∀ (n:Af) (d:D) (S:Sto),okD n d->m9 (n+1) [d,d] S=.ok (.bl true) S:=by
 intro n
 induction n with
 |zero =>
  intro d S h;cases d with
  |int i=>exact pY _ S rfl (by kernel_rfl!) (by kernel_rfl!) (b:=false) (by kernel_rfl!) (by kernel_rfl!) (x8 (MB ⟨by rw[Cu rfl],rfl⟩))
  |bl b=>exact pY _ S rfl (by kernel_rfl!) (by kernel_rfl!) (b:=true) (by kernel_rfl!) (by kernel_rfl!) (by cases b <;> rfl)
  |_=>exact Am h
 |succ n ih =>
  intro d S h;cases d with
  |tup ws=>exact sL _ true ws S h.1 λx hx=>ih x S (h.2 x hx)
  |lst ws=>exact sL _ false ws S h.1 λx hx=>ih x S (h.2 x hx)
  |int i=>exact pY _ S rfl (by kernel_rfl!) (by kernel_rfl!) (b:=false) (by kernel_rfl!) (by kernel_rfl!) (x8 (MB ⟨by rw[Cu rfl],rfl⟩))
  |bl b=>exact pY _ S rfl (by kernel_rfl!) (by kernel_rfl!) (b:=true) (by kernel_rfl!) (by kernel_rfl!) (by cases b <;> rfl)
  |_=>exact Am h
theorem sA {d:D}(S:Sto)(h:okD 3 d):S__law_same [d,d] S=.ok (.bl true) S:=by
 rw[jS];exact QH 3 d S h
theorem EE {a:Ad}{cv:Aa _L.V}{G:Aa D->DF}{caps:Aa D}(h:env[i]? = Ab (Ab (.clo a cv caps))):kT i (qC) a cv 0 G env S=G caps [] S:=by
 unfold kT;rw[h];show (if a=a/\cv=cv then _ else _)=_
 rw[AS ⟨rfl,rfl⟩];rfl
theorem nZ {c:Cl}{wd:An}{b:Ao}{cap:Aa Af}{fe:DE}(hC:(vQ c).contains (.ref C)=true)(hk:∀ S,S__law_kinds c [.exn (.ref C)] S=.ok (.str wd) S){caps:Aa D}(h:bG cap env=Ab caps){x:D}(e:fe (caps.map Ab) S=.ex (.ref C) x S)(q:Q (.str wd) S):Ok (vR b cap 1 2 (qC) (b__law_refused c (jK fe)) env S) Q:=by
 refine⟨_,_,?_,q⟩;unfold vR;rw[h];show (if 0+1=1 then exO b (uni λa cv=>qP 2 (b__law_refused c (jK fe) a cv) [.clo a cv caps] S) else .bad)=_
 rw[AS rfl,L7 (R:=.ok (.str wd) S) λa cv=>?_]
 .cases b <;> rfl
 .have e':kT 0 (qC) a cv 0 (jK fe) [Ab (.clo a cv caps),none] S=.ex (.ref C) x S:=(EE rfl).trans (by unfold jK;exact e)
  refine x8 (zC (env:=[Ab (.clo a cv caps),none]) rfl ?_);refine gJ ?_;have k:bS 2 1 (vQ c) (yV (kT 0 (qC) a cv 0 (jK fe))) (qT (qI 1 (S__law_kinds c) (qA (qB 1) (qC)))) [Ab (.clo a cv caps),none] S=.rt (.str wd) S:=by
   unfold bS yV;rw[e'];simp only[Res.toS,hC,Cq];have z:qI 1 (S__law_kinds c) (qA (qB 1) (qC)) ((Bw 2 none).set 1 (Ab (.exn (.ref C)))) S=.ok (.str wd) S:=(YI rfl).trans (hk S);simp only[qT,z,Res.toS]
  rw[k];exact⟨rfl,rfl⟩
theorem GC (ns:Aa Aj)(hl:ns.length<=63)(k:Aj){Q:Aa D->Sto->Prop}{env:qD}{S:Sto}(h0:env[0]? = Ab (Ab (.lst (ns.map D.int))))(q:∀ ms:Aa Aj,Q (ms.map D.int) S):Ok (w4 (d2 qY (zU (qA (qI 2 S__law_cell (qA (qB 0) (qA (dC (.int 0)) (qC)))) (qC))) (dSl (qB 0) (xS (dC (.int 1))) (xS (dC (.int k))))) env S) Q:=by
 have hc:∃ x:Aj,S__law_cell [.lst (ns.map D.int),.int 0] S=.ok (.int x) S:=by
  rw[jO];cases ns with
  |nil=>exact⟨0,x8 (zC (env:=[Ab (.lst []),Ab (.int 0)]) rfl (by rfl';exact⟨rfl,rfl⟩))⟩
  |cons n ns =>
   refine⟨n,x8 (zC (env:=[Ab (.lst ((n::ns).map D.int)),Ab (.int 0)]) rfl ?_)⟩;rfl';refine xZ (λ_=>?_) λe=>absurd (by rw[Ba,Bv];omega) e
   rfl';exact nY (lC (a:=0) (by simp)) ⟨rfl,rfl⟩
 obtain⟨x,hx⟩:=hc;refine JY (o_2 (YZ (wJ (oC (wJ (o_v h0 ?_))))));rfl';refine qK hx ?_;rfl';refine o_v h0 ?_;rfl';have hm:xB (ns.map D.int) (Ab 1) (Ab k)=((ns.drop (_H.sIx (ns.map D.int).length 0 (Ab 1))).take (_H.sIx (ns.map D.int).length (ns.map D.int).length (Ab k)-_H.sIx (ns.map D.int).length 0 (Ab 1))).map D.int:=by
  unfold xB;rw[List.map_take,XV]
 rw[hm];refine w6 ?_ ⟨_,rfl,q (x::_)⟩;rw[Ba,Ey,Im];show 1+_<=lim;unfold lim;omega
theorem d8 (c:Cl)(nd:(zZ c).Nodup)(S:Sto):S__law_kinds c [.exn (.ref c.NoFars)] S=.ok (.str "fars") S:=by
 have s:∀ {Q:D->Sto->Prop} (j:Af) {B:Ad},(zZ c)[j]? = Ab B->Q (.bl (decide (5=j))) S->Ok (zP (zZ c) [.exn (.ref c.NoFars),.obj B] S) Q:=λj B h q=>YW (Cn (i:=5) rfl) (Cn h) (YT nd (i:=5) rfl h▸q);rw[yJ];refine x8 (zC (env:=[Ab (.exn (.ref c.NoFars)),none,none]) rfl ?_);rfl';refine s 0 rfl ?_;rfl';refine s 1 rfl ?_;rfl';refine s 2 rfl ?_;rfl';refine s 3 rfl ?_;rfl';refine s 4 rfl ?_;rfl';refine s 5 rfl ?_;rfl';refine w6 (Cf rfl) ?_;rfl';refine s 6 rfl ?_;rfl';refine s 7 rfl ?_;rfl';refine s 8 rfl ?_;rfl';refine w6 (Cf rfl) ?_;rfl';refine s 9 rfl ?_;rfl';refine s 10 rfl ?_;rfl';refine w6 (Cf rfl) ?_;rfl';refine jC ?_;rfl';refine YX (Cn (i:=5) rfl) ?_;rfl';refine⟨(λe=>by cases e),λ_=>?_⟩
 rfl';refine qK (d:=.int 1) (S:=S) (by kernel_rfl!) ?_
 rfl';refine xZ (λ_=>?_) λe=>absurd rfl e;rfl';refine s 9 rfl ?_;rfl';refine xZ (λe=>absurd e (by decide)) λ_=>?_
 rfl';refine s 10 rfl ?_;rfl';refine xZ (λe=>absurd e (by decide)) λ_=>?_
 rfl';refine qK (d:=.int 5) (S:=S) (by kernel_rfl!) ?_
 exact nY (d:=.str "fars") rfl ⟨rfl,rfl⟩
noncomputable def mkD (ms:Aa Aj):D:=.tup (ms.map D.int)
noncomputable def upI (ns:Aa Aj):Ao:=(ns.zip (ns.drop 1)).all λp=>decide (p.1<p.2)
theorem tL:∀ (ks:Aa Aj),upI ks=true↔ks.Pairwise (· < ·)
 |[]=>by simp[upI]
 |[a]=>by simp[upI]
 |a::b::r=>by
  have ih:=tL (b::r);have e:upI (a::b::r)=(decide (a<b)&&upI (b::r)):=by simp[upI]
  rw[e,As,ih,Gf (a:=a),Ax];constructor
  .rintro⟨h1,h2⟩
   refine⟨λx hx=>?_,h2⟩;rcases Bg.mp hx with rfl|hx
   .exact h1
   .exact Int.lt_trans h1 ((Gf.mp h2).1 x hx)
  .rintro⟨h1,h2⟩
   exact⟨h1 b (by simp),h2⟩
theorem GY (ks ms:Aa Aj):v7 (ks.map D.int) (ms.map D.int)=(ks.zip ms).map λp=>D.tup [.int p.1,.int p.2]:=by
 unfold v7
 induction ks generalizing ms with
 |nil=>rfl
 |cons k ks ih =>
  cases ms with
  |nil=>rfl
  |cons m ms=>exact congrArg (_::·) (ih ms)
theorem NL (ns:Aa Aj)(hl:ns.length<=1000)(S:Sto):S_is_rising [mkD ns] S=.ok (.bl (upI ns)) S:=by
 rw[jU];refine x8 (zC (env:=[Ab (.tup (ns.map D.int))]) rfl ?_);rfl';have hz:vL (mQ (qA (qB 0) (qA (dSl (qB 0) (xS (dC (.int 1))) (yM)) (qC)))) [Ab (.tup (ns.map D.int))] S=.ok (none,((ns.zip (ns.drop 1)).map λp=>D.tup [.int p.1,.int p.2])) S:=by
  show Res.ok (none,v7 (ns.map D.int) (xB (ns.map D.int) (Ab 1) none)) S=_;rw[D3,<- XV,GY]
 refine kF (ns.zip (ns.drop 1)) (λp:Aj × Aj=>.bl (decide (p.1<p.2))) (λenv S'=>S'=S/\∃ a b,env=[a,b]) hz ⟨rfl,none,none,rfl⟩ ?_ (λ_ _ _=>trivial) (λx hx env S' ⟨e1,a,b,e2⟩=>?_) λenv S' ⟨e1,_⟩=>?_
 .rw[Qc]
  unfold lim
  lia
 .subst e1 e2
  rfl'
  first|exact⟨rfl,rfl,_,_,rfl⟩|exact⟨rfl,_,_,rfl⟩|exact⟨_,_,rfl⟩
 .subst e1
  rfl';exact aF ⟨rfl,rfl⟩
theorem LU (h:xs≠[]):_L.atI xs (-1)=Ab (xs.getLast h):=by
 have hp:=Nl.mpr h;have e:_L.ixN xs.length (-1)=Ab (xs.length-1):=by
  unfold _L.ixN;simp
  lia
 unfold _L.atI;rw[e];show xs[xs.length-1]? = _;rw[List.getLast_eq_getElem,AW li]
noncomputable def jJ:D->Ao
 |.tup xs=>decide (1<=xs.length/\xs.length<=100)&&(xs.all (inR 1 1000000000000)&&match xG xs with
  |some ns=>upI ns
  |none=>false)
 |_=>false
theorem FH {d:D}(h:isT d=false):jJ d=false:=by
 cases d <;> first|rfl|cases h
theorem cX:∀ {xs:Aa D},xs.all (inR 1 1000000000000)=true->∃ ns:Aa Aj,xs=ns.map D.int
 |[],_=>⟨[],rfl⟩
 |d::ds,h=>by
  rw[Ma,As] at h;obtain⟨ns,rfl⟩:=cX h.2;obtain⟨i,rfl,_⟩:=J0 h.1;exact⟨i::ns,rfl⟩
theorem Q5 {d:D}(h:Pn d)(S:Sto):S_are_fars [d] S=.ok (.bl (jJ d)) S:=by
 rw[gL];refine x8 (zC (env:=[Ab d]) rfl ?_);rfl';refine jC ?_;rfl';refine qK (DY h S) ?_;rfl';refine⟨λe=>?_,λe=>?_⟩
 .rfl'
  exact⟨by rw[FH (by simpa using e)],rfl⟩
 .cases d with
  |tup xs =>
   rfl';refine eK (b:=(xs.length:Aj)) rfl rfl rfl ?_;rfl';refine xZ (λz=>?_) λz=>?_
   .have hl:1<=xs.length/\xs.length<=100:=by omega
    rfl';refine aG ?_;rfl';refine kF (enc:=id) (o:=none) xs (λx=>.bl (inR 1 1000000000000 x)) (λenv S'=>S'=S/\∃ a,env=[a]) ((XC rfl).trans (by rw[Vu])) ⟨rfl,none,rfl⟩ (by unfold lim;omega) (λ_ _ _=>trivial) (λx hx env S' ⟨e1,a,e2⟩=>?_) λenv S' ⟨e1,_⟩=>?_
    .subst e1 e2
     rfl';refine qK (show wG (.int 10) (.int 12) S'=.ok (.int 1000000000000) S' from rfl) ?_
     rfl';exact qK (bQ (TQ h x hx) _ _ _) ⟨rfl,rfl,_,rfl⟩
    .subst e1
     rfl';refine aF ⟨_,rfl,λha=>?_,λha=>?_⟩
     .obtain⟨ns,rfl⟩:=cX ha
      rw[Ba] at hl;rfl';refine qK (NL ns om _) ⟨?_,rfl⟩;show _=D.bl (decide (1<=(ns.map D.int).length/\(ns.map D.int).length<=100)&&((ns.map D.int).all (inR 1 1000000000000)&&match xG (ns.map D.int) with|some ns=>upI ns|none=>false))
      rw[ha,Ba,Cu hl,j8];rfl
     .refine⟨?_,rfl⟩
      show _=D.bl (decide (1<=xs.length/\xs.length<=100)&&(xs.all (inR 1 1000000000000)&&match xG xs with|some ns=>upI ns|none=>false))
      rw[ha,Jd,Rg]
   .rfl'
    refine⟨?_,rfl⟩;show _=D.bl (decide (1<=xs.length/\xs.length<=100)&&(xs.all (inR 1 1000000000000)&&match xG xs with|some ns=>upI ns|none=>false))
    rw[Cj om,Jd]
  |_=>cases e
def Prm (p:Af):Prop:=2<=p/\∀ d,d∣p->d=1\/d=p
theorem Prm.dvd_mul {a b:Af}(hp:Prm p)(h:p∣a*b):p∣a\/p∣b:=by
 rcases hp.2 (Nat.gcd p a) (Vv p a) with h1|h1
 .exact .inr (Mi h1 h)
 .exact .inl (h1▸Ux p a)
theorem Prm.dvd_pow {q:Af}(hp:Prm p)(hq:Prm q):∀ {t:Af},p∣q ^ t->p=q
 |0,h=>by
  have h1:=Du (by simp) h
  have h2:=hp.1;simp only[Yo] at h1;omega
 |t+1,h=>by
  rw[Gw] at h;rcases hp.dvd_mul h with h|h
  .exact hp.dvd_pow hq h
  .rcases hq.2 p h with e|e
   .have:=hp.1
    omega
   .exact e
theorem Prm.cop {q:Af}(hp:Prm p)(hq:Prm q)(h:p≠q):Nat.Coprime p q:=by
 rcases hp.2 (Nat.gcd p q) (Vv p q) with h1|h1
 .exact h1
 .have:p∣q:=h1▸Ux p q
  rcases hq.2 p this with e|e
  .have:=hp.1
   omega
  .exact absurd e h
abbrev FL:=Aa (Af × Af)
variable {L M:FL}
noncomputable def zO:FL->Af
 |[]=>1
 |x::L=>x.1 ^ x.2*zO L
structure Fac (L:FL)(n:Af):Prop where
 prm:∀ x∈L,Prm x.1
 pos:∀ x∈L,1<=x.2
 nd:(L.map (·.1)).Nodup
 eq:zO L=n
theorem Fac.tail {x:Af × Af}{n:Af}(h:Fac (x::L) n):Fac L (zO L):=
 ⟨λy hy=>h.prm y (AT _ hy),λy hy=>h.pos y (AT _ hy),(Dy.mp h.nd).2,rfl⟩
theorem uL {q:Af}(hq:Prm q):∀ {L:FL},(∀ x∈L,Prm x.1)->q∣zO L->∃ x∈L,x.1=q
 |[],_,h=>by
  have:=Du (by decide) h
  have:=hq.1;simp[zO] at *;omega
 |x::L,hp,h=>by
  rcases hq.dvd_mul (show q∣x.1 ^ x.2*zO L from h) with h|h
  .exact⟨x,Bp ..,(hq.dvd_pow (hp x (Bp ..)) h).symm⟩
  .obtain⟨y,h1,h2⟩:=uL hq (λy hy=>hp y (AT _ hy)) h
   exact⟨y,AT _ h1,h2⟩
theorem fD:∀ {L:FL} {n:Af},Fac L n->∀ {p t:Af},(p,t)∈L->p ^ t∣n/\¬ p ^ (t+1)∣n
 |x::L,n,h,p,t,hm=>by
  have he:x.1 ^ x.2*zO L=n:=h.eq;have nd:=Dy.mp h.nd;have hx:=h.prm x (Bp ..);rcases Bg.mp hm with e|hm
  .subst e
   refine⟨⟨_,he.symm⟩,λhd=>?_⟩;rw[<- he,Gw] at hd;have:p∣zO L:=Nat.dvd_of_mul_dvd_mul_left (Vw (by have:=hx.1;show 0<p;simp at this;omega)) hd
   obtain⟨y,h1,h2⟩:=uL hx (λy hy=>h.prm y (AT _ hy)) this;exact nd.1 (Ce.mpr ⟨y,h1,h2⟩)
  .obtain⟨h1,h2⟩:=fD h.tail hm
   have hp:Prm p:=h.prm (p,t) (AT _ hm);refine⟨he▸IC h1 _,λhd=>h2 ?_⟩;rw[<- he] at hd;have hne:p≠x.1:=λe=>nd.1 (Ce.mpr ⟨(p,t),hm,e⟩);exact Mi (Nat.Coprime.pow _ _ (hp.cop hx hne)) hd
theorem rW {n:Af}(hL:Fac L n)(hM:Fac M n):∀ x∈L,x∈M:=λx hx=>by
 obtain⟨p,t⟩:=x;obtain⟨h1,h2⟩:=fD hL hx;have hp:Prm p:=hL.prm (p,t) hx;have ht:1<=t:=hL.pos (p,t) hx;have hd:p∣zO M:=by
  rw[hM.eq];refine Gb ?_ h1;obtain⟨k,rfl⟩:∃ k,t=k+1:=⟨t-1,by omega⟩
  rw[Gw];exact Mj _ _
 obtain⟨y,h3,h4⟩:=uL hp hM.prm hd;obtain⟨q,s⟩:=y;simp at h4;subst h4;obtain⟨h5,h6⟩:=fD hM h3;have:t=s:=by
  rcases Nat.lt_trichotomy t s with g|g|g
  .exact absurd (Gb (Wn q g) h5) h2
  .exact g
  .exact absurd (Gb (Wn q g) h1) h6
 subst this;exact h3
theorem YU (h:(L.map (·.1)).Nodup):L.Nodup:=by
 induction L with
 |nil=>exact Xe
 |cons x L ih =>
  have h':=Dy.mp h;exact Dy.mpr ⟨λhx=>h'.1 (Ce.mpr ⟨x,hx,rfl⟩),ih h'.2⟩
theorem X6 {n:Af}(hL:Fac L n)(hM:Fac M n):L.Perm M:=
 (List.perm_ext_iff_of_nodup (YU hL.nd) (YU hM.nd)).mpr λx=>⟨rW hL hM x,rW hM hL x⟩
noncomputable def sg (x:Af × Af):Aj:=if x.1 % 4=1 then (x.2:Aj)+1 else if x.1 % 4=3/\x.2 % 2=1 then 0 else 1
noncomputable def sgn:FL->Aj
 |[]=>1
 |x::L=>sg x*sgn L
theorem Y3 (h:L.Perm M):sgn L=sgn M:=by
 induction h with
 |nil=>rfl
 |cons x _ ih=>simp only[sgn,ih]
 |swap x y L=>simp only[sgn];exact Uy _ _ _
 |trans _ _ h1 h2=>exact h1.trans h2
theorem hX {n:Af}(hL:Fac L n)(hM:Fac M n):sgn L=sgn M:=Y3 (X6 hL hM)
noncomputable def inc (p:Af):FL->FL
 |[]=>[(p,1)]
 |x::L=>if x.1=p then (p,x.2+1)::L else x::inc p L
noncomputable def cnt (p:Af):FL->Af
 |[]=>0
 |x::L=>if x.1=p then x.2 else cnt p L
set_option tactic.hygienic true in
theorem dX (p:Af):∀ L:FL,zO (inc p L)=p*zO L
 |[]=>by simp[inc,zO]
 |x::L=>by
  unfold inc
  split
  .rename_i h
   simp only[zO];rw[h,Gw];rw[Dw (p ^ x.2) p,Ig]
  .simp only[zO,dX p L]
   exact OC _ _ _
set_option tactic.hygienic true in
theorem d7 (p:Af):∀ (L:FL) (q:Af),q∈(inc p L).map (·.1)↔q=p\/q∈L.map (·.1)
 |[],q=>by simp[inc]
 |x::L,q=>by
  unfold inc
  split
  .rename_i h
   simp only[Bt,Bg,h];constructor
   .rintro (h|h)
    .exact .inl h
    .exact .inr (.inr h)
   .rintro (h|h|h)
    .exact .inl h
    .exact .inl h
    .exact .inr h
  .simp only[Bt,Bg,d7 p L q]
   constructor
   .rintro (h|h|h)
    .exact .inr (.inl h)
    .exact .inl h
    .exact .inr (.inr h)
   .rintro (h|h|h)
    .exact .inr (.inl h)
    .exact .inl h
    .exact .inr (.inr h)
set_option tactic.hygienic true in
theorem o6 (p:Af):∀ {L:FL},(L.map (·.1)).Nodup->((inc p L).map (·.1)).Nodup
 |[],_=>by simp[inc]
 |x::L,h=>by
  have h':=Dy.mp h;unfold inc
  split
  .rename_i e
   simp only[Bt];rw[<- e];exact h
  .rename_i e
   simp only[Bt];refine Dy.mpr ⟨λhm=>?_,o6 p h'.2⟩;rcases (d7 p L x.1).mp hm with e'|hm
   .exact e e'
   .exact h'.1 hm
theorem pT:∀ {L:FL} {x:Af × Af},x∈inc p L->(x.1=p/\1<=x.2)\/x∈L
 |[],x,h=>by
  have:x=(p,1):=by simpa [inc] using h
  subst this;exact .inl ⟨rfl,Aq _⟩
 |y::L,x,h=>by
  unfold inc at h
  split at h
  .rcases Bg.mp h with e|h
   .subst e
    exact .inl ⟨rfl,by simp⟩
   .exact .inr (AT _ h)
  .rcases Bg.mp h with e|h
   .subst e
    exact .inr (Bp ..)
   .rcases pT h with h|h
    .exact .inl h
    .exact .inr (AT _ h)
theorem Fac.inc {n:Af}(h:Fac L n)(hp:Prm p):Fac (_K.inc p L) (p*n) where
 prm:=λx hx=>by
  rcases pT hx with⟨e,_⟩|hx
  .rw[e];exact hp
  .exact h.prm x hx
 pos:=λx hx=>by
  rcases pT hx with⟨_,e⟩|hx
  .exact e
  .exact h.pos x hx
 nd:=o6 p h.nd
 eq:=by rw[dX,h.eq]
theorem jZ:Fac [] 1:=⟨by simp,by simp,by simp,rfl⟩
noncomputable def kvD (L:FL):Aa (_L.Key × D):=L.map λx=>(.inl (x.1:Aj),.int (x.2:Aj))
theorem QU (p:Af):∀ L:FL,(yY (kvD L) (.inl (p:Aj))).getD (.int 0)=.int (cnt p L:Aj)
 |[]=>rfl
 |x::L=>by
  have ih:=QU p L;unfold cnt;by_cases h:x.1=p
  .rw[AS h]
   have:yY (kvD (x::L)) (.inl (p:Aj))=Ab (.int (x.2:Aj)):=by simp[yY,kvD,h]
   rw[this];rfl
  .rw[AX h]
   have hne:¬ ((Ei (x.1:Aj):_L.Key)=Ei (p:Aj)):=λe=>h (by injection e with e;omega)
   have:yY (kvD (x::L)) (.inl (p:Aj))=yY (kvD L) (.inl (p:Aj)):=by simp only[yY,kvD,Bt,Hx,hne,Iy]
   rw[this];exact ih
theorem PM (p:Af)(L:FL):(kvD L).any (λkv=>decide (kv.1=(.inl (p:Aj):_L.Key)))=true↔p∈L.map (·.1):=by
 simp only[kvD,Ub,Vx,Ya,Ax,Ce];constructor
 .rintro⟨x,h1,h2⟩
  injection h2 with h2
  exact⟨x,h1,by omega⟩
 .rintro⟨x,h1,h2⟩
  exact⟨x,h1,by rw[h2]⟩
theorem o3 {d:D}:∀ {L:FL},p ∉ L.map (·.1)->((kvD L).map λkv=>if kv.1=(.inl (p:Aj):_L.Key) then (kv.1,d) else kv)=kvD L
 |[],_=>rfl
 |x::L,h=>by
  simp only[Bt,Bg,Xk] at h;have hne:¬ ((Ei (x.1:Aj):_L.Key)=Ei (p:Aj)):=λe=>h.1 (by injection e with e;omega)
  show (if (Ei (x.1:Aj):_L.Key)=Ei (p:Aj) then _ else _)::((kvD L).map _)=_
  rw[AX hne,o3 h.2];rfl
theorem dY (p:Af):∀ {L:FL},(L.map (·.1)).Nodup->yQ (kvD L) (.inl (p:Aj)) (.int ((cnt p L:Aj)+1))=kvD (inc p L)
 |[],_=>rfl
 |x::L,h=>by
  have h':=Dy.mp h;have ih:=dY p h'.2;by_cases e:x.1=p
  .have hin:((kvD (x::L)).any λkv=>decide (kv.1=(.inl (p:Aj):_L.Key)))=true:=(PM p _).mpr (by simp[e])
   have hnot:p ∉ L.map (·.1):=e▸h'.1
   unfold yQ;rw[AS hin];show (if (Ei (x.1:Aj):_L.Key)=Ei (p:Aj) then _ else _)::((kvD L).map _)=_
   rw[o3 hnot,AS (by rw[e])]
   simp[cnt,inc,e,kvD]
  .have hne:¬ ((Ei (x.1:Aj):_L.Key)=Ei (p:Aj)):=λq=>e (by injection q with q;omega)
   have hc:cnt p (x::L)=cnt p L:=by simp[cnt,e]
   have hi:inc p (x::L)=x::inc p L:=by simp[inc,e]
   rw[hc,hi];have hany:((kvD (x::L)).any λkv=>decide (kv.1=(.inl (p:Aj):_L.Key)))=((kvD L).any λkv=>decide (kv.1=(.inl (p:Aj):_L.Key))):=by
    show (decide ((Ei (x.1:Aj):_L.Key)=Ei (p:Aj))||_)=_
    rw[Cj hne,Xp];rfl
   unfold yQ at ih ⊢;rw[hany];show _=(.inl (x.1:Aj),.int (x.2:Aj))::kvD (inc p L);rw[<- ih]
   split
   .show (if (Ei (x.1:Aj):_L.Key)=Ei (p:Aj) then _ else _)::((kvD L).map _)=_
    rw[AX hne]
   .rfl
theorem c7:∀ {L:FL},(∀ x∈L,Prm x.1)->(∀ x∈L,1<=x.2)->2 ^ L.length<=zO L
 |[],_,_=>by simp[zO]
 |x::L,hp,ht=>by
  have ih:=c7 (L:=L) (λy hy=>hp y (AT _ hy)) (λy hy=>ht y (AT _ hy));have h1:=(hp x (Bp ..)).1;have h2:=ht x (Bp ..);have h3:2<=x.1 ^ x.2:=by
   obtain⟨k,hk⟩:∃ k,x.2=k+1:=⟨x.2-1,by omega⟩
   rw[hk,Gw];have:1<=x.1 ^ k:=Vw om
   calc 2<=1*x.1:=by omega
    _<=x.1 ^ k*x.1:=Fn _ this
  show 2 ^ (L.length+1)<=x.1 ^ x.2*zO L;rw[Gw,Dw];exact Go h3 ih
theorem Fac.short {n:Af}(h:Fac L n)(hn:n<=1000000000000):L.length<40:=by
 have h1:=c7 h.prm h.pos;rw[h.eq] at h1;rcases Eg L.length 40 with g|g
 .exact g
 .have:2 ^ 40<=2 ^ L.length:=Ms om g
  omega
def itD (x:Af × Af):D:=.tup [.int (x.1:Aj),.int (x.2:Aj)]
theorem lY (L:FL)(p:Af)(S:Sto)(env:qD)(i j n:Af)(hj:env[j]? = Ab (Ab (.loc n)))(hi:env[i]? = Ab (Ab (.int (p:Aj))))(hS:S[n]? = Ab (.dct (kvD L)))(nd:(L.map (·.1)).Nodup)(hl:L.length<4000) :
  qV (d2 qY (dBm "dict" uJ (qB j) (qA (qB i) (qA (dC (.int 0)) (qC)))) (dC (.int 1))) (gSb (qB j) (qB i) zS) env S=.nx env (S.set n (.dct (kvD (inc p L)))):=by
 have hty:tyD (.loc n) S=Ab "dict":=by simp[tyD,hS]
 have hg:uJ (.loc n) [.int (p:Aj),.int 0] S=.ok (.int (cnt p L:Aj)) S:=by
  simp only[uJ,hS,vU];rw[QU]
 have hlim:(kvD L).length<lim:=by
  simp only[kvD,Ba];unfold lim;omega
 have hs:zS (.loc n) (.int (p:Aj)) (.int ((cnt p L:Aj)+1)) S=.ok () (S.set n (.dct (kvD (inc p L)))):=by
  simp only[zS,hS,vU,hlim,Cq,dY p nd]
 simp only[qV,d2,dBm,qB,hj,hi,Res.bind,hty,Em,Cq,qA,qC,dC,hg,lW,gSb,hs,Res.toS]
theorem SA (a b c:Af)(S:Sto)(env:qD)(i j:Af)(hi:env[i]? = Ab (Ab (.int (a:Aj))))(hj:env[j]? = Ab (Ab (.int (b:Aj))))(ha:a<1000000000):dTr (d2 gLe (d2 zD (qB i) (qB i)) (qB j)) env S=.ok (decide (a*a<=b)) S:=by
 have h1:=rZ (a:Aj) (a:Aj) S ⟨by omega,by omega⟩
 have e:decide ((a:Aj)*(a:Aj)<=(b:Aj))=decide (a*a<=b):=by
  rw[Qe,Ax,Ax];constructor
  .intro h;exact_mod_cast h
  .intro h;exact_mod_cast h
 simp only[dTr,d2,qB,hi,hj,Res.bind,h1,gLe,i2,Cq,QR,_D.vV,e]
theorem dE (a b:Af)(S:Sto)(env:qD)(i j:Af)(hi:env[i]? = Ab (Ab (.int (a:Aj))))(hj:env[j]? = Ab (Ab (.int (b:Aj))))(hb:0<b):dTr (d2 gEq (d2 zW (qB i) (qB j)) (dC (.int 0))) env S=.ok (decide (b∣a)) S:=by
 have h1:=mW (a:Aj) (b:Aj) S om;have e:decide ((a:Aj) % (b:Aj)=0)=decide (b∣a):=by
  rw[Qe,Ax,Ax];rw[Nat.dvd_iff_mod_eq_zero];omega
 simp only[dTr,d2,qB,hi,hj,dC,Res.bind,h1,vC,QR,_D.vV,e]
theorem fV {d n:Af}(hd:2<=d)(h:d∣n)(hm:∀ e,2<=e->e<d->¬ e∣n):Prm d:=⟨hd,λe he=>by
 have hle:=Du om he;have hpos:0<e:=Mk he om;rcases Eg e 2 with g|g
 .left;omega
 .rcases Eg e d with g2|g2
  .exact absurd (Gb he h) (hm e g g2)
  .right;omega⟩
theorem gE {d n:Af}(hn:2<=n)(h:n<d*d)(hm:∀ e,2<=e->e<d->¬ e∣n):Prm n:=⟨hn,λe he=>by
 have hle:=Du om he;have hpos:0<e:=Mk he om;obtain⟨f,hf⟩:=he;by_cases h1:e=1
 .exact .inl h1
 .by_cases h2:f=1
  .right;rw[hf,h2,Kj]
  .exfalso
   have hf0:0<f:=by
    rcases Gh f with g|g
    .rw[g] at hf;omega
    .exact g
   have ge:d<=e:=by
    rcases Eg e d with g|g
    .exact absurd ⟨f,hf⟩ (hm e om g)
    .exact g
   have gf:d<=f:=by
    rcases Eg f d with g|g
    .exact absurd ⟨e,by rw[hf,Dw]⟩ (hm f om g)
    .exact g
   have:=Go ge gf;omega⟩
theorem uE (S:Sto)(m m':MO):(S++[m]).set S.length m'=S++[m']:=by simp
theorem yA (L:FL)(S:Sto)(env:qD)(h1:env[1]? = Ab (Ab (.loc S.length))):wA (qB 1) env (S++[.dct (kvD L)])=.ok (.lst (L.map itD)) (S++[.dct (kvD L)]):=by
 have hat:(S++[MO.dct (kvD L)])[S.length]? = Ab (.dct (kvD L)):=by simp
 have e:((kvD L).map λp=>D.tup [kD p.1,p.2])=L.map itD:=by
  unfold kvD;rw[Ft];rfl
 simp only[wA,qB,h1,Res.bind,hat,e]
inductive IvPrimes (n:Af)(S:Sto)(m:Af)(env:qD)(S':Sto):Prop
 |mk (L:FL) (a qL dv:Af) (h_0:m=2*(qL+1)-dv) (h_1:env=[Ab (.int (n:Aj)),Ab (.loc S.length),Ab (.int (qL:Aj)),Ab (.int (dv:Aj))]) (h_2:S'=S++[.dct (kvD L)]) (h_3:Fac L a) (h_4:a*qL=n) (h_5:1<=qL) (h_6:2<=dv) (h_7:dv<=1000002) (h_8:(dv=2\/dv % 2=1)) (h_9:∀ d,2<=d->d<dv->¬ d∣qL):IvPrimes n S m env S'
theorem WY (n:Af)(S:Sto)(hn:1<=n/\n<=1000000000000):∃ (L:FL) (S':Sto),S_primes_in [.int (n:Aj)] S=.ok (.lst (L.map itD)) S'/\Fac L n/\S<+:S':=by
 have key:Rt (b_primes_in [Ab (.int (n:Aj)),none,none,none] S) λd S'=>∃ L:FL,d=.lst (L.map itD)/\Fac L n/\S<+:S':=by
  unfold b_primes_in;refine kK (dI (qK (d:=.loc S.length) (S:=S++[.dct []]) rfl ?_));refine kK (dI (qK (d:=.int (n:Aj)) (S:=S++[.dct []]) rfl ?_));refine kK (dI (qK (d:=.int 2) (S:=S++[.dct []]) rfl ?_));simp only[Kq,IG];refine kK ?_;have hbig:2*(n+1)<big:=by rw[gS];omega
  refine W6 (IvPrimes n S) ?_ (n:=2*(n+1)-2) om ?_
  .rintro m env S' ⟨L,a,qL,dv,rfl,rfl,rfl,hF,har,hr,hd2,hdm,hpar,hmin⟩
   have hrn:qL<=n:=by
    have:qL∣n:=⟨a,by rw[Dw];exact har.symm⟩
    exact Du om this
   have han:a<=n:=Du om ⟨qL,har.symm⟩;have hs:=hF.short om;refine⟨decide (dv*dv<=qL),S++[.dct (kvD L)],SA dv qL 0 _ _ 3 2 rfl rfl om,?_⟩;by_cases ht:dv*dv<=qL
   .rw[Cu ht]
    simp only[Cq];have hdr:dv<=qL:=Bu (IS dv om) ht;have hd6:dv<=1000000:=by
     rcases Eg 1000000 dv with g|g
     .have:1000001*1000001<=dv*dv:=Go g g
      omega
     .exact g
    refine aE (b:=decide (dv∣qL)) (S1:=S++[.dct (kvD L)]) (dE qL dv _ _ 2 3 rfl rfl om) ?_;by_cases hdv:dv∣qL
    .rw[Cu hdv]
     simp only[Cq];have hat:(S++[MO.dct (kvD L)])[S.length]? = Ab (.dct (kvD L)):=by simp
     have i1:=lY L dv (S++[.dct (kvD L)]) [Ab (.int (n:Aj)),Ab (.loc S.length),Ab (.int (qL:Aj)),Ab (.int (dv:Aj))] 3 1 S.length rfl rfl hat hF.nd om;rw[uE] at i1;refine M8 (pU i1 ?_);obtain⟨r',hr'⟩:=hdv;have hr0:0<r':=by
      rcases Gh r' with g|g
      .rw[g] at hr';omega
      .exact g
     have hdiv:=UW (qL:Aj) (dv:Aj) (S++[.dct (kvD (inc dv L))]) ⟨by omega,by omega⟩
     have hq:(qL:Aj)/(dv:Aj)=(r':Aj):=by
      have:qL/dv=r':=by rw[hr'];exact Ky _ om
      omega
     rw[hq] at hdiv;refine pU (env:=[Ab (.int (n:Aj)),Ab (.loc S.length),Ab (.int (r':Aj)),Ab (.int (dv:Aj))]) (S:=S++[.dct (kvD (inc dv L))]) (by simp[qP,xV,eP,eO,CF,qO,sIf,qT,zB,yV,qV,gNm,gSb,gTp,xD,vZ,bR,H0,vF,dC,qB,d1,d2,qA,qC,qQ,qI,dTr,yL,jH,y8,vB,dIf,gW,ZN,wF,xP,zU,nR,dBm,dSl,xS,yM,w4,mP,Res.bind,Res.toS,_D.vV,_D.vW,QR,CG,CD,CC,CH,gLt,gLe,gGt,gGe,_D.uK,pR,hdiv]) ?_
     have hp:=fV hd2 ⟨r',hr'⟩ hmin;refine⟨2*(r'+1)-dv,?_,inc dv L,dv*a,r',dv,rfl,rfl,rfl,hF.inc hp,?_,hr0,hd2,hdm,hpar,λd h1 h2 h3=>hmin d h1 h2 (hr'▸IC h3 _)⟩
     .have:2*r'<=qL:=by
       rw[hr'];exact Fn _ hd2
      omega
     .rw[<- har,hr']
      rw[Dw dv a,Ig]
    .rw[Cj hdv]
     simp only[Cd,Ff];by_cases h2:dv=2
     .subst h2
      refine pU (env:=[Ab (.int (n:Aj)),Ab (.loc S.length),Ab (.int (qL:Aj)),Ab (.int ((3:Af):Aj))]) (S:=S++[.dct (kvD L)]) (by simp[qP,xV,eP,eO,CF,qO,sIf,qT,zB,yV,qV,gNm,gSb,gTp,xD,vZ,bR,H0,vF,dC,qB,d1,d2,qA,qC,qQ,qI,dTr,yL,jH,y8,vB,dIf,gW,ZN,wF,xP,zU,nR,dBm,dSl,xS,yM,w4,mP,Res.bind,Res.toS,_D.vV,_D.vW,QR,CG,CD,CC,CH,gLt,gLe,gGt,gGe,_D.uK,pR,vC]) ?_
      refine⟨2*(qL+1)-3,by omega,L,a,qL,3,rfl,rfl,rfl,hF,har,hr,by omega,by omega,by omega,λd h1 h3 h4=>?_⟩
      have:d=2:=by omega
      subst this;exact hdv h4
     .have hne:¬ ((dv:Aj)=2):=by omega
      refine pU (env:=[Ab (.int (n:Aj)),Ab (.loc S.length),Ab (.int (qL:Aj)),Ab (.int ((dv+2:Af):Aj))]) (S:=S++[.dct (kvD L)]) (by simp[qP,xV,eP,eO,CF,qO,sIf,qT,zB,yV,qV,gNm,gSb,gTp,xD,vZ,bR,H0,vF,dC,qB,d1,d2,qA,qC,qQ,qI,dTr,yL,jH,y8,vB,dIf,gW,ZN,wF,xP,zU,nR,dBm,dSl,xS,yM,w4,mP,Res.bind,Res.toS,_D.vV,_D.vW,QR,CG,CD,CC,CH,gLt,gLe,gGt,gGe,_D.uK,pR,vC,hne]) ?_
      refine⟨2*(qL+1)-(dv+2),by omega,L,a,qL,dv+2,rfl,rfl,rfl,hF,har,hr,by omega,by omega,by omega,λd h1 h3 h4=>?_⟩
      rcases Eg d dv with g|g
      .exact hmin d h1 g h4
      .by_cases g2:d=dv
       .subst g2;exact hdv h4
       .have g3:d=dv+1:=by omega
        have h5:2∣d:=by omega
        exact hmin 2 om om (Gb h5 h4)
   .rw[Cj ht]
    simp only[Cd,Ff];by_cases h1:qL=1
    .subst h1
     refine kK (aE (b:=false) (S1:=S++[.dct (kvD L)]) (by simp[qP,xV,eP,eO,CF,qO,sIf,qT,zB,yV,qV,gNm,gSb,gTp,xD,vZ,bR,H0,vF,dC,qB,d1,d2,qA,qC,qQ,qI,dTr,yL,jH,y8,vB,dIf,gW,ZN,wF,xP,zU,nR,dBm,dSl,xS,yM,w4,mP,Res.bind,Res.toS,_D.vV,_D.vW,QR,CG,CD,CC,CH,gLt,gLe,gGt,gGe,_D.uK,pR,Res.bind]) (pU (env:=[Ab (.int (n:Aj)),Ab (.loc S.length),Ab (.int ((1:Af):Aj)),Ab (.int (dv:Aj))]) (S:=S++[.dct (kvD L)]) rfl ?_))
     refine QD (qK (d:=.lst (L.map itD)) (S:=S++[.dct (kvD L)]) ?_ ⟨L,rfl,?_,Fi _ _⟩)
     .exact yA L S _ rfl
     .rw[Kj] at har
      exact har▸hF
    .have hp:=gE (by omega:2<=qL) om hmin
     have hgt:(1:Aj)<(qL:Aj):=by omega
     have hat:(S++[MO.dct (kvD L)])[S.length]? = Ab (.dct (kvD L)):=by simp
     have i1:=lY L qL (S++[.dct (kvD L)]) [Ab (.int (n:Aj)),Ab (.loc S.length),Ab (.int (qL:Aj)),Ab (.int (dv:Aj))] 2 1 S.length rfl rfl hat hF.nd om;rw[uE] at i1;refine kK (aE (b:=true) (S1:=S++[.dct (kvD L)]) (by simp[qP,xV,eP,eO,CF,qO,sIf,qT,zB,yV,qV,gNm,gSb,gTp,xD,vZ,bR,H0,vF,dC,qB,d1,d2,qA,qC,qQ,qI,dTr,yL,jH,y8,vB,dIf,gW,ZN,wF,xP,zU,nR,dBm,dSl,xS,yM,w4,mP,Res.bind,Res.toS,_D.vV,_D.vW,QR,CG,CD,CC,CH,gLt,gLe,gGt,gGe,_D.uK,pR,hgt]) ?_)
     simp only[Cq];refine pU i1 ?_;refine QD (qK (d:=.lst ((inc qL L).map itD)) (S:=S++[.dct (kvD (inc qL L))]) ?_ ⟨inc qL L,rfl,?_,Fi _ _⟩)
     .exact yA (inc qL L) S _ rfl
     .have:=hF.inc hp
      rw[Dw,har] at this;exact this
  .exact⟨[],1,n,2,rfl,rfl,rfl,jZ,by omega,hn.1,by omega,by omega,.inl rfl,λd h1 h2=>by omega⟩
 obtain⟨d,S',e,L,rfl,h1,h2⟩:=key;exact⟨L,S',by rw[jW];exact NM rfl e,h1,h2⟩
def vT:DS:=sIf (dTr (d2 gEq (d2 zW (qB 2) (dC (.int 4))) (dC (.int 1)))) (vF 1 zD (d2 qY (qB 3) (dC (.int 1)))) (sIf (y8 (dTr (d2 gEq (d2 zW (qB 2) (dC (.int 4))) (dC (.int 3)))) (dTr (d2 gEq (d2 zW (qB 3) (dC (.int 2))) (dC (.int 1))))) (qT (dC (.int 0))) (zB))
def kY:DG:=gTp 2 (xD (gNm 2) (xD (gNm 3) (vZ)))
theorem LV:b_points_by_primes=qO (qV (dC (.int 4)) (gNm 1)) (qO (wW (w4 (qB 0)) kY vT) (qT (qB 1))):=rfl
theorem UU (a:Al D)(m p t:Aj)(S:Sto)(hm:0<=m/\m<=4000000000000)(hp:0<=p)(ht:0<=t) :
  vT [a,Ab (.int m),Ab (.int p),Ab (.int t)] S=(if p % 4=1 then .nx [a,Ab (.int (m*(t+1))),Ab (.int p),Ab (.int t)] S else if p % 4=3/\t % 2=1 then .rt (.int 0) S else .nx [a,Ab (.int m),Ab (.int p),Ab (.int t)] S):=by
 have h1:=mW p 4 S om;have h2:=mW t 2 S om;have h3:=rZ m (t+1) S ⟨by omega,by omega⟩
 unfold vT;by_cases e1:p % 4=1
 .simp[qP,xV,eP,eO,CF,qO,sIf,qT,zB,yV,qV,gNm,gSb,gTp,xD,vZ,bR,H0,vF,dC,qB,d1,d2,qA,qC,qQ,qI,dTr,yL,jH,y8,vB,dIf,gW,ZN,wF,xP,zU,nR,dBm,dSl,xS,yM,w4,mP,Res.bind,Res.toS,_D.vV,_D.vW,QR,CG,CD,CC,CH,gLt,gLe,gGt,gGe,_D.uK,pR,h1,vC,e1,h3,lW]
 .by_cases e2:p % 4=3
  .by_cases e3:t % 2=1
   .simp[qP,xV,eP,eO,CF,qO,sIf,qT,zB,yV,qV,gNm,gSb,gTp,xD,vZ,bR,H0,vF,dC,qB,d1,d2,qA,qC,qQ,qI,dTr,yL,jH,y8,vB,dIf,gW,ZN,wF,xP,zU,nR,dBm,dSl,xS,yM,w4,mP,Res.bind,Res.toS,_D.vV,_D.vW,QR,CG,CD,CC,CH,gLt,gLe,gGt,gGe,_D.uK,pR,h1,h2,vC,e2,e3]
   .simp[qP,xV,eP,eO,CF,qO,sIf,qT,zB,yV,qV,gNm,gSb,gTp,xD,vZ,bR,H0,vF,dC,qB,d1,d2,qA,qC,qQ,qI,dTr,yL,jH,y8,vB,dIf,gW,ZN,wF,xP,zU,nR,dBm,dSl,xS,yM,w4,mP,Res.bind,Res.toS,_D.vV,_D.vW,QR,CG,CD,CC,CH,gLt,gLe,gGt,gGe,_D.uK,pR,h1,h2,vC,e2,e3]
  .simp[qP,xV,eP,eO,CF,qO,sIf,qT,zB,yV,qV,gNm,gSb,gTp,xD,vZ,bR,H0,vF,dC,qB,d1,d2,qA,qC,qQ,qI,dTr,yL,jH,y8,vB,dIf,gW,ZN,wF,xP,zU,nR,dBm,dSl,xS,yM,w4,mP,Res.bind,Res.toS,_D.vV,_D.vW,QR,CG,CD,CC,CH,gLt,gLe,gGt,gGe,_D.uK,pR,h1,vC,e1,e2]
theorem RI (x:Af × Af):0<=sg x:=by
 unfold sg
 split
 .omega
 .split <;> omega
theorem dW (p t:Af)(hp:2<=p):t+1<=p ^ t:=by
 induction t with
 |zero=>simp
 |succ t ih =>
  rw[Gw];have:=Go ih hp;omega
theorem bN (a:Al D)(S:Sto):∀ (L:FL) (m:Af) (e2 e3:Al D),(∀ x∈L,Prm x.1)->m*zO L<=4000000000000 ->
  (∃ e2' e3',xI kY vT (L.map itD) [a,Ab (.int (m:Aj)),e2,e3] S=.nx [a,Ab (.int ((m:Aj)*sgn L)),e2',e3'] S)\/(xI kY vT (L.map itD) [a,Ab (.int (m:Aj)),e2,e3] S=.rt (.int 0) S/\sgn L=0)
 |[],m,e2,e3,_,_=>.inl ⟨e2,e3,by simp[xI,sgn]⟩
 |x::L,m,e2,e3,hp,hb=>by
  have hx:=(hp x (Bp ..)).1;have hp':∀ y∈L,Prm y.1:=λy hy=>hp y (AT _ hy);have hpos:1<=zO L:=by
   have:∀ M:FL,(∀ y∈M,Prm y.1)->1<=zO M:=by
    intro M
    induction M with
    |nil=>intro _;exact Aq _
    |cons y M ih =>
     intro h;have h1:=ih λz hz=>h z (AT _ hz);have h2:1<=y.1 ^ y.2:=Vw (by have:=(h y (Bp ..)).1;omega)
     exact Go h2 h1
   exact this L hp'
  have hpw:=dW x.1 x.2 hx;have hb':m*(x.1 ^ x.2*zO L)<=4000000000000:=hb;have hq:1<=x.1 ^ x.2*zO L:=Go (show 1<=x.1 ^ x.2 by omega) hpos
  have hm:m<=4000000000000:=Bu (Nat.le_mul_of_pos_right m hq) hb';have hg:kY (itD x) [a,Ab (.int (m:Aj)),e2,e3] S=.ok [a,Ab (.int (m:Aj)),Ab (.int (x.1:Aj)),Ab (.int (x.2:Aj))] S:=rfl;have hf:=UU a (m:Aj) (x.1:Aj) (x.2:Aj) S ⟨by omega,by omega⟩ om om
  have hstep:xI kY vT ((x::L).map itD) [a,Ab (.int (m:Aj)),e2,e3] S=(match vT [a,Ab (.int (m:Aj)),Ab (.int (x.1:Aj)),Ab (.int (x.2:Aj))] S with
   |.nx env2 S2=>xI kY vT (L.map itD) env2 S2
   |.ct env2 S2=>xI kY vT (L.map itD) env2 S2
   |.bk env2 S2=>.nx env2 S2
   |o=>o):=by
   rw[Bt]
   conv=>lhs;unfold xI
   simp only[hg,Res.toS] <;> cases vT [a,Ab (.int (m:Aj)),Ab (.int (x.1:Aj)),Ab (.int (x.2:Aj))] S <;> rfl
  rw[hstep,hf];by_cases e1:x.1 % 4=1
  .have e1':(x.1:Aj) % 4=1:=by omega
   rw[AS e1'];have hsg:sg x=(x.2:Aj)+1:=by unfold sg;rw[AS e1]
   have hcast:((m:Aj)*((x.2:Aj)+1))=((m*(x.2+1):Af):Aj):=by simp
   rw[hcast];have hb2:m*(x.2+1)*zO L<=4000000000000:=by
    refine Bu ?_ hb';rw[Ig];exact Nm _ (Fn _ hpw)
   rcases bN a S L (m*(x.2+1)) (Ab (.int (x.1:Aj))) (Ab (.int (x.2:Aj))) hp' hb2 with⟨u,v,h⟩|⟨h,h0⟩
   .refine .inl ⟨u,v,?_⟩
    simp only[h,sgn,hsg];rw[<- hcast,OD]
   .refine .inr ⟨h,?_⟩
    simp only[sgn,h0,Pd]
  .have e1':¬ (x.1:Aj) % 4=1:=by omega
   rw[AX e1'];by_cases e2:x.1 % 4=3/\x.2 % 2=1
   .have e2':(x.1:Aj) % 4=3/\(x.2:Aj) % 2=1:=by omega
    rw[AS e2'];refine .inr ⟨rfl,?_⟩;have:sg x=0:=by unfold sg;rw[AX e1,AS e2]
    simp only[sgn,this,Yp]
   .have e2':¬ ((x.1:Aj) % 4=3/\(x.2:Aj) % 2=1):=by omega
    rw[AX e2'];have hsg:sg x=1:=by unfold sg;rw[AX e1,AX e2]
    have hb2:m*zO L<=4000000000000:=by
     refine Bu (Nm _ ?_) hb';exact IS _ (show 0<x.1 ^ x.2 by omega)
    rcases bN a S L m (Ab (.int (x.1:Aj))) (Ab (.int (x.2:Aj))) hp' hb2 with⟨u,v,h⟩|⟨h,h0⟩
    .refine .inl ⟨u,v,?_⟩
     simp only[h,sgn,hsg,Za]
    .refine .inr ⟨h,?_⟩
     simp only[sgn,h0,Pd]
theorem V5 (L:FL)(n:Af)(S:Sto)(h:Fac L n)(hn:n<=1000000000000):S_points_by_primes [.lst (L.map itD)] S=.ok (.int (4*sgn L)) S:=by
 rw[yG,LV];have hs:xV 4 [.lst (L.map itD)]=[Ab (.lst (L.map itD)),none,none,none]:=rfl;have hi:w4 (qB 0) [Ab (.lst (L.map itD)),Ab (.int 4),none,none] S=.ok (L.map itD) S:=rfl;rcases bN (Ab (.lst (L.map itD))) S L 4 none none h.prm (by rw[h.eq];omega) with⟨u,v,e⟩|⟨e,e0⟩
 .have e':xI kY vT (L.map itD) [Ab (.lst (L.map itD)),Ab (.int 4),none,none] S=_:=e
  unfold qP;rw[hs];simp only[qO,qV,dC,gNm,Res.toS,wW,Kq,IG,hi,e',qT,qB,Kz,Pb,eP,eO];rfl
 .have e':xI kY vT (L.map itD) [Ab (.lst (L.map itD)),Ab (.int 4),none,none] S=_:=e
  unfold qP;rw[hs];simp only[qO,qV,dC,gNm,Res.toS,wW,Kq,IG,hi,e',qT,qB,eP,eO,e0];rfl
theorem WX (n:Af)(S:Sto)(M:FL)(hM:Fac M n)(hn:1<=n/\n<=1000000000000):∃ S',S_circle_points [.int (n:Aj)] S=.ok (.int (4*sgn M)) S'/\S<+:S':=by
 obtain⟨L,S',e,hL,hp⟩:=WY n S hn;have h2:=V5 L n S' hL hn.2;rw[hX hL hM] at h2;refine⟨S',?_,hp⟩;rw[vP];unfold b_circle_points;refine GJ (env:=[Ab (.int (n:Aj))]) rfl ?_;simp only[qI,qA,qC,qB,Kz,Res.bind,Bv,Ew,Cq,e,h2]
theorem uO (S:Sto):wG (.int 10) (.int 12) S=.ok (.int 1000000000000) S:=rfl
theorem HG (n:Af)(S:Sto)(c:Cl)(M:FL)(hM:Fac M n)(hn:1<=n/\n<=1000000000000):∃ S',S_on_circle c [.int (n:Aj)] S=.ok (.int (4*sgn M)) S'/\S<+:S':=by
 obtain⟨S',e,hp⟩:=WX n S M hM hn;have h1:=k9 c (i:=(n:Aj)) (a:=1) (b:=1000000000000) S ⟨by omega,by omega⟩
 refine⟨S',?_,hp⟩;rw[vA];refine x8 (zC (env:=[Ab (.int (n:Aj))]) rfl ?_);rfl';refine qK (uO S) ?_;rfl';refine qK h1 ?_;rfl';exact qK e ⟨rfl,rfl⟩
theorem SG {d:D}(S:Sto)(c:Cl)(h:Pn d)(k:inR 1 1000000000000 d=false):S_on_circle c [d] S=.ex (.ref c.NoNumber) .non S:=by
 have h1:=tF c S (kd) h k;rw[vA];refine kL (env:=[Ab d]) rfl (gJ (tM (S':=S) (v:=.ref c.NoNumber) (x:=.non) ?_ ⟨_,rfl⟩));exact(cO rfl rfl (uO S)).trans h1
theorem VC {g:G2}{fe:DE}{x:D}(e:env[i]? = Ab (Ab x))(h:Ok (fe env S) λy S1=>Ok (g x y S1) λz S2=>Wo P (.nx (env.set i (Ab z)) S2)):Wo P (vF i g fe env S):=by
 unfold vF;rw[e];exact vO (zE h λ_ _=>vO)
theorem M9 {a b:Aj}(h:Q (.int (a+b)) S):Ok (pR (.int a) (.int b) S) Q:=⟨_,_,rfl,h⟩
theorem ES {n k:Af}(h:k<n):_L.ixN n (k:Aj)=Ab k:=by
 unfold _L.ixN;rw[AS om,AS om];rfl
def Sv (m:Af)(bs:Aa Ao):Prop:=bs.length=m+1/\∀ p,Prm p->p<=m->bs[p]? = Ab true
theorem oG {Q:Aa D->Sto->Prop}{fa:DA}(h:Ok (fa env S) λas S1=>∃ a b c:Aj,as=[.int a,.int b,.int c]/\(-(2 ^ 40)<=a/\a<2 ^ 40)/\(-(2 ^ 40)<=b/\b<2 ^ 40)/\(0<c/\c<1073741824)/\Q (yT a c (rsz a b c)) S1):Ok (j6 fa env S) Q:=qW (zE h λd S1 ⟨a,b,c,e,h1,h2,h3,k⟩=>⟨_,S1,by
 subst e;show (match (if (-(2 ^ 40)<=a/\a<2 ^ 40)/\(-(2 ^ 40)<=b/\b<2 ^ 40)/\0<c/\c<1073741824 then Ab (yT a c (rsz a b c)) else none) with|some xs=>Res.ok xs S1|none=>.bad)=_
 rw[AS ⟨h1,h2,h3⟩],k⟩)
theorem sJ {a b c:Aj}(hc:0<c){i:Af}(h:i<rsz a b c):a+(i:Aj)*c<b:=by
 unfold rsz at h
 split at h
 .have h1:0<=(b-a-1)/c:=Wk om om
  have h2:(i:Aj)<=(b-a-1)/c:=by omega
  have h3:=Int.mul_le_mul_of_nonneg_right h2 (Fq hc);have h4:=Int.ediv_mul_le (b-a-1) (Int.ne_of_gt hc);omega
 .omega
theorem JW {d:Af}(hd:3<=d):¬ Prm (d*d+i*(2*d)):=λh=>by
 have e:d*d+i*(2*d)=d*(d+2*i):=by rw[Nat.mul_add];rw[OC d 2 i,Dw d i,OC 2 i d]
 have h3:d*3<=d*(d+2*i):=Nm d om;rcases h.2 d ⟨d+2*i,e⟩ with g|g <;> omega
theorem NS {bs:Aa Ao}(h:Sv m bs){k:Af}(hk:¬ Prm k):Sv m (bs.set k false):=⟨by rw[Pq];exact h.1,λp hp hm=>by
 have hne:k≠p:=λe=>hk (e▸hp);rw[Dk hne];exact h.2 p hp hm⟩
noncomputable def blD (bs:Aa Ao):MO:=.lst (bs.map D.bl)
theorem gY (S:Sto)(x:MO):(S++[x])[S.length]? = Ab x:=rN _ _
theorem Y7 {d:Af}{bs:Aa Ao}{M:Aj}{e3:Al D}(hM:M=(m:Aj))(hv:Sv m bs)(hd:3<=d)(hm:m<=2000000)(hdd:d*d<=m)(q:∀ bs' e3',Sv m bs'->Wo P (.nx [Ab (.int M),Ab (.loc S.length),Ab (.int (d:Aj)),e3'] (S++[blD bs']))) :
  Wo P (wW (j6 (qA (d2 zD (qB 2) (qB 2)) (qA (d2 qY (qB 0) (dC (.int 1))) (qA (d2 zD (dC (.int 2)) (qB 2)) (qC))))) (gNm 3) (qV (dC (.bl false)) (gSb (qB 1) (qB 3) zS)) [Ab (.int M),Ab (.loc S.length),Ab (.int (d:Aj)),e3] (S++[blD bs])):=by
 subst hM;have hdm:d<=m:=Bu (IS d om) hdd;have hi:((d:Aj)*(d:Aj))=((d*d:Af):Aj):=by simp
 refine VD (oG ?_);rfl';refine⟨_,_,_,rfl,?_,?_,?_,?_⟩
 .rw[hi];omega
 .omega
 .omega
 refine yZ (enc:=λi:Af=>D.int ((d:Aj)*d+(i:Aj)*(2*(d:Aj)))) (λxs env S'=>(∀ i∈xs,i<rsz ((d:Aj)*d) ((m:Aj)+1) (2*(d:Aj)))/\∃ bs' e3',Sv m bs'/\env=[Ab (.int (m:Aj)),Ab (.loc S.length),Ab (.int (d:Aj)),e3']/\S'=S++[blD bs']) (λi xs env S' ⟨hx,bs',e3',hv',he,hS⟩=>?_) (λenv S' ⟨_,bs',e3',hv',he,hS⟩=>?_) ⟨λi hi=>Es.mp hi,bs,e3,hv,rfl,rfl⟩
 .subst he hS
  have hlt:=sJ om (hx i (Bp ..));have ei:(d:Aj)*d+(i:Aj)*(2*(d:Aj))=((d*d+i*(2*d):Af):Aj):=by push_cast;rfl
  rw[ei] at hlt ⊢;rfl';refine dM (gY _ _) (j:=d*d+i*(2*d)) (ES ?_) ?_
  .rw[Ba,hv'.1];omega
  .rfl'
   refine uB ⟨λj hj=>hx j (AT _ hj),bs'.set (d*d+i*(2*d)) false,_,NS hv' (JW hd),rfl,?_⟩;rw[uE];unfold blD;rw[List.map_set]
 .subst he hS
  exact q bs' e3' hv'
noncomputable def odd (i:Af):Af:=3+2*i
noncomputable def jM (m:Af)(bs:Aa Ao):Aa Af:=2::(((Cw (rsz 3 ((m:Aj)+1) 2)).filter λi=>bs.getD (odd i) false).map odd)
theorem KM (h:Prm p):p=2\/∃ i,p=odd i:=by
 by_cases h2:p=2
 .exact .inl h2
 .refine .inr ⟨(p-3)/2,?_⟩
  have h3:=h.1;have h4:¬ p % 2=0:=λe=>by
   rcases h.2 2 (Nat.dvd_of_mod_eq_zero e) with g|g <;> omega
  unfold odd;omega
theorem XU {bs:Aa Ao}(h:Sv m bs){p:Af}(hp:Prm p)(hm:p<=m):p∈jM m bs:=by
 rcases KM hp with rfl|⟨i,rfl⟩
 .exact Bp ..
 .refine AT _ (Ce.mpr ⟨i,Mu.mpr ⟨Es.mpr ?_,?_⟩,rfl⟩)
  .unfold odd at hm
   unfold rsz;rw[AS om];omega
  .rw[Hr,h.2 _ hp hm]
   rfl
theorem JT (m:Af)(bs:Aa Ao):(jM m bs).Pairwise (· < ·):=by
 refine Gf.mpr ⟨λp hp=>?_,?_⟩
 .obtain⟨i,_,rfl⟩:=Ce.mp hp
  unfold odd;omega
 .refine Gu.mpr ((Zb _ Qf).imp λh=>?_)
  unfold odd;omega
theorem JS {bs:Aa Ao}(hm:2<=m){p:Af}(h:p∈jM m bs):2<=p/\p<=m:=by
 rcases Bg.mp h with rfl|h
 .exact⟨Aq _,hm⟩
 .obtain⟨i,hi,rfl⟩:=Ce.mp h
  have h1:=sJ om (Es.mp (Mu.mp hi).1);unfold odd;omega
theorem XT {bs:Aa Ao}(hm:2<=m):(jM m bs).length<=m:=by
 unfold jM;rw[Bv,Ba];have h1:=Qw (λi=>bs.getD (odd i) false) (Cw (rsz 3 ((m:Aj)+1) 2));rw[Er] at h1;have h2:rsz 3 ((m:Aj)+1) 2+1<=m:=by
  unfold rsz
  split
  .omega
  .omega
 omega
noncomputable def nD (n:Af):D:=.int (n:Aj)
theorem ME {k:Aj}(h:0<=k/\k<2 ^ 62/\xs.length*k.toNat<=lim)(q:Q (.loc S.length) (S++[.lst (Bw k.toNat xs).flatten])):Ok (fH (.lst xs) (.int k) S) Q:=⟨_,_,AS h,q⟩
theorem HL (m:Af):Sv m (Bw (m+1) true):=⟨Qm,λp _ h=>by rw[Ix,AS om]⟩
theorem ML {M:Aj}{bs:Aa Ao}{e2 e3:Al D}(hM:M=(m:Aj))(hm:2<=m/\m<=2000000)(hv:Sv m bs)(q:∀ S1,S<+:S1->Q (.lst ((jM m bs).map nD)) S1) :
  Ok (d2 qY (zU (qA (dC (.int 2)) (qC))) (xC false [none,Ab 1] (vL (j6 (qA (dC (.int 3)) (qA (d2 qY (qB 0) (dC (.int 1))) (qA (dC (.int 2)) (qC)))))) (gNm 0) (y8 (dTr (d2 gIx (qB 1) (qB 0))) (vB)) (xH (qB 0))) [Ab (.int M),Ab (.loc S.length),e2,e3] (S++[blD bs])) Q:=by
 have hl:(Cw (rsz 3 (M+1) 2)).length<=2000000:=by
  rw[Er];unfold rsz
  split <;> omega
 have hr:vL (j6 (qA (dC (.int 3)) (qA (d2 qY (qB 0) (dC (.int 1))) (qA (dC (.int 2)) (qC))))) [Ab (.int M),Ab (.loc S.length),e2,e3] (S++[blD bs])=.ok (none,(Cw (rsz 3 (M+1) 2)).map λ(i:Af)=>D.int (3+(i:Aj)*2)) (S++[blD bs]):=by
  refine x8 (qW (oG ?_));rfl';exact⟨_,_,_,rfl,by omega,by omega,by omega,_,_,rfl,rfl,rfl⟩
 rfl';obtain⟨S',e,hp⟩:=PZ (cap:=[none,Ab 1]) (g:=gNm 0) (t:=y8 (dTr (d2 gIx (qB 1) (qB 0))) (vB)) (fe:=qB 0) hr trivial (λi=>bs.getD (odd i) false) (λi:Af=>D.int (3+(i:Aj)*2)) (λenv=>∃ a,env=[a,Ab (.loc S.length)]) ⟨none,rfl⟩ (by unfold lim;omega) (λi hi env S' ⟨a,he⟩ hp=>by
  subst he;have hx:(3:Aj)+(i:Aj)*2=(odd i:Aj):=by unfold odd;push_cast;omega
  have hlt:odd i<bs.length:=by
   have:=sJ om (Es.mp hi);rw[hv.1];unfold odd;omega
  have hat:S'[S.length]? = Ab (blD bs):=(OI.mp hp S.length (by simp)).trans (by simp)
  have hg:bs.getD (odd i) false=bs[odd i]:=by rw[Hr,AW hlt];rfl
  have ht:y8 (dTr (d2 gIx (qB 1) (qB 0))) (vB) [Ab (D.int (3+(i:Aj)*2)),Ab (.loc S.length)] S'=.ok (bs.getD (odd i) false) S':=by
   rw[hx,hg];refine x8 (dJ (MM (o_2 (o_v rfl (o_v rfl (u7 hat (lC (by rw[Ba];exact hlt)) ?_))))))
   rw[Vy];refine⟨_,rfl,λhb=>?_,λhb=>⟨hb.symm,rfl⟩⟩;rw[hb];exact SL ⟨rfl,rfl⟩
  exact⟨_,S',rfl,⟨_,rfl⟩,ht,AU _,λ_=>⟨S',rfl,AU _⟩⟩)
 refine qK e ?_;have e2:[D.int 2]++(((Cw (rsz 3 (M+1) 2)).filter λi=>bs.getD (odd i) false).map λ(i:Af)=>D.int (3+(i:Aj)*2))=(jM m bs).map nD:=by
  unfold jM;rw[<- hM,Bt,Ft];refine congrArg (D.int 2::·) (Fw λi _=>?_)
  show D.int _=D.int (odd i:Aj);unfold odd
  congr 1
  push_cast
  omega
 have hl2:=XT (bs:=bs) hm.1;have hl3:=congrArg Ls e2;rw[Dg,Ba (f:=nD)] at hl3;refine w6 (by unfold lim;omega) ?_
 rw[e2];exact q S' ((Fi _ _).trans hp)
def IvS (m:Af)(M:Aj)(S:Sto)(k:Af)(env:qD)(S':Sto):Prop:=∃ bs d e3,k=2000005-d/\Sv m bs/\3<=d/\d<=2000002/\env=[Ab (.int M),Ab (.loc S.length),Ab (.int (d:Aj)),e3]/\S'=S++[blD bs]
theorem rE (hm:2<=m/\m<=2000000)(q:∀ bs S1,Sv m bs->S<+:S1->Q (.lst ((jM m bs).map nD)) S1):Ok (S_primes_to [.int (m:Aj)] S) Q:=by
 rw[jX];obtain⟨M,hM⟩:∃ M:Aj,M=(m:Aj):=⟨_,rfl⟩;rw[<- hM];refine zC (env:=[Ab (.int M),none,none,none]) rfl ?_;refine gJ (VB (o_2 ?_));refine YZ (wJ (o_c (fT ?_)));refine⟨Cf rfl,?_⟩;refine o_2 (o_v rfl (o_c (SH ?_)));obtain⟨k,hk⟩:∃ k:Aj,k=M+1:=⟨_,rfl⟩;rw[<- hk];have hl1:([D.bl true]:Aa D).length*k.toNat<=lim:=by
  show 1*k.toNat<=lim;unfold lim;omega
 refine ME ⟨by omega,by omega,hl1⟩ ?_
 have e0:MO.lst (Bw k.toNat [D.bl true]).flatten=blD (Bw (m+1) true):=by
  rw[show k.toNat=m+1 by omega,List.flatten_replicate_singleton]
  unfold blD;rw[List.map_replicate]
 rw[e0];refine EY ?_;refine vH ?_;dsimp only[Kq,IG];rfl';have hbig:2000006<big:=by rw[gS];omega
 refine b0 (IvS m M S) (λk env S' ⟨bs,d,e3,hk,hv,hd,hd2,he,hS⟩=>?_) (n:=2000002) om ⟨_,3,none,rfl,HL m,by omega,by omega,rfl,rfl⟩
 subst he hS hk;have hi:((d:Aj)*(d:Aj))=((d*d:Af):Aj):=by simp
 rfl';refine⟨λhb=>?_,λhb=>?_⟩
 .have hdd:d*d<=m:=by have:=Bi hb;rw[hi] at this;omega
  have hdm:d<=m:=Bu (IS d om) hdd;have hdl:d<(bs.map D.bl).length:=by rw[Ba,hv.1];omega
  have aug:∀ {P:Out->Prop} bs' e3',Sv m bs'->Wo (whQ (IvS m M S) (2000005-d) P) (vF 2 pR (dC (.int 2)) [Ab (.int M),Ab (.loc S.length),Ab (.int (d:Aj)),e3'] (S++[blD bs'])):=λ{P} bs' e3' hv'=>by
   refine VC rfl (o_c (M9 ?_));exact mE (2000005-(d+2)) om ⟨bs',d+2,e3',rfl,hv',by omega,by omega,by push_cast;rfl,rfl⟩
  rfl';refine u7 (gY _ _) (lC hdl) ?_;rw[Vy];rfl';cases bs[d]'(by rw[Ba] at hdl;exact hdl) with
  |false =>
   rfl';exact aug bs e3 hv
  |true =>
   exact w_t (Y7 hM hv hd hm.2 hdd λbs' e3' hv'=>vH (aug bs' e3' hv'))
 .exact vH (VE (ML hM hm hv λS' hp=>mD (q bs S' hv hp)))
theorem oN:∀ e:Af,2<=e->∃ p,Prm p/\p∣e:=λe=>by
 induction e using Wp with
 |_ e ih =>
  intro h;by_cases hp:Prm e
  .exact⟨e,hp,Uf _⟩
  .have:¬ ∀ d,d∣e->d=1\/d=e:=λk=>hp ⟨h,k⟩
   obtain⟨d,hd⟩:=Classical.not_forall.mp this;have hd1:d∣e:=Classical.byContradiction λk=>hd λz=>absurd z k;have hd2:¬ (d=1\/d=e):=λk=>hd λ_=>k;have hl:=Du om hd1;have hp:=Mk hd1 om;obtain⟨p,h1,h2⟩:=ih d om om;exact⟨p,h1,Gb h2 hd1⟩
theorem dH {d:Af}(h:∀ p,Prm p->p∣r->d<=p):∀ e,2<=e->e<d->¬ e∣r:=λe h1 h2 h3=>by
 obtain⟨p,hp,hpe⟩:=oN e h1;have h4:=h p hp (Gb hpe h3);have h5:=Du om hpe;omega
theorem HW {sf:DS}{env':qD}{S':Sto}(e:sf env S=.nx env' S')(h:Wo P (.nx env' S')):Wo P (sf env S):=by
 rw[e];exact h
theorem XE (h1:env[i]? = Ab (Ab (.loc S.length))):wA (qB i) env (S++[.dct (kvD L)])=.ok (.lst (L.map itD)) (S++[.dct (kvD L)]):=by
 have hat:(S++[MO.dct (kvD L)])[S.length]? = Ab (.dct (kvD L)):=by simp
 have e:((kvD L).map λp=>D.tup [kD p.1,p.2])=L.map itD:=by
  unfold kvD;rw[Ft];rfl
 simp only[wA,qB,h1,Res.bind,hat,e]
theorem YK:∀ {L:FL},p ∉ L.map (·.1)->cnt p L=0
 |[],_=>rfl
 |x::L,h=>by
  rw[Bt,Bg,Xk] at h;unfold cnt;rw[AX (Fa h.1)];exact YK h.2
structure Lf (n m:Af)(xs:Aa Af)(L:FL)(a r:Af):Prop where
 fac:Fac L a
 eq:a*r=n
 pos:1<=r
 prm:∀ p,Prm p->p∣r->p∈xs\/m<p
theorem Lf.small {n:Af}{xs:Aa Af}{a:Af}(h:Lf n m xs L a r)(hn:1<=n/\n<=1000000000000):r<=1000000000000/\L.length<40:=by
 have h1:r<=n:=Du om ⟨a,by rw[Dw];exact h.eq.symm⟩
 have h2:a<=n:=Du om ⟨r,h.eq.symm⟩;exact⟨by omega,h.fac.short om⟩
theorem Lf.low {n x:Af}{xs:Aa Af}{a:Af}(h:Lf n m (x::xs) L a r)(up:(x::xs).Pairwise (· < ·))(hx:x<=m):∀ e,2<=e->e<x->¬ e∣r:=dH λp hp hd=>by
 rcases h.prm p hp hd with g|g
 .rcases Bg.mp g with g|g
  .omega
  .have:=(Gf.mp up).1 p g
   omega
 .omega
theorem Lf.step {n x:Af}{xs:Aa Af}{a:Af}(h:Lf n m (x::xs) L a (x*r))(up:(x::xs).Pairwise (· < ·))(hx:2<=x/\x<=m):Lf n m (x::xs) (inc x L) (x*a) r where
 fac:=h.fac.inc (fV hx.1 ⟨r,rfl⟩ (h.low up hx.2))
 eq:=by rw[<- h.eq,Dw x a,Ig]
 pos:=by
  rcases Gh r with g|g
  .have:=h.pos
   rw[g] at this;omega
  .exact g
 prm:=λp hp hd=>h.prm p hp (IC hd _)
theorem Lf.next {n x:Af}{xs:Aa Af}{a:Af}(h:Lf n m (x::xs) L a r)(hx:¬ x∣r):Lf n m xs L a r:=⟨h.fac,h.eq,h.pos,λp hp hd=>by
 rcases h.prm p hp hd with g|g
 .rcases Bg.mp g with g|g
  .exact absurd (g▸hd) hx
  .exact .inl g
 .exact .inr g⟩
theorem JX {n:Af}{ps:Aa Af}(hn:1<=n/\n<=1000000000000)(hm:m<=2000000/\n<(m+1)*(m+1))(up:ps.Pairwise (· < ·))(hin:∀ p∈ps,2<=p/\p<=m)(hall:∀ p,Prm p->p<=m->p∈ps)
  (q:∀ L S1,Fac L n->S<+:S1->Q (.lst (L.map itD)) S1):Ok (S_primes_among [.int (n:Aj),.lst (ps.map nD)] S) Q:=by
 have fin:∀ {L:FL} {a r:Af} {e4:Al D},Fac L a->a*r=n->1<=r->(∀ y∈L,¬ y.1∣r)->(2<=r->Prm r)->Wo (cU Q) (qO (sIf (dTr (d2 gGt (qB 3) (dC (.int 1)))) (qV (dC (.int 1)) (gSb (qB 2) (qB 3) zS)) (zB)) (qT (wA (qB 2))) [Ab (.int (n:Aj)),Ab (.lst (ps.map nD)),Ab (.loc S.length),Ab (.int (r:Aj)),e4] (S++[.dct (kvD L)])):=by
  intro L a r e4 hF ha hr hnd hp;have han:a<=n:=Du om ⟨r,ha.symm⟩;have hs:=hF.short om;have end':∀ {M:FL},Fac M n->Wo (cU Q) (qT (wA (qB 2)) [Ab (.int (n:Aj)),Ab (.lst (ps.map nD)),Ab (.loc S.length),Ab (.int (r:Aj)),e4] (S++[.dct (kvD M)])):=λhM=>VE (qK (XE rfl) (mD (q _ _ hM (Fi _ _))));rfl';refine xZ (λh1=>?_) λh1=>?_
  .have hr2:2<=r:=by omega
   have hnot:r ∉ L.map (·.1):=λhx=>by
    obtain⟨y,hy,e⟩:=Ce.mp hx;exact hnd y hy ⟨1,by rw[Kj];exact e.symm⟩
   have hput:yQ (kvD L) (.inl (r:Aj)) (.int 1)=kvD (inc r L):=by
    have:=dY r hF.nd;rw[YK hnot] at this;exact this
   rfl';refine oH (gY _ _) (by simp only[kvD,Ba];unfold lim;omega) ?_
   rw[uE,hput];refine vH (end' ?_);have:=hF.inc (hp hr2);rw[Dw,ha] at this;exact this
  .have:r=1:=by omega
   subst this;refine pI (vH (end' ?_));rw[Kj] at ha;exact ha▸hF
 rw[vY];refine zC (env:=[Ab (.int (n:Aj)),Ab (.lst (ps.map nD)),none,none,none]) rfl ?_;rfl';refine yZ (enc:=λk:Af=>D.int (k:Aj)) (λxs env S'=>∃ L a r e4,Lf n m xs L a r/\(∀ y∈L,¬ y.1∣r)/\xs.Pairwise (· < ·) /\ (∀ p∈xs,2<=p/\p<=m)/\env=[Ab (.int (n:Aj)),Ab (.lst (ps.map nD)),Ab (.loc S.length),Ab (.int (r:Aj)),e4]/\S'=S++[.dct (kvD L)]) (λx xs env S' ⟨L,a,r,e4,h,hnd,hup,hxs,he,hS⟩=>?_) (λenv S' ⟨L,a,r,e4,h,hnd,hup,hxs,he,hS⟩=>?_) ⟨[],1,n,none,⟨jZ,by omega,hn.1,λp hp _=>?_⟩,(by simp),up,hin,rfl,rfl⟩
 .subst he hS
  obtain⟨hx2,hxm⟩:=hxs x (Bp ..);have hi:((x:Aj)*(x:Aj))=((x*x:Af):Aj):=by simp
  rfl';refine xZ (λhb=>?_) λhb=>?_
  .rw[hi] at hb
   rfl';refine L8 (vH (fin h.fac h.eq h.pos hnd λhr=>gE hr (show r<x*x by omega) (h.low hup hxm)))
  .rfl'
   have hsm:=h.small hn;have hbig:1000000000001<big:=by rw[gS];omega
   refine b0 (λk env S'=>∃ L a r,r=k/\Lf n m (x::xs) L a r/\(∀ y∈L,y.1=x\/¬ y.1∣r)/\env=[Ab (.int (n:Aj)),Ab (.lst (ps.map nD)),Ab (.loc S.length),Ab (.int (r:Aj)),Ab (.int (x:Aj))]/\S'=S++[.dct (kvD L)]) (λk env S' ⟨L,a,r,hk,h,hnd,he,hS⟩=>?_) (n:=r) om ⟨L,a,r,rfl,h,λy hy=>.inr (hnd y hy),rfl,rfl⟩;subst he hS hk;have hsm:=h.small hn;refine qK (dE r x _ _ 3 4 rfl rfl om) ⟨λhb=>?_,λhb=>?_⟩
   .obtain⟨r',rfl⟩:=Bi hb
    have hst:=h.step hup ⟨hx2,hxm⟩;have i1:=lY L x (S++[.dct (kvD L)]) [Ab (.int (n:Aj)),Ab (.lst (ps.map nD)),Ab (.loc S.length),Ab (.int ((x*r':Af):Aj)),Ab (.int (x:Aj))] 4 2 S.length rfl rfl (gY _ _) h.fac.nd om;rw[uE] at i1;refine gJ (HW i1 (vH ?_));refine VC rfl ?_;rfl';have hq:((x*r':Af):Aj)/(x:Aj)=(r':Aj):=by
     have:x*r'/x=r':=Ky _ om;omega
    rw[hq];refine mE r' ?_ ⟨inc x L,x*a,r',rfl,hst,λy hy=>?_,rfl,rfl⟩
    .have:=Fn r' hx2
     have:=hst.pos;omega
    .rcases pT hy with⟨e,_⟩|hy
     .exact .inl e
     .rcases hnd y hy with e|e
      .exact .inl e
      .exact .inr λhd=>e (IC hd _)
   .have hb:¬ x∣r:=IH hb
    refine uB ⟨L,a,r,_,h.next hb,λy hy=>?_,(Gf.mp hup).2,λp hp=>hxs p (AT _ hp),rfl,rfl⟩;rcases hnd y hy with e|e
    .rw[e];exact hb
    .exact e
 .subst he hS
  refine vH (fin h.fac h.eq h.pos hnd λhr=>gE (d:=m+1) hr ?_ (dH λp hp hd=>?_))
  .have:r<=n:=Du om ⟨a,by rw[Dw];exact h.eq.symm⟩
   omega
  .rcases h.prm p hp hd with g|g
   .cases g
   .omega
 .rcases Eg m p with g|g
  .exact .inr g
  .exact .inl (hall p hp g)
theorem RK (i:Aj)(S:Sto)(h:0<=i/\i<=1000000):lX (.int 1) (.int i) S=.ok (.int (2 ^ i.toNat)) S:=by
 unfold lX i2 ZC;have:(Int.natAbs 1)<2 ^ 64:=by decide
 simp[h,this]
theorem VL (n:Aj)(h:0<=n/\n<=1000000000000):Ip n<=40/\n<2 ^ (Ip n):=by
 unfold Ip;by_cases z:n=0
 .subst z;simp
 .have hz:(n == 0)=false:=by simp[z]
  rw[hz];obtain⟨m,rfl⟩:∃ m:Af,n=m:=⟨n.toNat,by omega⟩
  have hm:m≠0:=by omega
  simp only[Cd,Ff,Ob];refine⟨?_,?_⟩
  .have:m.log2<40:=(Vz hm).mpr om
   omega
  .have:=@Nat.lt_log2_self m
   exact_mod_cast this
theorem UZ (B:Af)(n:Aj)(hB:B<=40/\n<2 ^ B):∃ q T:Af,((B:Aj)+1)/2=q/\q<=20/\(2:Aj) ^ q=T/\T<=1048576/\n<(T:Aj)*T:=by
 refine⟨(B+1)/2,2 ^ ((B+1)/2),by omega,by omega,by push_cast;rfl,?_,?_⟩
 .have:(2:Af) ^ ((B+1)/2)<=2 ^ 20:=Ms (by decide) om
  exact this
 .have:(2:Af) ^ B<=2 ^ ((B+1)/2)*2 ^ ((B+1)/2):=by rw[<- Nat.pow_add];exact Ms (by decide) om
  have h2:(2:Aj) ^ B<=((2 ^ ((B+1)/2):Af):Aj)*((2 ^ ((B+1)/2):Af):Aj):=by exact_mod_cast this
  omega
theorem MI {n:Aj}(h:0<=n/\n<=1000000000000)(q:∀ T:Af,T<=1048576->n<(T:Aj)*T->Q (.int T) S):Ok (S_above_root [.int n] S) Q:=by
 obtain⟨k,T,h1,h2,h3,h4,h5⟩:=UZ _ n (VL n h);rw[uX];refine zC (env:=[Ab (.int n)]) rfl ?_;rfl';refine qK (d:=.int (Ip n)) (S:=S) rfl ?_;rfl';rw[h1];refine qK (RK (k:Aj) S ⟨by lia,by lia⟩) ?_
 rw[Ic,h3];rfl';exact q T h4 h5
noncomputable def isP (p:Af):Ao:=decide (2<=p)&&(Cw p).all λd=>decide (d<2)||decide (p % d≠0)
theorem FI (h:isP p=true):Prm p:=by
 unfold isP at h;rw[As,Ax,Cb] at h;refine fV h.1 (Uf _) λd h2 h1 h3=>?_;have:=h.2 d (Es.mpr h1);rw[Gs,Ax,Ax] at this;rcases this with g|g
 .omega
 .exact g (Nat.mod_eq_zero_of_dvd h3)
noncomputable def okF (L:FL)(n:Af):Ao:=L.all (λx=>isP x.1&&decide (1<=x.2))&&decide ((L.map (·.1)).Nodup)&&decide (zO L=n)
theorem eN {n:Af}(h:okF L n=true):Fac L n:=by
 unfold okF at h;rw[As,As,Cb,Ax,Ax] at h;refine⟨λx hx=>?_,λx hx=>?_,h.1.2,h.2⟩
 .have:=h.1.1 x hx
  rw[As] at this;exact FI this.1
 .have:=h.1.1 x hx
  rw[As,Ax] at this;exact this.2
noncomputable def fgo:Af->Af->Af->FL->FL
 |0,_,_,L=>L
 |f+1,r,d,L=>if r<=1 then L else if r % d=0 then fgo f (r/d) d (inc d L) else fgo f r (d+1) L
noncomputable def F7 (n:Af):FL:=fgo 320 n 2 []
theorem gZ:∀ n:Af,1<=n->∃ L,Fac L n:=λn=>by
 induction n using Wp with
 |_ n ih =>
  intro h;rcases Eg n 2 with g|g
  .have:n=1:=by omega
   subst this;exact⟨[],jZ⟩
  .obtain⟨p,hp,r,rfl⟩:=oN n g
   have hr:1<=r:=by
    rcases Gh r with z|z
    .rw[z] at h
     omega
    .exact z
   have hlt:r<p*r:=by
    have:=Fn r hp.1;omega
   obtain⟨L,hL⟩:=ih r hlt hr;exact⟨_,hL.inc hp⟩
open Classical in
def rr (n:Af):Aj:=if h:1<=n then 4*sgn (Jq (gZ n h)) else 0
theorem gH {n:Af}(h:Fac L n)(hn:1<=n):4*sgn L=rr n:=by
 unfold rr;rw[dif_pos hn,hX h (Ho (gZ n hn))]
theorem sM:∀ L:FL,0<=sgn L
 |[]=>by decide
 |x::L=>Int.mul_nonneg (RI x) (sM L)
theorem QM:∀ {L:FL},(∀ x∈L,Prm x.1)->sgn L<=(zO L:Aj)
 |[],_=>by decide
 |x::L,h=>by
  have ih:=QM (L:=L) λy hy=>h y (AT _ hy);have hx:=dW x.1 x.2 (h x (Bp ..)).1;have h1:sg x<=((x.1 ^ x.2:Af):Aj):=by
   unfold sg
   split
   .omega
   .split <;> omega
  show sg x*sgn L<=((x.1 ^ x.2*zO L:Af):Aj);rw[Int.natCast_mul];exact Int.mul_le_mul h1 ih (sM L) (Int.natCast_nonneg _)
theorem HI {n:Af}(h:1<=n/\n<=1000000000000):0<=rr n/\rr n<=4000000000000:=by
 obtain⟨L,hL⟩:=gZ n h.1;rw[<- gH hL h.1];have h1:=sM L;have h2:=QM hL.prm;rw[hL.eq] at h2;omega
theorem oE {a b:Aj}(h:Q (.int (if b<a then b else a)) S):Ok (pP [.int a,.int b] S) Q:=⟨_,_,rfl,h⟩
theorem MD {a b:Aj}(h:Q (.int (if b>a then b else a)) S):Ok (pO [.int a,.int b] S) Q:=⟨_,_,rfl,h⟩
theorem V0 {α:Type}{f:α->Aj}{l:Aa α}(h:Q (.int (l.map f).sum) S):Ok (mV [.lst (l.map λx=>D.int (f x))] S) Q:=by
 refine⟨_,_,?_,h⟩;have e:(zH (.lst (l.map λx=>D.int (f x)))).bind xG=Ab (l.map f):=by
  rw[show (l.map λx=>D.int (f x))=(l.map f).map D.int by rw[Ft];rfl]
  exact j8 _
 show (match (zH (.lst (l.map λx=>D.int (f x)))).bind xG with|some ns=>Res.ok (D.int ns.sum) S|none=>.bad)=_
 rw[e]
noncomputable def yB (n r:Aj):Aj:=n*(if n-1<r then n-1 else r)/2
theorem eM {n r:Aj}(hn:1<=n/\n<=40)(h:Q (.int (yB n r)) S):Ok (S_pairs_by_circles [.int n,.int r] S) Q:=by
 rw[yF];refine zC (env:=[Ab (.int n),Ab (.int r)]) rfl ?_;rfl';refine oE ?_;rfl';exact h
theorem MC {n:Aj}(hn:1<=n/\n<=40)(h:Q (.int (n*(n-1)/2)) S):Ok (S_many_pairs [.int n] S) Q:=by
 rw[uY];refine zC (env:=[Ab (.int n)]) rfl ?_;rfl';exact h
theorem EZ {n:Af}(c:Cl)(hn:1<=n/\n<=1000000000000)(h:∀ S1,S<+:S1->Q (.int (rr n)) S1):Ok (S_on_circle c [.int (n:Aj)] S) Q:=by
 obtain⟨L,hL⟩:=gZ n hn.1;obtain⟨S',e,hp⟩:=HG n S c L hL hn;rw[gH hL hn.1] at e;exact qK e (h S' hp)
theorem fS {n:Aj}{k:Af}(c:Cl)(hn:1<=n/\n<=40)(hk:1<=k/\k<=1000000000000)(h:∀ S1,S<+:S1->Q (.int (yB n (rr k))) S1):Ok (S_most_by_circles c [.int n,.int (k:Aj)] S) Q:=by
 rw[zY];refine zC (env:=[Ab (.int n),Ab (.int (k:Aj))]) rfl ?_;rfl';refine qK (k9 c S hn) ?_;rfl';refine EZ c hk λS1 hp=>?_;rfl';refine eM hn ?_;exact mD (h S1 hp)
noncomputable def nsD (ns:Aa Af):D:=.tup (ns.map nD)
structure Frs (ns:Aa Af):Prop where
 ne:ns≠[]
 len:ns.length<=100
 up:ns.Pairwise (· < ·)
 b:∀ n∈ns,1<=n/\n<=1000000000000
theorem GQ {ns:Aa Af}(ne:ns≠[])(up:ns.Pairwise (· < ·)) : ∀ n∈ns,n<=ns.getLast ne:=λn hn=>by
 rcases Qx ns with z|⟨l,z,rfl⟩
 .exact absurd z ne
 .simp only[Qy] at *
  have hz:∀ h,(l++[z]).getLast h=z:=λh=>by simp
  rw[hz];rcases Bo.mp hn with h|h
  .exact Ee ((Dl.mp up).2.2 n h z (by simp))
  .rw[Ca.mp h]
   exact Aq _
theorem oD {ns:Aa Af}(F:Frs ns)(q:∀ S1,S<+:S1->Q (.lst (ns.map λn=>D.int (rr n))) S1):Ok (S_circles_points [nsD ns] S) Q:=by
 rw[v9];refine zC (env:=[Ab (.tup (ns.map nD)),none]) rfl ?_;have ne':ns.map nD≠[]:=by simpa using F.ne
 have hl:=F.b _ (List.getLast_mem F.ne);rfl';refine YY (LU ne') ?_;rw[List.getLast_map];rfl';show Ok (S_above_root [.int (ns.getLast F.ne:Aj)] S) _;refine MI ⟨by omega,by omega⟩ λT hT hlt=>?_
 have hlt:ns.getLast F.ne<T*T:=by
  have:(T:Aj)*T=((T*T:Af):Aj):=by simp
  omega
 have hT2:2<=T:=by
  rcases Eg T 2 with g|g
  .have:T*T<=1*1:=Go om om
   omega
  .exact g
 rfl';refine rE ⟨hT2,by omega⟩ λbs S1 hv hp=>?_
 rfl';refine kF (enc:=nD) (o:=none) ns (λn=>D.int (rr n)) (λenv S'=>S<+:S'/\∃ a,env=[a,Ab (.lst ((jM T bs).map nD))]) (XC rfl) ⟨hp,none,rfl⟩ (by have:=F.len;unfold lim;omega) (λ_ _ _=>trivial) (λn hn env S' ⟨hp',a,he⟩=>?_) λenv S' ⟨hp',_⟩=>?_
 .subst he
  have hb:=F.b n hn;have hm:n<(T+1)*(T+1):=by
   have h1:=GQ F.ne F.up n hn;have h2:T*T<=(T+1)*(T+1):=Go om om;omega
  rfl';refine JX (n:=n) (m:=T) hb ⟨by omega,hm⟩ (JT T bs) (λp hp=>JS hT2 hp) (λp hp hm=>XU hv hp hm) λL S2 hL hp2=>?_
  rfl';refine qK (V5 L n S2 hL hb.2) ?_;rw[gH hL hb.1];exact⟨rfl,hp'.trans hp2,_,rfl⟩
 .exact mD (q S' hp')
theorem W0 (ns:Aa Af):ns.map nD=(ns.map λ(n:Af)=>(n:Aj)).map D.int:=by
 rw[Ft];rfl
theorem R4 (ns:Aa Af):Pn (nsD ns):=dS λx hx=>by
 obtain⟨n,_,rfl⟩:=Ce.mp hx;exact⟨.int (n:Aj),rfl⟩
theorem JB {ns:Aa Af}(F:Frs ns):jJ (nsD ns)=true:=by
 have h1:=Nl.mpr F.ne;have h2:=F.len;show (decide (1<=(ns.map nD).length/\(ns.map nD).length<=100)&&((ns.map nD).all (inR 1 1000000000000)&&match xG (ns.map nD) with|some ns=>upI ns|none=>false))=true
 rw[Ba,Cu ⟨by omega,by omega⟩,W0,j8,Bool.true_and,As]
 refine⟨?_,(tL _).mpr (Gu.mpr (F.up.imp λh=>by omega))⟩
 rw[Ft,OX,Cb];intro n hn;have:=F.b n hn;exact Cu (show (1:Aj)<=(n:Aj)/\(n:Aj)<=1000000000000 by omega)
theorem SI {ns:Aa Af}{n:Aj}(c:Cl)(hn:1<=n/\n<=40)(F:Frs ns)(q:∀ S1,S<+:S1->Q (.bl (decide (n*(n-1)/2<=(ns.map λk=>yB n (rr k)).sum))) S1):Ok (S_can_have c [.int n,nsD ns] S) Q:=by
 rw[y7];refine zC (env:=[Ab (.int n),Ab (nsD ns)]) rfl ?_;rfl';refine qK (k9 c S hn) ?_;rfl';refine qK (Q5 (R4 ns) S) ?_;rw[JB F];rfl';have hc:Ok (qI 1 S_circles_points (qA (qB 1) (qC)) [Ab (.int n),Ab (nsD ns)] S) λd S1=>d=.lst (ns.map λk=>D.int (rr k))/\S<+:S1:=by
  rfl';exact oD F λS1 hp=>⟨rfl,hp⟩
 obtain⟨d,S1,e,rfl,hp⟩:=hc;have hi:dIt (qI 1 S_circles_points (qA (qB 1) (qC))) [Ab (.int n),Ab (nsD ns)] S=.ok (none,ns.map λk=>D.int (rr k)) S1:=by
  unfold dIt;rw[e];rfl
 refine kF (enc:=λk=>D.int (rr k)) (o:=none) ns (λk=>D.int (yB n (rr k))) (λenv S'=>S<+:S'/\∃ a,env=[a,Ab (.int n)]) hi ⟨hp,none,rfl⟩ (by have:=F.len;unfold lim;omega) (λ_ _ _=>trivial) (λk hk env S' ⟨hp',a,he⟩=>?_) λenv S' ⟨hp',_⟩=>?_
 .subst he
  rfl';refine eM hn ?_;exact⟨rfl,hp',_,rfl⟩
 .rfl'
  refine V0 ?_;rfl';refine MC hn ?_;rfl';exact q S' hp'
theorem oA (c:Cl){d e:D}(S:Sto)(h:Pn d)(k:inR 1 40 d=false):S_most_by_circles c [d,e] S=.ex (.ref c.NoNumber) .non S:=by
 have h1:=tF c S (kd) h k;rw[zY];refine kL (env:=[Ab d,Ab e]) rfl (gJ (tM (S':=S) (v:=.ref c.NoNumber) (x:=.non) ?_ ⟨_,rfl⟩));exact(cO rfl rfl rfl).trans h1
theorem W4 (c:Cl){d e:D}(S:Sto)(h:Pn d)(k:inR 1 40 d=false):S_can_have c [d,e] S=.ex (.ref c.NoNumber) .non S:=by
 have h1:=tF c S (kd) h k;rw[y7];refine kL (env:=[Ab d,Ab e]) rfl (gJ (tM (S':=S) (v:=.ref c.NoNumber) (x:=.non) ?_ ⟨_,rfl⟩));exact(cO rfl rfl rfl).trans h1
theorem W3 (c:Cl){e:D}{n:Aj}(S:Sto)(hn:1<=n/\n<=40)(h:Pn e)(k:jJ e=false):S_can_have c [.int n,e] S=.ex (.ref c.NoFars) .non S:=by
 rw[y7];refine kL (env:=[Ab (.int n),Ab e]) rfl ?_;rfl';refine qK (k9 c S hn) ?_;rfl';refine qK (Q5 h S) ?_;rw[k];rfl';exact GR ⟨_,rfl⟩
theorem o9 (c:Cl){e:D}{n:Aj}(S:Sto)(hn:1<=n/\n<=40)(h:Pn e)(k:inR 1 1000000000000 e=false):S_most_by_circles c [.int n,e] S=.ex (.ref c.NoNumber) .non S:=by
 rw[zY];refine kL (env:=[Ab (.int n),Ab e]) rfl ?_;rfl';refine qK (k9 c S hn) ?_;refine vH ?_;have e2:qI 1 (S_on_circle c) (qA (qB 1) (qC)) [Ab (.int n),Ab e] S=.ex (.ref c.NoNumber) .non S:=(YI rfl).trans (SG S c h k);have e1:∀ f:DE,f [Ab (.int n),Ab e] S=.ex (.ref c.NoNumber) .non S->qI 2 S_pairs_by_circles (qA (qB 0) (qA f (qC))) [Ab (.int n),Ab e] S=.ex (.ref c.NoNumber) .non S:=λf hf=>by
  simp only[qI,qA,qB,Kz,Res.bind,hf]
 unfold qT;rw[e1 _ e2];exact⟨_,rfl⟩
theorem WH (L M:FL):zO (L++M)=zO L*zO M:=by
 induction L with
 |nil=>rw[Fg];exact(Nat.one_mul _).symm
 |cons x L ih=>show x.1 ^ x.2*zO (L++M)=x.1 ^ x.2*zO L*zO M;rw[ih,Ig]
theorem hW (L M:FL):sgn (L++M)=sgn L*sgn M:=by
 induction L with
 |nil=>rw[Fg];exact(Za _).symm
 |cons x L ih=>show sg x*sgn (L++M)=sg x*sgn L*sgn M;rw[ih,OD]
theorem JI {n:Af}(h:Fac L n){x:Af × Af}(hx:x∈L):x.1∣n:=by
 have h1:=(fD h (p:=x.1) (t:=x.2) hx).1;have h2:=h.pos x hx;obtain⟨k,hk⟩:∃ k,x.2=k+1:=⟨x.2-1,by omega⟩
 refine Gb ?_ h1;rw[hk,Gw];exact Mj _ _
theorem Fac.app {a b:Af}(h:Fac L a)(k:Fac M b)(hd:∀ y∈L,¬ y.1∣b):Fac (L++M) (a*b) where
 prm:=λx hx=>(Bo.mp hx).elim (h.prm x) (k.prm x)
 pos:=λx hx=>(Bo.mp hx).elim (h.pos x) (k.pos x)
 nd:=by
  rw[Qg,Ia];refine⟨h.nd,k.nd,λp hp q hq e=>?_⟩;obtain⟨y,hy,rfl⟩:=Ce.mp hp;obtain⟨z,hz,rfl⟩:=Ce.mp hq;exact hd y hy (e▸JI k hz)
 eq:=by rw[WH,h.eq,k.eq]
noncomputable def one (p t:Af):FL:=if t=0 then [] else [(p,t)]
set_option tactic.hygienic true in
theorem RJ (p t:Af):sgn (one p t)=sg (p,t):=by
 unfold one
 split
 .rename_i h
  subst h;unfold sg
  split
  .rfl
  .split
   .rename_i h
    exact absurd (show (0:Af) % 2=1 from h.2) (by decide)
   .rfl
 .show sg (p,t)*1=_
  exact Oe _
set_option tactic.hygienic true in
theorem US {t:Af}(h:t≠0->Prm p):Fac (one p t) (p ^ t):=by
 unfold one
 split
 .rename_i e
  subst e;exact jZ
 .rename_i e
  exact⟨λx hx=>by rw[Ca.mp hx];exact h e,λx hx=>by rw[Ca.mp hx];exact IF e,by simp,Kj _⟩
structure Rd (n:Af)(L:FL)(a l p:Af):Prop where
 fac:Fac L a
 eq:a*l=n
 pos:1<=l
 two:2<=p
 low:∀ d,2<=d->d<p->¬ d∣l
 off:∀ y∈L,¬ y.1∣l
 le:l=1\/p<=l
theorem Rd.small {n:Af}{a l:Af}(h:Rd n L a l p)(hn:1<=n):1<=a/\a<=n/\l<=n:=by
 have h1:l<=n:=Du om ⟨a,by rw[Dw];exact h.eq.symm⟩
 have h2:a<=n:=Du om ⟨l,h.eq.symm⟩;rcases Gh a with z|z
 .have:=h.eq
  rw[z,Nat.zero_mul] at this;omega
 .exact⟨z,h2,h1⟩
theorem Rd.out {n:Af}{a l t:Af}(h:Rd n L a (l*p ^ t) p)(hl:¬ p∣l):Fac (L++one p t) (a*p ^ t)/\a*p ^ t*l=n/\1<=l/\(∀ d,2<=d->d<=p->¬ d∣l)/\(∀ y∈L++one p t,¬ y.1∣l):=by
 have hd:∀ {d},d∣l->d∣l*p ^ t:=λh=>Gb h (Nat.dvd_mul_right _ _);have hp:t≠0->Prm p:=λht=>fV h.two (by
  obtain⟨k,rfl⟩:∃ k,t=k+1:=⟨t-1,by omega⟩
  rw[Gw,<- Ig];exact Mj _ _) h.low
 refine⟨h.fac.app (US hp) λy hy hd=>h.off y hy (Gb hd (Mj _ _)),?_,?_,λd h2 h3 h4=>?_,λy hy h4=>?_⟩
 .rw[Ig,Dw (p ^ t) l]
  exact h.eq
 .rcases Gh l with z|z
  .rw[z] at hl
   exact absurd (Nat.dvd_zero _) hl
  .exact z
 .rcases Eg d p with g|g
  .exact h.low d h2 g (hd h4)
  .have:d=p:=by omega
   exact hl (this▸h4)
 .rcases Bo.mp hy with hy|hy
  .exact h.off y hy (hd h4)
  .unfold one at hy
   split at hy
   .cases hy
   .rw[Ca.mp hy] at h4
    exact hl h4
noncomputable def nxt (l p:Af):Af:=if p*p<=l then p+1 else if p+1>l then p+1 else l
set_option tactic.hygienic true in
theorem Rd.next {n:Af}{a l:Af}(hF:Fac L a)(he:a*l=n)(hl:1<=l)(hp:2<=p)(low:∀ d,2<=d->d<=p->¬ d∣l)(off:∀ y∈L,¬ y.1∣l):Rd n L a l (nxt l p)/\p<nxt l p:=by
 have hlp:l=1\/p+1<=l:=by
  rcases Eg l 2 with g|g
  .exact .inl om
  .rcases Eg p l with g2|g2
   .exact .inr g2
   .exact absurd (Uf l) (low l g g2)
 have h1:∀ d,2<=d->d<nxt l p->¬ d∣l:=λd h2 h3 h4=>by
  unfold nxt at h3
  split at h3
  .exact low d h2 om h4
  .rename_i hsq
   split at h3
   .exact low d h2 om h4
   .have hpr:Prm l:=gE (d:=p) om om λe h5 h6=>low e h5 om
    rcases hpr.2 d h4 with g|g <;> omega
 refine⟨⟨hF,he,hl,?_,h1,off,?_⟩,?_⟩
 .unfold nxt
  split
  .omega
  .split <;> omega
 .rcases hlp with g|g
  .exact .inl g
  .refine .inr ?_
   unfold nxt
   split
   .omega
   .split <;> omega
 .unfold nxt
  split
  .omega
  .split <;> omega
noncomputable def jN (n:Af)(f:Aj)(l p:Af)(e:Al D):qD:=[Ab (.int (n:Aj)),Ab (.int f),Ab (.int (l:Aj)),Ab (.int (p:Aj)),e]
theorem L9 {n:Af}{f:Aj}{l:Af}(hl:1<=l/\l<=1000000000000)(hp:2<=p/\p<=2000000000000)(q:∀ l' t:Af,l=l'*p ^ t->¬ p∣l'->1<=l'->t<=1000000000000->Wo P (.nx (jN n f l' p (Ab (.int (t:Aj)))) S)) :
  Wo P (wZ (dTr (d2 gEq (d2 zW (qB 2) (qB 3)) (dC (.int 0)))) (bR 2 4 (qA (d2 j7 (qB 2) (qB 3)) (qA (d2 qY (qB 4) (dC (.int 1))) (qC)))) (jN n f l p (Ab (.int 0))) S):=by
 have hbig:1000000000001<big:=by rw[gS];omega
 refine b0 (λk env S'=>∃ l' t:Af,l'=k/\l=l'*p ^ t/\1<=l'/\env=jN n f l' p (Ab (.int (t:Aj)))/\S'=S) (λk env S' ⟨l',t,hk,h1,h2,he,hS⟩=>?_) (n:=l) om ⟨l,0,rfl,by rw[Yo,Kj],hl.1,rfl,rfl⟩
 subst hk he hS;have hle:l'<=l:=Du om ⟨_,h1⟩;refine qK (dE l' p _ _ 2 3 rfl rfl om) ⟨λhb=>?_,λhb=>?_⟩
 .obtain⟨r,rfl⟩:=Bi hb
  have hr:1<=r:=by
   rcases Gh r with z|z
   .rw[z] at h2
    omega
   .exact z
  have hdv:j7 (.int ((p*r:Af):Aj)) (.int (p:Aj)) S'=.ok (.int (r:Aj)) S':=by
   refine x8 (MA ⟨by omega,?_⟩ ⟨?_,rfl⟩)
   .rw[Ob]
    have:p.log2<50:=(Vz om).mpr om;omega
   .rw[Jo _ om]
    have:p*r/p=r:=Ky _ om
    congr 1
    omega
  unfold jN;rfl';refine qK hdv ?_;rfl';refine mE r ?_ ⟨r,t+1,rfl,?_,hr,rfl,rfl⟩
  .have:=Fn r hp.1
   omega
  .rw[h1,Gw,Dw p r,Ig,Dw p]
 .refine q l' t h1 (IH hb) h2 ?_
  have h3:=dW p t hp.1;have h4:p ^ t<=l:=Du om ⟨l',by rw[Dw];exact h1⟩
  omega
theorem JZ {n:Af}(hn:1<=n/\n<=1000000000000)(q:Q (.int (rr n)) S):Ok (S__law_round [.int (n:Aj)] S) Q:=by
 rw[uW];refine zC (env:=[Ab (.int (n:Aj)),none,none,none,none]) rfl ?_;rfl';have hbig:1000000000001<big:=by rw[gS];omega
 refine b0 (λk env S'=>∃ L a l p e,n+1-p=k/\Rd n L a l p/\env=jN n (4*sgn L) l p e/\S'=S) (λk env S' ⟨L,a,l,p,e,hk,h,he,hS⟩=>?_) (n:=n-1) om ⟨[],1,n,2,none,rfl,⟨jZ,by omega,hn.1,by omega,λd h1 h2=>by omega,by simp,by omega⟩,rfl,rfl⟩
 subst hk he hS;have hs:=h.small hn.1;have hfb:=HI (n:=a) ⟨hs.1,by omega⟩
 have hf:=gH h.fac hs.1;unfold jN;rfl';refine⟨λhb=>?_,λhb=>?_⟩
 .have hb:1<l:=by have:=Bi hb;omega
  have hpl:p<=l:=by rcases h.le with g|g <;> omega
  have h2:=h.two;rfl';refine L9 (n:=n) (l:=l) (p:=p) ⟨by omega,by omega⟩ ⟨h.two,by omega⟩ λl' t hl ht hl1 htb=>?_
  subst hl;obtain⟨hF,heq,_,low,off⟩:=h.out ht;have hsg:=hW L (one p t);rw[RJ] at hsg;have hmp:((p:Aj) % 4=1↔p % 4=1)/\((p:Aj) % 4=3↔p % 4=3)/\((t:Aj) % 2=1↔t % 2=1):=by omega
  obtain⟨hR,hlt⟩:=Rd.next hF heq hl1 h2 low off;have hs2:=hR.small hn.1;have hi:((p:Aj)*(p:Aj))=((p*p:Af):Aj):=by simp
  have fin:∀ {P:Out->Prop} {f:Aj},f=4*sgn (L++one p t)->Wo (whQ (λk env S''=>∃ L a l p e,n+1-p=k/\Rd n L a l p/\env=jN n (4*sgn L) l p e/\S''=S') (n+1-p) P) (qV (dIf (dTr (d2 gLe (d2 zD (qB 3) (qB 3)) (qB 2))) (d2 qY (qB 3) (dC (.int 1))) (qQ pO (qA (qB 2) (qA (d2 qY (qB 3) (dC (.int 1))) (qC))))) (gNm 3) (jN n f l' p (Ab (.int (t:Aj)))) S'):=by
   intro P f ef;subst ef;unfold jN;refine VB (qK (d:=.int (nxt l' p:Aj)) (S:=S') ?_ ?_)
   .refine x8 (EW ?_)
    rfl';refine⟨λhb=>?_,λhb=>?_⟩
    .have hb:p*p<=l':=by have:=Bi hb;rw[hi] at this;omega
     rfl';refine⟨?_,rfl⟩;unfold nxt;rw[AS hb];rfl
    .have hb:¬ p*p<=l':=λg=>by have:=IH hb;rw[hi] at this;omega
     rfl';refine MD ⟨?_,rfl⟩;unfold nxt;rw[AX hb]
     congr 1
     split <;> split <;> omega
   .rfl'
    exact mE _ om ⟨_,_,_,_,_,rfl,hR,rfl,rfl⟩
  unfold jN;rfl';refine xZ (λe1=>?_) λe1=>?_
  .rfl'
   have e3:¬ p % 4=3:=by omega
   have e3':¬ (p:Aj) % 4=3:=by omega
   refine dJ ?_;rfl';refine⟨λhb=>absurd (Bi hb) e3',λ_=>?_⟩;refine w_f (pI (vH (fin ?_)));rw[hsg,sg,AS (hmp.1.mp e1),OD]
  .have e1':=λg=>e1 (hmp.1.mpr g)
   rfl';refine dJ ?_;rfl';refine⟨λhb=>?_,λhb=>?_⟩
   .have e3:=Bi hb
    rfl';refine xZ (λe4=>?_) λe4=>?_
    ·-- an odd number of times
     rfl';have hz:rr n=0:=by
      obtain⟨M,hM⟩:=gZ l' hl1;rw[<- heq,<- gH (hF.app hM off) (by rw[heq];exact hn.1),hW,hsg,sg,AX e1',AS ⟨hmp.2.1.mp e3,hmp.2.2.mp e4⟩,Pd,Yp,Pd]
     rw[hz] at q;exact q
    .refine pI (vH (fin ?_))
     rw[hsg,sg,AX e1',AX λg=>e4 (hmp.2.2.mpr g.2),Oe]
   .have e3:=IH hb
    refine w_f (pI (vH (fin ?_)));rw[hsg,sg,AX e1',AX λg=>e3 (hmp.2.1.mpr g.1),Oe]
 .have hb:¬ 1<l:=λg=>by have:=IH hb;omega
  have h1:=h.pos;have:l=1:=by omega
  subst this;have he:=h.eq;rw[Kj] at he;subst he;rfl';rw[hf];exact q
def NoN (a b:Aj)(d:D):Prop:=Pn d/\inR a b d=false
theorem bB {a b:Aj}(hab : -1000000000<=a/\a<=b/\b<=1000000000000/\0<=b /\ -b-1<a)(h:wN S p):Ok (S__law_no_number [.loc p,.int a,.int b] S) λd S1=>NoN a b d/\Kp p S S1:=by
 rw[v8];refine zC (env:=[Ab (.loc p),Ab (.int a),Ab (.int b),none]) rfl ?_;rfl';refine qK (d:=.int 1000000000) rfl ?_;rfl';refine xU h li λw S1 k1 hw=>?_;rfl';refine w6 (Cf rfl) ?_;rfl';refine qK (d:=.int 100000000000000000000000000000) rfl ?_;rfl';refine w6 (Cf rfl) ?_;rfl';refine xU k1.pen li λw2 S2 k2 hw2=>?_;rfl';refine fR (show w2<12 by lia) λd hd=>?_
 rfl';refine⟨?_,k1.trans k2⟩;have io:∀ i:Aj,¬ (a<=i/\i<=b)->NoN a b (.int i):=λi h=>⟨⟨.int i,rfl⟩,Cj h⟩;simp only[Mf,Fg,Bg,Ed,IM] at hd;rcases hd with rfl|rfl|rfl|rfl|rfl|rfl|rfl|rfl|rfl|rfl|rfl|rfl
 .exact io _ li
 .exact io _ li
 .exact io _ li
 .exact io _ li
 .exact⟨⟨_,rfl⟩,rfl⟩
 .exact⟨⟨_,rfl⟩,rfl⟩
 .exact⟨⟨_,rfl⟩,rfl⟩
 .exact⟨⟨_,rfl⟩,rfl⟩
 .exact⟨⟨_,rfl⟩,rfl⟩
 .exact⟨⟨_,rfl⟩,rfl⟩
 .exact⟨⟨_,rfl⟩,rfl⟩
 .exact io _ li
theorem eL {n:Aj}{k:Af}(hn:1<=n/\n<=40)(hk:1<=k/\k<=1000000000000)(h:Q (.int (yB n (rr k))) S):Ok (S__law_most [.int n,.int (k:Aj)] S) Q:=by
 rw[jQ];refine zC (env:=[Ab (.int n),Ab (.int (k:Aj))]) rfl ?_;rfl';refine JZ hk ?_;rfl';refine oE ?_;rfl';exact h
noncomputable def fcs:Aa Af:=[2,5,13,17,4,9,5,29]
theorem MG (h:wN S p)(q:∀ (n:Af) S1,Kp p S S1->1<=n/\n<=1000000000000->Q (.int n) S1):Ok (S__law_rich [.loc p,.int 1000000000000] S) Q:=by
 rw[jR];refine zC (env:=[Ab (.loc p),Ab (.int 1000000000000),none,none,none]) rfl ?_;rfl';refine xU h om λr S1 k1 h1=>?_;rfl';refine⟨by omega,by omega,?_⟩
 refine yZ (λ_ env S'=>∃ (n:Af) (e3 e4:Al D),env=[Ab (.loc p),Ab (.int 1000000000000),Ab (.int n),e3,e4]/\Kp p S S'/\1<=n/\n<=1000000000000) ?_ ?_ ⟨1,_,_,rfl,k1,by decide⟩
 .rintro x xs _ S' ⟨n,e3,e4,rfl,K,hn⟩
  rfl';refine xU K.pen om λr S2 k2 h2=>?_;rfl';refine fR (show r<8 by omega) λd hd=>?_
  obtain⟨f,hf,rfl⟩:=Ce.mp (show d∈fcs.map λ(f:Af)=>D.int f from hd)
  have hf1:1<=f:=(show ∀ f∈fcs,1<=f by decide) f hf
  have e:(n:Aj)*(f:Aj)=((n*f:Af):Aj):=by push_cast;rfl
  have e1:1<=n*f:=Go hn.1 hf1;rfl';refine xZ (λz=>?_) λz=>?_
  .rw[e] at z
   rfl';exact uB ⟨n*f,_,_,by rw[e],K.trans k2,e1,by omega⟩
  .rfl'
   exact uB ⟨n,_,_,rfl,K.trans k2,hn⟩
 .rintro _ S' ⟨n,e3,e4,rfl,K,hn⟩
  rfl';exact q n S' K hn
noncomputable def tvD (ks:Aa Af):Aa (_L.Key × D):=ks.map λ(k:Af)=>(.inl (k:Aj),.bl true)
theorem TY (ks:Aa Af)(k:Af):yQ (tvD ks) (.inl (k:Aj)) (.bl true)=tvD (if k∈ks then ks else ks++[k]):=by
 have ha:((tvD ks).any λkv=>decide (kv.1=(.inl (k:Aj):_L.Key)))=true↔k∈ks:=by
  simp only[tvD,Ub,Vx,Ya,Ax];constructor
  .rintro⟨x,h1,h2⟩
   injection h2 with h2
   have:x=k:=by omega
   exact this▸h1
  .exact λh=>⟨k,h,rfl⟩
 unfold yQ;by_cases h:k∈ks
 .rw[AS (ha.mpr h),AS h]
  unfold tvD;rw[Ft];refine Fw λx _=>?_;show (if (Ei (x:Aj):_L.Key)=Ei (k:Aj) then _ else _)=_
  split <;> rfl
 .rw[AX λg=>h (ha.mp g),AX h]
  unfold tvD;rw[Qg];rfl
theorem J3 (ks:Aa Af):p5 (tvD ks)=Ab (ks.map λ(k:Af)=>(k:Aj)):=by
 induction ks with
 |nil=>rfl
 |cons k ks ih =>
  show (p5 (tvD ks)).map ((k:Aj)::·)=_
  rw[ih];rfl
noncomputable def tJ (ks:Aa Af):Aa Af:=(_S.vG _S.ltI (ks.map λ(k:Af)=>(k:Aj))).map Yb
theorem NR (ks:Aa Af):(_S.vG _S.ltI (ks.map λ(k:Af)=>(k:Aj))).map D.int=(tJ ks).map nD:=by
 unfold tJ;rw[Ft];refine Fw λx hx=>?_;obtain⟨k,_,rfl⟩:=Ce.mp ((_S.yI _).mem_iff.mp hx);rfl
theorem pG (ks:Aa Af):(tJ ks).Perm ks:=by
 have h:=(_S.yI (lt':=_S.ltI) (ks.map λ(k:Af)=>(k:Aj))).map Yb;rw[Ft] at h;have e:ks.map (Yb∘λ(k:Af)=>(k:Aj))=ks:=by
  conv=>rhs;rw[<- Vu ks]
  exact Fw λq _=>rfl
 rw[e] at h;exact h
theorem Y4 {ks:Aa Af}(ne:ks≠[])(hl:ks.length<=60)(nd:ks.Nodup)(hb:∀ k∈ks,1<=k/\k<=1000000000000):Frs (tJ ks) where
 ne:=λe=>ne (IR (by rw[<- (pG ks).length_eq,e];rfl))
 len:=by rw[(pG ks).length_eq];omega
 up:=by
  have nd':(ks.map λ(k:Af)=>(k:Aj)).Nodup:=Gu.mpr (nd.imp λh e=>h om);have h:=_S.o8 _S.WB (_S.c6 _S.WB (ks.map λ(k:Af)=>(k:Aj))) ((_S.yI _).nodup_iff.mpr nd');refine Gu.mpr ((List.pairwise_and_iff.mpr ⟨h,List.pairwise_iff_forall_sublist.mpr λ{a b} hs=>?_⟩:List.Pairwise (λa b=>_S.ltI a b=true/\(0<=a/\0<=b)) _).imp λ{a b} ⟨h1,h2,h3⟩=>?_)
  .have m:∀ x∈_S.vG _S.ltI (ks.map λ(k:Af)=>(k:Aj)),0<=x:=λx hx=>by
    obtain⟨k,_,rfl⟩:=Ce.mp ((_S.yI _).mem_iff.mp hx);omega
   exact⟨m a (hs.subset (by simp)),m b (hs.subset (by simp))⟩
  .have:a<b:=by simpa [_S.ltI] using h1
   omega
 b:=λn hn=>hb n ((pG ks).mem_iff.mp hn)
theorem K0 {f:DE}(h:Ok (f env S) λd S1=>∃ j ks,d=.loc j/\S1[j]? = Ab (.dct (tvD ks))/\ks.length<=63/\Q (.lst ((tJ ks).map nD)) S1):Ok (f9 f env S) Q:=qW (zE h λd S1 ⟨j,ks,e,hj,hl,q⟩=>⟨_,S1,by
 subst e;rw[B5 hj];show (match p5 (tvD ks) with|some ns=>if ns.length<=63 then Res.ok (D.lst ((_S.vG _S.ltI ns).map D.int)) S1 else .bad|none=>.bad)=_
 rw[J3,<- NR];exact AS (by rw[Ba];exact hl),q⟩)
theorem R5 (S:Sto):wG (.int 10) (.int 6) S=.ok (.int 1000000) S:=rfl
theorem fP {j:Af}{S1:Sto}{m:MO}(k:Kp p S S1)(h:S[j]? = Ab m)(hj:j≠p):S1[j]? = Ab m:=(k.same j (Bl.mp h).1 hj).trans h
set_option tactic.hygienic true in
theorem MJ (h:wN S p)(q:∀ ns S1,Kp p S S1->Frs ns->Q (nsD ns) S1):Ok (S__law_some [.loc p] S) Q:=by
 have hpl:=TL h;have hjp:S.length≠p:=by omega
 rw[jT];refine zC (env:=[Ab (.loc p),none,none,none,none]) rfl ?_;rfl';have h0:=Kp.pre h (Fi S [MO.dct []]);refine xU h0.pen om λr S1 k1 hr=>?_;rfl';refine⟨by omega,by omega,?_⟩
 refine yZ (enc:=λ(i:Af)=>D.int (i:Aj)) (λxs env S'=>∃ ks e2 e3 e4,Kp p S S'/\S'[S.length]? = Ab (.dct (tvD ks))/\ks.length+xs.length<=12/\ks.Nodup/\(∀ k∈ks,1<=k/\k<=1000000000000)/\(ks=[]->xs≠[])/\env=[Ab (.loc p),Ab (.loc S.length),e2,e3,e4]) ?_ ?_ ⟨[],_,_,_,h0.trans k1,fP k1 (gY _ _) hjp,?_,Xe,by simp,λ_ e=>?_,rfl⟩
 .rintro x xs _ S' ⟨ks,e2,e3,e4,K,hd,hl,nd,hb,_,rfl⟩
  rfl';refine xU K.pen om λw S2 k2 hw=>?_;rfl';refine qK (uO _) ?_;rfl';refine MG k2.pen λn1 S3 k3 hn1=>?_;rfl';refine xU k3.pen om λr1 S4 k4 h4=>?_;rfl';refine qK (R5 _) ?_;rfl';refine xU k4.pen om λr2 S5 k5 h5=>?_;rfl';refine fR (show w<4 by omega) λd hdm=>?_
  obtain⟨k,rfl,hk⟩:∃ k:Af,d=.int (k:Aj)/\1<=k/\k<=1000000000000:=by
   simp only[Bg,Ed,IM] at hdm;rcases hdm with rfl|rfl|rfl|rfl
   .exact⟨n1,rfl,hn1⟩
   .exact⟨1+r1,by push_cast;rfl,by omega,by omega⟩
   .exact⟨1+r2,by push_cast;rfl,by omega,by omega⟩
   .exact⟨5,rfl,by omega,by omega⟩
  have K5:=(((K.trans k2).trans k3).trans k4).trans k5;have hd5:=fP k5 (fP k4 (fP k3 (fP k2 hd hjp) hjp) hjp) hjp;rw[Bv] at hl;refine oH hd5 (by simp only[tvD,Ba];unfold lim;omega) ?_
  rw[TY];rfl';have hj5:S.length<S5.length:=(Bl.mp hd5).1;refine uB ⟨if k∈ks then ks else ks++[k],_,_,_,K5.set (Aq _) _ (Fa hjp),by simp[hj5],?_,?_,?_,λe=>?_,rfl⟩
  .split
   .omega
   .rw[Dg,Jc];omega
  .split
   .exact nd
   .rename_i hk
    rw[Ia];exact⟨nd,by simp,λa ha b hb e=>by rw[Ca.mp hb] at e;exact hk (e▸ha)⟩
  .intro y hy
   split at hy
   .exact hb y hy
   .rcases Bo.mp hy with g|g
    .exact hb y g
    .rw[Ca.mp g];exact hk
  .split at e
   .rename_i hk
    rw[e] at hk;cases hk
   .simp at e
 .rintro _ S' ⟨ks,e2,e3,e4,K,hd,hl,nd,hb,ne,rfl⟩
  rfl';refine K0 (o_v rfl ⟨_,ks,rfl,hd,by simp at hl;omega,?_⟩)
  rfl';exact q _ S' K (Y4 (λe=>ne e rfl) (by simp at hl;omega) nd hb)
 .rw[Ew,Er]
  omega
 .have:=congrArg Ls e
  rw[Er,Ew] at this;omega
def NoF (d:D):Prop:=Pn d/\jJ d=false
theorem cW (xs:Aa D):jJ (.tup xs)=(decide (1<=xs.length/\xs.length<=100)&&(xs.all (inR 1 1000000000000)&&match xG xs with|some ns=>upI ns|none=>false)):=rfl
theorem FB {x:D}(hx:x∈xs)(h:inR 1 1000000000000 x=false):jJ (.tup xs)=false:=by
 have:xs.all (inR 1 1000000000000)=false:=by
  rw[List.all_eq_false];exact⟨x,hx,by rw[h];simp⟩
 rw[cW,this,Jd,Rg]
theorem FC (h:¬ (1<=xs.length/\xs.length<=100)):jJ (.tup xs)=false:=by
 rw[cW,Cj h,Jd]
theorem iQ (h:¬ xs.Nodup):jJ (.tup xs)=false:=by
 cases e:jJ (.tup xs) with
 |false=>rfl
 |true =>
  rw[cW,As,As] at e;obtain⟨ns,rfl⟩:=cX e.2.1;have e2:=e.2.2;rw[j8] at e2;refine absurd (Gu.mpr (((tL _).mp e2).imp λ{a b} hab z=>?_)) h;injection z with z
  omega
theorem aP (x:D)(xs:Aa D):x∈_H.stepL (x::xs) (-1):=by
 unfold _H.stepL;refine Gc.mpr ⟨xs.length,Es.mpr (by rw[gI];simp),?_⟩
 have h:_H.stepLo (x::xs).length (-1)=(xs.length:Aj):=by
  unfold _H.stepLo Ek;simp
 rw[h];have:((xs.length:Aj)+(xs.length:Aj) * -1).toNat=0:=by omega
 rw[this];rfl
noncomputable def W8:Aa D:=[.int 0,.int (-1),.bl true,.non,.str "1",.tup [.int 1],.int (1000000000000+1)]
theorem K6:∀ o∈W8,Pn o/\inR 1 1000000000000 o=false:=by
 intro o ho;simp only[W8,Bg,Ed,IM] at ho;rcases ho with rfl|rfl|rfl|rfl|rfl|rfl|rfl
 .exact⟨⟨_,rfl⟩,rfl⟩
 .exact⟨⟨_,rfl⟩,rfl⟩
 .exact⟨⟨_,rfl⟩,rfl⟩
 .exact⟨⟨_,rfl⟩,rfl⟩
 .exact⟨⟨_,rfl⟩,rfl⟩
 .exact⟨⟨_,rfl⟩,rfl⟩
 .exact⟨⟨_,rfl⟩,show decide ((1:Aj)<=1000000000000+1/\(1000000000000+1:Aj)<=1000000000000)=false from by decide⟩
noncomputable def kJ:Aa D:=(Cw 101).map λ(i:Af)=>D.int (1+(i:Aj))
theorem EV {x z:D}{ys bn:Aa D}(hx:ys=x::xs)(hp:∀ y∈ys,∃ i:Aj,y=.int i)(hz:z∈ys)(hb:NoF (.tup bn)):∀ d∈[D.tup bn,.tup bn,.tup bn,.tup [],.non,.lst ys,x,.str "1 2",.dct0]++[D.tup (ys++[z]),.tup kJ]++[D.tup (_H.stepL ys (-1)++[x]),.tup [.int 2,.int 1],.tup [.int 1,.int 3,.int 2]],NoF d:=by
 have pp:∀ y∈ys,Pn y:=λy hy=>by
  obtain⟨i,rfl⟩:=hp y hy;exact⟨_,rfl⟩
 intro d hd;simp only[Mf,Fg,Bg,Ed,IM] at hd;rcases hd with rfl|rfl|rfl|rfl|rfl|rfl|rfl|rfl|rfl|rfl|rfl|rfl|rfl|rfl
 .exact hb
 .exact hb
 .exact hb
 .exact⟨⟨_,rfl⟩,rfl⟩
 .exact⟨⟨_,rfl⟩,rfl⟩
 .exact⟨HA pp,rfl⟩
 .obtain⟨i,e⟩:=hp d (by rw[hx];simp)
  rw[e];exact⟨⟨_,rfl⟩,rfl⟩
 .exact⟨⟨_,rfl⟩,rfl⟩
 .exact⟨⟨_,rfl⟩,rfl⟩
 .refine⟨dS λy hy=>?_,iQ λnd=>?_⟩
  .rcases Bo.mp hy with g|g
   .exact pp y g
   .rw[Ca.mp g];exact pp z hz
  .rw[Ia] at nd
   exact nd.2.2 z hz z (by simp) rfl
 .refine⟨dS λy hy=>?_,FC (by unfold kJ;simp)⟩
  obtain⟨i,_,rfl⟩:=Ce.mp hy;exact⟨_,rfl⟩
 .have hx':x∈ys:=by rw[hx];simp
  refine⟨dS λy hy=>?_,iQ λnd=>?_⟩
  .rcases Bo.mp hy with g|g
   .exact pp y (QP g)
   .rw[Ca.mp g];exact pp x hx'
  .rw[Ia] at nd
   exact nd.2.2 x (by rw[hx];exact aP x xs) x (by simp) rfl
 .exact⟨⟨_,rfl⟩,rfl⟩
 .exact⟨⟨_,rfl⟩,rfl⟩
theorem MH (q:Q (.tup kJ) S):Ok (pM true (qA (dC (.int 1)) (qA (dC (.int 102)) (qC))) env S) Q:=by
 refine qW (wJ (o_c (wJ (o_c (fT ⟨.tup kJ,S,?_,q⟩)))));have e:yU [.int 1,.int 102]=Ab kJ:=by
  unfold yU;exact AS (by decide)
 rw[e];exact AS (by unfold kJ lim;rw[Ba,Er];omega)
theorem oF {ns:Aa Af}(F:Frs ns){S:Sto}(h:wN S p):Ok (S__law_no_fars [.loc p,nsD ns] S) λd S1=>NoF d/\Kp p S S1:=by
 rw[vX];unfold nsD;have n0:0<(ns.map nD).length:=by rw[Ba];exact Nl.mpr F.ne
 have n1:(ns.map nD).length<=100:=by rw[Ba];exact F.len
 have hp:∀ y∈ns.map nD,∃ i:Aj,y=.int i:=λy hy=>by
  obtain⟨k,_,rfl⟩:=Ce.mp hy;exact⟨_,rfl⟩
 generalize ns.map nD=ys at n0 n1 hp ⊢;refine zC (env:=[Ab (.loc p),Ab (.tup ys),none,none,none,none,none]) rfl ?_;unfold b__law_no_fars;rfl';refine xU h om λw S1 k1 hw=>?_;rfl';refine xU k1.pen om λa S2 k2 ha=>?_;rfl';refine qK (uO _) ?_;rfl';refine xU k2.pen om λb S3 k3 hb=>?_;have K:=(k1.trans k2).trans k3;rfl';refine fR (a:=W8) (show b<7 by omega) λo ho=>?_
 have on:=K6 o ho;rfl';rw[iA _ a om];refine pC (by simp only[Ey,Bv,Ew];unfold lim;omega) ?_
 rfl';rw[show (a:Aj)+1=((a+1:Af):Aj) by omega,B0 _ (a+1) om]
 refine pC (by simp only[Dg,Ey,Im,Bv,Ew];unfold lim;omega) ?_
 have hbn:NoF (.tup (ys.take a++[o]++ys.drop (a+1))):=by
  refine⟨dS λy hy=>?_,FB (x:=o) (by simp) on.2⟩
  have pp:∀ y∈ys,Pn y:=λy hy=>by
   obtain⟨i,rfl⟩:=hp y hy;exact⟨_,rfl⟩
  rcases Bo.mp hy with g|g
  .rcases Bo.mp g with g|g
   .exact pp y (Rv g)
   .rw[Ca.mp g];exact on.1
  .exact pp y (Rp g)
 generalize ys.take a++[o]++ys.drop (a+1)=bn at hbn;obtain⟨x,xs,hys⟩:∃ x xs,ys=x::xs:=by
  cases ys with
  |nil=>cases n0
  |cons x xs=>exact⟨x,xs,rfl⟩
 obtain⟨l',z,hzs⟩:∃ l' z,ys=l'++[z]:=by
  rcases Qx ys with e|⟨l',z,e⟩
  .rw[e] at n0;cases n0
  .exact⟨l',z,by rw[e,Qy]⟩
 have hno:=EV (z:=z) hys hp (by rw[hzs];simp) hbn
 have lc:xB ys (Ab (-1)) none=[z]:=by rw[hzs];exact VY _ _
 have fc:xB ys none (Ab 1)=[x]:=by
  have:=iA ys 1 om;rw[show ((1:Af):Aj)=1 from rfl] at this
  rw[this,hys];rfl
 rfl';refine YY (d:=x) ?_ ?_
 .rw[hys];exact lC (a:=0) (by simp)
 rfl';rw[lc];refine pC (by rw[Jc];unfold lim;omega) ?_
 rfl';refine MH ?_;rfl';refine w6 (Cf rfl) ?_;rfl';refine o_2 ?_;rfl';refine MK om ?_;rfl';rw[fc];have hst:(_H.stepL ys (-1)).length<=100:=by
  unfold _H.stepL;refine Bu (OH _ _) ?_;rw[Er,gI];exact n1
 refine pC (by rw[Jc];unfold lim;omega) ?_
 rfl';refine w6 (Cf rfl) ?_;rfl';refine fR (show w<14 by omega) λd hd=>?_
 exact mD ⟨hno d hd,K⟩
structure Nc (k b:Af)(hl hd:Ao)(d:D)(p:Tg):Prop where
 py:pyD d=Ab p
 sh:p.showable=true
 lv:p.leavesShort 40=true
 bu:p.bulk<=b
 de:p.depth<=k
 di:p.hasDict=true->hd=true
 li:u4 d=false->hl=true
def uG (k b:Af)(hl hd:Ao)(d:D):Prop:=∃ p,Nc k b hl hd d p
theorem uG.mono {k b k' b':Af}{hl hd hl' hd':Ao}{d:D}(h:uG k b hl hd d)(h1:k<=k')(h2:b<=b')(h3:hl=true->hl'=true)(h4:hd=true->hd'=true):uG k' b' hl' hd' d:=by
 obtain⟨p,h⟩:=h;exact⟨p,h.py,h.sh,h.lv,Bu h.bu h2,Bu h.de h1,λz=>h4 (h.di z),λz=>h3 (h.li z)⟩
theorem uG.repr {k b:Af}{hl hd:Ao}{d:D}(h:uG k b hl hd d)(h1:k<=60)(h2:b<=65536)(h3:(hl&&hd)=false):∃ x,gG d=Ab x:=by
 obtain⟨p,h⟩:=h;refine⟨p.shown,?_⟩;unfold gG;rw[h.py];have hk:pF d p=true:=by
  unfold pF;rw[h.sh,h.lv,Cu (show p.bulk<=2 ^ 16 by have:=h.bu;lia),Cu (show p.depth<=60 by have:=h.de;lia)]
  cases hh:p.hasDict with
  |false=>rfl
  |true =>
   have:=h.di hh;subst this;cases hn:u4 d with
   |true=>rfl
   |false =>
    have:=h.li hn;subst this;cases h3
 show (if pF d p=true then Ab p.shown else none)=_
 rw[AS hk]
theorem o4 {i:Aj}(h:(PyData.shown (.int i)).length<=40)(h2:i.natAbs.log2<1920):uG 0 0 false false (.int i):=
 ⟨.int i,rfl,Cu h2,Cu h,Aq _,Aq _,(λz=>by cases z),(λz=>by cases z)⟩
theorem W1 {i:Aj}(h:i.natAbs<10 ^ 12):uG 0 0 false false (.int i):=by
 refine o4 (Bu (PyData.shown_int_le h) li) ?_;have:i.natAbs<2 ^ 1920:=Aw h (kd);by_cases hm:i.natAbs=0
 .rw[hm];decide
 .exact(Vz hm).mpr this
theorem ncs {k b:Af}{hl hd:Ao}:∀ (xs:Aa D),(∀ x∈xs,uG k b hl hd x)->∃ ps,uQ xs=Ab ps/\Ts ps=true/\Qz 40 ps=true/\Xf ps<=xs.length*(b+1)/\Wq ps<=k/\(Uz ps=true->hd=true)/\(kA xs=false->hl=true)
 |[],_=>⟨[],rfl,rfl,rfl,Hn _,Hn _,(λz=>by cases z),(λz=>by cases z)⟩
 |d::ds,h=>by
  obtain⟨p,n⟩:=h d (by simp)
  obtain⟨ps,a1,a2,a3,a4,a5,a6,a7⟩:=ncs ds λx hx=>h x (by simp[hx])
  refine⟨p::ps,?_,?_,?_,?_,?_,?_,?_⟩
  .simp only[uQ,n.py,a1,Option.bind_some,Na]
  .simp only[Ts,n.sh,a2,Yc]
  .simp only[Qz,n.lv,a3,Yc]
  .have:=n.bu
   rw[Bv,Yg];simp only[Xf]
   lia
  .simp only[Wq]
   exact Nat.max_le.mpr ⟨n.de,a5⟩
  .intro z
   simp only[Uz,Gs] at z;rcases z with z|z
   .exact n.di z
   .exact a6 z
  .intro z
   simp only[kA,Bool.and_eq_false_iff] at z;rcases z with z|z
   .exact n.li z
   .exact a7 z
theorem M7 {k b:Af}{hl hd:Ao}(h:∀ x∈xs,uG k b hl hd x)(hm:xs.length<=m):uG (k+1) (m*(b+1)) hl hd (.tup xs):=by
 obtain⟨ps,a1,a2,a3,a4,a5,a6,a7⟩:=ncs xs h;refine⟨.tuple ps,by simp only[pyD,a1,Na],by simpa only [Wi] using a2,by simpa only [PyData.leavesShort] using a3,?_,?_,by simpa only [PyData.hasDict] using a6,by simpa only [u4] using a7⟩
 .simp only[PyData.bulk]
  exact Bu a4 (Fn _ hm)
 .simp only[PyData.depth]
  lia
theorem M6 (x:An)(S:Sto):gNe (.str x) (.str x) S=.ok (.bl false) S:=by
 unfold gNe;rw[show (pl yN (.str x))=true from rfl]
 show Res.ok (D.bl (!(x == x))) S=_;rw[Em];rfl
theorem GF {ns:Aa Af}(F:Frs ns):∃ x,∀ S,pQ [nsD ns] S=.ok (.str x) S:=by
 have hn:uG 1 (100*(0+1)) false false (nsD ns):=M7 (λx hx=>by
  obtain⟨n,hn,rfl⟩:=Ce.mp hx;have:=F.b n hn;rcases Eg n 1000000000000 with g|g
  .exact W1 (by rw[Ob];omega)
  .have:n=1000000000000:=by omega
   rw[this];exact o4 (i:=((1000000000000:Af):Aj)) (kd) (kd)) (by rw[Ba];exact F.len)
 obtain⟨x,e⟩:=hn.repr om om rfl;refine⟨x,λS=>?_⟩;show (match gG (nsD ns) with|some x=>Res.ok (D.str x) S|none=>.bad)=_
 rw[e]
theorem l7 {n:Af}{v:Aj}(h:okF L n=true)(hn:1<=n)(e:4*sgn L=v):rr n=v:=by
 rw[<- gH (eN h) hn,e]
theorem V7:rr 25=12:=l7 (L:=[(5,2)]) (kd) (by decide) (by decide)
theorem Y0:rr 3=0:=l7 (L:=[(3,1)]) (kd) (by decide) (by decide)
theorem HH:rr 1=4:=l7 (L:=[]) (kd) (by decide) (by decide)
theorem RF:rr 1000000000000=52:=l7 (L:=[(2,12),(5,12)]) (kd) (by decide) (by decide)
noncomputable def vM:Aa Af:=(Cw 100).map λi=>1+i
def fr1 (n:Af)(h:1<=n/\n<=1000000000000):Frs [n]:=⟨by simp,by simp,by simp,λk hk=>by rw[Ca.mp hk];exact h⟩
theorem YO:Frs vM where
 ne:=by decide
 len:=by decide
 up:=Gu.mpr (Qf.imp λh=>by omega)
 b:=λn hn=>by
  obtain⟨i,hi,rfl⟩:=Ce.mp hn;have:=Es.mp hi;omega
theorem K8:(vM.all λk=>okF (F7 k) k)=true:=kd
theorem VM:decide ((40:Aj)*(40-1)/2<=(vM.map λk=>yB 40 (rr k)).sum)=true:=by
 have e:(vM.map λk=>yB 40 (rr k))=vM.map λk=>yB 40 (4*sgn (F7 k)):=Fw λk hk=>by
  rw[gH (eN (Cb.mp K8 k hk)) (YO.b k hk).1]
 rw[e]
 decide +kernel
theorem LW:decide ((2:Aj)*(2-1)/2<=(([3]:Aa Af).map λk=>yB 2 (rr k)).sum)=false:=by
 rw[Kr,Y0];rfl
theorem LY:decide ((2:Aj)*(2-1)/2<=(([1]:Aa Af).map λk=>yB 2 (rr k)).sum)=true:=by
 rw[Kr,HH];rfl
theorem LZ:decide ((1:Aj)*(1-1)/2<=(([3]:Aa Af).map λk=>yB 1 (rr k)).sum)=true:=by
 rw[Kr,Y0];rfl
theorem D0:decide ((2:Aj)*(2-1)/2<=(([1000000000000]:Aa Af).map λk=>yB 2 (rr k)).sum)=true:=by
 rw[Kr,RF];rfl
theorem kE {ns:Aa Af}{n:Aj}{b:Ao}(c:Cl)(hn:1<=n/\n<=40)(F:Frs ns)(e:decide (n*(n-1)/2<=(ns.map λk=>yB n (rr k)).sum)=b)(q:∀ S1,S<+:S1->Q (.bl b) S1):Ok (S_can_have c [.int n,nsD ns] S) Q:=SI c hn F λS1 p1=>by rw[e];exact q S1 p1
theorem W7 (q:Q (nsD vM) S):Ok (pM true (qA (dC (.int 1)) (qA (dC (.int 101)) (qC))) env S) Q:=by
 refine qW (wJ (o_c (wJ (o_c (fT ⟨nsD vM,S,?_,q⟩)))));have e:yU [.int 1,.int 101]=Ab (vM.map nD):=by
  unfold yU;refine(AS (by decide)).trans (congrArg Ab ?_)
  unfold vM xE;rw[Ft];refine Fw λi _=>?_;show D.int _=D.int _
  congr 1
 rw[e];exact AS (by rw[Ba];unfold vM lim;rw[Ba,Er];omega)
theorem UY {m s:Aj}:decide (m*(m-1)/2<=s)=decide (m*(m-1)<=2*s):=by
 have h2:∃ k,m*(m-1)=2*k:=by
  rcases Int.emod_two_eq m with e|e
  .exact⟨m/2*(m-1),by rw[<- OD];congr 1;omega⟩
  .refine⟨m*((m-1)/2),?_⟩
   rw[Uy]
   congr 1
   omega
 obtain⟨k,e⟩:=h2;rw[e,Qe,Ax,Ax];omega
def IvL (ns:Aa Aj):Aa Aj->qD->Sto->Prop:=λ_ env _=>∃ e1 e2 e3 e4 e5 e6 e7 e8 e9 e10 e11 e12 e13,env=[Ab (.lst (ns.map D.int)),e1,e2,e3,e4,e5,e6,e7,e8,e9,e10,e11,e12,e13]
theorem dF (S:Sto):gNe (.str "number") (.str "number") S=.ok (.bl false) S:=by kernel_rfl!
theorem M5 (S:Sto):gNe (.str "fars") (.str "fars") S=.ok (.bl false) S:=by kernel_rfl!
theorem XO (c:Cl)(nd:(zZ c).Nodup)(ns:Aa Aj)(hl:ns.length<=63):∃ S,qP 14 (b_law c) [.lst (ns.map D.int)] [] = .ok (.bl true) S:=by
 have key:Ok (qP 14 (b_law c) [.lst (ns.map D.int)] []) λd _=>d=.bl true:=by
  refine zC (env:=[Ab (.lst (ns.map D.int)),none,none,none,none,none,none,none,none,none,none,none,none,none]) rfl ?_;unfold b_law;rfl';refine fS c (k:=25) ⟨by omega,by omega⟩ ⟨by omega,by omega⟩ λSa _=>?_
  rw[V7];rfl';refine fS c (k:=3) ⟨by omega,by omega⟩ ⟨by omega,by omega⟩ λSb _=>?_
  rw[Y0];rfl';refine fS c (k:=25) ⟨by omega,by omega⟩ ⟨by omega,by omega⟩ λSc _=>?_
  rw[V7];rfl';refine qK (sA Sc (d:=.lst [.int 240,.int 0,.int 0]) ⟨Cf rfl,λx hx=>?_⟩) ?_
  .simp only[Bg,Ed,IM] at hx
   rcases hx with rfl|rfl|rfl <;> trivial
  rfl';refine jC ?_;rfl';refine kE c (ns:=[3]) ⟨by omega,by omega⟩ (fr1 3 om) LW λSd _=>?_
  rfl';refine qK (d:=.bl false) rfl ?_;rfl';refine⟨(λe=>by cases e),λ_=>?_⟩
  refine jC ?_;rfl';refine kE c (ns:=[1]) ⟨by omega,by omega⟩ (fr1 1 om) LY λSe _=>?_
  rfl';refine qK (d:=.bl false) rfl ?_;rfl';refine⟨(λe=>by cases e),λ_=>?_⟩
  rfl';refine kE c (ns:=[3]) ⟨by omega,by omega⟩ (fr1 3 om) LZ λSf _=>?_
  rfl';refine qK (d:=.bl false) rfl ?_;rfl';refine jC ?_;rfl';refine W7 ?_;rfl';refine kE c ⟨by omega,by omega⟩ YO VM λSg _=>?_
  rfl';refine qK (d:=.bl false) rfl ?_;rfl';refine⟨(λe=>by cases e),λ_=>?_⟩
  rfl';refine qK (uO _) ?_;rfl';refine kE c (ns:=[1000000000000]) ⟨by omega,by omega⟩ (fr1 1000000000000 om) D0 λSh _=>?_
  rfl';refine qK (d:=.bl false) rfl ?_;refine⟨_,rfl,?_⟩;refine w_f (pI (vH (gJ ?_)));refine VD (GC ns hl 6 rfl λms=>?_);refine yZ (IvL ns) ?_ ?_ ⟨_,_,_,_,_,_,_,_,_,_,_,_,_,rfl⟩
  .rintro y xs _ S ⟨e1,e2,e3,e4,e5,e6,e7,e8,e9,e10,e11,e12,e13,rfl⟩
   rfl';refine SJ λp S0 p0=>?_;rfl';refine xU p0 om λr1 S1 k1 h1=>?_;rfl';refine MJ k1.pen λfs S2 k2 F=>?_;obtain⟨n,hn⟩:∃ n:Aj,n=1+(r1:Aj):=⟨_,rfl⟩;rw[<- hn];have hn:1<=n/\n<=40:=by omega
   rfl';refine qK (uO _) ?_;rfl';refine qK (d:=.int 762939453125) rfl ?_;rfl';refine pC (a:=fs.map nD) (by have:=F.len;rw[Ba];show _+3<=lim;unfold lim;omega) ?_
   refine⟨(fs++[1000000000000,1,762939453125]).map nD,by rw[Qg];rfl,?_⟩
   refine yZ (enc:=λ(k:Af)=>D.int (k:Aj)) (λks env S'=>(∀ k∈ks,1<=k/\k<=1000000000000)/\wN S' p/\∃ e4,env=[Ab (.lst (ns.map D.int)),Ab (.int y),Ab (.loc p),Ab (nsD fs),e4,e5,e6,e7,e8,e9,e10,Ab (.int n),e12,e13]) ?_ ?_ ⟨λk hk=>?_,k2.pen,_,rfl⟩
   .rintro k ks _ S3 ⟨hk,pp,e4,rfl⟩
    have hk1:=hk k (.head _);rfl';refine fS c hn hk1 λS4 p4=>?_;rfl';refine eL hn hk1 ?_;rfl';refine qK (sA S4 (d:=.int _) trivial) ?_;rfl';exact uB ⟨λk h=>hk k (.tail _ h),tH pp p4,_,rfl⟩
   .rintro _ S3 ⟨_,pp,e4,rfl⟩
    obtain⟨x,hx⟩:=GF F;rfl';refine qK (hx _) ?_;rfl';refine xU pp om λr2 S4 k4 h4=>?_;rfl';refine c8 (λds env S'=>(∀ d∈ds,∃ m:Aj,d=.int m/\1<=m/\m<=40)/\wN S' p/\∃ e6 e7 e8,env=[Ab (.lst (ns.map D.int)),Ab (.int y),Ab (.loc p),Ab (nsD fs),e4,Ab (.str x),e6,e7,e8,e9,e10,Ab (.int n),e12,e13]) ?_ ?_ ⟨?_,k4.pen,_,_,_,rfl⟩
    .rintro d ds _ S5 ⟨hd,pp,e6,e7,e8,rfl⟩
     obtain⟨m,rfl,hm⟩:=hd d (.head _);rfl';refine kF (enc:=nD) (o:=none) fs (λk=>D.int (yB m (rr k))) (λenv S'=>S'=S5/\∃ a,env=[a,Ab (.int m)]) (XC rfl) ⟨rfl,none,rfl⟩ (by have:=F.len;unfold lim;omega) (λ_ _ _=>trivial) (λk hk env S' ⟨e1,a,e2⟩=>?_) λenv S' ⟨e1,_⟩=>?_
     .subst e1 e2
      rfl';exact eL hm (F.b k hk) ⟨rfl,rfl,_,rfl⟩
     .subst e1
      rfl';refine V0 ?_;rfl';generalize hs:(fs.map λk=>yB m (rr k)).sum=s;refine jC ?_;rfl';refine kE c hm F (UY.trans (by rw[hs])) λS6 p6=>?_
      rfl';refine qK (sA S6 (d:=.bl _) trivial) ?_;rfl';refine⟨(λe=>by cases e),λ_=>?_⟩
      rfl';refine qK (hx _) ?_;rfl';refine qK (M6 x S6) ?_;rfl';exact uB ⟨λd h=>hd d (.tail _ h),tH pp p6,_,_,_,rfl⟩
    .rintro _ S5 ⟨_,pp,e6,e7,e8,rfl⟩
     rfl';refine zE (bB (a:=1) (b:=40) om pp) λbd S6 ⟨hbd,k6⟩=>?_;rfl';refine qK (uO _) ?_;rfl';refine zE (bB (a:=1) (b:=1000000000000) om k6.pen) λod S7 ⟨hod,k7⟩=>?_;rfl';refine zE (oF F k7.pen) λnf S8 ⟨hnf,k8⟩=>?_;rfl';refine c8 (λ_ env _=>∃ e10,env=[Ab (.lst (ns.map D.int)),Ab (.int y),Ab (.loc p),Ab (nsD fs),e4,Ab (.str x),e6,e7,e8,Ab bd,e10,Ab (.int n),Ab nf,Ab od]) ?_ ?_ ⟨_,rfl⟩
     .rintro d ds _ S9 ⟨e10,rfl⟩
      rfl';refine nZ (by rw[Dh];simp[vQ]) (vE c nd) (caps:=[bd,d]) rfl ((nP (a:=bd) (b:=d) rfl rfl).trans (oA c S9 hbd.1 hbd.2)) ?_
      rfl';refine qK (dF S9) ?_;rfl';exact uB ⟨_,rfl⟩
     .rintro _ S9 ⟨e10,rfl⟩
      rfl';refine nZ (by rw[Dh];simp[vQ]) (vE c nd) (caps:=[.int n,od]) rfl ((nP (a:=.int n) (b:=od) rfl rfl).trans (o9 c S9 hn hod.1 hod.2)) ?_
      rfl';refine qK (dF S9) ?_;rfl';refine nZ (by rw[Dh];simp[vQ]) (vE c nd) (caps:=[bd,nf]) rfl ((nP (a:=bd) (b:=nf) rfl rfl).trans (W4 c S9 hbd.1 hbd.2)) ?_
      rfl';refine qK (dF S9) ?_;rfl';refine nZ (by rw[Dh];simp[vQ]) (d8 c nd) (caps:=[.int n,nf]) rfl ((nP (a:=.int n) (b:=nf) rfl rfl).trans (W3 c S9 hn hnf.1 hnf.2)) ?_
      rfl';refine qK (M5 S9) ?_;rfl';exact uB ⟨_,_,_,_,_,_,_,_,_,_,_,_,_,rfl⟩
    .intro d hd
     simp only[Bg,Ed,IM] at hd;rcases hd with rfl|rfl
     .exact⟨n,rfl,hn⟩
     .exact⟨1+(r2:Aj),rfl,by omega,by omega⟩
   .rcases Bo.mp hk with g|g
    .exact F.b k g
    .simp only[Bg,Ed,IM] at g
     omega
  .rintro _ S ⟨e1,e2,e3,e4,e5,e6,e7,e8,e9,e10,e11,e12,e13,rfl⟩
   rfl';exact rfl
 obtain⟨d,S',e,rfl⟩:=key;exact⟨S',e⟩
end _K
namespace _K
open PySem PySem.Spec PyProof.Rows _L _D
variable {mg:An->Al Ac}
theorem yO {P:AV}{w:Bk}{K:Ah}{base:Bc}{c:Cl}(T:Txt K mg c){k:Af}{F:DF}(d:DfS F P w K mg base true k "_law_same" 2):DfS (qP 2 (b__law_same F)) P w K mg base true (k+1) "_law_same" 2:=by
 refine dq P w base k 19 T rfl ck rfl ?_
 intros
 repeat' first
  |with_reducible exact ck
  |((with_reducible show QE _ _ _);with_reducible first|apply aV|apply V2|apply oU|apply aBt|apply aO|(apply aB;first|apply VI|apply VH|apply VF|apply Z3)|apply aC|apply oW|apply oS|apply oV|apply oQ)
  |((with_reducible show _=_);first|exact T.nb ck|exact kB _|exact rfl|with_unfolding_all rfl)
  |((with_reducible show ZOp _ _ _);with_reducible first|apply LC|apply LP|apply LI)
  |((with_reducible show RoomC _ _ _);first|assumption|exact RoomC.mono (by assumption)|exact RoomC.mono (RoomC.any (by assumption))|exact RoomC.mark (by assumption) _|exact RoomC.mono (RoomC.mark (by assumption) _))
  |((with_reducible show St1 _ _ _ _);exact⟨rfl,rfl⟩)
  |((with_reducible show DfS _ _ _ _ _ _ _ _ _ _);assumption)
  |with_reducible first|apply oP|apply fW|apply pW|apply eQ|apply oO|apply Q2|(apply V4;first|apply fY|apply l6)|apply Q3|apply fY|apply l6|apply aNm|apply oX|apply dZ|apply eR|apply Q0|apply oY|apply eU|apply eS|apply Q1|apply V3|apply YQ
  |((with_reducible apply aSt);case hs=>exact rfl)
  |((with_reducible show ClA _ _ _ _);first|assumption|exact ClA.tr (by assumption))
  |((with_reducible show LmX _ _ _ _ _ _ _ _ _ _);assumption)
  |((with_reducible show DfL _ _ _ _ _ _ _ _ _ _ _ _ _);assumption)
  |((with_reducible show ZF _ _ _ _);first|apply aFn|apply aFn0)
  |exact λ_=>⟨rfl,rfl,rfl⟩
  |(intro h;cases h;done)
  |((with_reducible show ZPass _);first|assumption|exact cC)
  |exact⟨rfl,rfl⟩
  |exact⟨rfl,rfl,rfl⟩
  |apply fW
  |apply pW
  |(intros;rfl)
  |(intro _ h;cases h <;> rfl)
  |decide
  |intro _
theorem JP {P:AV}{w:Bk}{K:Ah}{base:Bc}{c:Cl}(T:Txt K mg c)(nd:(zZ c).Nodup)(hT:(FU.all λy=>(Co K y).isSome)=true):∃ F,lA P w K mg base true 8 "law" ["_law_script"] F/\∀ ns:Aa Aj,ns.length<=63->∃ S,F [.lst (ns.map D.int)] [] = .ok (.bl true) S:=by
 refine hv (λ_=>?_) (dq (cm:=true) P w base 0 0 T rfl ck (gM) ?_);refine hv (λ_=>?_) (dq (cm:=true) P w base 1 1 T rfl ck (jV) ?_);refine hv (λ_=>?_) (dq (cm:=true) P w base 0 2 T rfl ck (jU) ?_);refine hv (λ_=>?_) (dq (cm:=true) P w base 2 3 T rfl ck (y9 c) ?_);refine hv (λ_=>?_) (dq (cm:=true) P w base 0 4 T rfl ck (uX) ?_);refine hv (λ_=>?_) (dq (cm:=true) P w base 0 5 T rfl ck (jW) ?_);refine hv (λ_=>?_) (dq (cm:=true) P w base 0 6 T rfl ck (jX) ?_);refine hv (λ_=>?_) (dq (cm:=true) P w base 0 7 T rfl ck (vY) ?_);refine hv (λ_=>?_) (dq (cm:=true) P w base 0 8 T rfl ck (yG) ?_);refine hv (λ_=>?_) (dq (cm:=true) P w base 1 9 T rfl ck (vP) ?_);refine hv (λ_=>?_) (dq (cm:=true) P w base 1 10 T rfl ck (v9) ?_);refine hv (λ_=>?_) (dq (cm:=true) P w base 3 11 T rfl ck (vA c) ?_);refine hv (λ_=>?_) (dq (cm:=true) P w base 0 12 T rfl ck (uY) ?_);refine hv (λ_=>?_) (dq (cm:=true) P w base 0 13 T rfl ck (yF) ?_);refine hv (λ_=>?_) (dq (cm:=true) P w base 4 14 T rfl ck (zY c) ?_);refine hv (λ_=>?_) (dq (cm:=true) P w base 2 15 T rfl ck (gL) ?_);refine hv (λ_=>?_) (dq (cm:=true) P w base 3 16 T rfl ck (y7 c) ?_);refine hv (λ_=>?_) (dq (cm:=false) P w base 0 17 T rfl ck (yJ c) ?_);refine hv (λ_=>?_) (dqL (cm:=true) (g:=b__law_refused c) (N:=2) P w base 6 6 0 18 T rfl ck ?_);have s0:DfS (m9 0) P w K mg base true 0 "_law_same" 2:=⟨U8 (T.src 19 rfl)⟩;have d__law_same:DfS S__law_same P w K mg base true 4 "_law_same" 2:=jS▸yO T (yO T (yO T (yO T s0)));refine hv (λ_=>?_) (dq (cm:=true) P w base 0 20 T rfl ck (jO) ?_);refine hv (λ_=>?_) (dq (cm:=true) P w base 0 21 T rfl ck (gK) ?_);refine hv (λ_=>?_) (dq (cm:=true) P w base 0 22 T rfl ck (jP) ?_);refine hv (λ_=>?_) (dq (cm:=true) P w base 1 23 T rfl ck (v8) ?_);refine hv (λ_=>?_) (dq (cm:=true) P w base 1 24 T rfl ck (jR) ?_);refine hv (λ_=>?_) (dq (cm:=true) P w base 0 25 T rfl ck (uW) ?_);refine hv (λ_=>?_) (dq (cm:=true) P w base 1 26 T rfl ck (jQ) ?_);refine hv (λ_=>?_) (dq (cm:=true) P w base 2 27 T rfl ck (jT) ?_);refine hv (λ_=>?_) (dq (cm:=true) P w base 1 28 T rfl ck (vX) ?_);refine⟨_,dqP 7 29 T rfl ck ?_,XO c nd⟩
 all_goals
  intros
  repeat' first
   |with_reducible exact ck
   |((with_reducible show QE _ _ _);with_reducible first|apply aV|apply N4|apply V2|apply N7|apply oU|apply aBt|apply aGi|apply aCl|apply aO|apply aN|apply KY|apply WQ|(apply aB;first|apply VI|apply VH|apply VF|apply E1|apply LL|apply LN|apply LQ|apply Z3|apply LJ)|(apply aT;first|apply GX|apply LK|apply RT)|apply aC|apply oW|apply N5|apply KW|apply R8|apply WO|apply KZ|apply R9|apply oS|apply WM|apply N6|apply RA|apply oV|apply oQ|apply R7|apply KU|apply N3|apply KR|apply N2|apply oT|(apply l5;(case slot=>apply IV);(case' hm=>first|apply VG))|(apply fX;(case slot=>apply IV);(case' hm=>first|apply VG))|(apply l5;(case slot=>apply Nw);(case' hm=>first|apply Z2))|(apply fX;(case slot=>apply Nw);(case' hm=>first|apply Z2))|(apply l5;(case slot=>apply Ku);(case' hm=>first|apply cA))|(apply fX;(case slot=>apply Ku);(case' hm=>first|apply cA))|(apply l5;(case slot=>apply Kv);(case' hm=>first|apply cB))|(apply fX;(case slot=>apply Kv);(case' hm=>first|apply cB))|apply N0)
   |((with_reducible show _=_);first|exact T.nb ck|with_reducible apply Kw|with_reducible apply Qh|with_reducible apply Pe|with_reducible apply Ra|with_reducible apply Ny|with_reducible apply Pg|with_reducible apply Ph|exact kB _|exact rfl|with_unfolding_all rfl)
   |((with_reducible show ZOp _ _ _);with_reducible first|apply RQ|apply E0|apply LO|apply RV|apply RS|apply LB|apply RU|apply RX|apply RZ|apply CB|apply CA|apply HY|apply HX|apply LC|apply LP|apply Y8|apply LI)
   |((with_reducible show RoomC _ _ _);first|assumption|exact RoomC.mono (by assumption)|exact RoomC.mono (RoomC.any (by assumption))|exact RoomC.mark (by assumption) _|exact RoomC.mono (RoomC.mark (by assumption) _))
   |((with_reducible show St1 _ _ _ _);exact⟨rfl,rfl⟩)
   |((with_reducible show DfS _ _ _ _ _ _ _ _ _ _);assumption)
   |with_reducible first|apply oP|apply fW|apply pW|apply eQ|apply oO|apply aK0|apply G8|apply G9|apply G7|apply NC|apply NK|apply Q2|apply WV|(apply V4;first|apply eV|apply fY|apply Q4|apply l6)|apply Q3|apply eV|apply fY|apply Q4|apply l6|apply aNm|apply oX|apply N9|apply dZ|apply eR|apply NB|apply oZ|apply WR|apply Q0|apply oY|apply NA|apply eU|apply WW|apply eS|apply Q1|apply V3|apply GA|apply NG|apply WU|apply WS|apply aAu|apply aP2|apply aP3|apply aRs|apply aTr|apply RW|apply HZ|apply LD|apply LH|apply LG|apply RY|apply YQ|apply Kw|apply Qh|apply Pe|apply Ra|apply Ny|apply Pg|apply Ph
   |((with_reducible apply aSt);case hs=>exact rfl)
   |with_reducible apply ND
   |exact T.cls
   |exact T.cl (by kernel_rfl)
   |exact T.rz (by kernel_rfl)
   |exact T.ct
   |exact T.gi (by kernel_rfl)
   |((with_reducible apply E7);(case D=>assumption))
   |((with_reducible show ClA _ _ _ _);first|assumption|exact ClA.tr (by assumption))
   |((with_reducible show LmX _ _ _ _ _ _ _ _ _ _);assumption)
   |((with_reducible show DfL _ _ _ _ _ _ _ _ _ _ _ _ _);assumption)
   |((with_reducible show LmK _ _);refine lmK hT (by assumption) ?_ rfl)
   |((with_reducible show ZF _ _ _ _);first|apply aFn|apply aFn0)
   |exact λ_=>⟨rfl,rfl,rfl⟩
   |(intro h;cases h;done)
   |((with_reducible show ZPass _);first|assumption|exact cC)
   |exact⟨rfl,rfl⟩
   |exact⟨rfl,rfl,rfl⟩
   |apply fW
   |apply pW
   |decide
   |(intros;rfl)
   |(intro _ h;cases h <;> rfl)
   |intro _
end _K
namespace _K
open PySem PySem.Spec PyProof.Rows _L _D
variable {K:Ah}
theorem bdf:BdF top tab:=by
 repeat (refine⟨?_,?_⟩;(intro _ _ _ _ _ _ us h;first|(obtain⟨_,rfl⟩:=us1 h;rfl)|(obtain⟨_,_,rfl⟩:=us2 h;rfl)|(obtain⟨_,_,_,rfl⟩:=us3 h;rfl)))
 exact trivial
theorem D1 {C0 C1 C2 C3 C4 C5 C6 C7 C8 C9 C10 C11:Ad}(q0:Cy K Br "FarError" = Ab (Ab (.ref C0)))(q1:Cy K Br "NoPoint" = Ab (Ab (.ref C1)))(q2:Cy K Br "NoLot" = Ab (Ab (.ref C2)))(q3:Cy K Br "NoNumber" = Ab (Ab (.ref C3)))(q4:Cy K Br "NoCircle" = Ab (Ab (.ref C4)))(q5:Cy K Br "NoMarks" = Ab (Ab (.ref C5)))(q6:Cy K Br "NoFars" = Ab (Ab (.ref C6)))(q7:Cy K Br "NoText" = Ab (Ab (.ref C7)))(q8:Cy K Br "NoLine" = Ab (Ab (.ref C8)))(q9:Cy K Br "NoDeed" = Ab (Ab (.ref C9)))(q10:Cy K Br "Alike" = Ab (Ab (.ref C10)))(q11:Cy K Br "TooMany" = Ab (Ab (.ref C11))):cF K (clt ⟨C0,C1,C2,C3,C4,C5,C6,C7,C8,C9,C10,C11⟩):=⟨q0,q1,q2,q3,q4,q5,q6,q7,q8,q9,q10,q11,trivial⟩
theorem D2 {k0 k1:Oo}(g0:Cy K Br "MOST_LOT" = Ab (Ab (.int (40) k0)))(g1:Cy K Br "MOST_FARS" = Ab (Ab (.int (100) k1))):cG K cst:=⟨⟨_,g0⟩,⟨_,g1⟩,trivial⟩
theorem FW {P:AV}{w:Bk}{mg:An->Al Ac}{c:Cl}{fa:Ad}(T:Txt K mg c)(nd:(zZ c).Nodup)(hT:(FU.all λy=>(Co K y).isSome)=true)(hfa:mg "law" = Ab (.ref fa)) :
  ∃ fd:Ej,(∀ (s:Ag) (v:Ac),Lr s fd ⟨[v],[]⟩ [("_law_script",v)])/\∀ base:Bc,K.In base->base.Ns Br mg->FnOk P w K mg base (CXd P w) 8 fa fd ["_law_script"] (l8 K):=
 JQ (T.src 29 rfl) hfa (λkV doc pm an cdv ct s v=>.of_eq rfl) λbase=>JP T nd hT
end _K
theorem PySem.W.Fast.tw16130288661050116964 : True := trivial
theorem PySem.W.Fast.tw13304125710191048349 : True := trivial
theorem PySem.W.Fast.tw15369422726885878138 : True := trivial
theorem PySem.W.Fast.tw5526672699745836823 : True := trivial
theorem PySem.W.Fast.tw7730931979332115734 : True := trivial
theorem PySem.W.Fast.tw8183199146205829380 : True := trivial
theorem PySem.W.Fast.tw15650821448163742542 : True := trivial
theorem PySem.W.Fast.tw2960781159345366838 : True := trivial
theorem PySem.W.Fast.tw3192785483160625643 : True := trivial
theorem PySem.W.Fast.tw6870389409637808636 : True := trivial
theorem PySem.W.Fast.tw9584634792481484267 : True := trivial
theorem PySem.W.Fast.tw12707021724292039740 : True := trivial
theorem PySem.W.Fast.tw15914952438571674550 : True := trivial
theorem PySem.W.Fast.tw9839337813498109339 : True := trivial
theorem PySem.W.Fast.tw768654716008133974 : True := trivial
theorem PySem.W.Fast.tw8415687311018635911 : True := trivial
theorem PySem.W.Fast.tw17076958888920318732 : True := trivial
theorem PySem.W.Fast.tw13520465023652348396 : True := trivial
theorem PySem.W.Fast.tw9349365504149537623 : True := trivial
theorem PySem.W.Fast.tw16988914721053008569 : True := trivial
theorem PySem.W.Fast.tw3612520756823071127 : True := trivial
theorem PySem.W.Fast.tw7595840892651074020 : True := trivial
theorem PySem.W.Fast.tw10584638109668910265 : True := trivial
theorem PySem.W.Fast.tw12120405220086871836 : True := trivial
theorem PySem.W.Fast.tw13330737842585378138 : True := trivial
theorem PySem.W.Fast.tw12223165454662311179 : True := trivial
theorem PySem.W.Fast.tw5872257569086263091 : True := trivial
theorem PySem.W.Fast.tw230186100445249934 : True := trivial
theorem PySem.W.Fast.tw13725232474088096616 : True := trivial
theorem PySem.W.Fast.tw12687210807469900338 : True := trivial
theorem PySem.W.Fast.tw152932717606170697 : True := trivial
theorem PySem.W.Fast.tw1770741894151412857 : True := trivial
theorem PySem.W.Fast.tw13174024075014431363 : True := trivial
theorem PySem.W.Fast.tw11781851677226432061 : True := trivial
theorem PySem.W.Fast.tw14823497416952476658 : True := trivial
theorem PySem.W.Fast.tw15714876597364526336 : True := trivial
theorem PySem.W.Fast.tw10829378495470956533 : True := trivial
theorem PySem.W.Fast.tw8330349667117513183 : True := trivial
theorem PySem.W.Fast.tw4569879732913199454 : True := trivial
theorem PySem.W.Fast.tw9905208400215843236 : True := trivial
theorem PySem.W.Fast.tw13973131659905076305 : True := trivial
theorem PySem.W.Fast.tw17706191186330600624 : True := trivial
theorem PySem.W.Fast.tw8705234987879803329 : True := trivial
theorem PySem.W.Fast.tw920021836772966328 : True := trivial
theorem PySem.W.Fast.tw10905340765786298878 : True := trivial
theorem PySem.W.Fast.tw15662856227143393595 : True := trivial
theorem PySem.W.Fast.tw576718201862039979 : True := trivial
theorem PySem.W.Fast.tw14821589105497676341 : True := trivial
theorem PySem.W.Fast.tw11428747480681071134 : True := trivial
theorem PySem.W.Fast.tw16753720717364140978 : True := trivial
theorem PySem.W.Fast.tw8145307812121590421 : True := trivial
theorem PySem.W.Fast.tw16064093994738054883 : True := trivial
theorem PySem.W.Fast.tw5641325329901151170 : True := trivial
theorem PySem.W.Fast.tw569439710195456861 : True := trivial
theorem PySem.W.Fast.tw12674890943282927411 : True := trivial
theorem PySem.W.Fast.tw6033432471864321821 : True := trivial
theorem PySem.W.Fast.tw11676483072421307365 : True := trivial
theorem PySem.W.Fast.tw11643804118174873750 : True := trivial
theorem PySem.W.Fast.tw8332162115740108594 : True := trivial
theorem PySem.W.Fast.tw16510506337078225688 : True := trivial
theorem PySem.W.Fast.tw8655514647273084041 : True := trivial
theorem PySem.W.Fast.tw6858038326799838108 : True := trivial
theorem PySem.W.Fast.tw16217682447242072317 : True := trivial
theorem PySem.W.Fast.tw4834812906314428197 : True := trivial
theorem PySem.W.Fast.tw10418469260590779380 : True := trivial
theorem PySem.W.Fast.tw2892218372443314134 : True := trivial
theorem PySem.W.Fast.tw13106467702506075690 : True := trivial
theorem PySem.W.Fast.tw10452692179187591303 : True := trivial
theorem PySem.W.Fast.tw17086324229803861824 : True := trivial
theorem PySem.W.Fast.tw15414323252467373463 : True := trivial
theorem PySem.W.Fast.tw11046288989096268238 : True := trivial
theorem PySem.W.Fast.tw2726695850177757587 : True := trivial
theorem PySem.W.Fast.tw3724430716385469821 : True := trivial
theorem PySem.W.Fast.tw1654260870626289099 : True := trivial
theorem PySem.W.Fast.tw6968245813036974634 : True := trivial
theorem PySem.W.Fast.tw7777036348734768380 : True := trivial
theorem PySem.W.Fast.tw2066428489491307530 : True := trivial
theorem PySem.W.Fast.tw1759227319555932433 : True := trivial
theorem PySem.W.Fast.tw568454550882146653 : True := trivial
theorem PySem.W.Fast.tw8519391121456932010 : True := trivial
theorem PySem.W.Fast.tw2129176848222912370 : True := trivial
theorem PySem.W.Fast.tw11195801937779792956 : True := trivial
theorem PySem.W.Fast.tw12293811210387485705 : True := trivial
theorem PySem.W.Fast.tw10556991431019453655 : True := trivial
theorem PySem.W.Fast.tw5186898333838980947 : True := trivial
theorem PySem.W.Fast.tw105412606270612483 : True := trivial
theorem PySem.W.Fast.tw2869406153876259095 : True := trivial
theorem PySem.W.Fast.tw7221320762022666155 : True := trivial
theorem PySem.W.Fast.tw2217061681510883848 : True := trivial
theorem PySem.W.Fast.tw14628508508757733521 : True := trivial
theorem PySem.W.Fast.tw6827371661971964619 : True := trivial
theorem PySem.W.Fast.tw6108531941159498934 : True := trivial
open PySem PySem.W PyProof.Rows
set_option maxRecDepth 100000 in
set_option maxHeartbeats 0 in
theorem PySem.Challenge.cw_fewdistances_k93_pairs_by_circles_holds : PySem.Challenge.rw_fewdistances_k93_pairs_by_circles.Holds := by
 w_on;o_law;k_head;(case hw=>w_witness2)
 k_fill
 refine _D.RP (l:=Oc) (k:=8) (x:="_law_script") rfl rfl ⟨rfl,by decide,by decide,rfl⟩ (λ_=>by kernel_rfl) (λw h Y=>PySem.W.km_in_of Y) ?F
 case F =>
  intro w mg fa h KX G hmg
  refine' _K.FW (_D.RO _K.bdf ?hp rfl KX G ?s ?z (_K.D1 ?q0 ?q1 ?q2 ?q3 ?q4 ?q5 ?q6 ?q7 ?q8 ?q9 ?q10 ?q11) (_K.D2 ?gi0 ?gi1) ?e1 ?e2 ?e3 ?e4 ?e5 ?e6) ?nd ?hT hmg
  (case s=>(repeat (refine' ⟨_D.SrcF.mk ?a ?l ?c ?k,?_⟩;(case a=>k_is);(case l=>k_is);(case c=>k_is);(case k=>k_is)));exact trivial)
  (case z=>rfl)
  (case q0=>k_is)
  (case q1=>k_is)
  (case q2=>k_is)
  (case q3=>k_is)
  (case q4=>k_is)
  (case q5=>k_is)
  (case q6=>k_is)
  (case q7=>k_is)
  (case q8=>k_is)
  (case q9=>k_is)
  (case q10=>k_is)
  (case q11=>k_is)
  (case gi0=>k_is)
  (case gi1=>k_is)
  (case hp=>intro y hy;revert hy;simp;grind)
  (case e1=>rfl)
  (case e2=>rfl)
  (case e3=>rfl)
  (case e4=>rfl)
  (case e5=>rfl)
  (case e6=>rfl)
  (case nd=>decide)
  (case hT=>rfl)
