import PyProof.Rows.All
import Wide.All
import OpenK.AllK
import Wide.FinOn
import Lean
import PyProof.EqAt
import PyProof.EqKinds
import PyProof.TupleCall
import KE.KLam
import KE.KTryMore
import KE.KIsAll
import PyProof.NeKinds
import PyProof.Rows.CountFlat
import PyProof.Rows.FStr
import PyProof.ZipIter
import PyProof.EnumMake
import PyProof.EnumStmt
import KE.KDictLaws
import PyProof.DictWalks
import PyProof.Rows.SetFrom
import PyProof.SumWalkG
import PyProof.Rows.SumGenD
import PyProof.SeqI2
import KE.KItemsList
import PyProof.SetKind
import PyProof.TupleKey
import KE.KSortTup
import PyProof.ReprRoads
import PyProof.ReprBulk
import PyProof.TupleOfSeq
import PyProof.WalkInts
import PyProof.SeqI3
import PyProof.Rows.RuleDivmod
import PyProof.ListRange
import KE.KPairComp
import KE.KMinKey
import PyProof.Rows.CallKwBuiltin
import KE.KDictList
import PyProof.DictTruth
import PyProof.DictRoadsH
import PyProof.Rows.Range3
import PySem.Challenge.RW_fewdistances_k64_whole_circles
set_option Elab.async false
set_option linter.all false
set_option maxRecDepth 100000
set_option maxHeartbeats 0
set_option tactic.hygienic false
set_option bootstrap.genMatcherCode false
set_option genSizeOf false
set_option compiler.extract_closed false
open Array renaming getElem?_toList->Br,length_toList->Bt,getElem?_eq_getElem->Du,getElem?_eq_some_iff->Eb,toList_append->Ej,toList_push->Fb,getD_eq_getD_getElem?->Fi,getD->Gs,toList_extract->Km,size_extract->Lr,toList_reverse->Nh,getElem?_eq_none->Qe,mem_toList_iff->Rg,forIn_toList->Sz,getElem?_eq_none_iff->Tn,perm_iff_toList_perm->To,size_map->Xu,append_assoc->Zt,toList->t0,toList_inj->Ab0
open Bool renaming and_eq_true->Bj,false_eq_true->Bl,noConfusion->Dz,false_ne_true->Gk,eq_iff_iff->Iu,not_true->Kj,not_eq_true'->Pu,or_eq_true->Rp,false_and->Xq,and_false->Xv,not_false->Xw,and_eq_true_iff->Yk,and_true->Zb,true_or->v4,false_or->Ac3,true_and->Ac8
open Classical renaming byContradiction->Fy,choose_spec->Ms,choose->Qq
open False renaming elim->Aq
open ForInStep renaming yield->Lz
open Iff renaming rfl->AcB
open Int renaming eq_of_mul_eq_mul_left->Cd,natCast_mul->Dv,toNat_natCast->Fa,le_trans->Gb,sub_self->Gj,le_of_lt->Hk,mul_zero->Hl,mul_nonneg->Ik,mul_eq_zero->Iw,zero_mul->Jc,emod_lt_of_pos->Jr,natAbs_natCast->Js,natAbs_dvd_natAbs->Jv,mul_ediv_cancel_left->Kt,emod_nonneg->Mc,gcd->Mj,natAbs_mul_self'->Nj,eq_of_mul_eq_mul_right->Nq,mul_fdiv_cancel->Ob,natCast_nonneg->Oy,mul_comm->Pg,mul_nonneg_of_nonpos_of_nonpos->Ph,natCast_dvd_natCast->Pi,natAbs_mul->Pm,le_refl->Qu,toNat_of_nonneg->Sj,lt_of_lt_of_le->Ta,fdiv_eq_ediv_of_nonneg->Tf,mul_neg->Tq,lt_or_le->Vs,neg_neg->Xl,natAbs_of_nonneg->Ym,le_of_dvd->Zo,sub_zero->wE,one_mul->Ab5,lt_of_not_ge->Ab6,mul_ne_zero->AbM,not_lt->AbQ,natAbs->AbR,natAbs_neg->AbZ
open List renaming length_map->Ao,getElem?_eq_getElem->Ap,mem_map->Au,mem_cons->Az,mem_cons_of_mem->AT,getElem?_eq_some_iff->Ba,prefix_refl->Bg,size_toArray->Bm,getElem?_append_left->Bn,mem_append->Bp,all_eq_true->Bs,mem_append_right->Bx,length_append->Ca,length_cons->Cb,mem_cons_self->Cf,map_cons->Cg,append_assoc->Ch,range->Cj,mem_iff_getElem->Co,mem_append_left->Cs,mem_of_getElem?->Ct,mem_singleton->Cz,getElem?_set_ne->Dd,map_map->Dh,pairwise_append->Di,pairwise_map->Dj,getElem?_append_right->Dk,mem_range->Dn,map_append->Dp,getElem?_set_self->DL,nodup_cons->Ea,getElem?_map->Ee,pairwise_cons->Ei,map_congr_left->Ek,not_mem_nil->En,prefix_append->Et,length_eq_zero_iff->Ew,find?_cons->Ff,length_filter_le->Fn,flatMap_cons->Ft,drop_eq_getElem_cons->Gq,getD->Gr,mem_filter->Gz,length_take->Hi,filter_cons_of_neg->Hm,nodup_append->Ho,append_nil->Hu,extract_eq_take_drop->Ic,length_nil->Io,nil_append->Iq,all_map->Iy,filter_cons_of_pos->Jb,filterMap_cons->Jd,range_succ_eq_map->Jg,zip_cons_cons->Jm,pairwise_iff_getElem->Ki,mem_of_find?_eq_some->Kk,length_drop->Kz,lookup_cons->La,filter_eq_self->Lc,any_eq_true->Ld,getElem_map->Lf,pairwise_singleton->Li,set_cons_zero->Ls,any_cons->Ly,take_of_length_le->Mf,filter_eq_nil_iff->Ml,length_singleton->Mn,perm_append_comm->Mv,getElem_mem->Nl,perm_ext_iff_of_nodup->Nn,mem_reverse->Np,reverse_append->NE,forIn_cons->Oe,getElem?_take_of_lt->Oo,mem_filterMap->Ot,find?_eq_none->Ow,set_cons_succ->Ox,getElem?_cons_succ->Pd,forIn_nil->Pk,nodup_nil->Pl,length_range->Pr,drop_eq_nil_of_le->Pz,drop_of_length_le->Qf,getElem_inj->Qk,length->Qm,ext_getElem->Qs,countP_mono_left->Qt,take_append_drop->Qv,map_id->Qw,map_flatMap->Ra,mem_flatMap->Rc,mem_of_mem_take->Ri,of_mem_zip->Ro,eq_nil_of_length_eq_zero->Rr,find?_some->Rx,length_pos_iff->Sk,map_eq_nil_iff->Sl,map_inj_right->Tc,filter_filter->Td,getD_eq_getElem?_getD->Tp,any_eq_false->Tu,getElem_take->Ua,getElem_drop->Ub,ext_getElem?->Ug,length_erase_of_mem->Ur,prefix_iff_getElem?->Uv,zipIdx_cons->Va,nodup_range->Vb,Nodup->Vc,map_fst_zip->Vd,cons_append->Vf,getElem?_replicate->Vi,pairwise_mergeSort->Vo,getLast_eq_getElem->Vt,length_set->Wc,find?_cons_of_neg->Wh,length_pos_of_mem->Wj,length_zip->Wn,filter_map->Wr,getElem?_eq_none->Wz,singleton_append->Xf,mem_erase_of_ne->Yf,length_eraseIdx->Yg,reverse_reverse->Yj,range_eq_range'->Yn,all_cons->Za,append_toArray->Zc,mem_map_of_mem->Zm,map_drop->Zn,lookup_append->dL,getElem?_drop->f8,mergeSort_nil->sB,map_nil->u8,any_map->wS,take_sublist->Aa6,filter_cons->AaX,countP_cons->AaZ,flatMap_map->Ab3,range'_succ->Ab7,zipIdx_nil->AbG,foldl_cons->AbI,map->AbL,replicate->AbT,take_zero->AbW,map_take->AcD,sum_cons->AcE
open List.Pairwise renaming nil->Mr,filter->Ng,imp_of_mem->Os
open List.Perm renaming append_left->Ib,append_right->Me,refl->Nb,trans->Rv,swap->Xx
open List.Sublist renaming cons_cons->Qg
open Nat renaming le_refl->Ax,lt_of_lt_of_le->Bk,ne_of_lt->Cu,le_trans->Cw,le_of_lt->Ec,lt_irrefl->Ey,zero_le->Fk,lt_or_ge->Fp,exists_eq_add_of_le->Fq,mul_le_mul->Ge,add_sub_cancel_left->Gi,zero_add->Gy,pow_succ->Hn,lt_trans->Hx,lt_of_le_of_ne->Ie,add_sub_cancel->Ig,add_le_add_left->Je,le_of_dvd->Jf,lt_succ_self->Ji,ne_of_gt->Jy,pow_le_pow_right->Kn,mul_comm->Lj,lt_of_le_of_lt->Lm,pos_of_ne_zero->Lq,eq_zero_of_not_pos->Mi,le_mul_of_pos_left->Mk,le_of_lt_succ->Mt,lt_trichotomy->Mu,add_lt_of_lt_sub'->Mw,one_pos->Mx,mul_le_mul_right->Ni,le_add_right->Nm,mul_lt_mul_of_lt_of_le->Nr,add_assoc->Ny,sub_lt->Oa,lt_succ_of_lt->Ps,not_lt->Qb,mod_lt->Qc,le_of_ble_eq_true->Qx,eq_of_beq_eq_true->Rb,le_antisymm->Rw,min_eq_left->Ry,succ_pos->Sb,add_right_comm->Sy,le_succ->Tk,lt_of_succ_lt->Uh,sub_pos_of_lt->Ui,dvd_trans->Ul,max_eq_right->Vg,min_self->Vl,add_comm->Vn,pow_zero->Vr,le_add_left->Wm,gcd->Wq,dvd_of_mod_eq_zero->Ws,add_le_of_le_sub'->Xg,le_of_sub_eq_zero->Xh,one_mul->Xk,pos_of_dvd_of_pos->Xm,lt_sub_of_add_lt->Yh,add_le_add_right->Yi,add_sub_cancel'->Zj,mul_assoc->Zp,mul_le_mul_left->Zq,eq_zero_or_pos->sK,le_of_eq->x0,sub_self->Aa0,le_total->Aa1,succ_le_succ->AaK,le_of_not_lt->AaM,mul_one->Ab1,add_mul->Ab2,pow_one->Ab4,min_eq_right->Ab8,max_eq_left->AbN,add_le_add->AbV
open Ne renaming symm->Fv
open Option renaming some->Ab,map_eq_some_iff->Fx,bind_eq_some_iff->Gh,isSome_iff_exists->Kq,isSome_map->Tx,getD_some->Uz,bind_some->Ve,isSome_some->Zz,getD_none->AaJ,map_some->AbJ,none->AcK
open Option.some renaming inj->Dm
open Or renaming inr->Zr,inl->AaN
open Prod renaming ext->Hj,swap->AcF
open Prod.mk renaming inj->Om
open PyProof renaming noPylong_small->Vy
open PyProof.Rows renaming wpS_bind->Bb,Keyed->Bo,wpS_pure->Bv,seqObj->Er,slot_tuple_getitem->Fj,SortSt->Fm,wpS_forRange->Fo,callWith_type1->Gd,envOfC->Hg,wpS_mono->Hv,wpS_modify->Ka,callWith_builtin1->Ll,IntsAre->Lx,SortKind->Oh,get?_update_seq->Ol,wpS_get->Pe,AllBare->Qj,lt_int->Se,assignInOrder_cons->Sx,wpS_lift->Ts,subscriptTail->Tw,IsTup->Vh,subscriptTail_builtinR->Wb,gallopOf->Wl,entry_tuple_getitem->Yx,args_tuple_getitem->Zx
open PyProof.Rows.F renaming plain_set_update_loop->Jl,entry_set_update_loop->Og
open PyProof.Rows.IntsAre renaming int_at->AbX
open PyProof.Rows.IsTup renaming new->Aa3
open PyProof.Rows.SortSt renaming mk'->Dl
open PySem renaming Value->Ac,wpAny_bind->Ad,Addr->Af,Shared->Ai,wpAny_pure->An,wpAny->Ar,model->Av,Str->Aw,Program->Bh,starEach->Bu,Around->Bw,Heap->By,Expr->Cc,World->Ce,Obj->Dc,compareOp->Df,Comprehension->Do,mainGlobals->Dr,wpAny_newObj_type->Dw,foldedSetIterable->Dx,intKind->Dy,cLine->Ed,wpAny_call_entry->Ef,binaryOp->El,wpAny_callSpecial?_slot->Em,tupleKind->Eo,Scope->Eu,Pos->Ez,wpAny_holding->EQ,SetTable->Fh,sizeLine_eq->Fu,FuncData->Fw,Stmt->Fz,wpAny_field->Gc,bootBuiltins->Gf,mem_of_lookup->Go,wpAny_setState_of->Gu,wpAny_seqItems->Gx,backTo->Hc,assignEach->Hd,wpAny_rule->He,ofAClassStatement->Hq,sysModules->Hs,wpAny_mono->Ht,cellsFrom->Hz,attributeBase->Ia,Builtin->Il,NameKind->Im,wpAny_pyIter_list->Ip,wpAny_typeNameOfWhole_valiter->Ir,wpAny_askSetting->Jj,wpAny_pyIter_tuple->Jo,wpAny_Call_Name_kw->Jp,wpAny_setField_rec->Jq,wpAny_passesOwn->Kb,codeAny->Kg,Env->Ko,wpAny_typeNameOf_valiter->Ks,wpAny_setField->Ku,Sem->Kv,wpAny_forIn_list->Ky,tupleKeyHash->Lh,IsPair->Ln,wpAny_standAt->Lu,letOwnedTupleGo->Lv,wpAny_attempt->Ma,codeAny_builtin->Md,atKey->Mp,firstArgMember->Na,wpAny_typeOf->Nc,codeAny_mono->Nd,pyNext->Nk,swappedStores->Nt,swapsWithSole->Nu,behindInMarks->Nv,rawInt->Oc,sliceBounds->Od,wpAny_comprehension_free->Oq,tupleKind_room_in1->Ou,getItem->Pb,wpAny_Call_method0_late->Pc,Model->Pn,swapsWith->Po,wpAny_dictEntries->Pw,Operator->Px,BindsTo->Ql,wpAny_isInstance->Qr,wpAny_isOneOf_valiter->Qz,wpAny_updateSeq_pair->Rh,wpAny_execs_nil->Rl,PassesOwn->Rm,pickOrder->Ru,pyIter->Rz,call_meetsIn->Sa,builtinsNs->Sd,evalArgs_none->Sf,IsTupleKey->Sh,recursionLimit->Sm,IsZip->So,wpAny_newFunctionEnv_cells->Tg,IsPart->Th,hashByValue->Tl,callerA->Tz,standAt->T0,Keyword->TD,wpAny_onRaise->TW,setSearchFrom->Ud,plainId_quiet->Ue,wpAny_pyIter_slot->Uf,noFill_tuple_add->Uy,richCompare_meets_room->Vz,valueAt->Wd,wpAny_specialOf->We,wpAny_Call_method_late->Wg,codeAny_of_tree->Wi,wpAny_ite_split->Wk,wpAny_dictEpoch->Wp,Arguments->Wv,codeAny_call_function->Ww,keywordEach->WF,wpAny_of_eq->Xa,builtinLookup_eq_fast->Xd,wpAny_notOrdered_dict->Xi,isSubtype_stop->Xs,newFunctionEnv->Xt,isSubtype_type->Xy,wpAny_fieldsOf->Xz,dictSetDefault->XV,wpAny_loadName_local->Ya,Tok->Yo,wpAny_loadName_cell->Yq,assignInOrder->Yr,CmpOp->Ys,bindL->Yu,bindC->Yv,seq_tuple_add->Yw,PlainAttrs->Zd,wpAny_handled->Ze,setsByText->Zh,wpAny_setEntries_of->Zi,wpAny_newList->Zk,setState->Zs,concat_meets->t3,seqIndex?->Aa7,list_append->Aa8,lastMarks->Aa9,pushCells->AaC,unaryOp->AaG,seqIndex_of->AaI,typeOf->AaO,newExc->AaR,wpAny_throw->AaS,wpAny_letGo->AaT,wpAny_alloc->AaV,argsOk->AaW,GenState->AbA,bindName->AbB,bindArgs->AbD,backToKw->AbE,raiseNew->AbF,compTurn->AbH,call->AbO,Within->AcH,isTrue->AcI
open PySem.Around renaming under_plainId->Kl,frames_deeper->Yb
open PySem.AutoSeq1 renaming sub_tuple_tuple->Uo
open PySem.Builtin.Dict renaming showsAll->Xj
open PySem.Builtin.Dict_items renaming ownsTuple->Mm,newIterator->Ab9,dictOf->AcC
open PySem.Builtin.Frozenset renaming sizeOf->Us,updateFrom->AbP,newClass->Ac0,oneOther->Ac1,addrOf->AcG
open PySem.Builtin.Int renaming intBits->Lb
open PySem.Builtin.List renaming listLengthHint->Sr,listExtendWith->Ss,listSameRef->Ut
open PySem.Builtin.Slice renaming slicePlaces->Kh,sliceAdjust->Nw,sliceApplied->Ti
open PySem.Builtin.SmallTypes renaming nextOf->Eg,ownedTupleIsFree->Ha,ownedTupleHandOut->Of
open PySem.Builtin.Tuple renaming tupleExact->Kr,tupleCompareSizes->Qn,tupleItemsOf->Tj
open PySem.Calls renaming callWith_builtin->Jh,spliced_cons->Jn,spliced_nil->Ke,Name_function_global->Te,call_function_entry->Uj,evalArgs_plain->Ye
open PySem.Challenge renaming pw_fewdistances_k64_whole_circles->Uk,rw_fewdistances_k64_whole_circles->Um
open PySem.Code renaming compLoop->Ac5
open PySem.F renaming slot_dict_valueiterator_next->Gn,called_set->Hb,plainAttrs_dict->IN,slot_tuple_iterator_next->Jt,slot_dict_get->Mq,args_tuple_add_2->Op,entry_tuple_add->Pa,slot_tuple_add->Py,args_dict_valueiterator_next_1->Qh,entry_dict_valueiterator_next->Qy,slot_zip_next->Rq,args_tuple_iterator_next_1->Sg,slot_dict_setdefault->Si,entry_tuple_iterator_next->Sn,slot_int_bit_length->Sv,type_int_bit_length->Sw,slot_dict_values->Uu,slot_list_append->Uw,type_list_append->Ux,args_tuple_lt_2->Vj,args_dict_get_3->Vk,slot_dict_items->Vm,plain_list_iadd->Vp,slot_dict_values_iter->Vq,plainAttrs_list->Vu,entry_tuple_lt->Wa,entry_dict_get->Wf,plainAttrs_int->Wt,slot_tuple_lt->Wx,plain_set_new->Xc,slot_set_iter->Xe,slot_list_pop->Xn,type_dict_get->Xo,type_list_pop->Xp,args_list_append_2->Yd,entry_list_append->Yy,slot_list_append->Zy,args_zip_next_1->AaB,entry_zip_next->AaU
open PySem.Heap renaming get?_push_of_some->Ak,lt_size->Bf,get?_push_size->Bi,get?_update_other->Dt,get?_update_self->Ev,size_push->Fg,SameBut->Gg,get?_none_of_le->Rf,FlyingW->v6,ExtBut->AaQ,MadeExcOf->AbU
open PySem.Heap.IsSliceOf renaming new->AcL
open PySem.Heap.SameBut renaming update->Fl,refl->AaD
open PySem.IsL renaming update->AaL
open PySem.NameKind renaming free->HT,cell->Qo
open PySem.Obj renaming mapSeq->Fc,mapFields->Nz,data_mapFields->Ov,isFreed_of_fields->WP,data_mapDictKeys->Yl,cls_mapFields->AaA
open PySem.P renaming add_list->AaP
open PySem.SeqAt.EqAt renaming same->Ac4
open PySem.SetTable renaming below->Cp,insertAt->Eh,sizeAbove->Fd,runEnd->Hw,grown->Ih,insertAt_perm->Mb,Probe->Pp,fill->Uc,toList_insertAt->Uq,laid->Zf,has->wT,layClean->AaF,tooFull->AaY,slot->Ac6,fits->Ac7
open PySem.SetTable.below renaming go->AaE
open PySem.SetTable.layClean renaming free->Jk
open PySem.SetTable.probe renaming go->Pq
open PySem.Shared renaming heap->Xb,TypeIs->Zg
open PySem.Str renaming ofString->Ix
open PySem.Value renaming ref->De,none->Dg,bool->Jw,type->Jx,int->Rj,isInt->Wu,notImplemented->Yc,str->Aa2,isStrOf->Ac2
open PySem.W renaming Frag->Aj,tabIn->Es,kia_one->Fe,nsIn->Ga,fnOf->Gv,keepIn->Gw,cellsFrom_some->Lw,kitOne->My,codeIn->Mz,findIn->Pj,hideAll->Rk,tabObj->Su,methodObj->Tt,kitx_list->Tv,instObj->Vw,lookIn->Xr,hideAll_get->Yp,mroIn->Yt,mg_of->Zl,of_hideAll->Zu,kitx_tuple->Zv,codeRec_of->Zw,callWith_K->ZB,specialIn->Aa4,kitx_dict->Aa5,plainGet->AaH,takesIn->AbC,OpenLaw->AbK,CodeHd->AbS,exmOne->AbY,WalkO->AcA
open PySem.W.KatTups renaming cons->AcJ
open PySem.W.Looks renaming of_pure->Ac9
open PySem.pickOrder renaming go->xL
open Sum renaming inl->Hr,inr->Vv
open True renaming intro->Kx
open _root_ renaming List->Aa,Nat->Ag,Int->Ah,Option->Am,Bool->As,Array->Ay,if_neg->Bc,if_pos->Be,decide_eq_true_eq->Bq,of_decide_eq_true->Bz,decide_eq_true->Cn,decide_eq_false->Cq,if_false->Dq,if_true->Ds,String->Ep,False->Ex,beq_self_eq_true->Gm,Decidable->Hy,decide_eq_false_iff_not->Ja,decide_true->Ju,decide_false->Jz,or_false->Kc,decide_eq_decide->Lg,of_decide_eq_false->Lp,StateT->No,bne_self_eq_false->Pv,DecidableEq->Qi,True->Re,beq_eq_false_iff_ne->Sc,Unit->Vx,beq_iff_eq->Yz
open PySem PySem.Spec PyProof.Rows
local macro_rules|`(tactic|fin2)=>`(tactic|omega)
abbrev aa:=Aa (Af × Dc)
abbrev ae:=Ac->Ai->Prop
abbrev ag:=Aa Af
abbrev ah:=Aa Ac
abbrev ai:=Aw->Am Ac
noncomputable section
theorem om {p:Prop}(h:p:=by fin2):p:=h
theorem bb {p:Prop}[Decidable p](h:p:=by decide):p:=h
theorem ab {p:Prop}(h:p:=by lia):p:=h
theorem ba {p:Prop}(h:p:=by simp):p:=h
theorem li {p:Prop}(h:p:=by lia):p:=h
theorem kd {p:Prop}[Hy p](h:p:=by decide +kernel):p:=h
section
namespace _L
abbrev bq:=Sum Ah Aw
def gT:bq->Ac->As
 |.inl k,v=>Wu k v
 |.inr x,v=>Ac2 x v
noncomputable def qBT (w:Ce):bq->Ah
 |.inl k=>hashInt k
 |.inr x=>hashStr w x
theorem xC:∀ {k:bq} {v:Ac},gT k v=true->(∃ i t,k=Hr i/\v=Rj i t)\/(∃ x t,k=Vv x/\v=Aa2 x t)
 |.inl i,v,h=>by
  obtain⟨t,e⟩:=Value.isInt_shape (k:=i) (v:=v) h;exact .inl ⟨i,t,rfl,e⟩
 |.inr x,v,h=>by
  obtain⟨t,e⟩:=Value.isStrOf_shape (x:=x) (v:=v) h;exact .inr ⟨x,t,rfl,e⟩
theorem WH (i:Ah)(t:Yo):gT (.inl i) (.int i t)=true:=by simp[gT,Wu]
theorem WJ (x:Aw)(t:Yo):gT (.inr x) (.str x t)=true:=by simp[gT,Ac2]
theorem SW (a b:Ah):decide ((Hr a:bq)=Hr b)=(a == b):=by
 by_cases e:a=b
 .subst e;simp
 .have h:¬ (Hr a:bq)=Hr b:=λq=>e (Sum.inl.inj q)
  rw[Cq h];exact(Sc.mpr e).symm
theorem SZ (a b:Aw):decide ((Vv a:bq)=Vv b)=decide (a=b):=by
 by_cases e:a=b
 .subst e;simp
 .have h:¬ (Vv a:bq)=Vv b:=λq=>e (Sum.inr.inj q)
  rw[Cq h,Cq e]
theorem SX (a:Ah)(b:Aw):decide ((Hr a:bq)=Vv b)=false:=Cq (λq=>nomatch q)
theorem SY (a:Aw)(b:Ah):decide ((Vv a:bq)=Hr b)=false:=Cq (λq=>nomatch q)
def x9 (prog:Bh)(w:Ce):PySem.KeyKind prog w bq where
 is:=gT
 hash:=qBT w
 inj:=λv a b U Y=>by
  rcases xC U with⟨i,t,rfl,rfl⟩|⟨x,t,rfl,rfl⟩
  .rcases xC Y with⟨j,u,rfl,e⟩|⟨y,u,rfl,e⟩
   .injection e with Q _;rw[Q]
   .exact nomatch e
  .rcases xC Y with⟨j,u,rfl,e⟩|⟨y,u,rfl,e⟩
   .exact nomatch e
   .injection e with Q _;rw[Q]
 byValue:=λk v h=>by
  rcases xC h with⟨i,t,rfl,rfl⟩|⟨x,t,rfl,rfl⟩ <;> rfl
 pyHash:=λhv h=>by
  rcases xC hv with⟨i,t,rfl,rfl⟩|⟨x,t,rfl,rfl⟩
  .exact wpAny_pyHash_int h
  .exact wpAny_pyHash_str h
 eqBool:=λJ hv h=>by
  rcases xC J with⟨i,t,rfl,rfl⟩|⟨x,t,rfl,rfl⟩
  .rcases xC hv with⟨j,u,rfl,rfl⟩|⟨y,u,rfl,rfl⟩
   .rw[SW] at h;exact wpAny_eqBool_int h
   .rw[SX] at h;exact SeqAt.EqAt.int_str i t y u _ _ _ _ h
  .rcases xC hv with⟨j,u,rfl,rfl⟩|⟨y,u,rfl,rfl⟩
   .rw[SY] at h;exact SeqAt.EqAt.str_int x t j u _ _ _ _ h
   .rw[SZ] at h;exact wpAny_eqBool_str h
 «strs»:=λk x t v h=>by
  rcases xC h with⟨i,u,rfl,e⟩|⟨y,u,rfl,e⟩
  .exact nomatch e
  .injection e with Q _
   subst Q;cases v <;> rfl
theorem aZ (prog:Bh)(w:Ce)(i:Ah)(t:Yo):(x9 prog w).is (.inl i) (.int i t)=true:=WH i t
theorem i0 (prog:Bh)(w:Ce)(x:Aw)(t:Yo):(x9 prog w).is (.inr x) (.str x t)=true:=WJ x t
end _L
namespace _L
inductive V where
 |non|bl (b:As)|int (i:Ah)|str (x:Aw)|byt (b:Ay UInt8)|flt (b:UInt64)|ref (a:Af)|ty (n:Ep)
 deriving Qi
def qF:V->Ac->Prop
 |.non,u=>u=Dg
 |.bl b,u=>u=Jw b
 |.int i,u=>∃ t,u=Rj i t
 |.str x,u=>∃ t,u=Aa2 x t
 |.byt b,u=>∃ t,u=Value.bytes b t
 |.flt b,u=>∃ t,u=Value.float b t
 |.ref a,u=>u=De a
 |.ty n,u=>u=Jx n
abbrev qJ:Aa V->Aa Ac->Prop:=Paired qF
theorem qJ.length (r:qJ xs us):xs.length=us.length:=Paired.length r
theorem qJ.get:∀ {xs:Aa V} {us:ah} {i:Ag} {x:V},qJ xs us->xs[i]? = Ab x->∃ u,us[i]? = Ab u/\qF x u
 |_,_,_,_,.nil,e=>by simp at e
 |_,_,0,_,.cons r _,e=>by simp at e;subst e;exact⟨_,rfl,r⟩
 |_,_,i+1,x,.cons _ t,e=>by
  obtain⟨u,Y,Q⟩:=qJ.get (i:=i) (x:=x) t (by simpa using e)
  exact⟨u,by simpa using Y,Q⟩
theorem qJ.set (r:qF x u):∀ {xs:Aa V} {us:ah} (i:Ag),qJ xs us->qJ (xs.set i x) (us.set i u)
 |_,_,_,.nil=>.nil
 |_,_,0,.cons _ t=>.cons r t
 |_,_,i+1,.cons q t=>.cons q (qJ.set r i t)
theorem qJ.append (h:qJ xs us)(s:qJ Q Y):qJ (xs++Q) (us++Y):=by
 induction h with
 |nil=>exact s
 |cons r t J=>exact .cons r J
theorem qJ.take:∀ {xs:Aa V} {us:ah} (n:Ag),qJ xs us->qJ (xs.take n) (us.take n)
 |_,_,0,_=>.nil
 |_,_,_+1,.nil=>.nil
 |_,_,n+1,.cons r t=>.cons r (qJ.take n t)
theorem qJ.drop:∀ {xs:Aa V} {us:ah} (n:Ag),qJ xs us->qJ (xs.drop n) (us.drop n)
 |_,_,0,r=>r
 |_,_,_+1,.nil=>.nil
 |_,_,n+1,.cons _ t=>qJ.drop n t
def vV:Am V->Am Ac->Prop
 |some v,Ab u=>qF v u
 |none,none=>Re
 |_,_=>Ex
def KV {κ : Type}:Aa (κ × V)->Aa (κ × Ac)->Prop:=Paired λ(p:κ × V) (q:κ × Ac)=>p.1=q.1/\qF p.2 q.2
def kV:bq->V
 |.inl i=>.int i
 |.inr x=>.str x
inductive HO where
  |lst (xs:Aa V)
  |tup (xs:Aa V)
  |dK (kvs:Aa (bq × V))|dT (kvs:Aa (Aa bq × V))
  |set (S:Ah->As) (n:Ag)
  |ins (C dx:Af) (fs:Aa (Aw × V))
  |own (x:Af)
  |xd (fs:Aa (Aw × V))
  |met (f x:Af)
  |rng (lo hi:Ah)
  |frz (o:Dc) (u:HO)
  |tbl (ps:Ay Ac)
  |ext (φ : By->Prop)
abbrev Hp:=Af->Am HO
noncomputable def c_ (H:Hp)(a:Af)(o:HO):Hp:=λb=>if b=a then Ab o else H b
theorem zE {a:Af}:c_ H a o a=Ab o:=by unfold c_;rw[Be rfl]
theorem qR {a b:Af}(h:b≠a):c_ H a o b=H b:=by unfold c_;rw[Bc h]
theorem O8 {H:Hp}{a b:Af}(h:H a=Ab o)(h':H b=Ab u)(d:o≠u):a≠b:=by
 intro e;subst e;rw[h] at h';exact d (Dm h')
theorem zG {H:Hp}{a b:Af}(h:H a=Ab o)(h':H b=none):a≠b:=by
 intro e;subst e;rw[h] at h';cases h'
section
variable (P:Bh)(w:Ce)
def zK (H:Hp)(h:By)(a:Af):HO->Prop
 |.lst Y=>Y.length<=sizeLine/\∃ (G:ah) (n:Ag),qJ Y G/\h.get? a=Ab { cls:=.type "list",data:=.seq G.toArray n }
 |.tup Y=>Y.length<=sizeLine/\∃ G:Aa Ac,qJ Y G/\Vh h a G.toArray
 |.dK Q=>Q.length<=sizeLine/\(a == Hs)=false/\∃ L,KV Q L/\h.DictOf (x9 P w) a L
 |.dT Q=>Q.length<=sizeLine/\(a == Hs)=false/\∃ Y:Aa (Aa bq × Af × Ac),
   Paired (λ(p:Aa bq × V) (q:Aa bq × Af × Ac)=>p.1=q.1/\H q.2.1=Ab (.tup (p.1.map kV))/\qF p.2 q.2.2) Q Y /\
   ∃ o T I,h.get? a=Ab o/\o.ExactDict/\o.data=.dict T I/\T.toList=Y.map (entryOfKey (Eo (x9 P w)))/\(Y.map (·.1)).Nodup
 |.set S n=>h.SetOf (Dy P w) a S n
 |.ins C N U=>H N=Ab (.own a)/\U.length<=1000/\N≠a/\h.get? a=Ab (Vw C N) /\
   ∃ J,h.Ns1 N J/\(∀ f,vV (U.lookup f) (J f))/\AcH J (U.map (·.1))
 |.own _=>∃ o,h.get? a=Ab o
 |.xd U=>∃ J,h.Ns1 a J/\∀ f,vV (U.lookup f) (J f)
 |.rng lo E=>∃ t u v,h.get? a=Ab { cls:=.type "range",data:=.fields #[.int lo t,.int E u,.int 1 v] }
 |.frz o u=>h.get? a=Ab o/\zK H h a u
 |.tbl A=>h.get? a=Ab { cls:=.none,data:=.fields A }
 |.met f x=>h.get? a=Ab (Tt (.ref f) (.ref x))
 |.ext φ => φ h/\(∃ o,h.get? a=Ab o)/\∀ B O:By,φ B->(∀ o,B.get? a=Ab o->O.get? a=Ab o)->φ O
def gx (H:Hp)(h:By):Prop:=∀ a o,H a=Ab o->zK P w H h a o
end
section
variable {P:Bh}{w:Ce}{H H':Hp}{h h':By}{a:Af}{o:HO}
theorem zK.lt (x:zK P w H h a o):a<h.objs.size:=by
 cases o with
 |lst J=>obtain⟨_,_,_,_,e⟩:=x;exact Bf e
 |tup J=>obtain⟨_,_,_,p⟩:=x;exact p.lt
 |dK Q=>obtain⟨_,_,_,_,o,_,_,e,_⟩:=x;exact Bf e
 |dT Q=>obtain⟨_,_,_,_,o,_,_,e,_⟩:=x;exact Bf e
 |set S n=>obtain⟨o,_,_,_,e,_⟩:=x;exact Bf e
 |ins C G Y=>obtain⟨_,_,_,e,_⟩:=x;exact Bf e
 |own y=>obtain⟨_,e⟩:=x;exact Bf e
 |xd Y=>obtain⟨_,⟨_,_,_,e,_⟩,_⟩:=x;exact Bf e
 |rng lo U=>obtain⟨_,_,_,e⟩:=x;exact Bf e
 |frz N u=>obtain⟨e,_⟩:=x;exact Bf e
 |tbl O=>exact Bf (show h.get? a=Ab _ from x)
 |met f y=>exact Bf (show h.get? a=Ab _ from x)
 |ext φ => obtain⟨_,⟨_,e⟩,_⟩:=x;exact Bf e
theorem Paired.mapP {α β:Type}{F G:α->β->Prop}{l₁:Aa α}{l₂:Aa β}(h:Paired F l₁ l₂)(f:∀ a b,F a b->G a b):Paired G l₁ l₂:=by
 induction h with
 |nil=>exact .nil
 |cons r t Q=>exact .cons (f _ _ r) Q
theorem zK.stay (x:zK P w H h a o)(k:∀ b u,(b=a\/H b=Ab (.own a))->h.get? b=Ab u->h'.get? b=Ab u)
  (j:∀ b,H b=Ab (.own a)->H' b=Ab (.own a)) (E:∀ b xs,H b=Ab (.tup xs)->H' b=Ab (.tup xs)):zK P w H' h' a o:=by
 induction o with
 |lst xs=>obtain⟨z,N,n,r,e⟩:=x;exact⟨z,N,n,r,k _ _ (.inl rfl) e⟩
 |tup xs=>obtain⟨z,N,r,Q,e,c⟩:=x;exact⟨z,N,r,Q,k _ _ (.inl rfl) e,c⟩
 |dK U=>obtain⟨z,y,A,r,Q,J,Y,e,c⟩:=x;exact⟨z,y,A,r,Q,J,Y,k _ _ (.inl rfl) e,c⟩
 |dT U =>
  obtain⟨z,y,xs,r,Q,J,Y,e,c⟩:=x;exact⟨z,y,xs,Paired.mapP r λp q z=>⟨z.1,E _ _ z.2.1,z.2.2⟩,Q,J,Y,k _ _ (.inl rfl) e,c⟩
 |set S n=>obtain⟨Q,J,Y,t,e,c⟩:=x;exact⟨Q,J,Y,t,k _ _ (.inl rfl) e,c⟩
 |ins C l I =>
  obtain⟨d,z,T,e,G,⟨O,J,Y,L,c⟩,r⟩:=x;exact⟨j _ d,z,T,k _ _ (.inl rfl) e,G,⟨O,J,Y,k _ _ (.inr d) L,c⟩,r⟩
 |own y=>obtain⟨Q,e⟩:=x;exact⟨Q,k _ _ (.inl rfl) e⟩
 |xd I=>obtain⟨G,⟨O,J,Y,e,c⟩,r⟩:=x;exact⟨G,⟨O,J,Y,k _ _ (.inl rfl) e,c⟩,r⟩
 |rng lo g=>obtain⟨t,u,v,e⟩:=x;exact⟨t,u,v,k _ _ (.inl rfl) e⟩
 |frz Q u M=>obtain⟨e,q⟩:=x;exact⟨k _ _ (.inl rfl) e,M q⟩
 |tbl B =>
  have e:h.get? a=Ab { cls:=.none,data:=.fields B }:=x;show h'.get? a=Ab { cls:=.none,data:=.fields B };exact k a _ (.inl rfl) e
 |met f y =>
  have e:h.get? a=Ab (Tt (.ref f) (.ref y)):=x;show h'.get? a=Ab (Tt (.ref f) (.ref y));exact k a _ (.inl rfl) e
 |ext φ => obtain⟨p,⟨o,e⟩,st⟩:=x;exact⟨st _ _ p λo q=>k _ _ (.inl rfl) q,⟨o,k _ _ (.inl rfl) e⟩,st⟩
theorem gx.lt (x:gx P w H h)(e:H a=Ab o):a<h.objs.size:=(x a o e).lt
theorem gx.fresh (x:gx P w H h)(e:h.objs.size<=a):H a=none:=by
 cases q:H a with
 |none=>rfl
 |some u=>exact absurd (Bk (x.lt q) e) (Ey _)
theorem gx.kept (x:gx P w H h)(k:∀ b u,h.get? b=Ab u->h'.get? b=Ab u):gx P w H h':=λa o e =>
 (x a o e).stay (λb u _ q=>k b u q) (λ_ q=>q) λ_ _ q=>q
theorem gx.laid (x:gx P w H h)(k:∀ b u,h.get? b=Ab u->h'.get? b=Ab u)(hp:h.objs.size<=a)(Q:zK P w (c_ H a o) h' a o):gx P w (c_ H a o) h':=λb u e=>by
 have Y:=x.fresh hp;by_cases J:b=a
 .subst J;rw[zE] at e;cases e;exact Q
 .rw[qR J] at e
  exact(x b u e).stay (λc v _ q=>k c v q) (λc q=>by rw[qR (zG q Y)];exact q) λc U q=>by rw[qR (zG q Y)];exact q
end
def Rd (H:Hp)(a:Af)(u:HO):Prop:=H a=Ab u\/∃ o,H a=Ab (.frz o u)
theorem Rd.of {H:Hp}{a:Af}(h:H a=Ab u):Rd H a u:=.inl h
theorem Rd.ok {P:Bh}{a:Af}(r:Rd H a u)(x:gx P w H h):zK P w H h a u:=by
 rcases r with r|⟨o,r⟩
 .exact x a u r
 .obtain⟨_,q⟩:=x a _ r
  exact q
def yh:Am HO->Prop
 |some (.lst _)=>Re
 |some (.dK _)=>Re
 |some (.dT _)=>Re
 |some (.set _ _)=>Re
 |some (.ins _ _ _)=>Re
 |some (.ext _)=>Re
 |_=>Ex
section
variable {P:Bh}{w:Ce}{H:Hp}{h h':By}{x e:Af}{o':HO}
theorem gx.write (ok:gx P w H h)(U:yh (H x))(L:e=x\/H e=Ab (.own x))(k:∀ b u,b≠e->h.get? b=Ab u->h'.get? b=Ab u)(O:∃ u,h'.get? e=Ab u)
  (C:zK P w (c_ H x o') h' x o'):gx P w (c_ H x o') h':=λb u q=>by
 have Y:∀ c y,H c=Ab (.own y)->c≠x:=λc y r z=>by subst z;rw[r] at U;exact U
 have J:∀ c G,H c=Ab (.tup G)->c≠x:=λc G r z=>by subst z;rw[r] at U;exact U
 by_cases N:b=x
 .subst N;rw[zE] at q;cases q;exact C
 .rw[qR N] at q
  by_cases Q:b=e
  .have B:H b=Ab (.own x):=by
    rcases L with z|z
    .exact absurd (Q.trans z) N
    .rw[Q];exact z
   rw[q] at B;cases B;obtain⟨v,hv⟩:=O;exact⟨v,by rw[Q];exact hv⟩
  .refine(ok b u q).stay (λc v hc r=>k c v ?_ r) (λc r=>by rw[qR (Y c b r)];exact r) λc G r=>by rw[qR (J c G r)];exact r
   rcases hc with rfl|hc
   .exact Q
   .rintro rfl
    rcases L with z|z
    .exact Y c b hc z
    .rw[hc] at z;cases z;exact N rfl
end
structure Un (fs ex:ag)(H H':Hp)(h h':By):Prop where
 keep:∀ b o,h.get? b=Ab o->H b=none->b ∉ fs->b ∉ ex->h'.get? b=Ab o
 slot:∀ b o,h.get? b=Ab o->H b=none->b∈fs->b ∉ ex->∃ sl,h'.get? b=Ab { o with slots:=sl }
 free:∀ b o,h.get? b=Ab o->H b=none->b ∉ ex->H' b=none
 there:∀ b o,h.get? b=Ab o->b ∉ ex->∃ o',h'.get? b=Ab o'
 tups:∀ b xs,H b=Ab (.tup xs)->H' b=Ab (.tup xs)
 frzs:∀ b o u,H b=Ab (.frz o u)->H' b=Ab (.frz o u)
 tbls:∀ b ps,H b=Ab (.tbl ps)->∃ more,H' b=Ab (.tbl (ps++more))
section
variable {fs ex:ag}{H H1 H2:Hp}{h h1 h2 h':By}{a x e:Af}{o:HO}
theorem Un.any (u:Un fs ex H H1 h h1){b:Af}{Q:Dc}(q:h.get? b=Ab Q)(n:H b=none)(Y:b ∉ ex):∃ sl,h1.get? b=Ab { Q with slots:=sl }:=by
 by_cases J:b∈fs
 .exact u.slot b Q q n J Y
 .exact⟨Q.slots,u.keep b Q q n J Y⟩
theorem Un.trans (a:Un fs ex H H1 h h1)(b:Un fs ex H1 H2 h1 h2):Un fs ex H H2 h h2 where
 keep:=λc Q q n G Y=>b.keep c Q (a.keep c Q q n G Y) (a.free c Q q n Y) G Y
 slot:=λc Q q n G Y=>by
  obtain⟨sl,J⟩:=a.slot c Q q n G Y;obtain⟨C,N⟩:=b.slot c _ J (a.free c Q q n Y) G Y;exact⟨C,N⟩
 free:=λc Q q n Y=>by
  obtain⟨O,J⟩:=a.there c Q q Y;exact b.free c O J (a.free c Q q n Y) Y
 there:=λc Q q Y=>by
  obtain⟨O,J⟩:=a.there c Q q Y;exact b.there c O J Y
 tups:=λc U q=>b.tups c U (a.tups c U q)
 frzs:=λc Q U q=>b.frzs c Q U (a.frzs c Q U q)
 tbls:=λc T q=>by
  obtain⟨L,J⟩:=a.tbls c T q;obtain⟨B,N⟩:=b.tbls c _ J;exact⟨L++B,by rw[N,Zt]⟩
theorem Un.kept (k:∀ b u,h.get? b=Ab u->h'.get? b=Ab u):Un fs ex H H h h':=
 ⟨λb Q q _ _ _=>k b Q q,λb Q q _ _ _=>⟨Q.slots,k b Q q⟩,λ_ _ _ n _=>n,λb Q q _=>⟨Q,k b Q q⟩,λ_ _ q=>q,λ_ _ _ q=>q,λ_ Y q=>⟨#[],by rw[q];simp⟩⟩
theorem Un.refl:Un fs ex H H h h:=Un.kept λ_ _ q=>q
theorem Un.laid (k:∀ b u,h.get? b=Ab u->h'.get? b=Ab u)(hp:h.objs.size<=a)(Q:H a=none):Un fs ex H (c_ H a o) h h' where
 keep:=λb u q _ _ _=>k b u q
 slot:=λb u q _ _ _=>⟨u.slots,k b u q⟩
 free:=λb u q n _=>by rw[qR (Cu (Bk (Bf q) hp))];exact n
 there:=λb u q _=>⟨u,k b u q⟩
 tups:=λb Y q=>by rw[qR (zG q Q)];exact q
 frzs:=λb u Y q=>by rw[qR (zG q Q)];exact q
 tbls:=λb J q=>⟨#[],by rw[qR (zG q Q),q];simp⟩
theorem Un.write (Y:yh (H x))(B:e=x\/H e=Ab (.own x))(k:∀ b u,b≠e->h.get? b=Ab u->h'.get? b=Ab u)(U:∃ u,h'.get? e=Ab u):Un fs ex H (c_ H x o) h h':=by
 have G:∀ b,H b=none->b≠x:=λb n z=>by subst z;rw[n] at Y;exact Y
 have N:∀ b,H b=none->b≠e:=λb n z=>by
  subst z;rcases B with r|r
  .exact G b n r
  .rw[n] at r;cases r
 have J:∀ b u,H b=Ab u->¬ yh (Ab u)->b≠x:=λb u q O z=>by subst z;rw[q] at Y;exact O Y
 refine⟨λb u q n _ _=>k b u (N b n) q,λb u q n _ _=>⟨u.slots,k b u (N b n) q⟩,λb u q n _=>by rw[qR (G b n)];exact n,λb u q _=>?_,
  λb C q=>by rw[qR (J b _ q λz=>z)];exact q,λb u C q=>by rw[qR (J b _ q λz=>z)];exact q,λb L q=>⟨#[],by rw[qR (J b _ q λz=>z),q];simp⟩⟩
 by_cases Q:b=e
 .subst Q;exact U
 .exact⟨u,k b u Q q⟩
end
noncomputable def yx (h:By)(H:Hp):Aa Af:=(Cj h.objs.size).filter λa=>(H a).isSome
def gP (h:By)(H:Hp):By:=Rk h (yx h H)
theorem W9 (h:By)(H:Hp):(gP h H).objs.size=h.objs.size:=PySem.W.hideAll_size _ _
theorem US {h:By}{H:Hp}{b:Af}(e:h.get? b=Ab o)(n:H b=none):(gP h H).get? b=Ab o:=
 Yp _ e λQ=>by
  have q:(H b).isSome=true:=(Gz.mp Q).2;rw[n] at q;simp at q
theorem M8 {b:Af}(e:(gP h H).get? b=Ab o):h.get? b=Ab o/\H b=none:=by
 have Q:h.get? b=Ab o:=Zu (yx h H) e;refine⟨Q,?_⟩;cases q:H b with
 |none=>rfl
 |some x =>
  have Y:b∈yx h H:=Gz.mpr ⟨Dn.mpr (Bf Q),by simp[q]⟩
  have z:(gP h H).get? b=none:=PySem.W.hideAll_none (yx h H) Y;rw[z] at e;cases e
noncomputable def PZ (g h:By)(L:Af):Aa (Af × Dc):=(Cj h.objs.size).filterMap λa=>if a=L\/(g.get? a).isSome=true then none else (h.get? a).map λo=>(a,o)
def qC (g h:By)(L d:Af):Aa (Af × Dc):=(PZ g h L).filter λp=>decide (p.1≠d)
end _L
namespace _L
variable {ch:ag}{E:ae}{t':Ag}{g':Ay AbA}{d':Drawn}{M:Pn}{Q:Vx->Ai->Prop}
noncomputable def vM:Aa Aw:=["law","_law_right","by_hull","pair_bound","hub","greatest_often"]
def NS (J:ai)(h:By):Prop:=∃ Y o,J "__builtins__" = Ab (.ref Y)/\Y≠Sd/\h.get? Y=Ab o/\o.cls=.type "module" /\ o.dict=Ab Sd/\o.data=.plain
structure Mod (K:Aj)(mg:ai)(base:By):Prop where
 kin:K.In base
 glob:base.Ns Dr mg
 blt:∃ mb,base.Ns Sd mb/\∀ x:Aw,x ≠ "__name__" -> mb x=Gf x
 nolimit:base.NoLimit
 bm:NS mg base
 code:∀ x∈vM,∀ c T,Es K x=Ab (c,T)->AbS base c T
 inj:∀ x∈vM,∀ y∈vM,∀ c d T,Es K x=Ab (c,T)->Es K y=Ab (d,T)->x=y
structure Cx where
 prog:Bh
 w:Ce
 K:Aj
 mg:Aw->Am Ac
 base:By
 A:Bw
 N:Aa Aw
 s₀:Ai
 H₀:Hp
 env:Ko
 outer:Aa Ko
 stack:Aa Ko
 ex:Aa Af
 fn:Aw->As
 calm:As
 pn:Aa (Af × Dc)
 xe:Ac->Ai->Prop
noncomputable def jq (l:Aa Ko):Aa Af:=l.filterMap (·.frame)
abbrev Cx.fs (X:Cx):Aa Af:=jq X.outer
def ur (Y:Eu)(x:Aw):Prop:=Y.names.lookup x=Ab .local \/ Y.names.lookup x=Ab .cell\/Y.names.lookup x=Ab .free
def Loc (Y:Eu)(x:Aw):Prop:=Y.names.lookup x=Ab .local \/ Y.names.lookup x=Ab .cell
def qA4 (ak:Ko)(h:By)(m:ai)(x:Aw)(u:Ac):Prop:=
 (ak.kindOf x=Ab .local /\ m x=Ab u)\/((ak.kindOf x=Ab .cell\/ak.kindOf x=Ab .free)/\∃ c,ak.cells.lookup x=Ab c/\h.IsCell c (Ab u))
structure Cx.Ok (X:Cx):Prop where
 mod:Mod X.K X.mg X.base
 kind:X.env.scope.kind=.function
 glob:X.env.globals=Dr
 blt:X.env.builtins=Sd
 above:X.s₀.heap.objs.size<=X.env.locals
 inj:∀ x y c,X.env.cells.lookup x=Ab c->X.env.cells.lookup y=Ab c->x=y
 has:∀ x,(X.env.kindOf x=Ab .cell\/X.env.kindOf x=Ab .free)->∃ c,X.env.cells.lookup x=Ab c
 cab:∀ x c,X.fn x=true->X.env.cells.lookup x=Ab c->X.s₀.heap.objs.size<=c
 hd:X.calm=true->X.A.handled=none
 frames:X.A.frames=Ab X.stack
 stk:X.stack=X.outer\/(X.stack=X.env::X.outer/\X.env.frame=Ab X.env.locals)
 exf:∀ b∈X.ex,b≠X.env.locals/\∀ x c,X.env.cells.lookup x=Ab c->c≠b
 bs:∀ b o,X.base.get? b=Ab o->X.s₀.heap.get? b=Ab o/\X.H₀ b=none
 bsz:X.base.objs.size<=X.s₀.heap.objs.size
 noex:∀ b o,X.base.get? b=Ab o->b ∉ X.ex
 exfs:∀ b∈X.ex,b ∉ X.fs
 funs:X.s₀.heap.FunFrames X.base X.outer
 frf:∀ b∈X.fs,X.H₀ b=none
structure Inv (X:Cx)(pins:aa)(σ : Aa (Am V))(H:Hp)(s:Ai):Prop where
 ok:X.Ok
 os:s.os=X.s₀.os
 bare:Qj s.gens
 base:Un X.fs X.ex X.H₀ H X.s₀.heap s.heap
 loc:∃ m,s.heap.Ns X.env.locals m/\∀ (i:Ag) (x:Aw) (v:V),X.N[i]? = Ab x->σ[i]? = Ab (Ab v)->ur X.env.scope x->∃ u,qF v u/\qA4 X.env s.heap m x u
 cell:∀ x c,X.env.cells.lookup x=Ab c->∃ v,s.heap.IsCell c v
 free:H X.env.locals=none
 freeC:∀ x c,X.env.cells.lookup x=Ab c->H c=none
 pin:∀ p∈X.pn++pins,s.heap.get? p.1=Ab p.2/\H p.1=none/\p.1≠X.env.locals/\p.1 ∉ X.fs/\∀ v,p.2.data≠.cell v
 hok:gx X.prog X.w H s.heap
 len:σ.length=X.N.length
section
variable {X:Cx}{aj:aa}{σ: Aa (Am V)}{H H':Hp}{s:Ai}{h':By}
theorem Cx.Ok.nofr (ok:X.Ok){b:Af}{o:Dc}(e:X.base.get? b=Ab o):b ∉ X.fs:=λY=>by
 have:=(ok.funs.mem Y).1;rw[e] at this;cases this
theorem Inv.bs (I:Inv X aj σ H s):∀ b o,X.base.get? b=Ab o->s.heap.get? b=Ab o/\H b=none:=λb o e =>
 ⟨I.base.keep b o (I.ok.bs b o e).1 (I.ok.bs b o e).2 (I.ok.nofr e) (I.ok.noex b o e),I.base.free b o (I.ok.bs b o e).1 (I.ok.bs b o e).2 (I.ok.noex b o e)⟩
theorem Inv.bk (I:Inv X aj σ H s):∀ b o,X.base.get? b=Ab o->s.heap.get? b=Ab o:=λb o e=>(I.bs b o e).1
theorem Inv.mod (I:Inv X aj σ H s):Mod X.K X.mg X.base:=I.ok.mod
theorem Inv.kIn (I:Inv X aj σ H s):X.K.In s.heap:=I.ok.mod.kin.keeps I.bk
theorem Inv.nolimit (I:Inv X aj σ H s):s.heap.NoLimit:=I.ok.mod.nolimit.keeps I.bk
theorem Inv.lt (I:Inv X aj σ H s):X.env.locals<s.heap.objs.size:=let ⟨_,Y,_⟩:=I.loc;Y.lt
theorem Inv.sz (I:Inv X aj σ H s):X.s₀.heap.objs.size<=s.heap.objs.size:=Cw I.ok.above (Ec I.lt)
theorem Inv.nofs (I:Inv X aj σ H s){a:Af}(h:s.heap.objs.size<=a):a ∉ X.fs:=λJ=>by
 obtain⟨_,o,Y,_⟩:=I.ok.funs.mem J;exact absurd (Bk (Bf Y) (Cw I.sz h)) (Ey _)
theorem Inv.cne (I:Inv X aj σ H s):∀ x c,X.env.cells.lookup x=Ab c->c≠X.env.locals:=λx c e z=>by
 obtain⟨v,o,G,U⟩:=I.cell x c e;obtain⟨m,⟨O,N,C,Y,J,_⟩,_⟩:=I.loc;rw[z,Y] at G;cases G;rw[J] at U;cases U
theorem Inv.funs (I:Inv X aj σ H s):s.heap.FunFrames X.base X.outer:=by
 have U:∀ (l:Aa Ko),(∀ b∈jq l,b∈X.fs)->X.s₀.heap.FunFrames X.base l->s.heap.FunFrames X.base l:=by
  intro l
  induction l with
  |nil=>intro _ _;trivial
  |cons y r w =>
   intro N T;obtain⟨C,⟨L,o,Y,O,j,A⟩,B⟩:=T;have J:L∈X.fs:=N L (by unfold jq;rw[Jd,Y];exact Cf)
   obtain⟨sl,e⟩:=I.base.slot L o j (I.ok.frf L J) J λz=>I.ok.exfs L z J;exact⟨C,⟨L,_,Y,O,e,A⟩,w (λb G=>N b (by unfold jq;rw[Jd,Y];exact AT _ G)) B⟩
 exact U X.outer (λ_ G=>G) I.ok.funs
theorem Inv.stack (I:Inv X aj σ H s):s.heap.FunFrames X.base X.stack:=by
 rcases I.ok.stk with e|⟨e,J⟩
 .rw[e];exact I.funs
 .rw[e]
  obtain⟨m,Y,_⟩:=I.loc;refine .cons (by rw[I.ok.kind];decide) J Y ?_ I.funs
  exact Rf (Cw I.ok.bsz I.ok.above)
theorem Inv.stkSub (I:Inv X aj σ H s):∀ b∈jq X.stack,b∈X.env.locals::X.fs:=λb Y=>by
 rcases I.ok.stk with e|⟨e,J⟩
 .rw[e] at Y;exact AT _ Y
 .rw[e] at Y
  unfold jq at Y;rw[Jd,J] at Y;exact Y
theorem Inv.stkFree (I:Inv X aj σ H s):∀ b∈jq X.stack,H b=none:=λb hb=>by
 rcases Az.mp (I.stkSub b hb) with e|hb
 .rw[e];exact I.free
 .obtain⟨_,o,Y,_⟩:=I.ok.funs.mem hb
  exact I.base.free b o Y (I.ok.frf b hb) λz=>I.ok.exfs b z hb
theorem Inv.step {g':Ay AbA}{t':Ag}{d':Drawn}(I:Inv X aj σ H s)
  (N:∀ b∈ch,(b∈X.ex\/X.s₀.heap.objs.size<=b)/\b≠X.env.locals/\(∀ x c,X.env.cells.lookup x=Ab c->c≠b)/\∀ p∈X.pn++aj,p.1≠b)
  (G:∀ b o,b≠X.env.locals->b ∉ X.fs->b ∉ ch->s.heap.get? b=Ab o->H b=none->h'.get? b=Ab o)
  (slot:∀ b o,b≠X.env.locals->b∈X.fs->b ∉ ch->s.heap.get? b=Ab o->H b=none->∃ sl,h'.get? b=Ab { o with slots:=sl }) (J:∀ b o,b ∉ ch->s.heap.get? b=Ab o->H b=none->H' b=none)
  (T:∀ b o,b ∉ ch->s.heap.get? b=Ab o->∃ o',h'.get? b=Ab o')
  (j:∀ b xs,H b=Ab (.tup xs)->H' b=Ab (.tup xs)) (g:∀ b o u,H b=Ab (.frz o u)->H' b=Ab (.frz o u)) (t:∀ b a,H b=Ab (.tbl a)->∃ y,H' b=Ab (.tbl (a++y)))
  (ns:∀ m,s.heap.Ns X.env.locals m->h'.Ns X.env.locals m) (h:gx X.prog X.w H' h') (hg:Qj g') :
  Inv X aj σ H' { s with heap:=h',gens:=g',drawn:=d',toks:=t' }:=by
 have f:∀ b o,X.s₀.heap.get? b=Ab o->b≠X.env.locals:=λb o e=>Cu (Bk (Bf e) I.ok.above);have C:∀ b o,X.s₀.heap.get? b=Ab o->b ∉ X.ex->b ∉ ch:=λb o e Y L=>by
  rcases (N b L).1 with z|z
  .exact Y z
  .exact absurd (Bk (Bf e) z) (Ey _)
 have U:∀ x c,X.env.cells.lookup x=Ab c->∀ v,s.heap.IsCell c v->h'.IsCell c v:=λx c e v ⟨o,A,hd⟩=>by
  have O:c ∉ ch:=λz=>(N c z).2.2.1 x c e rfl;by_cases hc:c∈X.fs
  .obtain⟨sl,q⟩:=slot c o (I.cne x c e) hc O A (I.freeC x c e)
   exact⟨_,q,hd⟩
  .exact⟨o,G c o (I.cne x c e) hc O A (I.freeC x c e),hd⟩
 refine⟨I.ok,I.os,hg,⟨λb o e n L Y=>?_,λb o e n L Y=>?_,λb o e n Y=>?_,λb o e Y=>?_,λb xs e=>j b xs (I.base.tups b xs e),λb o xs e=>g b o xs (I.base.frzs b o xs e),λb a e=>?_⟩,?_,λx c e=>?_,?_,λx c e=>?_,λp hp=>?_,h,I.len⟩
 .exact G b o (f b o e) L (C b o e Y) (I.base.keep b o e n L Y) (I.base.free b o e n Y)
 .obtain⟨sl,B⟩:=I.base.slot b o e n L Y
  obtain⟨zb,w⟩:=slot b _ (f b o e) L (C b o e Y) B (I.base.free b o e n Y);exact⟨zb,w⟩
 .obtain⟨o',B⟩:=I.base.there b o e Y
  exact J b o' (C b o e Y) B (I.base.free b o e n Y)
 .obtain⟨o',B⟩:=I.base.there b o e Y
  exact T b o' (C b o e Y) B
 .obtain⟨m1,B⟩:=I.base.tbls b a e
  obtain⟨m2,w⟩:=t b _ B;exact⟨m1++m2,by rw[w,Zt]⟩
 .obtain⟨m,hn,hl⟩:=I.loc
  refine⟨m,ns m hn,λi x v B w e3=>?_⟩;obtain⟨u,r,l⟩:=hl i x v B w e3;refine⟨u,r,?_⟩;rcases l with l|⟨k,c,e,z⟩
  .exact .inl l
  .exact .inr ⟨k,c,e,U x c e _ z⟩
 .obtain⟨v,z⟩:=I.cell x c e
  exact⟨v,U x c e v z⟩
 .obtain⟨m,⟨o,_,_,A,_⟩,_⟩:=I.loc
  exact J _ o (λz=>(N _ z).2.1 rfl) A I.free
 .obtain⟨v,o,A,hd⟩:=I.cell x c e
  exact J c o (λz=>(N c z).2.2.1 x c e rfl) A (I.freeC x c e)
 .obtain⟨e,n,ne,nf,d⟩:=I.pin p hp
  have O:p.1 ∉ ch:=λz=>(N p.1 z).2.2.2 p hp rfl;exact⟨G p.1 p.2 ne nf O e n,J p.1 p.2 O e n,ne,nf,d⟩
theorem Inv.un {t':Ag}(I:Inv X aj σ H s)(u:Un X.fs [] H H' s.heap h')(J:gx X.prog X.w H' h'):Inv X aj σ H' { s with heap:=h',toks:=t' }:=by
 obtain⟨m,⟨o,w,T,N,r⟩,_⟩:=id I.loc;obtain⟨sl,C⟩:=u.any N I.free ba
 exact I.step (g':=s.gens) (d':=s.drawn) (ch:=[]) (λ_ z=>nomatch z) (λb o _ G _ e n=>u.keep b o e n G ba) (λb o _ G _ e n=>u.slot b o e n G ba) (λb o _ e n=>u.free b o e n ba) (λb o _ e=>u.there b o e ba) u.tups u.frzs u.tbls (λA B=>by
  obtain⟨j,L,U,Y,O⟩:=B;rw[N] at Y;cases Y;exact⟨_,L,U,C,O⟩) J I.bare
theorem Inv.call {t':Ag}{d':Drawn}(I:Inv X aj σ H s)(u:Un (jq X.stack) ch H H' s.heap h')(G:gx X.prog X.w H' h')(w:Qj g')
  (U:∀ b∈ch,(b∈X.ex\/X.s₀.heap.objs.size<=b)/\b≠X.env.locals/\(∀ x c,X.env.cells.lookup x=Ab c->c≠b)/\∀ p∈X.pn++aj,p.1≠b) :
  Inv X aj σ H' { s with heap:=h',gens:=g',drawn:=d',toks:=t' }:=by
 obtain⟨m,⟨o,k,j,C,r⟩,_⟩:=id I.loc;obtain⟨sl,N⟩:=u.any C I.free λz=>(U _ z).2.1 rfl;exact I.step (ch:=ch) U (λb o N L Y e n=>u.keep b o e n (λz=>(Az.mp (I.stkSub b z)).elim N L) Y) (λb o _ _ Y e n=>u.any e n Y) (λb o Y e n=>u.free b o e n Y) (λb o Y e=>u.there b o e Y) u.tups u.frzs u.tbls (λy B=>by
  obtain⟨q,A,O,J,T⟩:=B;rw[C] at J;cases J;exact⟨_,A,O,N,T⟩) G w
theorem Inv.turned {t':Ag}{it:Af}(I:Inv X aj σ H s)(k:∀ b o,b≠it->s.heap.get? b=Ab o->h'.get? b=Ab o)(G:H it=none)(U:it≠X.env.locals)
  (h1:it∈X.ex\/X.s₀.heap.objs.size<=it) (h2:∀ x c,X.env.cells.lookup x=Ab c->c≠it) (h3:∀ p∈X.pn++aj,p.1≠it):Inv X aj σ H { s with heap:=h',toks:=t' }:=by
 have J:∀ b u,H b=Ab u->b≠it:=λb u e z=>by rw[z,G] at e;cases e
 refine I.step (g':=s.gens) (d':=s.drawn) (ch:=[it]) (λb L=>?_) (λb o _ _ Y e _=>k b o (λz=>Y (by simp[z])) e) (λb o _ _ Y e _=>⟨o.slots,k b o (λz=>Y (by simp[z])) e⟩) (λ_ _ _ _ n=>n)
  (λb o Y e=>⟨o,k b o (λz=>Y (by simp[z])) e⟩) (λ_ _ e=>e) (λ_ _ _ e=>e) (λb T e=>⟨#[],by rw[e];simp⟩) (λm O=>?_) (λb u e=>?_) I.bare
 .have e:b=it:=by simpa using L
  subst e;exact⟨h1,U,h2,h3⟩
 .obtain⟨o,C,N,B,r⟩:=O
  exact⟨o,C,N,k _ o (Fv U) B,r⟩
 .refine(I.hok b u e).stay (λc v Y q=>k c v ?_ q) (λ_ q=>q) λ_ _ q=>q
  rcases Y with z|z
  .rw[z];exact J b u e
  .exact J c _ z
theorem Inv.tok (I:Inv X aj σ H s)(t:Ag):Inv X aj σ H { s with toks:=t }:=I.un (h':=s.heap) (t':=t) Un.refl I.hok
theorem Inv.kept {t':Ag}(I:Inv X aj σ H s)(k:∀ b u,s.heap.get? b=Ab u->h'.get? b=Ab u):Inv X aj σ H { s with heap:=h',toks:=t' }:=I.un (Un.kept k) (I.hok.kept k)
theorem Inv.laid {a:Af}{t':Ag}(I:Inv X aj σ H s)(k:∀ b u,s.heap.get? b=Ab u->h'.get? b=Ab u)(hp:s.heap.objs.size<=a)(Y:zK X.prog X.w (c_ H a o) h' a o) :
  Inv X aj σ (c_ H a o) { s with heap:=h',toks:=t' }:=I.un (Un.laid k hp (I.hok.fresh hp)) (I.hok.laid k hp Y)
theorem Inv.write {x e:Af}{o:HO}{t':Ag}(I:Inv X aj σ H s)(U:yh (H x))(G:e=x\/H e=Ab (.own x))(k:∀ b u,b≠e->s.heap.get? b=Ab u->h'.get? b=Ab u)(Y:∃ u,h'.get? e=Ab u)
  (J:zK X.prog X.w (c_ H x o) h' x o):Inv X aj σ (c_ H x o) { s with heap:=h',toks:=t' }:=I.un (Un.write U G k Y) (I.hok.write U G k Y J)
theorem Inv.pins_of {Y:aa}(I:Inv X aj σ H s)(h:∀ p∈Y,s.heap.get? p.1=Ab p.2/\H p.1=none/\p.1≠X.env.locals/\p.1 ∉ X.fs/\∀ v,p.2.data≠.cell v):Inv X Y σ H s:=
 ⟨I.ok,I.os,I.bare,I.base,I.loc,I.cell,I.free,I.freeC,λp J=>(Bp.mp J).elim (λz=>I.pin p (Cs _ z)) (h p),I.hok,I.len⟩
theorem cK {N:Aa Aw}(U:N.Nodup){i j:Ag}{x:Aw}(a:N[i]? = Ab x)(b:N[j]? = Ab x):i=j:=by
 obtain⟨O,J⟩:=Ba.mp a;obtain⟨G,Y⟩:=Ba.mp b;exact(Qk U).mp (J.trans Y.symm)
theorem sX {A:Bw}{i:Ag}(I:Inv X aj σ H s)(hN:X.N.Nodup)(hi:X.N[i]? = Ab x)(G:Loc X.env.scope x)(r:qF v u)
  (h:∀ s',Inv X aj (σ.set i (Ab v)) H s'->(∃ a,Gg a s.heap s'.heap/\(a=X.env.locals\/X.env.cells.lookup x=Ab a))->Q () s') (hf:X.fn x=true\/X.env.scope.names.lookup x=Ab .local:=by first|exact .inl rfl|exact .inr rfl|assumption):Ar M A (storeName X.env x u) Q E s:=by
 obtain⟨m,hn,hl⟩:=id I.loc;have zb:(X.env.scope.kind == .class||(X.env.scope.kind == .module&&X.env.locals != X.env.globals))=false:=by rw[I.ok.kind];rfl
 have C:i<σ.length:=by rw[I.len];exact(Ba.mp hi).1
 have L:=I.cne;have J:∀ {a:Af} {h':By},(∃ o,s.heap.get? a=Ab o/\H a=none)->Gg a s.heap h'->gx X.prog X.w H h':=λ{a h'} ha Y b ob e=>by
  obtain⟨_,_,N⟩:=ha;refine(I.hok b ob e).stay (λc w' hc q=>(Y.2 c ?_).trans q) (λ_ q=>q) λ_ _ q=>q;rintro rfl;rcases hc with rfl|hc
  .rw[N] at e;cases e
  .rw[N] at hc;cases hc
 rcases G with hk|hk
 .refine wpAny_storeName_local hk hn (λh' zc Y=>?_) zb
  obtain⟨oL,_,_,zh,_⟩:=id hn;refine h _ ⟨I.ok,I.os,I.bare,⟨λb o e n B G=>?_,λb o e n B G=>?_,I.base.free,λb o e G=>?_,I.base.tups,I.base.frzs,I.base.tbls⟩,⟨_,zc,λj y v' U O e3=>?_⟩,λy c e=>?_,I.free,I.freeC,λp hp=>?_,J ⟨oL,zh,I.free⟩ Y,by simpa using I.len⟩ ⟨_,Y,.inl rfl⟩
  .exact(Y.2 b (Cu (Bk (Bf e) I.ok.above))).trans (I.base.keep b o e n B G)
  .obtain⟨sl,U⟩:=I.base.slot b o e n B G
   exact⟨sl,(Y.2 b (Cu (Bk (Bf e) I.ok.above))).trans U⟩
  .obtain⟨o',U⟩:=I.base.there b o e G
   exact⟨o',(Y.2 b (Cu (Bk (Bf e) I.ok.above))).trans U⟩
  .by_cases T:j=i
   .subst T
    rw[hi] at U;cases U;rw[DL C] at O;cases O;exact⟨u,r,.inl ⟨hk,by simp⟩⟩
   .rw[Dd (Fv T)] at O
    obtain⟨u',r',q⟩:=hl j y v' U O e3;refine⟨u',r',?_⟩;rcases q with⟨k,e⟩|⟨k,c,e,z⟩
    .refine .inl ⟨k,?_⟩
     have:y≠x:=λe=>T (cK hN U (e▸hi));simp[this,e]
    .exact .inr ⟨k,c,e,z.sameBut Y (L y c e)⟩
  .obtain⟨w',z⟩:=I.cell y c e
   exact⟨w',z.sameBut Y (L y c e)⟩
  .obtain⟨e,n,ne,nf,d⟩:=I.pin p hp
   exact⟨(Y.2 p.1 ne).trans e,n,ne,nf,d⟩
 .have w:X.fn x=true:=by
   rcases hf with z|z
   .exact z
   .rw[z] at hk;cases hk
  obtain⟨c,hc⟩:=I.ok.has x (.inl hk);obtain⟨w',z⟩:=I.cell x c hc;refine wpAny_storeName_cell I.ok.kind hk hc z (λh' f Y=>?_);obtain⟨oc,g,t⟩:=id z;refine h { s with heap:=h' } ⟨I.ok,I.os,I.bare,⟨λb o e n B G=>?_,λb o e n B G=>?_,I.base.free,λb o e G=>?_,I.base.tups,I.base.frzs,I.base.tbls⟩,⟨m,hn.sameBut Y (Fv (L x c hc)),λj y v' U O e3=>?_⟩,λy c' e=>?_,I.free,I.freeC,λp hp=>?_,J ⟨oc,g,I.freeC x c hc⟩ Y,by simpa using I.len⟩ ⟨c,Y,.inr hc⟩
  .exact(Y.2 b (Cu (Bk (Bf e) (I.ok.cab x c w hc)))).trans (I.base.keep b o e n B G)
  .obtain⟨sl,U⟩:=I.base.slot b o e n B G
   exact⟨sl,(Y.2 b (Cu (Bk (Bf e) (I.ok.cab x c w hc)))).trans U⟩
  .obtain⟨o',U⟩:=I.base.there b o e G
   exact⟨o',(Y.2 b (Cu (Bk (Bf e) (I.ok.cab x c w hc)))).trans U⟩
  .by_cases T:j=i
   .subst T
    rw[hi] at U;cases U;rw[DL C] at O;cases O;exact⟨u,r,.inr ⟨.inl hk,c,hc,f⟩⟩
   .rw[Dd (Fv T)] at O
    obtain⟨u',r',q⟩:=hl j y v' U O e3;refine⟨u',r',?_⟩;rcases q with q|⟨k,c',e,z'⟩
    .exact .inl q
    .refine .inr ⟨k,c',e,z'.sameBut Y ?_⟩
     rintro rfl;exact T (cK hN U (I.ok.inj _ _ _ e hc▸hi))
  .by_cases l:c'=c
   .subst l;exact⟨_,f⟩
   .obtain⟨w2,z2⟩:=I.cell y c' e
    exact⟨w2,z2.sameBut Y l⟩
  .obtain⟨e,n,ne,nf,d⟩:=I.pin p hp
   refine⟨(Y.2 p.1 ?_).trans e,n,ne,nf,d⟩;intro q;rw[q,g] at e;have q':oc=p.2:=Dm e;exact d w' (by rw[<- q'];exact t)
theorem jR {A:Bw}{i:Ag}(I:Inv X aj σ H s)(U:X.N.Nodup)(hi:X.N[i]? = Ab x)(G:Loc X.env.scope x)(r:qF v u)
  (h:∀ s',Inv X aj (σ.set i (Ab v)) H s'->Q () s') (J:X.fn x=true\/X.env.scope.names.lookup x=Ab .local:=by first|exact .inl rfl|exact .inr rfl|assumption):Ar M A (storeName X.env x u) Q E s:=
 sX I U hi G r (λs' Y _=>h s' Y) J
theorem Inv.call' {s':Ai}(I:Inv X aj σ H s)(N:s'.os=s.os)(u:Un (jq X.stack) ch H H' s.heap s'.heap)(Y:gx X.prog X.w H' s'.heap)(G:Qj s'.gens)
  (J:∀ b∈ch,(b∈X.ex\/X.s₀.heap.objs.size<=b)/\b≠X.env.locals/\(∀ x c,X.env.cells.lookup x=Ab c->c≠b)/\∀ p∈X.pn++aj,p.1≠b):Inv X aj σ H' s':=by
 obtain⟨h',g',d',t',U⟩:=s';have e:U=s.os:=N;subst e;exact I.call (g':=g') (t':=t') (d':=d') u Y G J
end
abbrev XK:=Ac->Am Af->Hp->Prop
abbrev St:=Aa (Am V)
abbrev VK:=V->Hp->Prop
abbrev TE:=St->Hp->VK->Prop
abbrev TT:=St->Hp->(As->Hp->Prop)->Prop
abbrev TA:=St->Hp->(Aa V->Hp->Prop)->Prop
structure Ends where
 nx:St->Hp->Prop
 rt:VK
 bk:St->Hp->Prop:=λ_ _=>Ex
 ct:St->Hp->Prop:=λ_ _=>Ex
abbrev TS:=Ends->St->Hp->Prop
inductive EP (X:Cx)(pins:aa)(σ : St)(Q:VK)(u:Ac)(s':Ai):Prop
 |mk (v:V) (H':Hp) (I:Inv X pins σ H' s') (r:qF v u) (q:Q v H'):EP X pins σ Q u s'
inductive TP (X:Cx)(pins:aa)(σ : St)(Q:As->Hp->Prop)(b:As)(s':Ai):Prop
 |mk (H':Hp) (I:Inv X pins σ H' s') (q:Q b H'):TP X pins σ Q b s'
inductive AP (X:Cx)(pins:aa)(σ : St)(Q:Aa V->Hp->Prop)(us:ah)(s':Ai):Prop
 |mk (vs:Aa V) (H':Hp) (I:Inv X pins σ H' s') (r:qJ vs us) (q:Q vs H'):AP X pins σ Q us s'
def SP (X:Cx)(aj:aa)(D:Ends)(f:Flow)(s':Ai):Prop:=
 match f with
 |.next=>∃ Y J,Inv X aj Y J s'/\D.nx Y J
 |.brk=>∃ Y J,Inv X aj Y J s'/\D.bk Y J
 |.cont=>∃ Y J,Inv X aj Y J s'/\D.ct Y J
 |.ret u=>∃ v Y J,Inv X aj Y J s'/\qF v u/\D.rt v J
abbrev b6 (X:Cx){α:Type}(m:PySem.Sem α):=Ar (Av X.prog X.w) X.A m
def PE (X:Cx)(e:Cc)(t:TE):Prop:=
 ∀ (Y:aa) (s:Ai) (σ : St) (H:Hp) (Q:VK),Inv X Y σ H s->t σ H Q->b6 X (eval e X.env) (EP X Y σ Q) X.xe s
def PT (X:Cx)(e:Cc)(t:TT):Prop:=
 ∀ (Y:aa) (s:Ai) (σ : St) (H:Hp) (Q:As->Hp->Prop),Inv X Y σ H s->t σ H Q->b6 X (isTrue e X.env (eval e X.env)) (TP X Y σ Q) X.xe s
def PW (X:Cx)(e:Cc)(t:TT):Prop:=
 ∀ (Y:Kv Ac) (J:aa) (s:Ai) (σ : St) (H:Hp) (Q:As->Hp->Prop),Inv X J σ H s->t σ H Q->b6 X (isTrue e X.env Y) (TP X J σ Q) X.xe s
def PA (X:Cx)(es:Aa Cc)(t:TA):Prop:=
 ∀ (J:Ez) (Y:aa) (s:Ai) (σ : St) (H:Hp) (Q:Aa V->Hp->Prop),Inv X Y σ H s->t σ H Q->b6 X (spliced (Hc J (Bu es X.env))) (AP X Y σ Q) X.xe s
def PS (X:Cx)(st:Fz)(t:TS):Prop:=
 ∀ (Y:aa) (s:Ai) (σ : St) (H:Hp) (D:Ends),Inv X Y σ H s->t D σ H->b6 X (exec st X.env) (SP X Y D) X.xe s
def jm (X:Cx)(st:Aa Fz)(t:TS):Prop:=
 ∀ (Y:aa) (s:Ai) (σ : St) (H:Hp) (D:Ends),Inv X Y σ H s->t D σ H->b6 X (execs st X.env) (SP X Y D) X.xe s
theorem bn {α:Type}{t:Kv α}{Q Y:α->Ai->Prop}(h:Ar M A t Q E s)(J:∀ a s,Q a s->Y a s):Ar M A t Y E s:=Ht h J λ_ _ x=>x
end _L
namespace _L
variable {aj:aa}{u:Ac}{E Q:ae}{x:Aw}
section
variable {X:Cx}
theorem M_ {a b:Cc}(z:PE X a C)(k:PE X b O){aj:aa}{s:Ai}{σ : St}{H:Hp}{R:V->V->Hp->Prop}(I:Inv X aj σ H s)(h:C σ H λx N=>O σ N λy Y=>R x y Y)
  {α:Type} {Q:α->Ai->Prop} {f:Ac->Ac->Kv α}
  (L:∀ v u G x y Y,Inv X aj σ Y G->qF x v->qF y u->R x y Y->b6 X (f v u) Q X.xe G) :
  b6 X (eval a X.env) (λv U=>b6 X (eval b X.env) (λu J=>b6 X (f v u) Q X.xe J) X.xe U) X.xe s:=by
 refine bn (z aj s σ H _ I h) λv B ⟨x,N,T,q,A⟩=>?_;refine bn (k aj B σ N _ T A) λu G ⟨y,Y,M,j,w⟩=>?_;exact L v u G x y Y M q j w
def CM (i:Ag):TE:=λσ H Q=>∃ v,σ[i]? = Ab (Ab v)/\Q v H
def tC (v:V):TE:=λ_ H Q=>Q v H
theorem EN {i:Ag}(L:X.N[i]? = Ab x)(hv:ur X.env.scope x)(G:(x == ("__debug__" : Aw))=false:=by decide)(U:(x == ("__classdict__" : Aw))=false:=by decide):PE X (.Name x C) (CM i):=by
 intro aj s σ H Q I h;obtain⟨v,e,h⟩:=h;obtain⟨m,O,B⟩:=I.loc;obtain⟨u,r,l⟩:=B i x v L e hv;have J:EP X aj σ Q u s:=⟨v,H,I,r,h⟩;rcases l with⟨hk,T⟩|⟨hk,c,N,Y⟩
 .exact wpAny_Name (Ya I.ok.kind hk O T J) G
 .rcases hk with hk|hk
  .exact wpAny_Name (Yq I.ok.kind hk N Y J) G
  .exact wpAny_Name (wpAny_loadName_free I.ok.kind hk N Y J U) G
theorem EJ:PE X (.Constant (.int i) j aq) (tC (.int i)):=λ_ _ _ H _ I h=>wpAny_Constant_int ⟨.int i,H,I.tok _,⟨_,rfl⟩,h⟩
theorem OV:PE X (.Constant (.bool b) j aq) (tC (.bl b)):=λ_ _ _ H _ I h=>Constant_bool ⟨.bl b,H,I,rfl,h⟩
theorem EK:PE X (.Constant .none j aq) (tC .non):=λ_ _ _ H _ I h=>Constant_none ⟨.non,H,I,rfl,h⟩
def Gl (X:Cx)(x:Aw):Prop:=X.env.kindOf x=Ab .globalImplicit
theorem lU {σ:St}{J:Ez}(I:Inv X aj σ H s)(U:Gl X x)(hm:X.mg x=Ab u)(h:Q u s)
  (Y:(x == ("__debug__" : Aw))=false:=by decide):b6 X (eval (.Name x J) X.env) Q E s:=
 Te I.ok.kind U (Calls.loadGlobal_global (by rw[I.ok.glob];exact I.mod.glob.keeps I.bk) hm h) Y
theorem yT {σ:St}{U:Ez}(I:Inv X aj σ H s)(O:Gl X x)(hm:X.mg x=none)(hv:Gf x=Ab u)(h:Q u s)
  (Y:x ≠ "__name__":=by decide) (J:(x == ("__debug__" : Aw))=false:=by decide):b6 X (eval (.Name x U) X.env) Q E s:=by
 obtain⟨C,N,G⟩:=I.mod.blt;exact Te I.ok.kind O (Calls.loadGlobal_builtin (by rw[I.ok.glob];exact I.mod.glob.keeps I.bk) hm (by rw[I.ok.blt];exact N.keeps I.bk) ((G x Y).trans hv) h) J
theorem ME (J:Gl X x)(hm:X.mg x=Ab u)(r:qF v u)(U:(x == ("__debug__" : Aw))=false:=by decide):PE X (.Name x Y) (tC v):=
 λ_ _ _ H _ I h=>lU I J hm ⟨v,H,I,r,h⟩ U
theorem MD (U:Gl X x)(hm:X.mg x=none)(hv:Gf x=Ab u)(r:qF v u)(Y:x ≠ "__name__":=by decide)(G:(x == ("__debug__" : Aw))=false:=by decide):PE X (.Name x J) (tC v):=
 λ_ _ _ H _ I h=>yT I U hm hv ⟨v,H,I,r,h⟩ Y G
variable {a:Cc}{aq:Ez}
variable {tA:TT}
theorem MT (Y:PT X a tA):PW X (.BoolOp .And [a] aq) tA:=by
 intro J aj s σ H Q I h;refine isTrue_and (bn (Y aj s σ H Q I h) λc U e=>?_);cases c with
 |true=>exact isTrue_and_nil e
 |false=>exact e
theorem EZ (Y:PT X a tA):PW X (.BoolOp .Or [a] aq) tA:=by
 intro J aj s σ H Q I h;refine isTrue_or (bn (Y aj s σ H Q I h) λc U e=>?_);cases c with
 |false=>exact isTrue_or_nil e
 |true=>exact e
theorem EL {t:TE}(h:PE X a t):PE X (.BoolOp op [a] aq) t:=λaj s σ H Q I Y=>BoolOp_one (h aj s σ H Q I Y)
end
end _L
namespace _L
variable {es:Aa Cc}{i:Ag}{K:Aj}{x:Aw}{P:Bh}{tg:Cc}{w:Ce}
def kf (K:Aj)(H:Hp)(a:Af)(xs:Aa V):Prop:=
 Rd H a (.lst xs) \/
  ∃ (o:Dc) (Q:Ay Ac) (n:Ag),K.lookup a=Ab o/\o.cls=.type "list" /\ o.dict=none/\o.data=.seq Q n/\Q.size<=sizeLine/\qJ xs Q.toList
def jl (K:Aj)(H:Hp)(a:Af)(xs:Aa V):Prop:=
 Rd H a (.tup xs) \/
  ∃ (o:Dc) (Q:Ay Ac) (n:Ag),K.lookup a=Ab o/\o.cls=.type "tuple" /\ o.data=.seq Q n/\Q.size<=sizeLine/\qJ xs Q.toList
noncomputable def VG:Ac->Am V
 |.none=>Ab .non
 |.bool b=>Ab (.bl b)
 |.int i _=>Ab (.int i)
 |.str x _=>Ab (.str x)
 |.bytes b _=>Ab (.byt b)
 |.float b _=>Ab (.flt b)
 |.ref a=>Ab (.ref a)
 |.type n=>Ab (.ty n)
 |_=>none
theorem qF.abs {x:V}(r:qF x u):VG u=Ab x:=by
 cases x with
 |non=>cases r;rfl
 |bl _=>cases r;rfl
 |int _=>obtain⟨t,rfl⟩:=r;rfl
 |str _=>obtain⟨t,rfl⟩:=r;rfl
 |byt _=>obtain⟨t,rfl⟩:=r;rfl
 |flt _=>obtain⟨t,rfl⟩:=r;rfl
 |ref _=>cases r;rfl
 |ty _=>cases r;rfl
theorem qF.inj {x y:V}(r:qF x u)(q:qF y u):x=y:=Dm (r.abs.symm.trans q.abs)
theorem qJ.inj (h:qJ xs us)(k:qJ Q us):xs=Q:=by
 induction h generalizing Q with
 |nil=>cases k;rfl
 |cons r t J =>
  cases k with
  |cons Y U=>rw[r.inj Y,J U]
section
variable {X:Cx}{aj:aa}{σ: St}{H:Hp}{s:Ai}{a:Af}{xs ys:Aa V}
theorem kf.of (h:H a=Ab (.lst xs)):kf K H a xs:=.inl (.inl h)
theorem jl.of (h:H a=Ab (.tup xs)):jl K H a xs:=.inl (.inl h)
theorem Inv.list (I:Inv X aj σ H s)(h:kf X.K H a xs):∃ ap:Aa Ac,qJ xs ap/\PlainL s.heap a ap.toArray/\xs.length<=sizeLine:=by
 rcases h with h|⟨o,ap,n,J,U,Q,Y,G,r⟩
 .obtain⟨z,ap,n,r,e⟩:=h.ok I.hok
  exact⟨ap,r,⟨_,n,e,rfl,rfl,rfl⟩,z⟩
 .refine⟨ap.toList,r,⟨o,n,I.kIn a o J,U,Q,by simpa using Y⟩,?_⟩
  have e:=r.length;simp only[Bt] at e
  lia
theorem Inv.tuple (I:Inv X aj σ H s)(h:jl X.K H a xs):∃ ap:Aa Ac,qJ xs ap/\Vh s.heap a ap.toArray/\xs.length<=sizeLine:=by
 rcases h with h|⟨o,ap,n,Y,J,Q,U,r⟩
 .obtain⟨z,ap,r,p⟩:=h.ok I.hok
  exact⟨ap,r,p,z⟩
 .refine⟨ap.toList,r,⟨o,I.kIn a o Y,J,n,by simpa using Q⟩,?_⟩
  have e:=r.length;simp only[Bt] at e
  lia
theorem Inv.list_inj (I:Inv X aj σ H s)(h:kf X.K H a xs)(h':kf X.K H a ys):xs=ys:=by
 obtain⟨J,r,⟨o,n,e,_,_,d⟩,_⟩:=I.list h;obtain⟨U,G,⟨N,O,Q,_,_,Y⟩,_⟩:=I.list h';rw[e] at Q;cases Q;rw[d] at Y;injection Y with d1 _
 have:J=U:=by simpa using congrArg t0 d1
 subst this;exact r.inj G
theorem Inv.tuple_inj (I:Inv X aj σ H s)(h:jl X.K H a xs)(h':jl X.K H a ys):xs=ys:=by
 obtain⟨J,r,⟨o,e,_,n,d⟩,_⟩:=I.tuple h;obtain⟨U,G,⟨N,Q,_,O,Y⟩,_⟩:=I.tuple h';rw[e] at Q;cases Q;rw[d] at Y;injection Y with d1 _
 have:J=U:=by simpa using congrArg t0 d1
 subst this;exact r.inj G
end
noncomputable abbrev Cx.wish (X:Cx)(E:ae):Cx:={ X with xe:=E }
abbrev Cx.nox (X:Cx):Cx:=X.wish λ_ _=>Ex
theorem Cx.Ok.wish {X:Cx}(ok:X.Ok)(E:ae):(X.wish E).Ok:=
 ⟨ok.mod,ok.kind,ok.glob,ok.blt,ok.above,ok.inj,ok.has,ok.cab,ok.hd,ok.frames,ok.stk,ok.exf,ok.bs,ok.bsz,ok.noex,ok.exfs,ok.funs,ok.frf⟩
theorem Cx.Ok.unwish {X:Cx}(ok:(X.wish E).Ok):X.Ok:=
 ⟨ok.mod,ok.kind,ok.glob,ok.blt,ok.above,ok.inj,ok.has,ok.cab,ok.hd,ok.frames,ok.stk,ok.exf,ok.bs,ok.bsz,ok.noex,ok.exfs,ok.funs,ok.frf⟩
section
variable {X:Cx}{aj:aa}{σ: St}{H:Hp}{s:Ai}{E:ae}
theorem Inv.wish (I:Inv X aj σ H s)(E:ae):Inv (X.wish E) aj σ H s:=⟨I.ok.wish E,I.os,I.bare,I.base,I.loc,I.cell,I.free,I.freeC,I.pin,I.hok,I.len⟩
theorem Inv.unwish (I:Inv (X.wish E) aj σ H s):Inv X aj σ H s:=⟨I.ok.unwish,I.os,I.bare,I.base,I.loc,I.cell,I.free,I.freeC,I.pin,I.hok,I.len⟩
theorem SP.unwish {D:Ends}(h:SP (X.wish E) aj D f s'):SP X aj D f s':=by
 cases f with
 |next=>obtain⟨Q,Y,I,q⟩:=h;exact⟨Q,Y,I.unwish,q⟩
 |brk=>obtain⟨Q,Y,I,q⟩:=h;exact⟨Q,Y,I.unwish,q⟩
 |cont=>obtain⟨Q,Y,I,q⟩:=h;exact⟨Q,Y,I.unwish,q⟩
 |ret u=>obtain⟨v,Q,Y,I,r,q⟩:=h;exact⟨v,Q,Y,I.unwish,r,q⟩
theorem PE.nox {t:TE}(h:PE X.nox e t):PE X e t:=λaj s σ H Q I U =>
 Ht (h aj s σ H Q (I.wish _) U) (λ_ _ ⟨v,Y,J,r,q⟩=>⟨v,Y,J.unwish,r,q⟩) λ_ _ z=>Aq z
theorem PT.nox {t:TT}(h:PT X.nox e t):PT X e t:=λaj s σ H Q I U =>
 Ht (h aj s σ H Q (I.wish _) U) (λ_ _ ⟨Y,J,q⟩=>⟨Y,J.unwish,q⟩) λ_ _ z=>Aq z
theorem jm.nox {st:Aa Fz}{t:TS}(h:jm X.nox st t):jm X st t:=λaj s σ H D I Q =>
 Ht (h aj s σ H D (I.wish _) Q) (λ_ _ q=>q.unwish) λ_ _ z=>Aq z
end
section
variable {X:Cx}{st:Fz}{qC:Aa Fz}{t u:TS}
def qAX:TS:=λD σ H=>D.nx σ H
def qBr (t u:TS):TS:=λD σ H=>t { D with nx:=u D } σ H
theorem MN:jm X [] qAX:=λ_ _ σ H _ I h=>Rl ⟨σ,H,I,h⟩
theorem JV (h1:PS X st t)(h2:jm X qC u):jm X (st::qC) (qBr t u):=by
 intro Y s σ H D I h;refine wpAny_execs_cons (bn (h1 Y s σ H { D with nx:=u D } I h) λf U q=>?_)
 cases f with
 |next =>
  obtain⟨Q,G,J,q⟩:=q;exact h2 Y U Q G D J q
 |ret v=>exact q
 |brk=>exact q
 |cont=>exact q
theorem MP (h1:PS X st t):jm X [st] t:=by
 intro Q s σ H D I h;refine wpAny_execs_cons (bn (h1 Q s σ H D I h) λf Y q=>?_);cases f with
 |next=>exact Rl q
 |ret v=>exact q
 |brk=>exact q
 |cont=>exact q
theorem Inv.quiet {σ:St}(I:Inv X aj σ H s):interactive X.env=false:=by simp[interactive,I.ok.kind]
end
abbrev TG:=V->St->Hp->(St->Hp->Prop)->Prop
abbrev we:=Aa V->St->Hp->(St->Hp->Prop)->Prop
def PG (X:Cx)(Y:Cc)(t:TG):Prop:=
 ∀ (G:aa) (s:Ai) (σ : St) (H:Hp) (v:V) (u:Ac) (Q:St->Hp->Prop),Inv X G σ H s->qF v u->t v σ H Q ->
  b6 X (assign Y X.env u) (λ_ N=>∃ J U,Inv X G J U N/\Q J U) X.xe s
def uw (X:Cx)(C:Aa Cc)(t:we):Prop:=
 ∀ (N:aa) (s:Ai) (σ : St) (H:Hp) (G:Aa V) (J:ah) (Q:St->Hp->Prop),Inv X N σ H s->qJ G J->t G σ H Q ->
  b6 X (Yr ((Hd C X.env).map (·.2)) J) (λ_ O=>∃ Y U,Inv X N Y U O/\Q Y U) X.xe s
abbrev VF:=V->V->V->Hp->(Hp->Prop)->Prop
def eB (X:Cx)(t:VF):Prop:=
 ∀ (U:aa) (s:Ai) (σ : St) (H:Hp) (o i v:V) (Y G u:Ac) (Q:Hp->Prop),Inv X U σ H s->qF o Y->qF i G->qF v u->t o i v H Q ->
  b6 X (setItem Y G u) (λ_ N=>∃ J,Inv X U σ J N/\Q J) X.xe s
abbrev yc:=V->V->Hp->VK->Prop
def zr (X:Cx)(op:Px)(t:yc):Prop:=
 ∀ (Y:aa) (s:Ai) (σ : St) (H:Hp) (x y:V) (v u:Ac) (Q:VK),Inv X Y σ H s->qF x v->qF y u->t x y H Q ->
  b6 X (inplaceOp op v u) (EP X Y σ Q) X.xe s
section
variable {X:Cx}{aq:Ez}
def IK (i:Ag):TG:=λv σ H Q=>Q (σ.set i (Ab v)) H
theorem MF (U:X.N.Nodup)(hi:X.N[i]? = Ab x)(G:Loc X.env.scope x)(J:X.fn x=true\/X.env.scope.names.lookup x=Ab .local:=by first|exact .inl rfl|exact .inr rfl|assumption):PG X (.Name x aq) (IK i):=by
 intro O s σ H v u Q I r h;exact wpAny_assign_Name (jR I U hi G r (λN Y=>⟨_,H,Y,h⟩) J)
def qBL:we:=λY σ H Q=>Y=[]/\Q σ H
def IJ (t:TG)(u:we):we:=λU σ H Q=>∃ v r,U=v::r/\t v σ H λY J=>u r Y J Q
theorem MG:uw X [] qBL:=by
 intro J s σ H Y U Q I r h;obtain⟨e,h⟩:=h;subst e;cases r;exact assignInOrder_nil ⟨σ,H,I,h⟩
theorem JQ {t:TG}(h1:PG X e t)(h2:uw X es u)
  (hs:(Hd (e::es) X.env).map (·.2)=assign e X.env::(Hd es X.env).map (·.2):=by rfl):uw X (e::es) (IJ t u):=by
 intro J s σ H E L Q I r h;obtain⟨v,T,B,h⟩:=h;subst B;cases r with
 |cons r C =>
  rw[hs];refine Sx (bn (h1 J s σ H _ _ _ I r h) λ_ U ⟨Y,G,N,O⟩=>?_);exact h2 J U Y G _ _ Q N C O
def qBM (K:Aj)(n:Ag)(t:we):TG:=λv σ H Q=>∃ a Y,v=.ref a/\jl K H a Y/\Y.length=n/\t Y σ H Q
theorem EO {k:Ag}{t:we}{n:Ag}(M:X.calm=true)(h:uw X es t)
  (N:(Hd es X.env).length=n:=by rfl) (Y:(Hd es X.env).findIdx? (·.1)=none:=by rfl):PG X (.Tuple es k aq) (qBM X.K n t):=by
 intro G s σ H v u Q I r J;obtain⟨a,O,E,T,B,J⟩:=J;subst E;cases r;obtain⟨j,U,z,y⟩:=I.tuple T;refine assign_Tuple_tuple (I.ok.hd M) z (by simp[N,<- B,U.length]) Y λA C=>?_
 have L:Inv X G σ H { s with heap:=A }:=I.kept (t':=s.toks) λb o e=>C b o (Cu (Bf e)) e
 exact h G _ σ H O _ Q L (by simpa using U) J
def zU (G U:TE)(t:VF):TG:=λv σ H Q=>G σ H λo N=>U σ N λi J=>t o i v J λY=>Q σ Y
def qBq (i j:Ag)(J:TA):TS:=λD σ H=>J σ H λQ Y=>∃ v w,Q=[v,w]/\D.nx ((σ.set i (Ab v)).set j (Ab w)) Y
theorem EV {j:Ag}{a b:Cc}{z:TA}{B N U:Ez}{kt k2 pt2}(hc:X.calm=true) (M:X.N.Nodup) (hi:X.N[i]? = Ab x) (m:X.N[j]? = Ab y) (G:i≠j)
  (k:X.env.scope.names.lookup x=Ab .local) (A:X.env.scope.names.lookup y=Ab .local) (ha:PA X [a,b] z)
  (hw:Nt [.Tuple [.Name x B,.Name y N] kt U] (.Tuple [a,b] k2 pt2) X.env=pure (Ab [x,y]))
  (hs:Nu [.Tuple [.Name x B,.Name y N] kt U] (.Tuple [a,b] k2 pt2) aq.line X.env=pure false:=by rfl) :
  PS X (.Assign [.Tuple [.Name x B,.Name y N] kt U] (.Tuple [a,b] k2 pt2) aq) (qBq i j z):=by
 intro u s σ H D I h;rw[exec_Assign_arm];refine Ad (Lu ?_);rw[hs];refine Ad (An ?_);rw[Bc bb]
 refine Ad (Tuple_ (bn (ha _ u s σ H _ I h) λc Q ⟨vs,E,n,r1,O⟩=>?_));obtain⟨v,w,e1,O⟩:=O;subst e1;obtain⟨Y,J,rfl,r,L⟩:∃ Y J,c=[Y,J]/\qF v Y/\qF w J:=by
  cases r1 with
  |cons p q =>
   cases q with
   |cons d g =>
    cases g;exact⟨_,_,rfl,p,d⟩
 refine Dw ?_ (by show 2<=sizeLine;decide)
 have f:Inv X u σ E { Q with heap:=Q.heap.push { cls:=.type "tuple",data:=.seq [Y,J].toArray } }:=n.kept (t':=Q.toks) λb o e=>Ak _ e
 rw[hw];refine Ad (An ?_);show b6 X (do rule "assign.swapped-stores";let items <- unpackItems (.ref Q.heap.objs.size) 2 none;Yr [λv=>AbB X.env y v,λv=>AbB X.env x v] items.reverse;pure Flow.next) _ _ _
 refine Ad (He (Ad (unpackItems_tuple (items:=#[Y,J]) (I.ok.hd hc) (Aa3 Q.heap _) λh' C=>?_)));have l:=f.kept (h':=h') (t':=Q.toks) λb o e=>C b o (Cu (Bf e)) e;show Ar _ _ (Yr [λv=>AbB X.env y v,λv=>AbB X.env x v] [J,Y] >>= λ_=>pure Flow.next) _ _ _;refine Ad (Sx (wpAny_bindName (jR l M m (.inl A) L (λs2 t=>?_) (.inr A))));refine Sx (wpAny_bindName (jR t M hi (.inl k) r (λs3 T=>assignInOrder_nil (An ?_)) (.inr k)));rw[List.set_comm _ _ (Fv G)] at T;exact⟨_,E,T,O⟩
def qBl (i:Ag)(te:TE)(Y:yc):TS:=λD σ H=>∃ x,σ[i]? = Ab (Ab x)/\te σ H λy J=>Y x y J λz Q=>D.nx (σ.set i (Ab z)) Q
theorem EU {U:Ez}(q:X.N.Nodup)(hi:X.N[i]? = Ab x)(N:Loc X.env.scope x)(t:PE X e te)(ho:zr X op B)(A:X.fn x=true\/X.env.scope.names.lookup x=Ab .local:=by first|exact .inl rfl|exact .inr rfl|assumption) :
  PS X (.AugAssign (.Name x U) op e aq) (qBl i te B):=by
 intro O s σ H D I h;obtain⟨v,e1,h⟩:=h;obtain⟨m,T,d⟩:=I.loc;have G:ur X.env.scope x:=by rcases N with k|k;exact .inl k;exact .inr (.inl k)
 obtain⟨u,r,l⟩:=d i x v hi e1 G;refine wpAny_AugAssign_Name ?_;have C:b6 X (eval e X.env) (λw Y=>b6 X (inplaceOp op u w) (λr J=>b6 X (storeName X.env x r) (λ_=>SP X O D .next) X.xe J) X.xe Y) X.xe s:=by
  refine bn (t O s σ H _ I h) λw g ⟨y,E,f,r1,M⟩=>?_;refine bn (ho O g σ E v y u w _ f r r1 M) λz s2 ⟨zv,a,j,o,n⟩=>?_;exact jR j q hi N o (λs3 L=>⟨_,a,L,n⟩) A
 rcases l with⟨hk,p⟩|⟨hk,c,b,Q⟩
 .exact Ya I.ok.kind hk T p C
 .rcases hk with hk|hk
  .exact Yq I.ok.kind hk b Q C
  .rcases N with k|k
   .have:X.env.scope.names.lookup x=Ab .free:=hk
    rw[k] at this;cases this
   .have:X.env.scope.names.lookup x=Ab .free:=hk
    rw[k] at this;cases this
def _t (f:Ah->Ah->Ah):yc:=λx y H Q=>∃ i j,x=.int i/\y=.int j/\Q (.int (f i j)) H
theorem SI:zr X .Add (_t λi j=>i+j):=by
 intro O s σ H x y v u Q I G J h;obtain⟨i,j,U,Y,q⟩:=h;subst U;subst Y;obtain⟨t,rfl⟩:=G;obtain⟨N,rfl⟩:=J;exact iadd_int ⟨.int _,H,I.tok _,⟨_,rfl⟩,q⟩
theorem SJ:zr X .Sub (_t λi j=>i-j):=by
 intro O s σ H x y v u Q I G J h;obtain⟨i,j,U,Y,q⟩:=h;subst U;subst Y;obtain⟨t,rfl⟩:=G;obtain⟨N,rfl⟩:=J;exact isub_int ⟨.int _,H,I.tok _,⟨_,rfl⟩,q⟩
end
section
variable {X:Cx}{aq:Ez}
def CN (c:TT)(G:TS):TS:=λD σ H=>∃ W:Ag->St->Hp->Prop,(∃ m,W m σ H)/\∀ m σ H,W m σ H ->
 c σ H λb U=>if b=true then ∃ N:St->Hp->Prop,(∀ Q Y,N Q Y->∃ J,J<m/\W J Q Y)/\G { D with nx:=N,ct:=N,bk:=D.nx } σ U else D.nx σ U
theorem JU (hp:Rm (Av X.prog X.w) X.A X.env X.xe)(m:PT X c q)(t:jm X p y):PS X (.While c p [] aq) (CN q y):=by
 intro A s σ H D I h;obtain⟨W,⟨d,e⟩,G⟩:=h;refine wpAny_While (codeAny_whileLoop (λn g=>∃ U z,Inv X A U z g/\W n U z) ?_ d ⟨σ,H,I,e⟩);rintro n a ⟨Y,k,I1,l⟩;refine Kb hp (bn (m A a Y k _ I1 (G n Y k l)) λb r ⟨j,u,C⟩=>?_);cases b with
 |true =>
  obtain⟨N,o,C⟩:=C;rw[Be rfl];refine Kb hp (bn (t A r Y j _ u C) λf s3 O=>?_);cases f with
  |next =>
   obtain⟨Q,J,M,B⟩:=O;obtain⟨L,T,E⟩:=o Q J B;exact⟨L,T,Q,J,M,E⟩
  |cont =>
   obtain⟨Q,J,M,B⟩:=O;obtain⟨L,T,E⟩:=o Q J B;exact⟨L,T,Q,J,M,E⟩
  |brk=>exact O
  |ret v=>exact O
 |false =>
  rw[Bc Gk];exact Rl ⟨Y,j,u,C⟩
end
structure It where
 go:Ag->Hp->Prop
 yld:Ag->Hp->V->Hp->Prop
 stop:Ag->Hp->Prop
def xH (X:Cx)(aj:aa)(H:Hp)(b:Af):Prop:=
 H b=none/\b≠X.env.locals/\b ∉ X.fs/\(b∈X.ex\/X.s₀.heap.objs.size<=b)/\(∀ x c,X.env.cells.lookup x=Ab c->c≠b)/\∀ p∈X.pn++aj,p.1≠b
theorem Inv.fpOk {X:Cx}{σ:St}{H Y:Hp}{b:Af}(I:Inv X aj σ H s)(Q:s.heap.objs.size<=b)(J:Y b=none):xH X aj Y b:=by
 refine⟨J,Jy (Bk I.lt Q),I.nofs Q,.inr (Cw I.sz Q),λx c e z=>?_,λp U z=>?_⟩
 .obtain⟨v,q⟩:=I.cell x c e
  exact absurd (Bk q.lt (by rw[z];exact Q)) (Ey _)
 .exact absurd (Bk (Bf (I.pin p U).1) (by rw[z];exact Q)) (Ey _)
structure nk (P:Bh)(w:Ce)(K:Aj)(tg:Cc)(J:It)(fp:ag)(it:Af)(tn:Ag->By->Prop):Prop where
 mem:it∈fp
 obj:∀ i h,tn i h->∀ b∈fp,∃ o,h.get? b=Ab o/\∀ v,o.data≠.cell v
 keep:∀ i h h',tn i h->(∀ b∈fp,∀ o,h.get? b=Ab o->h'.get? b=Ab o)->tn i h'
 item:∀ (X:Cx),X.prog=P->X.w=w->X.K=K->X.calm=true->∀ (i:Ag) (pins:aa) (s:Ai) (σ : St) (H:Hp) (E:ae),Inv X pins σ H s->(∀ b∈fp,xH X pins H b)->tn i s.heap->J.go i H ->
  Ar (Av P w) X.A (Nk (.ref it)) (λr s1=>∃ u,r=Ab u /\
   Ar (Av P w) X.A (Lv tg (.ref it) u) (λ_ s2=>∃ x H',Inv X pins σ H' s2/\qF x u/\J.yld i H x H'/\tn (i+1) s2.heap/\∀ b∈fp,H' b=none) E s1) E s
 done:∀ (X:Cx),X.prog=P->X.w=w->X.K=K->X.calm=true->∀ (i:Ag) (pins:aa) (s:Ai) (σ : St) (H:Hp) (E:ae),Inv X pins σ H s->(∀ b∈fp,xH X pins H b)->tn i s.heap->J.stop i H ->
  Ar (Av P w) X.A (Nk (.ref it)) (λr s1=>r=none/\Inv X pins σ H s1) E s
 self:∀ (A:Bw) (i:Ag) (s:Ai) (Q:ae) (E:ae),tn i s.heap->Q (.ref it) s->Ar (Av P w) A (Rz (.ref it)) Q E s
abbrev TI:=St->Hp->(It->Hp->Prop)->Prop
inductive xn (X:Cx)(pins:aa)(σ : St)(tg:Cc)(R:It->Hp->Prop)(itv:Ac)(s2:Ai):Prop
 |mk (it:Af) (fp:ag) (tn:Ag->By->Prop) (J:It) (H':Hp) (e:itv=.ref it) (I:Inv X pins σ H' s2) (t:nk X.prog X.w X.K tg J fp it tn) (z:tn 0 s2.heap) (f:∀ b∈fp,xH X pins H' b) (q:R J H'):xn X pins σ tg R itv s2
def PI (X:Cx)(tg U:Cc)(J:TI):Prop:=
 ∀ (Q:aa) (s:Ai) (σ : St) (H:Hp) (R:It->Hp->Prop),Inv X Q σ H s->J σ H R ->
  b6 X (eval U X.env) (λv Y=>b6 X (Rz v) (xn X Q σ tg R) X.xe Y) X.xe s
theorem Z4 {M:Pn}{A:Bw}{E:ae}{s:Ai}{it:Af}{u:Ac}{Q:Vx->Ai->Prop}(G:s.heap.get? it=Ab o)(N:o.cls=.type n)(U:o.data=.fields vs)
    (J:["enumerate","zip","dict_itemiterator","dict_reverseitemiterator","odict_iterator","itertools.zip_longest","itertools.pairwise"].contains n=false) (Y:Q () s):Ar M A (Lv tg (.ref it) u) Q E s:=by
  unfold Lv;cases tg <;> first
    |exact An Y
    |(cases u <;> first
        |exact An Y
        | (refine Ad (wpAny_load G ?_)
           rw[N,U];show Ar M A (if (["enumerate","zip","dict_itemiterator","dict_reverseitemiterator","odict_iterator","itertools.zip_longest","itertools.pairwise"].contains n&&vs[0]? == Ab (Oc _))=true then _ else _) Q E s
           rw[Bc (by intro h;rw[J,Xq] at h;cases h)]
           exact An Y))
def U_ (K:Aj)(a:Af):It:=
 ⟨λi H=>∃ Q x,kf K H a Q/\Q[i]? = Ab x,λi H x Y=>Y=H/\∀ Q,kf K H a Q->Q[i]? = Ab x,λi H=>∃ Q,kf K H a Q/\Q.length<=i⟩
def _J (K:Aj)(a:Af):It:=
 ⟨λi H=>∃ Q x,jl K H a Q/\Q[i]? = Ab x,λi H x Y=>Y=H/\∀ Q,jl K H a Q->Q[i]? = Ab x,λi H=>∃ Q,jl K H a Q/\Q.length<=i⟩
def yl (lo:Ah)(n:Ag):It:=⟨λi _=>i<n,λi H x Q=>Q=H/\x=.int (lo+i),λi _=>n<=i⟩
theorem r0 (a it:Af):nk P w K tg (U_ K a) [it] it (λi h=>h.IsListIter it a i) where
 mem:=by simp
 obj:=λi h st b Q=>by
  have e:b=it:=by simpa using Q
  subst e;obtain⟨o,e,c,d⟩:=st;exact⟨o,e,λv z=>by rw[d] at z;cases z⟩
 keep:=λi h U st k=>st.at λo e=>k it ba o e
 item:=by
  intro X A q y g i l s σ H E I J st j;subst A q y;obtain⟨n,x,G,M⟩:=j;obtain⟨m,T,p,r⟩:=I.list G;obtain⟨u,f,ru⟩:=T.get M;obtain⟨N,O,f2,C,B,L⟩:=J it ba
  refine wpAny_pyNext_list_item st p.isList (x:=u) (by simpa using f) λU Y sb=>?_
  have I1:Inv X l σ H { s with heap:=U }:=I.turned (t':=s.toks) (λb o Q e=>(sb.2 b Q).trans e) N O C B L
  obtain⟨o,e,c,d⟩:=id Y;exact⟨u,rfl,Z4 (s:={ s with heap:=U }) e c d bb ⟨x,H,I1,ru,⟨rfl,λys t=>by rw[I.list_inj t G];exact M⟩,Y,λb Q=>(J b Q).1⟩⟩
 done:=by
  intro X A q y g i l s σ H E I J st j;subst A q y;obtain⟨n,G,M⟩:=j;obtain⟨m,T,p,r⟩:=I.list G;obtain⟨N,O,f2,C,B,L⟩:=J it ba
  have hl:=T.length;exact wpAny_pyNext_list_end (I.ok.hd g) st p.isList (by simp;lia) λU eb=>⟨rfl,I.turned (t':=s.toks) (λb o Q e=>eb b o Q e) N O C B L⟩
 self:=λ_ _ _ _ _ st h=>wpAny_pyIter_listiter st h
theorem X2 (a it:Af):nk P w K tg (_J K a) [it] it (λi h=>h.IsTupleIter it a i) where
 mem:=by simp
 obj:=λi h st b Q=>by
  have e:b=it:=by simpa using Q
  subst e;obtain⟨o,e,c,d⟩:=st;exact⟨o,e,λv z=>by rw[d] at z;cases z⟩
 keep:=λi h U st k=>st.at λo e=>k it ba o e
 item:=by
  intro X M l q f i g s σ H E I J st y;subst M l q;obtain⟨n,x,G,j⟩:=y;obtain⟨A,T,p,t⟩:=I.tuple G;obtain⟨u,r,ru⟩:=T.get j;obtain⟨N,O,f2,C,B,L⟩:=J it ba
  refine wpAny_pyNext_tuple_item st (show s.heap.IsTuple a A.toArray from p) (x:=u) (by simpa using r) λU Y sb=>?_
  have I1:Inv X g σ H { s with heap:=U }:=I.turned (t':=s.toks) (λb o Q e=>(sb.2 b Q).trans e) N O C B L
  obtain⟨o,e,c,d⟩:=id Y;exact⟨u,rfl,Z4 (s:={ s with heap:=U }) e c d bb ⟨x,H,I1,ru,⟨rfl,λys m=>by rw[I.tuple_inj m G];exact j⟩,Y,λb Q=>(J b Q).1⟩⟩
 done:=by
  intro X M l q f i g s σ H E I J st y;subst M l q;obtain⟨n,G,j⟩:=y;obtain⟨A,T,p,t⟩:=I.tuple G;obtain⟨N,O,f2,C,B,L⟩:=J it ba
  have hl:=T.length;exact wpAny_pyNext_tuple_end (I.ok.hd f) st (show s.heap.IsTuple a A.toArray from p) (by simp;lia) λU eb=>⟨rfl,I.turned (t':=s.toks) (λb o Q e=>eb b o Q e) N O C B L⟩
 self:=λ_ _ _ _ _ st h=>wpAny_pyIter_tupleiter st h
theorem X1 (it:Af)(lo:Ah)(n:Ag):nk P w K tg (yl lo n) [it] it (λi h=>IsRangeIter h it (lo+(i:Ag)*1) ((n:Ah)-(i:Ag)) 1) where
 mem:=by simp
 obj:=λi h st b Q=>by
  have e:b=it:=by simpa using Q
  subst e;exact⟨_,st,λv z=>by
   have p:Data.fields _=Data.cell v:=z;cases p⟩
 keep:=λi h U st k=>k it ba _ st
 item:=by
  intro X L M A j i u s σ H E I J st T;subst L M A;obtain⟨G,N,g,O,C,B⟩:=J it ba
  have W:=Walks.range (prog:=X.prog) (w:=X.w) (I.ok.hd j) it lo 1 n;refine W.item i s _ _ T st λv U y hv Y q=>?_;obtain⟨t,rfl⟩:=hv;have l:Inv X u σ H { s with heap:=U,toks:=y }:=I.turned (λb o Q e=>q b o (by simpa using Q) e) G N O C B
  refine⟨_,rfl,Z4 (s:={ s with heap:=U,toks:=y }) (n:="range_iterator") Y rfl rfl bb ⟨.int (lo+i),H,l,⟨t,?_⟩,⟨rfl,rfl⟩,Y,λb Q=>(J b Q).1⟩⟩
  rw[Int.mul_one]
 done:=by
  intro X L M A j i u s σ H E I J st T;subst L M A;obtain⟨G,N,g,O,C,B⟩:=J it ba
  exact wpAny_pyNext_range_end (I.ok.hd j) st (by have:n<=i:=T;lia) λU c=>⟨rfl,I.turned (t':=s.toks) (λb o Q e=>c b o Q e) G N O C B⟩
 self:=λ_ _ _ _ _ st h=>wpAny_pyIter_rangeiter st h
end _L
namespace _L
variable {aj:aa}{fp:ag}{s:Ai}{H:Hp}{σ:St}
section
variable {X:Cx}{tg:Cc}
theorem cX {R:It->Hp->Prop}{E:ae}{lo hi:Ah}{t u v:Yo}{Q:Ag}(I:Inv X aj σ H s)(h1 : -(2 ^ 62)<=lo)(h2:lo<2 ^ 62)(h3 : -(2 ^ 62)<=hi)(J:hi<2 ^ 62)
  (q:R (yl lo (hi-lo).toNat) H):b6 X (Rz (.ref s.heap.objs.size)) (xn X aj σ tg R) E { s with heap:=s.heap.push { cls:=.type "range",data:=.fields #[.int lo t,.int hi u,.int 1 v] },toks:=Q }:=by
 refine wpAny_pyIter_range (IsRange.new ..) (small_one h1 h2 h3 J) ?_;have Y:Inv X aj σ H { s with heap:=s.heap.push { cls:=.type "range",data:=.fields #[.int lo t,.int hi u,.int 1 v] },toks:=Q }:=I.kept λb o e=>Ak _ e
 refine⟨(s.heap.push { cls:=.type "range",data:=.fields #[.int lo t,.int hi u,.int 1 v] }).objs.size,[(s.heap.push { cls:=.type "range",data:=.fields #[.int lo t,.int hi u,.int 1 v] }).objs.size],_,_,H,rfl,
  Y.kept (t':=Q) λb o e=>Ak _ e,X1 _ lo (hi-lo).toNat,?_,λb N=>?_,q⟩
 .have G:lo+((0:Ag):Ah)*1=lo:=by simp
  have U:(((hi-lo).toNat:Ag):Ah)-((0:Ag):Ah)=Builtin.Range.rangeSize lo hi 1:=by rw[rangeSize_one];split <;> lia
  show IsRangeIter _ _ (lo+((0:Ag):Ah)*1) ((((hi-lo).toNat:Ag):Ah)-((0:Ag):Ah)) 1;rw[G,U];exact Bi _ rfl
 .have e:b=(s.heap.push { cls:=.type "range",data:=.fields #[.int lo t,.int hi u,.int 1 v] }).objs.size:=by simpa using N
  subst e;exact Y.fpOk (Ax _) (Y.hok.fresh (Ax _))
def qBm (O:TI)(g:TG)(B:TS):TS:=λD σ H=>O σ H λJ C=>∃ W:Ag->Ag->St->Hp->Prop,(∃ m,W 0 m σ C)/\∀ i m σ H,W i m σ H ->
 (J.stop i H/\D.nx σ H)\/(J.go i H/\∃ N:St->Hp->Prop,(∀ Q Y,N Q Y->∃ G,G<m/\W (i+1) G Q Y)/\∀ x Y,J.yld i H x Y->g x σ Y λU L=>B { D with nx:=N,ct:=N,bk:=D.nx } U L)
def vN (fp:ag)(h:By):Aa (Af × Dc):=fp.filterMap λb=>(h.get? b).map λo=>(b,o)
theorem uV {h:By}{b:Af}(Q:b∈fp)(e:h.get? b=Ab o):(b,o)∈vN fp h:=Ot.mpr ⟨b,Q,by rw[e];rfl⟩
theorem sQ {p:Af × Dc}(hp:p∈vN fp h):p.1∈fp/\h.get? p.1=Ab p.2:=by
 obtain⟨b,Q,e⟩:=Ot.mp hp;cases q:h.get? b with
 |none=>rw[q] at e;cases e
 |some o =>
  rw[q] at e;have Y:(b,o)=p:=Dm e;subst Y;exact⟨Q,q⟩
theorem Inv.pinned (I:Inv X aj σ H s)(N:∀ b∈fp,xH X aj H b)(C:∀ b∈fp,∃ o,s.heap.get? b=Ab o/\∀ v,o.data≠.cell v):Inv X (aj++vN fp s.heap) σ H s:=
 I.pins_of λp G=>(Bp.mp G).elim (λz=>I.pin p (Bx _ z)) λz=>by
  obtain⟨Q,e⟩:=sQ z;obtain⟨J,U,O,_⟩:=N p.1 Q;obtain⟨o,Y,d⟩:=C p.1 Q;rw[e] at Y;cases Y;exact⟨e,J,U,O,d⟩
theorem Inv.unpinned {pl:aa}(I:Inv X (aj++pl) σ H s):Inv X aj σ H s:=I.pins_of λp Q=>I.pin p (Bx _ (Cs _ Q))
inductive xc (X:Cx)(pins:aa)(fp:ag)(tn:Ag->By->Prop)(W:Ag->Ag->St->Hp->Prop)(n:Ag)(s':Ai):Prop
 |mk (i:Ag) (σ' : St) (H':Hp) (I:Inv X pins σ' H' s') (t:tn i s'.heap) (f:∀ b∈fp,H' b=none) (w:W i n σ' H'):xc X pins fp tn W n s'
theorem YH {aq:Ez}(hp:Rm (Av X.prog X.w) X.A X.env X.xe)(hc:X.calm=true)(hi:PI X tg q wi)(hg:PG X tg g)(Y:jm X cw tb)
  (hs:∀ x,Dx q X.env x=pure x:=by intro _;rfl):PS X (.For tg q cw [] aq) (qBm wi g tb):=by
 intro aj s σ H D I h;refine wpAny_For (bn (hi aj s σ H _ I h) λv s1 h1=>bn h1 λzb s2 h2=>?_) hs;obtain⟨it,fp,tn,J,H2,e,I2,T,l,f2,W,⟨m0,w0⟩,z⟩:=h2;subst e;have O:∀ {t:Hp},(∀ b∈fp,t b=none)->∀ b∈fp,xH X aj t b:=λhn b Y=>⟨hn b Y,(f2 b Y).2⟩;refine codeAny_forLoop_any (xc X aj fp tn W) ?_ m0 ⟨0,σ,H2,I2,l,λb Y=>(f2 b Y).1,w0⟩;rintro n s3 ⟨i,C,j,a,A,E,w3⟩;rcases z i n C j w3 with⟨w,qn⟩|⟨go,N,hN,step⟩
 .refine Kb hp (bn (T.done X rfl rfl rfl hc i aj s3 C j X.xe a (O E) A w) λr s4 ⟨y,I4⟩=>?_)
  subst y;exact Rl ⟨C,j,I4,qn⟩
 .refine Kb hp (bn (T.item X rfl rfl rfl hc i aj s3 C j X.xe a (O E) A go) λr s4 ⟨u,y,h4⟩=>?_)
  subst y;refine Kb hp (bn h4 λ_ s5 ⟨x,H5,I5,r5,y5,L,p⟩=>?_);have c:=I5.pinned (O p) (T.obj _ _ L);refine Kb hp (bn (hg _ s5 C H5 x u _ c r5 (step x H5 y5)) λ_ s6 ⟨k,H6,I6,q6⟩=>?_);refine Kb hp (bn (Y _ s6 k H6 _ I6 q6) λf s7 B=>?_);have again:∀ {Q:St} {U:Hp},Inv X (aj++vN fp s5.heap) Q U s7->N Q U->∃ m,m<n/\xc X aj fp tn W m s7:=λ{Q U} G M=>by
   obtain⟨m',hm,w7⟩:=hN Q U M;refine⟨m',hm,i+1,Q,U,G.unpinned,T.keep _ _ _ L λb Y o e=>(G.pin (b,o) (Bx _ (Bx _ (uV Y e)))).1,λb Y=>?_,w7⟩;obtain⟨o,e,d⟩:=T.obj _ _ L b Y;exact(G.pin (b,o) (Bx _ (Bx _ (uV Y e)))).2.1
  cases f with
  |next=>obtain⟨Q,U,G,M⟩:=B;exact again G M
  |cont=>obtain⟨Q,U,G,M⟩:=B;exact again G M
  |brk=>obtain⟨Q,U,G,B⟩:=B;exact⟨Q,U,G.unpinned,B⟩
  |ret v=>obtain⟨x7,Q,U,G,r7,B⟩:=B;exact⟨x7,Q,U,G.unpinned,r7,B⟩
end
end _L
namespace _L
variable {us:ah}{f:Ac->Ac->Kv Ac}{g:Ah->Ah->Ah}
abbrev R2:=V->V->Hp->VK->Prop
def k_ (X:Cx)(f:Ac->Ac->Kv Ac)(r:R2):Prop:=
 ∀ (Y:aa) (s:Ai) (σ : St) (H:Hp) (x y:V) (v u:Ac) (Q:VK),Inv X Y σ H s->qF x v->qF y u->r x y H Q ->
  b6 X (f v u) (EP X Y σ Q) X.xe s
def _y (X:Cx)(f:Ac->Kv Ac)(r:V->Hp->VK->Prop):Prop:=
 ∀ (Y:aa) (s:Ai) (σ : St) (H:Hp) (x:V) (v:Ac) (Q:VK),Inv X Y σ H s->qF x v->r x H Q ->
  b6 X (f v) (EP X Y σ Q) X.xe s
def jU (X:Cx)(f:Ac)(r:Aa V->Hp->VK->Prop):Prop:=
 ∀ (J:aa) (s:Ai) (σ : St) (H:Hp) (Y:Aa V) (us:ah) (Q:VK),Inv X J σ H s->qJ Y us->r Y H Q ->
  b6 X (call f us) (EP X J σ Q) X.xe s
def qA8 (X:Cx)(r:V->Hp->(As->Hp->Prop)->Prop):Prop:=
 ∀ (Y:aa) (s:Ai) (σ : St) (H:Hp) (x:V) (v:Ac) (Q:As->Hp->Prop),Inv X Y σ H s->qF x v->r x H Q ->
  b6 X (truthy v) (TP X Y σ Q) X.xe s
def _U (r:R2)(G J:TE):TE:=λσ H Q=>G σ H λx U=>J σ U λy Y=>r x y Y Q
def rI (C:Ah->Ah->Prop)(g:Ah->Ah->V):R2:=λx y H Q=>∃ i j,x=.int i/\y=.int j/\C i j/\Q (g i j) H
def t_ (g:Ah->Ah->V):R2:=λx y H Q=>∃ i j,x=.int i/\y=.int j/\Q (g i j) H
def rU (g:Ah->V):V->Hp->VK->Prop:=λx H Q=>∃ i,x=.int i/\Q (g i) H
section
variable {X:Cx}{a b:Cc}{ta tb:TE}
theorem qBB (M:PE X a ta)(w:PE X b tb){aj:aa}{s:Ai}{σ : St}{H:Hp}{R:V->V->Hp->Prop}(I:Inv X aj σ H s)
  (h:ta σ H λx N=>tb σ N λy Y=>R x y Y) {Q:ae} {f:Ac->Ac->Kv Ac}
  (O:∀ v u G x y Y,Inv X aj σ Y G->qF x v->qF y u->R x y Y->b6 X (f v u) Q X.xe G) :
  b6 X (eval a X.env) (λv J=>b6 X (eval b X.env) (λu U=>b6 X (f v u) Q X.xe U) X.xe J) X.xe s:=by
 refine bn (M aj s σ H _ I h) λv T ⟨x,N,E,z,C⟩=>?_;refine bn (w aj T σ N _ E C) λu G ⟨y,Y,B,L,A⟩=>?_;exact O v u G x y Y B z L A
theorem xg {f:Ac->Ac->Kv Ac}{C:Ah->Ah->Prop}
  (rule:∀ (i j:Ah) (t u:Yo) (s:Ai) (Q:ae) (E:ae),C i j->Q (.int (g i j) s.toks) { s with toks:=s.toks+1 } -> b6 X (f (.int i t) (.int j u)) Q E s) :
  k_ X f (rI C λi j=>.int (g i j)):=by
 intro N s σ H x y v u Q I Y J h;obtain⟨i,j,rfl,rfl,U,q⟩:=h;obtain⟨t,rfl⟩:=Y;obtain⟨G,rfl⟩:=J;exact rule i j t G s _ _ U ⟨.int (g i j),H,I.tok _,⟨_,rfl⟩,q⟩
theorem E9 {f:Ac->Ac->Kv Ac}
  (rule:∀ (i j:Ah) (t u:Yo) (s:Ai) (Q:ae) (E:ae),Q (.int (g i j) s.toks) { s with toks:=s.toks+1 } -> b6 X (f (.int i t) (.int j u)) Q E s) :
  k_ X f (t_ λi j=>.int (g i j)):=by
 intro G s σ H x y v u Q I Y J h;obtain⟨i,j,rfl,rfl,q⟩:=h;obtain⟨t,rfl⟩:=Y;obtain⟨U,rfl⟩:=J;exact rule i j t U s _ _ ⟨.int (g i j),H,I.tok _,⟨_,rfl⟩,q⟩
theorem ZN {g:Ah->Ah->As}
  (rule:∀ (i j:Ah) (t u:Yo) (s:Ai) (Q:ae) (E:ae),Q (.bool (g i j)) s->b6 X (f (.int i t) (.int j u)) Q E s) :
  k_ X f (t_ λi j=>.bl (g i j)):=by
 intro G s σ H x y v u Q I Y J h;obtain⟨i,j,rfl,rfl,q⟩:=h;obtain⟨t,rfl⟩:=Y;obtain⟨U,rfl⟩:=J;exact rule i j t U s _ _ ⟨.bl (g i j),H,I,rfl,q⟩
def qA3 (i j:Ah):Prop:=0<j/\j<1073741824
def NT (i j:Ah):Prop:=0<=j/\j<=1000000/\i.natAbs<2 ^ 64
def Q1 (i j:Ah):Prop:=(-(2 ^ 64)<i/\i<2 ^ 64)\/(-(2 ^ 64)<j/\j<2 ^ 64)
theorem Q1.ok (h:Q1 i j):IntMulOk i j:=by
 rcases h with⟨Y,Q⟩|⟨Y,Q⟩
 .exact .of_left (intBits_le_64 Y Q)
 .exact .of_right (intBits_le_64 Y Q)
theorem EA:k_ X (El .Add) (t_ λi j=>.int (i+j)):=E9 λ_ _ _ _ _ _ _ q=>add_int q
theorem EG:k_ X (El .Sub) (t_ λi j=>.int (i-j)):=E9 λ_ _ _ _ _ _ _ q=>sub_int q
theorem ED:k_ X (El .Mult) (rI Q1 λi j=>.int (i*j)):=xg λ_ _ _ _ _ _ _ Q q=>mul_int q Q.ok
theorem MA:k_ X (El .FloorDiv) (rI qA3 λi j=>.int (i/j)):=xg λi j _ _ _ _ _ Q q=>by
 have J:(0:Ah)<j:=Q.1;have Y:j<1073741824:=Q.2;exact floordiv_int li (by rw[Tf i li];exact q) (.inl (Vy li))
theorem EC:k_ X (El .Mod) (rI (λ_ j=>0<j) λi j=>.int (i % j)):=xg λi j _ _ _ _ _ Q q=>by
 have Y:(0:Ah)<j:=Q;exact mod_int' li (by rw[Int.fmod_eq_emod_of_nonneg i li];exact q)
theorem EE:k_ X (El .Pow) (rI NT λi j=>.int (i ^ j.toNat)):=xg λ_ _ _ _ _ _ _ Q q=>pow_int_small Q.1 Q.2.1 Q.2.2 q
theorem EF:k_ X (El .LShift) (rI NT λi j=>.int (i*2 ^ j.toNat)):=xg λ_ _ _ _ _ _ _ Q q=>lshift_int_small Q.1 Q.2.1 Q.2.2 q
theorem _R {f:Ac->Kv Ac}{g:Ah->Ah}
  (rule:∀ (i:Ah) (t:Yo) (s:Ai) (Q:ae) (E:ae),Q (.int (g i) s.toks) { s with toks:=s.toks+1 } -> b6 X (f (.int i t)) Q E s) :
  _y X f (rU λi=>.int (g i)):=by
 intro J s σ H x v Q I Y h;obtain⟨i,rfl,q⟩:=h;obtain⟨t,rfl⟩:=Y;exact rule i t s _ _ ⟨.int (g i),H,I.tok _,⟨_,rfl⟩,q⟩
theorem CZ:_y X (AaG .USub) (rU λi=>.int (-i)):=_R λ_ _ _ _ _ q=>neg_int q
end
section
variable {X:Cx}{b:Cc}
theorem W5 {σ:St}{Q:VK}{k Y:As}(I:Inv X aj σ H s)(q:Q (.bl k) H)(e:k=Y):EP X aj σ Q (.bool Y) s:=by
 subst e;exact⟨.bl k,H,I,rfl,q⟩
theorem OU:k_ X (Df .Lt) (t_ λi j=>.bl (decide (i<j))):=ZN λ_ _ _ _ _ _ _ q=>lt_int q
theorem OT:k_ X (Df .LtE) (t_ λi j=>.bl (decide (i<=j))):=ZN λ_ _ _ _ _ _ _ q=>le_int q
theorem OS:k_ X (Df .Gt) (t_ λi j=>.bl (decide (j<i))):=ZN λ_ _ _ _ _ _ _ q=>gt_int q
theorem OR:k_ X (Df .GtE) (t_ λi j=>.bl (decide (j<=i))):=ZN λ_ _ _ _ _ _ _ q=>ge_int q
theorem EB:k_ X (Df .Is) (λx y H Q=>y=.non/\Q (.bl (decide (x=.non))) H):=by
 intro U s σ H x y v u Q I Y J h;obtain⟨rfl,q⟩:=h;cases J;refine is_none_gen (W5 I q ?_);cases x <;> first
  |(cases Y;rfl)
  |(obtain⟨t,rfl⟩:=Y;rfl)
theorem MB:k_ X (Df .IsNot) (λx y H Q=>y=.non/\Q (.bl (!decide (x=.non))) H):=by
 intro U s σ H x y v u Q I Y J h;obtain⟨rfl,q⟩:=h;cases J;refine isnot_none_gen (W5 I q ?_);cases x <;> first
  |(cases Y;rfl)
  |(obtain⟨t,rfl⟩:=Y;rfl)
theorem k_.or (h:k_ X f r)(h':k_ X f U):k_ X f (λx y H Q=>r x y H Q\/U x y H Q):=by
 intro J s σ H x y v u Q I G Y q;rcases q with q|q
 .exact h J s σ H x y v u Q I G Y q
 .exact h' J s σ H x y v u Q I G Y q
theorem bG (b:Cc){op:Ys}(h:op≠.In:=by decide)(h2:op≠.NotIn:=by decide):Nv op b=false:=by
 have Y:(op == CmpOp.In)=false:=by cases op <;> first|rfl|exact absurd rfl h
 have Q:(op == CmpOp.NotIn)=false:=by cases op <;> first|rfl|exact absurd rfl h2
 cases b <;> simp[Nv,Y,Q]
def QC (K:Aj)(x:V)(H:Hp)(k:As):Prop:=
 match x with
 |.non=>k=false
 |.bl b=>k=b
 |.int i=>k=(i != 0)
 |.str y=>y.length<=sizeLine/\k=((y.length:Ah) != 0)
 |.byt y=>y.size<=sizeLine/\k=((y.size:Ah) != 0)
 |.ref p=>(∃ Y,kf K H p Y/\k=!Y.isEmpty)\/(∃ Y,jl K H p Y/\k=!Y.isEmpty)\/∃ Q,H p=Ab (.dK Q)/\k=!Q.isEmpty
 |_=>Ex
theorem Z7 {κ:Type}{kvs:Aa (κ × V)}{vs:Aa (κ × Ac)}(r:KV kvs vs):(!vs.isEmpty)=!kvs.isEmpty:=by
 cases r <;> rfl
theorem n8 (r:qJ xs ap):(!ap.toArray.isEmpty)=!xs.isEmpty:=by
 cases r <;> simp
theorem bA:(sizeLine:Ag)<2 ^ 63:=by rw[Fu];decide
theorem bP:qA8 X (λx H Q=>∃ k,QC X.K x H k/\Q k H):=by
 intro w s σ H x v Q I N h;obtain⟨k,e,q⟩:=h;have M:=bA;have A:sizeLine=16777216:=Fu;cases x with
 |non =>
  cases N;have Y:k=false:=e;subst Y;exact truthy_none ⟨H,I,q⟩
 |bl b =>
  cases N;have Y:k=b:=e;subst Y;exact wpAny_truthy_bool ⟨H,I,q⟩
 |int i =>
  obtain⟨t,rfl⟩:=N;have Y:k=(i != 0):=e;subst Y;exact PySem.P.truthy_int ⟨H,I,q⟩
 |str y =>
  obtain⟨t,rfl⟩:=N;obtain⟨L,Y⟩:y.length<=sizeLine/\k=((y.length:Ah) != 0):=e;subst Y;exact PySem.P.truthy_str li ⟨H,I.tok _,q⟩
 |byt y =>
  obtain⟨t,rfl⟩:=N;obtain⟨L,Y⟩:y.size<=sizeLine/\k=((y.size:Ah) != 0):=e;subst Y;exact PySem.W.truthy_bytes li ⟨H,I.tok _,q⟩
 |ref p =>
  cases N;have Y:(∃ G,kf X.K H p G/\k=!G.isEmpty)\/(∃ G,jl X.K H p G/\k=!G.isEmpty)\/∃ J,H p=Ab (.dK J)/\k=!J.isEmpty:=e;rcases Y with⟨G,O,Y⟩|⟨G,O,Y⟩|⟨J,O,Y⟩
  .subst Y
   obtain⟨E,r,pl,B⟩:=I.list O;have U:=r.length;exact wpAny_truthy_list pl.isList (by simp only[Bm];lia) ⟨H,I.tok _,by rw[n8 r];exact q⟩
  .subst Y
   obtain⟨E,r,pl,B⟩:=I.tuple O;have U:=r.length;exact truthy_tuple pl (by simp only[Bm];lia) ⟨H,I.tok _,by rw[n8 r];exact q⟩
  .subst Y
   obtain⟨B,T,C,r,m⟩:J.length<=sizeLine/\(p == Hs)=false/\∃ C,KV J C/\s.heap.DictOf (x9 X.prog X.w) p C:=I.hok p _ O;have U:J.length=C.length:=Paired.length r;exact wpAny_truthy_dict T m li ⟨H,I.tok _,by rw[Z7 r];exact q⟩
 |_=>exact(show Ex from e).elim
theorem ZO:k_ X (El .Add) (λx y H Q=>∃ i j,x=.str i/\y=.str j/\i.length+j.length<=sizeLine/\Q (.str (i++j)) H):=by
 intro O s σ H x y v u Q I Y U h;obtain⟨i,j,rfl,rfl,J,q⟩:=h;obtain⟨t,rfl⟩:=Y;obtain⟨G,rfl⟩:=U;exact add_str (λG N=>⟨.str (i++j),H,I.tok _,⟨_,rfl⟩,q⟩) J
theorem kA {x:V}(r:qJ [x] us):∃ u,us=[u]/\qF x u:=by
 cases r with
 |cons Y Q=>cases Q;exact⟨_,rfl,Y⟩
theorem X3 {x y:V}(r:qJ [x,y] us):∃ u Q,us=[u,Q]/\qF x u/\qF y Q:=by
 cases r with
 |cons G U =>
  cases U with
  |cons Y J=>cases J;exact⟨_,_,rfl,G,Y⟩
theorem dX:jU X (.type "int") (λxs H Q=>(∃ i,xs=[.int i]/\Q (.int i) H)\/∃ k,xs=[.bl k]/\Q (.int (if k then 1 else 0)) H):=by
 intro J s σ H xs us Q I r h;rcases h with⟨i,rfl,q⟩|⟨k,rfl,q⟩
 .obtain⟨u,rfl,t,rfl⟩:=kA r
  exact call_int_int ⟨.int i,H,I,⟨_,rfl⟩,q⟩
 .obtain⟨u,rfl,Y⟩:=kA r
  cases Y;exact call_int_bool ⟨.int (if k then 1 else 0),H,I.tok _,⟨_,rfl⟩,q⟩
def NW (K:Aj)(x:V)(H:Hp)(n:Ag):Prop:=
 match x with
 |.str y=>y.length<=sizeLine/\n=y.length
 |.byt y=>y.size<=sizeLine/\n=y.size
 |.ref p=>(∃ Q,kf K H p Q/\n=Q.length)\/∃ Q,jl K H p Q/\n=Q.length
 |_=>Ex
theorem VR:jU X (.builtin "len") (λxs H Q=>∃ x n,xs=[x]/\NW X.K x H n/\Q (.int n) H):=by
 intro E s σ H xs us Q I r h;obtain⟨x,n,rfl,e,q⟩:=h;obtain⟨u,rfl,G⟩:=kA r;have T:=bA;have L:sizeLine=16777216:=Fu;cases x with
 |str y =>
  obtain⟨t,rfl⟩:=G;obtain⟨C,J⟩:y.length<=sizeLine/\n=y.length:=e;subst J;exact len_str li ⟨.int _,H,I.tok _,⟨_,rfl⟩,q⟩
 |byt y =>
  obtain⟨t,rfl⟩:=G;obtain⟨C,J⟩:y.size<=sizeLine/\n=y.size:=e;subst J;exact PySem.W.len_bytes li ⟨.int _,H,I.tok _,⟨_,rfl⟩,q⟩
 |ref p =>
  cases G;have J:(∃ xs,kf X.K H p xs/\n=xs.length)\/∃ xs,jl X.K H p xs/\n=xs.length:=e;rcases J with⟨xs,N,J⟩|⟨xs,N,J⟩
  .subst J
   obtain⟨B,U,pl,O⟩:=I.list N;have Y:=U.length;exact Calls.call_len_list pl.isList (by simp only[Bm];lia) ⟨.int xs.length,H,I.tok _,⟨_,by simp only[Bm];rw[Y]⟩,q⟩
  .subst J
   obtain⟨B,U,pl,O⟩:=I.tuple N;have Y:=U.length;exact len_tuple pl (by simp only[Bm];lia) ⟨.int xs.length,H,I.tok _,⟨_,by simp only[Bm];rw[Y]⟩,q⟩
 |_=>exact(show Ex from e).elim
end
end _L
namespace _L
variable {mA:ai}
structure wy (h:By)(x dx C:Af)(mA:ai):Prop where
 obj:h.get? x=Ab (Vw C dx)
 ns:h.Ns1 dx mA
 ne:dx≠x
set_option tactic.hygienic true in
theorem WQ {h:By}(n:h.Ns1 U mA):∃ Y,h.get? U=Ab Y/\∀ name,Xr name Y=Ab (mA name):=by
 obtain⟨o,J,T,L,B,N,_,C⟩:=n;refine⟨o,L,λname=>?_⟩;have e:=C name;unfold nsFind findBy at e;rw[<- Array.find?_toList] at e;unfold Xr;rw[B];dsimp only
 split
 .rename_i y q
  rw[q] at e;exact congrArg Ab e
 .rename_i q
  rw[q] at e;have a:J.toList.any (·.refKey)=false:=by
   rw[Tu];intro y O;obtain⟨z,t,Q⟩:=N y (Rg.mp O);simp[DictEntry.refKey,Q]
  have G:¬ J.toList.any (·.refKey)=true:=by rw[a];exact Gk
  rw[Bc G];exact congrArg Ab e
theorem wy.look (I:wy h x Y C mA):∃ Q,PySem.W.InstAt h x (Vw C Y) C (Ab Q)/\∀ name,Xr name Q=Ab (mA name):=
 let ⟨Q,U,J⟩:=WQ I.ns
 ⟨Q,⟨I.obj,rfl,rfl,U⟩,J⟩
theorem vV.some_of (r:vV (Ab v) o):∃ u,o=Ab u/\qF v u:=by
 cases o with
 |none=>exact(show Ex from r).elim
 |some u=>exact⟨u,rfl,r⟩
section
variable {P:Bh}{w:Ce}{H:Hp}{h:By}{a C dx:Af}{fs:Aa (Aw × V)}
theorem F4 (Q:gx P w H h)(e:H a=Ab (.ins C dx fs)):∃ mA,wy h a dx C mA/\(∀ f,vV (fs.lookup f) (mA f))/\AcH mA (fs.map (·.1))/\fs.length<=1000/\H dx=Ab (.own a):=by
 obtain⟨d,z,Y,J,mA,n,r,q⟩:=(show zK P w H h a (.ins C dx fs) from Q a _ e)
 exact⟨mA,⟨J,n,Y⟩,r,q,z,d⟩
end
structure _b (K:Aj)(C:Af):Prop where
 pg:AaH K C Str.empty=true
 hd:PySem.W.hasDictIn K C=true
 po:PySem.W.plainOver K C=true
 sa:Pj K (.ref C) "__setattr__" = Ab (Ab (.builtin "object.__setattr__"))
theorem _b.get {K:Aj}(c:_b K C)(f:Aw):AaH K C f=true:=c.pg
section
variable {X:Cx}{aj:aa}{σ: St}{H:Hp}{s:Ai}{A:Bw}{E:ae}{Q:ae}{c:Ac}{b:As}
inductive ke (K:Aj)(H:Hp):V->Ac->Prop where
 |non:ke K H .non (.type "NoneType")
 |bl (x:As):ke K H (.bl x) (.type "bool")
 |int (i:Ah):ke K H (.int i) (.type "int")
 |str (x:Aw):ke K H (.str x) (.type "str")
 |flt (x:UInt64):ke K H (.flt x) (.type "float")
 |lst {a:Af} {xs:Aa V} (e:H a=Ab (.lst xs)):ke K H (.ref a) (.type "list")
 |frz {a:Af} {o:Dc} {xs:Aa V} (e:H a=Ab (.frz o (.lst xs))):ke K H (.ref a) (.type "list")
 |tup {a:Af} {xs:Aa V} (e:H a=Ab (.tup xs)):ke K H (.ref a) (.type "tuple")
 |dK {a:Af} {kvs:Aa (bq × V)} (e:H a=Ab (.dK kvs)):ke K H (.ref a) (.type "dict")
 |dT {a:Af} {kvs:Aa (Aa bq × V)} (e:H a=Ab (.dT kvs)):ke K H (.ref a) (.type "dict")
 |ins {a C dx:Af} {fs:Aa (Aw × V)} (e:H a=Ab (.ins C dx fs)) (cl:_b K C) (ha:Pj K (.ref C) "__class__" = Ab (Ab (.builtin "object.__class__")))
   (hn:Aa4 K (.builtin "object.__class__") "__get__" = Ab (Ab (.builtin "getset_descriptor.__get__"))) (htk:AbC K (.builtin "object.__class__")=Ab true)
   (hm:Yt K C (.type "object")=Ab true):ke K H (.ref a) (.ref C)
theorem WC {u t:Ac}(I:Inv X aj σ H s)(Y:qF x u)(ty:ke X.K H x t)(e:My X.K t c=Ab b)(h:∀ k,Q (.bool b) { s with toks:=k }) :
  Ar (Av X.prog X.w) A (call (.builtin "isinstance") [u,c]) Q E s:=by
 cases ty with
 |non=>cases (show u=Dg from Y);exact Fe PySem.W.kitx_none I.kIn Kx e (λz=>nomatch z) h
 |bl y=>cases (show u=Jw y from Y);exact Fe PySem.W.kitx_bool I.kIn Kx e (λz=>nomatch z) h
 |int i=>obtain⟨t,q⟩:=(show ∃ t,u=Rj i t from Y);cases q;exact Fe PySem.W.kitx_int I.kIn Kx e (λz=>nomatch z) h
 |str y=>obtain⟨t,q⟩:=(show ∃ t,u=Aa2 y t from Y);cases q;exact Fe PySem.W.kitx_str I.kIn Kx e (λz=>nomatch z) h
 |flt y=>obtain⟨t,q⟩:=(show ∃ t,u=Value.float y t from Y);cases q;exact Fe PySem.W.kitx_float I.kIn Kx e (λz=>nomatch z) h
 |@lst a B U =>
  cases (show u=De a from Y)
  obtain⟨_,_,n,_,G⟩:=(show zK X.prog X.w H s.heap a (.lst B) from I.hok a _ U)
  exact Fe Tv I.kIn ⟨_,G,rfl⟩ e (λz=>nomatch z) h
 |@frz a v B U =>
  cases (show u=De a from Y)
  obtain⟨_,_,_,n,_,G⟩:=(show zK X.prog X.w H s.heap a (.frz v (.lst B)) from I.hok a _ U)
  exact Fe Tv I.kIn ⟨_,G,rfl⟩ e (λz=>nomatch z) h
 |@tup a B U =>
  cases (show u=De a from Y)
  obtain⟨_,_,_,p⟩:=(show zK X.prog X.w H s.heap a (.tup B) from I.hok a _ U)
  obtain⟨o,G,L,_⟩:=p;exact Fe Zv I.kIn ⟨o,G,L⟩ e (λz=>nomatch z) h
 |@dK a N U =>
  cases (show u=De a from Y)
  obtain⟨_,_,vs,_,p⟩:=(show zK X.prog X.w H s.heap a (.dK N) from I.hok a _ U)
  obtain⟨o,g,j,G,L,_⟩:=p;exact Fe Aa5 I.kIn ⟨o,G,L.1⟩ e (λz=>nomatch z) h
 |@dT a N U =>
  cases (show u=De a from Y)
  obtain⟨_,_,B,_,o,g,j,G,L,_⟩:=(show zK X.prog X.w H s.heap a (.dT N) from I.hok a _ U)
  exact Fe Aa5 I.kIn ⟨o,G,L.1⟩ e (λz=>nomatch z) h
 |@ins a C f m U M d w T l =>
  cases (show u=De a from Y)
  obtain⟨mA,O,_⟩:=F4 I.hok U;obtain⟨r,J,_⟩:=O.look;exact Fe (PySem.W.kitx_own (M.get _) M.hd d w T l) I.kIn J e (λz=>nomatch z) h
end
end _L
namespace _L
variable {ps:Aa Aw}{K:Aj}{mg:ai}{kindOf:Aw->Am Im}{A:Bw}{am:Eu}
structure jx (k:Ag)(A:Bw):Prop where
 hd:A.handled=none
 dp:A.depth+3*k+5<Sm
 un:A.units+16*k+200<Ed
 gd:A.guards=Ab []
theorem jx.deeper {k:Ag}(r:jx (k+1) A)(ak:Ko):jx k (A.deeper ak):=
 ⟨r.hd,by have:=r.dp;show A.depth+1+3*k+5<_;lia,by have:=r.un;show A.units+3+16*k+200<_;lia,r.gd⟩
theorem jx.depth {k:Ag}(r:jx k A):A.depth<Sm:=by have:=r.dp;lia
theorem jx.units {k:Ag}(r:jx k A):A.units+64<Ed:=by have:=r.un;lia
def qBp:TA:=λ_ H Q=>Q [] H
section
variable {X:Cx}{e:Cc}{es:Aa Cc}{t:TA}{aq:Ez}
theorem EH:PA X [] qBp:=λ_ _ _ _ H Q I h=>Ke ⟨[],H,I,.nil,h⟩
def qBs (t:TA):TE:=λσ H Q=>t σ H λY J=>Y.length<=sizeLine/\∀ p,J p=none->Q (.ref p) (c_ J p (.tup Y))
def qBo (t:TA):TE:=λσ H Q=>t σ H λY J=>Y.length<=sizeLine/\∀ p,J p=none->Q (.ref p) (c_ J p (.lst Y))
theorem EM  (h:PA X es t):PE X (.Tuple es x1 aq) (qBs t):=by
 intro B s σ H Q I C;refine wpAny_Tuple_spliced (bn (h aq B s σ H _ I C) λG Y ⟨O,J,U,r,z,q⟩=>⟨by rw[<- r.length];exact z,?_⟩)
 have N:J Y.heap.objs.size=none:=U.hok.fresh (Ax _);refine⟨.ref Y.heap.objs.size,c_ J Y.heap.objs.size (.tup O),U.laid (t':=Y.toks) (λb u e=>Ak _ e) (Ax _) ?_,rfl,q _ N⟩;exact⟨z,G,r,⟨_,Bi _ rfl,rfl,_,rfl⟩⟩
theorem YA (h:PA X es t):PE X (.List es aq) (qBo t):=by
 intro B s σ H Q I C;refine wpAny_List_spliced (bn (h aq B s σ H _ I C) λG Y ⟨O,J,U,r,z,q⟩=>⟨by rw[<- r.length];exact z,?_⟩)
 have N:J Y.heap.objs.size=none:=U.hok.fresh (Ax _);refine⟨.ref Y.heap.objs.size,c_ J Y.heap.objs.size (.lst O),U.laid (t':=Y.toks) (λb u e=>Ak _ e) (Ax _) ?_,rfl,q _ N⟩;exact⟨z,G,0,r,Bi _ rfl⟩
end
abbrev Sp:=Aa V->Hp->VK->XK->Prop
abbrev vm:=Aa Ko->Hp->Ai->XK->Ac->Ai->Prop
structure pj (P:Bh)(w:Ce)(K:Aj)(mg:ai)(base:By)(A:Bw)(outer:Aa Ko)(s:Ai)(H:Hp):Prop where
 frames:A.frames=Ab outer
 mod:Mod K mg base
 bs:∀ b o,base.get? b=Ab o->s.heap.get? b=Ab o/\H b=none
 bsz:base.objs.size<=s.heap.objs.size
 funs:s.heap.FunFrames base outer
 frf:∀ b∈jq outer,H b=none
 hok:gx P w H s.heap
 bare:Qj s.gens
def CE (J:Aa Ko)(P:Bh)(w:Ce)(H:Hp)(s:Ai)(Q:VK)(u:Ac)(s':Ai):Prop:=
 ∃ v Y,s'.os=s.os/\Qj s'.gens/\Un (jq J) [] H Y s.heap s'.heap/\gx P w Y s'.heap/\qF v u/\Q v Y
def CR (CX:vm)(Y:Aa Ko)(P:Bh)(w:Ce)(H:Hp)(s:Ai)(Q:VK)(E:XK)(r:Result)(s':Ai):Prop:=
 match r with
 |.ok (.ret u)=>CE Y P w H s Q u s'
 |.ok _=>Ex
 |.error e=>CX Y H s E e s'
structure ot (P:Bh)(w:Ce)(K:Aj)(mg:ai)(base:By)(CX:vm)(k:Ag)(f:Af)(fd:Fw)(ps:Aa Aw)(sp:Sp):Prop where
 len:∀ vs H Q E,sp vs H Q E->vs.length=ps.length
 run:∀ (A:Bw) (outer:Aa Ko) (s:Ai) (H:Hp) (args:Args) (us:ah) (vs:Aa V) (Q:VK) (E:XK),jx k A->pj P w K mg base A outer s H->Ql s fd args (ps.zip us)->qJ vs us->sp vs H Q E ->
  Kg (Av P w) A (.call (.ref f) args) (CR CX outer P w H s Q E) s
section
variable {X:Cx}{aj:aa}{σ: St}{H:Hp}{s s':Ai}
theorem Inv.env0 (I:Inv X aj σ H s):pj X.prog X.w X.K X.mg X.base X.A X.stack s H:=
 ⟨I.ok.frames,I.ok.mod,I.bs,Cw I.ok.bsz I.sz,I.stack,I.stkFree,I.hok,I.bare⟩
theorem Inv.after (I:Inv X aj σ H s)(h:CE X.stack X.prog X.w H s Q u s'):EP X aj σ Q u s':=by
 obtain⟨v,O,os,Y,N,J,r,q⟩:=h;obtain⟨G,g,d,t,U⟩:=s';obtain rfl:U=s.os:=os;exact⟨v,O,I.call (h':=G) (g':=g) (d':=d) (t':=t) (ch:=[]) N J Y (λb z=>absurd z ba),r,q⟩
end
def uR (K:Aj)(fd:Fw)(ps:Aa Aw)(ds:ah):Prop:=
 ∀ (s:Ai) (Q:ah),K.In s.heap->(Q++ds).length=ps.length->Ql s fd ⟨Q,[]⟩ (ps.zip (Q++ds))
theorem uR.all (h:∀ us:Aa Ac,us.length=ps.length->AbD fd ⟨us,[]⟩=pure (ps.zip us)):uR K fd ps []:=λs us _ Q=>by
 rw[Hu] at Q ⊢;exact .of_eq (h us Q)
structure dc (N P:Aa Aw)(sc:Eu):Prop where
 kind:sc.kind=.function
 co:sc.isCoroutine=false
 gen:sc.isGenerator=false
 nd:N.Nodup
 pre:N.take P.length=P
 par:∀ x∈P,sc.names.lookup x=Ab .local \/ sc.names.lookup x=Ab .cell
 nofree:∀ y∈sc.names,y.2≠.free
theorem dR {x:Aw}:∀ {Q:Aa (Aw × Ac)} {m:ai},(∀ v,(x,v) ∉ Q)->Yu kindOf Q m x=m x
 |[],_,_=>rfl
 |(n,v)::r,m,h=>by
  unfold Yu;rw[dR λw Y=>h w (AT _ Y)]
  split
  .have:x≠n:=by rintro rfl;exact h v Cf
   simp[this]
  .rfl
theorem dP {x:Aw}:∀ {Q:Aa (Aw × Ac)} {m:ai},(∀ v,(x,v) ∉ Q)->Yv kindOf Q m x=m x
 |[],_,_=>rfl
 |(n,v)::r,m,h=>by
  unfold Yv;rw[dP λw Y=>h w (AT _ Y)]
  split
  .rfl
  .have:x≠n:=by rintro rfl;exact h v Cf
   simp[this]
theorem dQ:∀ {P:Aa Aw} {vs:ah} {i:Ag} {m:ai},P.Nodup->P[i]? = Ab x->vs[i]? = Ab v->kindOf x=Ab .local ->
  Yu kindOf (P.zip vs) m x=Ab v
 |[],_,_,_,_,h,_,_=>by simp at h
 |_::_,[],_,_,_,_,h,_=>by simp at h
 |p::P,w::vs,0,m,J,Y,Q,U=>by
  simp at Y Q;subst Y;subst Q;show Yu kindOf ((p,w)::P.zip vs) m p=_;unfold Yu;rw[dR λv hv=>(Ea.mp J).1 (Ro hv).1,Be U];simp
 |p::P,w::vs,i+1,m,J,Y,Q,U=>by
  show Yu kindOf ((p,w)::P.zip vs) m x=_;unfold Yu;exact dQ (i:=i) (Ea.mp J).2 (by simpa using Y) (by simpa using Q) U
theorem dO:∀ {P:Aa Aw} {vs:ah} {i:Ag} {m:ai},P.Nodup->P[i]? = Ab x->vs[i]? = Ab v->kindOf x≠Ab .local ->
  Yv kindOf (P.zip vs) m x=Ab v
 |[],_,_,_,_,h,_,_=>by simp at h
 |_::_,[],_,_,_,_,h,_=>by simp at h
 |p::P,w::vs,0,m,J,Y,Q,U=>by
  simp at Y Q;subst Y;subst Q;show Yv kindOf ((p,w)::P.zip vs) m p=_;unfold Yv;rw[dP λv hv=>(Ea.mp J).1 (Ro hv).1,Bc U];simp
 |p::P,w::vs,i+1,m,J,Y,Q,U=>by
  show Yv kindOf ((p,w)::P.zip vs) m x=_;unfold Yv;exact dO (i:=i) (Ea.mp J).2 (by simpa using Y) (by simpa using Q) U
def w9 (N:Aa Aw)(vs:Aa V):St:=vs.map Ab++AbT (N.length-vs.length) none
noncomputable def lH (CX:vm)(P:Bh)(w:Ce)(K:Aj)(mg:ai)(base:By)(N:Aa Aw)(Y:Aw)(am:Eu)(f:Af)(J:Ac)(A:Bw)(U:Aa Ko)(s:Ai)(H:Hp)(E:XK):Cx where
 prog:=P
 w:=w
 K:=K
 mg:=mg
 base:=base
 A:=A.deeper (Hg Y am s.heap.objs.size f J)
 N:=N
 s₀:=s
 H₀:=H
 env:=Hg Y am s.heap.objs.size f J
 outer:=U
 stack:=Hg Y am s.heap.objs.size f J::U
 ex:=[]
 calm:=true
 fn:=λ_=>true
 pn:=[]
 xe:=λe G=>Ar (Av P w) (A.deeper (Hg Y am s.heap.objs.size f J)) (leaving (Hg Y am s.heap.objs.size f J) e) (λ_ Q=>CX U H s E e Q) (λO Q=>CX U H s E O Q) G
theorem eI {Q:Eu}(h:Q.names.lookup x=Ab .cell):∃ c,(Hz n Q.names []).lookup x=Ab c:=by
 have q:=Lw Q.names n [] (.inl h);exact Kq.mp q
theorem sH {CX:vm}{P:Bh}{w:Ce}{base:By}{N:Aa Aw}{C:Aw}{f:Af}{L:Ac}{T:Aa Ko}{s j:Ai}{H:Hp}{E:XK}{us:ah}{vs:Aa V}
  (S:dc N ps am) (g:A.handled=none) (Y:pj P w K mg base A T s H) (hl:vs.length=ps.length) (r:qJ vs us)
  (x:InCallC s s.heap.objs.size (Yu (Hg C am s.heap.objs.size f L).kindOf (ps.zip us) λ_=>none) (Hz (s.heap.objs.size+1) am.names []) (Yv (Hg C am s.heap.objs.size f L).kindOf (ps.zip us) λ_=>none) j) :
  Inv (lH CX P w K mg base N C am f L A T s H E) [] (w9 N vs) H j:=by
 have o:ps.length<=N.length:=by have:=congrArg Qm S.pre;rw[Hi] at this;lia
 obtain⟨B,t,rfl,I⟩:=x.done;have J:∀ b:Af,b ∉ (lH CX P w K mg base N C am f L A T s H E).ex:=λb z=>absurd (show b∈([]:ag) from z) ba
 refine⟨⟨Y.mod,S.kind,rfl,rfl,Ax _,λy z c B Q=>?_,λy hy=>?_,λy c _ h=>?_,λ_=>g,Yb Y.frames,.inr ⟨rfl,rfl⟩,λb z=>absurd z (J b),Y.bs,Y.bsz,λb _ _=>J b,λb z=>absurd z (J b),Y.funs,Y.frf⟩,
  rfl,Y.bare,Un.kept I,⟨_,x.toInCall.ns,λi y v B Q m=>?_⟩,λy c h=>⟨_,x.cell y c h⟩,Y.hok.fresh (Ax _),λy c h=>?_,λp U=>absurd (show p∈([]:aa) from U) ba,Y.hok.kept I,?_⟩
 .exact name_of_addr x.apart (Go B) (Go Q)
 .have hy:am.names.lookup y=Ab .cell\/am.names.lookup y=Ab .free:=hy
  rcases hy with hy|hy
  .exact eI hy
  .exact absurd rfl (S.nofree _ (Go hy))
 .exact Ec (x.above y c (Go h))
 .have O:i<vs.length:=by
   unfold w9 at Q;by_cases O:i<vs.length
   .exact O
   .rw[Dk (by simpa using O)] at Q
    rw[Vi] at Q
    split at Q <;> cases Q
  have d:vs[i]? = Ab v:=by
   unfold w9 at Q;rw[Bn (by simpa using O),Ee] at Q
   cases e:vs[i]? with
   |none=>rw[e] at Q;cases Q
   |some a=>rw[e] at Q;cases Q;rfl
  obtain⟨u,M,l⟩:=r.get d;have U:ps[i]? = Ab y:=by
   rw[<- S.pre,Oo li];exact B
  have G:ps.Nodup:=by rw[<- S.pre];exact S.nd.sublist (Aa6 _ _)
  refine⟨u,l,?_⟩;rcases S.par y (Ct U) with k|k
  .exact .inl ⟨k,dQ G U M k⟩
  .obtain⟨c,e⟩:=eI (n:=s.heap.objs.size+1) k
   refine .inr ⟨.inl k,c,e,?_⟩;have q:=x.cell y c e;rw[dO G U M (by show am.names.lookup y≠_;rw[k];decide)] at q
   exact q
 .exact Y.hok.fresh (Ec (x.above y c (Go h)))
 .unfold w9
  show _=N.length;rw[Ca,Ao,List.length_replicate]
  lia
theorem IG {CX:vm}{P:Bh}{w:Ce}{base:By}{k:Ag}{f:Af}{name C:Aw}{je:Wv}{a:Aa Fz}{dV kV l pm Y ct oc:Ac}{h od:Am Af}
  {d:Ay (Am Ac)} {N ps:Aa Aw} {sp:Sp} (lk:K.lookup f=Ab ⟨oc,od,.func (Gv name C je a am dV kV l pm h Y ct),d⟩) (m:Mz K Y C=true) (S:dc N ps am)
  (j:∀ vs H Q E,sp vs H Q E->vs.length=ps.length)
  (B:∀ (A:Bw) (L:Aa Ko) (s:Ai) (H:Hp) (vs:Aa V) (Q:VK) (E:XK),jx k (A.deeper (Hg C am s.heap.objs.size f Y))->sp vs H Q E ->
   ∃ t,jm (lH CX P w K mg base N C am f Y A L s H E) a t/\t { nx:=λ_ G=>Q .non G,rt:=Q } (w9 N vs) H) :
  ot P w K mg base CX (k+1) f (Gv name C je a am dV kV l pm h Y ct) ps sp:=by
 refine⟨j,λA L s H zb us vs Q E c z hb r p=>?_⟩;have hl:=j _ _ _ _ p;have KX:K.In s.heap:=z.mod.kin.keeps λb o e=>(z.bs b o e).1;have br:s.heap.NoLimit:=z.mod.nolimit.keeps λb o e=>(z.bs b o e).1;have O:∀ y∈ps.zip us,am.names.lookup y.1=Ab .local \/ (am.names.lookup y.1=Ab .cell/\((Hz (s.heap.objs.size+1) am.names []).lookup y.1).isSome=true):=λ⟨n,v⟩ hy=>by
  rcases S.par n (Ro hy).1 with q|q
  .exact .inl q
  .exact .inr ⟨q,Lw _ _ _ (.inl q)⟩
 refine Ww c.depth (KX _ _ lk) rfl S.co S.gen rfl (Zw KX m) (hb _ _ _ _ ?_);refine Tg S.kind O λak he s1 x=>?_;subst he;refine⟨br.keeps x.toInCall.keep,codeAny_func ?_⟩;obtain⟨t,ht,hq⟩:=B A L s H vs Q E (c.deeper _) p;have I:Inv (lH CX P w K mg base N C am f Y A L s H E) [] (w9 N vs) H s1:=sH S c.hd z hl r x;refine Ht (ht [] s1 (w9 N vs) H _ I hq) (λfl g T=>?_) λe g T=>T;have M:∀ {U : St} {G:Hp} {v:V} {u:Ac},Inv (lH CX P w K mg base N C am f Y A L s H E) [] U G g->qF v u->Q v G->CE L P w H s Q u g:=
  λ{U G v u} J i q=>⟨v,G,J.os,J.bare,J.base,J.hok,i,q⟩
 cases fl with
 |ret u =>
  obtain⟨v,U,G,J,i,q⟩:=T;exact M J i q
 |next =>
  obtain⟨U,G,J,q⟩:=T;exact M (v:=V.non) (u:=Dg) J rfl q
 |brk =>
  obtain⟨_,_,_,q⟩:=T;exact Aq q
 |cont =>
  obtain⟨_,_,_,q⟩:=T;exact Aq q
end _L
namespace _H
variable {Q:ae}{lo hi:Am Ah}{items:Ay Ac}
noncomputable def lexLt:Aa Ah->Aa Ah->As
 |[],[]=>false
 |[],_::_=>true
 |_::_,[]=>false
 |x::Y,y::J=>if x=y then lexLt Y J else decide (x<y)
theorem a_ (x y:Ah)(xs Y:Aa Ah):lexLt (x::xs) (y::Y)=if x=y then lexLt xs Y else decide (x<y):=rfl
theorem iw:lexLt [] []=false:=rfl
theorem lX (y:Ah)(Y:Aa Ah):lexLt [] (y::Y)=true:=rfl
theorem lW (x:Ah)(xs:Aa Ah):lexLt (x::xs) [] = false:=rfl
theorem UJ (A:Bw)(s:Ai)(a:Ah)(t:Yo)(c:Ah)(u:Yo):∃ e,SeqAt.EqAt A s (.int a t) (.int c u) e/\(e=true↔a=c):=
 ⟨(a == c),SeqAt.EqAt.int_int a t c u,by simp⟩
theorem KB (A:Bw)(s:Ai)(a:Ah)(t:Yo)(c:Ah)(u:Yo)(prog:Bh)(w:Ce)(E:ae)(Q:ae)(h:Q (.bool (decide (a<c))) s) :
  Ar (Av prog w) A (richCompare .Lt (.int a t) (.int c u)) Q E s:=
 (Se h:Ar (Av prog w) A (Df .Lt (.int a t) (.int c u)) Q E s)
section
open PySem.SeqAt
open PySem.AutoSeq1 (wpAny_loadPart')
open PySem.MeetsSeq PySem.MeetsSeq2 PySem.MeetsSeq3
theorem rB (l b:Af)(items Y:Ay Ac)(n n2:Ag)(dd zb:Am Af)(sl m:Ay (Am Ac))(z v:Aa Ah)(hi:Lx items.toList z)(hj:Lx Y.toList v) :
  Meets (Il.«tuple.__lt__» ⟨[.ref l,.ref b],[]⟩)
   (λ_ R s=>s.heap.get? l=Ab { cls:=.type "tuple",dict:=dd,data:=.seq items n,slots:=sl } /\ s.heap.get? b=Ab { cls:=.type "tuple",dict:=zb,data:=.seq Y n2,slots:=m } /\
    R (.ok (.ret (.bool (lexLt z v)))) s):=
 .of_wp λL w A R s h=>by
  obtain⟨o,g,d,j,os⟩:=s;obtain⟨hl,hb,h⟩:=h;have f2:=Uo;have z1:items.size=z.length:=by rw[<- hi.length];simp
  have z2:Y.size=v.length:=by rw[<- hj.length];simp
  wp_walk using wpAny_loadPart' hl,wpAny_loadPart' hb,Ky _ (λqC b i=>b.1=none/\i=⟨o,g,d,j,os⟩/\∃ (k p:ah) (U G:Aa Ah),qC=k.zip p /\
   Lx k U/\Lx p G/\U.length+Y.size=G.length+items.size/\R (.ok (.ret (.bool (lexLt U G)))) ⟨o,g,d,j,os⟩) _
  case turn =>
   rintro⟨y,x⟩ qC b i ⟨T,rfl,k,p,U,G,N,E,O,J,B⟩;cases E with
   |nil=>rw[List.zip_nil_left] at N;cases N
   |cons a t M =>
    cases O with
    |nil=>rw[List.zip_nil_right] at N;cases N
    |cons c u H =>
     rw[Jm] at N;injection N with r I
     injection r with hy hx
     subst hy hx;rw[a_] at B;simp only[Cb] at J;obtain⟨e,he,C⟩:=UJ A.in1 ⟨o,g,d,j,os⟩ a t c u;refine Ad (he L w _ _ ?_);cases e with
     |true =>
      rw[Be (C.mp rfl)] at B
      wp_walk
      exact⟨rfl,rfl,_,_,_,_,I,M,H,by lia,B⟩
     |false =>
      rw[Bc (λq=>absurd (C.mpr q) Gk)] at B;have f:=KB A.in1 ⟨o,g,d,j,os⟩ a t c u L w
      wp_walk using f
      exact⟨_,rfl,by simpa using B⟩
  case fin =>
   rintro⟨b1,b2⟩ i ⟨T,rfl,k,p,U,G,N,E,O,J,B⟩;simp only at T;subst T;have hv:lexLt U G=decide (items.size<Y.size):=by
    cases E with
    |nil =>
     cases O with
     |nil =>
      simp only[Io] at J;rw[iw];exact(Cq li).symm
     |cons c u hw =>
      simp only[Io,Cb] at J;rw[lX];exact(Cn li).symm
    |cons a t hv =>
     cases O with
     |nil =>
      simp only[Io,Cb] at J;rw[lW];exact(Cq li).symm
     |cons c u hw =>
      rw[Jm] at N;cases N
   rw[hv] at B
   wp_walk
   exact⟨_,rfl,by simpa [Qn] using B⟩
  case h =>
   exact⟨rfl,rfl,items.toList,Y.toList,z,v,rfl,hi,hj,by lia,h⟩
end
section
variable {prog:Bh}{w:Ce}{A:Bw}{E:ae}{s:Ai}
theorem oz {l b:Af}(y:Vh s.heap l items)(u:Vh s.heap b Y)(hi:Lx items.toList J)(j:Lx Y.toList O)
  (z:A.units<Ed) (h:Q (.bool (lexLt J O)) s):Ar (Av prog w) A (Df .Lt (.ref l) (.ref b)) Q E s:=by
 obtain⟨⟨cls,k,data,sl⟩,I,H,n,L⟩:=id y;obtain⟨⟨T,B,data2,C⟩,N,U,M,G⟩:=id u;simp only at H L U G;subst H L U G;exact Vz (op:=.Lt) ⟨_,I,rfl⟩ ⟨_,N,rfl⟩ Wx Wa (Vj _ _) (rB l b items Y n M k B sl C J O hi j)
  ⟨I,N,show Jw (lexLt J O)≠Yc/\Q (.bool (lexLt J O)) s from⟨(λx=>nomatch x),h⟩⟩ z
theorem uq {t b:Af}{vs Y:ah}(z:Vh s.heap t vs.toArray)(j:Vh s.heap b Y.toArray)(hv:vs≠[])
  (h1:Y=[]->Q (.ref t) s) (h2:Y≠[]->Q (.ref s.heap.objs.size) { s with heap:=s.heap.push { cls:=.type "tuple",data:=.seq (vs++Y).toArray } })
  (hsz:vs.length+Y.length<=sizeLine):Ar (Av prog w) A (El .Add (.ref t) (.ref b)) Q E s:=by
 obtain⟨⟨cls,H,data,sl⟩,C,M,n,T⟩:=id z;obtain⟨⟨I,O,data2,U⟩,J,G,L,N⟩:=id j;simp only at M T G N;subst M T G N;have e:vs.toArray++Y.toArray=(vs++Y).toArray:=by simp
 by_cases B:Y=[]
 .exact t3 ⟨_,C,rfl⟩ ⟨_,J,rfl⟩ Uy Yw Py Pa (Op _ _)
   (tuple_addW1 t b vs.toArray Y.toArray n L H O sl U (by simpa using hv) (by simp[B])) ⟨C,J,h1 B⟩
 .refine t3 ⟨_,C,rfl⟩ ⟨_,J,rfl⟩ Uy Yw Py Pa (Op _ _)
   (tuple_addW2 t b vs.toArray Y.toArray n L H O sl U (by simpa using hv) (by simpa using B) (by rw[Bm,Bm];exact hsz)) ⟨C,J,?_⟩
  rw[e];exact h2 B
noncomputable def cz (n d:Ag):Am Ah->Ag
 |none=>d
 |some v=>if v<0 then (v+(n:Ah)).toNat else min v.toNat n
theorem CC (n d:Ag)(Y:d<=n)(o:Am Ah):cz n d o<=n:=by
 cases o with
 |none=>exact Y
 |some v =>
  show (if v<0 then (v+(n:Ah)).toNat else min v.toNat n)<=n
  by_cases hv:v<0
  .rw[Be hv];lia
  .rw[Bc hv];exact Nat.min_le_right _ _
theorem iE (v:Ah)(n d:Ag):(if v<0 then max (v+(n:Ah)) 0 else min v (n:Ah))=((cz n d (Ab v):Ag):Ah):=by
 show (if v<0 then max (v+(n:Ah)) 0 else min v (n:Ah))=(((if v<0 then (v+(n:Ah)).toNat else min v.toNat n):Ag):Ah)
 by_cases hv:v<0
 .simp only[Be hv];lia
 .simp only[Bc hv];lia
theorem QF (lo hi:Am Ah)(n:Ag):Nw lo hi 1 (n:Ah)=(((cz n 0 lo:Ag):Ah),((cz n n hi:Ag):Ah)):=by
 have Y:¬ ((1:Ah)<0):=by lia
 unfold Nw;simp only[Y,Dq];refine Hj ?_ ?_
 .cases lo with
  |none=>rfl
  |some v=>exact iE v n 0
 .cases hi with
  |none=>rfl
  |some v=>exact iE v n n
theorem ZQ (i j:Ag):Kh (i:Ah) (j:Ah) 1=j-i:=by
 unfold Kh;have Y:(1:Ah)>0:=by lia
 simp only[Y,Ds,Int.ediv_one]
 split <;> lia
theorem l3 {Q:Am Ah->Ai->Prop}(p:Th v o)(h:Q o s):Ar (Av prog w) A (Builtin.Slice.slicePartIndex v) Q E s:=by
 cases p with
 |none=>exact slicePart_none h
 |int i t=>exact slicePart_int h
theorem jP {sl:Af}{n:Ag}{Q:Ah × Ah × Ag->Ai->Prop}(hs:s.heap.IsSliceOf sl U G .none)(pl:Th U lo)(O:Th G hi)
  (h:Q (((cz n 0 lo:Ag):Ah),1,cz n n hi-cz n 0 lo) s):Ar (Av prog w) A (Ti (.ref sl) (pure (n:Ah))) Q E s:=by
 obtain⟨os,Y,N,J⟩:=id hs;unfold Ti Builtin.Slice.sliceFields;refine Ad (Ad (Gc Y J (x:=U) rfl (Ad (Gc Y J (x:=G) rfl (Ad (Gc Y J (x:=.none) rfl (An ?_)))))));refine Ad (slicePart_none ?_);show Ar _ _ (if ((1:Ah) == 0)=true then _ else _) _ _ s
 rw[Bc bb]
 refine Ad (l3 pl (Ad (l3 O (Ad (An ?_)))));show Ar _ _ (match Nw lo hi 1 (n:Ah) with|(lo,hi)=>pure (lo,(1:Ah),Kh lo hi 1)) _ _ s
 rw[QF lo hi n];show Ar _ _ (pure (((cz n 0 lo:Ag):Ah),(1:Ah),Kh ((cz n 0 lo:Ag):Ah) ((cz n n hi:Ag):Ah) 1)) _ _ s;rw[ZQ];exact An h
theorem JR (xs:Ay Ac)(i k:Ag):((Cj k).filterMap λ(m:Ag)=>xs[((i:Ah)+(m:Ah)*1).toNat]?).toArray=((xs.toList.drop i).take k).toArray:=by
 have e:(λ(m:Ag)=>xs[((i:Ah)+(m:Ah)*1).toNat]?)=λm=>xs[i+m]?:=by
  funext m
  have:((i:Ah)+(m:Ah)*1).toNat=i+m:=by lia
  rw[this]
 rw[e];have:=pick_run xs i k;rw[List.filterMap_map] at this;have Y:((λx=>xs[x]?)∘λx=>i+x)=λm=>xs[i+m]?:=rfl;rw[Y] at this;rw[this]
theorem jp {t sl:Af}(J:Vh s.heap t items)(hs:s.heap.IsSliceOf sl C B .none)(pl:Th C lo)(L:Th B hi)
  (hw:¬ (cz items.size 0 lo=0/\cz items.size items.size hi=items.size))
  (h:Q (.ref s.heap.objs.size) { s with heap:=s.heap.push { cls:=.type "tuple",data:=.seq ((items.toList.drop (cz items.size 0 lo)).take (cz items.size items.size hi-cz items.size 0 lo)).toArray } })
  (hsz:items.size<=sizeLine):Ar (Av prog w) A (Pb (.ref t) (.ref sl)) Q E s:=by
 have Y:sizeOk (.seq ((items.toList.drop (cz items.size 0 lo)).take (cz items.size items.size hi-cz items.size 0 lo)).toArray):=by
  show ((items.toList.drop (cz items.size 0 lo)).take (cz items.size items.size hi-cz items.size 0 lo)).toArray.size<=sizeLine;rw[Bm,Hi,Kz,Bt]
  lia
 have H:cz items.size items.size hi<=items.size:=CC _ _ (Ax _) hi;obtain⟨os,N,O,T⟩:=id hs;have G:s.TypeIs (.ref sl) "slice":=⟨os,N,O⟩;unfold Pb
 try with_reducible refine EQ ?_
 first|refine Ad (An ?_)|skip
 refine Ad (wpAny_sequenceKey J.typeIs bb ?_)
 refine Ad (Em (name:=Ix "__getitem__") J.typeIs Fj
  (Ef Fj J.typeIs Yx ?_ (Zx _ _)))
 show Ar _ _ (Tj (.ref t) >>= _) _ _ s;refine Ad (tupleItemsOf_ J ?_);refine Ad (Nc G ?_);rw[Be bb]
 refine Ad (jP hs pl L ?_);have U:¬ ((((cz items.size 0 lo:Ag):Ah) == 0&&(1:Ah) == 1&&(cz items.size items.size hi-cz items.size 0 lo) == items.size)=true):=by
  intro q;rw[Bj,Bj] at q;have I:((cz items.size 0 lo:Ag):Ah)=0:=eq_of_beq q.1.1;have M:cz items.size items.size hi-cz items.size 0 lo=items.size:=eq_of_beq q.2;exact hw ⟨by lia,by lia⟩
 show Ar _ _ (if (((cz items.size 0 lo:Ag):Ah) == 0&&(1:Ah) == 1&&(cz items.size items.size hi-cz items.size 0 lo) == items.size)=true then _ else _) _ _ s
 rw[Bc U,JR]
 first
  |exact Ad (m:=Kr _) (Dw (An ⟨_,rfl,An h⟩) Y)
  |exact Ad (m:=Kr _) (Dw (Ad (An (An ⟨_,rfl,An h⟩))) Y)
  |exact Ad (Ad (m:=Kr _) (Dw (An (An ⟨_,rfl,An h⟩)) Y))
  |exact Ad (Ad (m:=Kr _) (Dw (An ⟨_,rfl,An h⟩) Y))
end
end _H
namespace _L
abbrev TO:=St->Hp->(Am Ah->Hp->Prop)->Prop
def PO (X:Cx)(e:Am Cc)(t:TO):Prop:=
 ∀ (J:aa) (s:Ai) (σ : St) (H:Hp) (Q:Am Ah->Hp->Prop),Inv X J σ H s->t σ H Q ->
  b6 X (evalPart e X.env) (λu U=>∃ o Y,Inv X J σ Y U/\Th u o/\Q o Y) X.xe s
def N4:TO:=λ_ H Q=>Q none H
def qAY (t:TE):TO:=λσ H Q=>t σ H λx Y=>∃ i,x=.int i/\Q (Ab i) Y
theorem tZ {Q:Aa Ah}:∀ {us:ah},qJ (Q.map V.int) us->Lx us Q:=by
 induction Q with
 |nil=>intro us r;rw[u8] at r;cases r;exact .nil
 |cons n Q Y =>
  intro us r;rw[Cg] at r;cases r with
  |cons U J =>
   obtain⟨t,e⟩:=U;subst e;exact .cons n t (Y J)
section
variable {X:Cx}{e:Cc}{te:TE}{lo hi:Am Cc}{tl th:TO}{aq p2:Ez}
theorem MK:PO X none N4:=by
 intro Y s σ H Q I h;rw[evalPart_none];exact An ⟨none,H,I,.none,h⟩
theorem MM (h:PE X e te):PO X (Ab e) (qAY te):=by
 intro N s σ H Q I G;rw[evalPart_some];refine bn (h N s σ H _ I G) λu C ⟨x,Y,U,O,J⟩=>?_;obtain⟨i,rfl,q⟩:=J;obtain⟨t,rfl⟩:=O;exact⟨Ab i,Y,U,.int i t,q⟩
def wg (X:Cx)(r:V->Am Ah->Am Ah->Hp->VK->Prop):Prop:=
 ∀ (U:aa) (s:Ai) (σ : St) (H:Hp) (x:V) (v Y J:Ac) (lo hi:Am Ah) (sl:Af) (Q:VK),Inv X U σ H s->qF x v->s.heap.IsSliceOf sl Y J .none->Th Y lo->Th J hi->r x lo hi H Q ->
  ∃ T id,typeLookup (.type T) "__getitem__" = pure (Ab (.builtin id))/\s.TypeIs v T/\b6 X (Pb v (.ref sl)) (EP X U σ Q) X.xe s
theorem wg.or {r J:V->Am Ah->Am Ah->Hp->VK->Prop}(h:wg X r)(h':wg X J):wg X (λx lo hi H Q=>r x lo hi H Q\/J x lo hi H Q):=by
 intro C s σ H x v N O lo hi sl Q I G Y pl U q;rcases q with q|q
 .exact h C s σ H x v N O lo hi sl Q I G Y pl U q
 .exact h' C s σ H x v N O lo hi sl Q I G Y pl U q
def _T (r:V->Am Ah->Am Ah->Hp->VK->Prop)(te:TE)(tl th:TO):TE:=λσ H Q=>te σ H λx U=>tl σ U λl J=>th σ J λu Y=>r x l u Y Q
theorem JP {r:V->Am Ah->Am Ah->Hp->VK->Prop}(B:wg X r)(M:PE X e te)(c:PO X lo tl)(p:PO X hi th):PE X (.Subscript e (.Slice lo hi none p2) aq) (_T r te tl th):=by
 intro J s σ H Q I h;refine Subscript_ (bn (M J s σ H _ I h) λv g ⟨x,k,f,j,C⟩=>?_);refine wpAny_Slice (bn (c J g σ k _ f C) λG L ⟨l,w,o,pl,m⟩=>bn (p J L σ w _ o m) λU Y ⟨u,N,y,O,d⟩=>?_);rw[evalPart_none];refine An ?_;have E:Inv X J σ N { Y with heap:=Y.heap.push { cls:=.type "slice",data:=.fields #[G,U,.none] } }:=y.kept (t':=Y.toks) λb n q=>Ak _ q
 obtain⟨T,id,z,A,t⟩:=B J { Y with heap:=Y.heap.push { cls:=.type "slice",data:=.fields #[G,U,.none] } } σ N x v G U l u Y.heap.objs.size Q E j (AcL ..) pl O d
 show b6 X (Tw e (.Slice lo hi none p2) v (.ref Y.heap.objs.size)) (EP X J σ Q) X.xe { Y with heap:=Y.heap.push { cls:=.type "slice",data:=.fields #[G,U,.none] } }
 exact tail_any (ops:=[.ref Y.heap.objs.size,v]) A z t (by with_unfolding_all rfl)
def pW (xs:Aa V)(lo hi:Am Ah):Aa V:=(xs.drop (_H.cz xs.length 0 lo)).take (_H.cz xs.length xs.length hi-_H.cz xs.length 0 lo)
theorem mB (xs:Aa V)(lo hi:Am Ah):(pW xs lo hi).length<=xs.length:=by
 unfold pW;rw[Hi,Kz]
 lia
def qBj (K:Aj):V->Am Ah->Am Ah->Hp->VK->Prop:=λx lo hi H Q=>∃ a Y,x=.ref a/\jl K H a Y /\
 ¬ (_H.cz Y.length 0 lo=0/\_H.cz Y.length Y.length hi=Y.length)/\∀ p,H p=none->Q (.ref p) (c_ H p (.tup (pW Y lo hi)))
theorem CG:wg X (qBj X.K):=by
 intro M s σ H x v E A lo hi sl Q I C N pl O h;obtain⟨a,J,rfl,L,T,q⟩:=h;cases C;obtain⟨B,r,G,U⟩:=I.tuple L;have Y:B.toArray.size=J.length:=by rw[Bm];exact r.length.symm
 refine⟨"tuple",_,Fj.lookup,G.typeIs,?_⟩;refine _H.jp G N pl O (by rw[Y];exact T) ?_ (by rw[Y];exact U)
 rw[Y];refine⟨.ref s.heap.objs.size,_,I.laid (t':=s.toks) (o:=.tup (pW J lo hi)) (λb w q=>Ak _ q) (Ax _) ?_,rfl,q _ (I.hok.fresh (Ax _))⟩;exact⟨Cw (mB J lo hi) U,_,(r.drop (_H.cz J.length 0 lo)).take (_H.cz J.length J.length hi-_H.cz J.length 0 lo),Aa3 _ _⟩
end
end _L
namespace _L
variable {aj:aa}{s:Ai}{H:Hp}{σ:St}
noncomputable def pq (n:Ag)(i:Ah):Am Ag:=if 0<=i then (if i<n then Ab i.toNat else none) else if -(n:Ah)<=i then Ab (i+n).toNat else none
def mj {α:Type}(xs:Aa α)(i:Ah):Am α:=(pq xs.length i).bind λj=>xs[j]?
theorem iR (h:pq n i=Ab j):Aa7 i n=Ab j/\j<n /\ -(n:Ah)<=i/\i<n:=by
 unfold pq at h;by_cases Y:0<=i
 .rw[Be Y] at h
  by_cases Q:i<n
  .rw[Be Q] at h
   have e:i.toNat=j:=Dm h;exact⟨by rw[AaI Y Q,e],by lia,by lia,Q⟩
  .rw[Bc Q] at h;cases h
 .rw[Bc Y] at h
  by_cases Q : -(n:Ah)<=i
  .rw[Be Q] at h
   have e:(i+n).toNat=j:=Dm h;exact⟨by rw[seqIndex_neg li Q,e],by lia,Q,by lia⟩
  .rw[Bc Q] at h;cases h
theorem iC {α:Type}{xs:Aa α}{v:α}(h:mj xs i=Ab v):∃ j,Aa7 i xs.length=Ab j/\xs[j]? = Ab v/\j<xs.length /\ -(xs.length:Ah)<=i/\i<xs.length:=by
 unfold mj at h;cases e:pq xs.length i with
 |none=>rw[e] at h;cases h
 |some j =>
  rw[e] at h;obtain⟨U,Y,J,Q⟩:=iR e;exact⟨j,U,h,Y,J,Q⟩
def lD (b:Cc):Prop:=∀ o i,subscripted b false o i=operate [o,i] (Pb o i)
def wj (X:Cx)(r:R2):Prop:=
 ∀ (J Y:Cc) (aj:aa) (s:Ai) (σ : St) (H:Hp) (x y:V) (v u:Ac) (Q:VK),Inv X aj σ H s->qF x v->qF y u->r x y H Q ->
  subscripted Y false v u=operate [v,u] (Pb v u)->b6 X (Tw J Y v u) (EP X aj σ Q) X.xe s
def yi (X:Cx)(id:Ep)(r:V->Aa V->Hp->VK->Prop):Prop:=
 ∀ (aj:aa) (s:Ai) (σ : St) (H:Hp) (x:V) (J:Aa V) (v:Ac) (Y:ah) (Q:VK),Inv X aj σ H s->qF x v->qJ J Y->r x J H Q ->
  b6 X (call (.builtin id) (v::Y)) (EP X aj σ Q) X.xe s
section
variable {X:Cx}{a b:Cc}{ta tb:TE}{aq:Ez}
theorem wj.or (h:wj X r)(h':wj X G):wj X (λx y H Q=>r x y H Q\/G x y H Q):=by
 intro Y J aj s σ H x y v u Q I N O q U;rcases q with q|q
 .exact h Y J aj s σ H x y v u Q I N O q U
 .exact h' Y J aj s σ H x y v u Q I N O q U
theorem yi.or {id:Ep}{r J:V->Aa V->Hp->VK->Prop}(h:yi X id r)(h':yi X id J):yi X id (λx xs H Q=>r x xs H Q\/J x xs H Q):=by
 intro aj s σ H x xs v Y Q I U rs q;rcases q with q|q
 .exact h aj s σ H x xs v Y Q I U rs q
 .exact h' aj s σ H x xs v Y Q I U rs q
theorem OW (N:wj X r)(G:PE X a ta)(B:PE X b tb)(hs:lD b):PE X (.Subscript a b aq) (_U r ta tb):=by
 intro aj s σ H Q I h;exact Subscript_ (qBB G B I h λv u O x y C U J Y q=>N a b aj O σ C x y v u Q U J Y q (hs _ _))
def qBf (K:Aj):R2:=λx y H Q=>∃ p Y i v,x=.ref p/\y=.int i/\kf K H p Y/\mj Y i=Ab v/\Q v H
def qBg (K:Aj):R2:=λx y H Q=>∃ p Y i v,x=.ref p/\y=.int i/\jl K H p Y/\mj Y i=Ab v/\Q v H
theorem iS:wj X (qBf X.K):=by
 intro G N aj s σ H x y v u Q I A o h C;obtain⟨p,e,i,z,rfl,rfl,g,c,q⟩:=h;cases A;obtain⟨t,rfl⟩:=o;obtain⟨k,r,pl,m⟩:=I.list g;obtain⟨j,J,E,n,T,d⟩:=iC c;obtain⟨w,B,U⟩:=r.get E;have l:=r.length;have f:=bA;have Y:EP X aj σ Q w s:=⟨z,H,I,U,q⟩;by_cases L:0<=i
 .have O:i.toNat=j:=by
   rw[AaI L d] at J;exact Dm J
  exact item_listR pl.isList L li (by rw[O];simpa using B) Y C
 .have O:(i+(k.toArray.size:Ah)).toNat=j:=by
   rw[seqIndex_neg li T] at J;rw[Bm,<- l];exact Dm J
  exact Wb (x:=w) pl.isList.typeIs slot_list_getitem.lookup
   (wpAny_getItem_list_neg (Q:=λr M=>r=w/\EP X aj σ Q r M) pl.isList li (by rw[Bm] <;> lia) li (by rw[O];simpa using B) ⟨rfl,Y⟩) C
theorem SU:wj X (qBg X.K):=by
 intro U G aj s σ H x y v u Q I C E h O;obtain⟨p,f,i,z,rfl,rfl,M,k,q⟩:=h;cases C;obtain⟨t,rfl⟩:=E;obtain⟨c,r,pl,g⟩:=I.tuple M;obtain⟨j,L,N,d,l,m⟩:=iC k;obtain⟨w,T,J⟩:=r.get N;have A:=r.length;have o:=bA;have Y:EP X aj σ Q w s:=⟨z,H,I,J,q⟩;exact Wb (x:=w) pl.typeIs slot_tuple_getitem.lookup
  (getItem_tuple (j:=j) (Q:=λr B=>r=w/\EP X aj σ Q r B) pl li li (by rw[Bm,<- A];exact L) (by simpa using T) ⟨rfl,Y⟩) O
theorem ZG (ap:ah)(n j:Ag)(u:Ac):Fc (·.setIfInBounds j u) { cls:=.type "list",data:=.seq ap.toArray n } = { cls:=.type "list",data:=.seq (ap.set j u).toArray n }:=by
 simp[Fc]
theorem Inv.lst {p:Af}{xs:Aa V}(I:Inv X aj σ H s)(h:H p=Ab (.lst xs)) :
  ∃ (ap:ah) (n:Ag),qJ xs ap/\s.heap.get? p=Ab { cls:=.type "list",data:=.seq ap.toArray n } /\ xs.length<=sizeLine:=by
 obtain⟨z,ap,n,r,e⟩:=I.hok p _ h;exact⟨ap,n,r,e,z⟩
theorem Inv.lstUpd {xs Y:Aa V}{ap jo:ah}{n Q:Ag}{f:Dc->Dc}(I:Inv X aj σ H s)(h:H p=Ab (.lst xs))
  (U:s.heap.get? p=Ab { cls:=.type "list",data:=.seq ap.toArray n }) (J:f { cls:=.type "list",data:=.seq ap.toArray n } = { cls:=.type "list",data:=.seq jo.toArray Q }) (r:qJ Y jo) (hz:Y.length<=sizeLine) (t:Ag) :
  Inv X aj σ (c_ H p (.lst Y)) { s with heap:=s.heap.update p f,toks:=t }:=by
 have e:(s.heap.update p f).get? p=Ab { cls:=.type "list",data:=.seq jo.toArray Q }:=by
  rw[Ev f U (by rw[J] <;> rfl),J]
 refine I.write (x:=p) (e:=p) (by rw[h];trivial) (.inl rfl) (λb u G q=>(Dt _ _ (Fv G)).trans q) ⟨_,e⟩ ?_
 exact⟨hz,jo,Q,r,e⟩
def qAI:V->V->V->Hp->(Hp->Prop)->Prop:=λo i v H Q=>∃ p Y k j,o=.ref p/\i=.int k/\H p=Ab (.lst Y)/\pq Y.length k=Ab j/\Q (c_ H p (.lst (Y.set j v)))
theorem KJ:eB X qAI:=by
 intro aj s σ H o i v c d u Q I A y M h;obtain⟨p,z,k,j,rfl,rfl,T,w,q⟩:=h;cases A;obtain⟨t,rfl⟩:=y;obtain⟨B,n,r,G,E⟩:=I.lst T;obtain⟨Y,g,L,N⟩:=iR w;have U:=r.length;have l:=bA;have O:Inv X aj σ (c_ H p (.lst (z.set j v))) { s with heap:=s.heap.update p (Fc (·.setIfInBounds j u)) }:=
  I.lstUpd T G (ZG B n j u) (r.set M j) (by rw[Wc];exact E) s.toks
 by_cases C:0<=k
 .have J:k.toNat=j:=by
   rw[AaI C N] at Y;exact Dm Y
  exact PySem.W.ki_setAt G C li (by rw[Bm,<- U];exact N) (by rw[J];exact⟨_,O,q⟩)
 .have J:(k+(B.toArray.size:Ah)).toNat=j:=by
   rw[seqIndex_neg li L] at Y;rw[Bm,<- U];exact Dm Y
  exact PySem.W.ki_setBack G li (by rw[Bm,<- U];exact L) li (by rw[J];exact⟨_,O,q⟩)
theorem aE (lo hi:Am Ah)(n:Ag):(Od lo hi none n).1=((_H.cz n 0 lo:Ag):Ah)/\(Od lo hi none n).2.1=((_H.cz n n hi:Ag):Ah)/\(Od lo hi none n).2.2=1:=by
 refine⟨?_,?_,rfl⟩
 .cases lo with
  |none=>simp[Od,_H.cz]
  |some i =>
   simp only[Od,_H.cz,AaJ,show (1:Ah)>0 by decide,Ds]
   by_cases h:i<0
   .simp only[h,Ds] <;> lia
   .simp only[h,Dq] <;> lia
 .cases hi with
  |none=>simp[Od,_H.cz]
  |some i =>
   simp only[Od,_H.cz,AaJ,show (1:Ah)>0 by decide,Ds]
   by_cases h:i<0
   .simp only[h,Ds] <;> lia
   .simp only[h,Dq] <;> lia
theorem rA (ap:ah)(lo hi:Am Ah):slicePick ap.toArray lo hi none=((ap.drop (_H.cz ap.length 0 lo)).take (_H.cz ap.length ap.length hi-_H.cz ap.length 0 lo)).toArray:=by
 obtain⟨Y,Q,J⟩:=aE lo hi ap.toArray.size;unfold slicePick;rw[Y,Q,J];simp only[sliceRange_one,pick_run,Bm] <;> rfl
def qBi (K:Aj):V->Am Ah->Am Ah->Hp->VK->Prop:=λx lo J H Q=>∃ a Y,x=.ref a/\kf K H a Y/\∀ p,H p=none->Q (.ref p) (c_ H p (.lst (pW Y lo J)))
theorem oP:wg X (qBi X.K):=by
 intro aj s σ H x v T A lo U sl Q I C N pl O h;obtain⟨a,Y,rfl,L,q⟩:=h;cases C;obtain⟨E,r,G,B⟩:=I.list L;have J:=r.length;refine⟨"list",_,slot_list_getitem.lookup,G.isList.typeIs,?_⟩;refine wpAny_getItem_list_slice G.isList N pl O .none ba ?_ (by rw[Bm] <;> lia)
 rw[rA,<- J];refine⟨.ref s.heap.objs.size,_,I.laid (t':=s.toks) (o:=.lst (pW Y lo U)) (λb M q=>Ak _ q) (Ax _) ?_,rfl,q _ (I.hok.fresh (Ax _))⟩;exact⟨Cw (mB Y lo U) B,_,0,(r.drop (_H.cz Y.length 0 lo)).take (_H.cz Y.length Y.length U-_H.cz Y.length 0 lo),Bi _ rfl⟩
theorem jU.or {r J:Aa V->Hp->VK->Prop}(h:jU X f r)(h':jU X f J):jU X f (λxs H Q=>r xs H Q\/J xs H Q):=by
 intro aj s σ H xs Y Q I rs q;rcases q with q|q
 .exact h aj s σ H xs Y Q I rs q
 .exact h' aj s σ H xs Y Q I rs q
theorem pT:jU X (.type "list") (λxs H Q=>∃ p N,xs=[.ref p]/\(kf X.K H p N\/jl X.K H p N)/\∀ l,H l=none->Q (.ref l) (c_ H l (.lst N))):=by
 intro aj s σ H xs z Q I r h;obtain⟨p,N,rfl,hq,q⟩:=h;obtain⟨u,rfl,w⟩:=kA r;cases w;have B:∀ (J:ah),qJ N J->N.length<=sizeLine->∀ (Y:By) (G:Ag),(∀ b M,s.heap.get? b=Ab M->Y.get? b=Ab M) ->
   Y.get? s.heap.objs.size=Ab { cls:=.type "list",dict:=none,data:=.seq J.toArray G,slots:=#[] } -> EP X aj σ Q (.ref s.heap.objs.size) { s with heap:=Y }:=λJ U C Y G L e =>
  ⟨.ref s.heap.objs.size,_,I.laid (t':=s.toks) L (Ax _) (show zK X.prog X.w _ Y _ (.lst N) from⟨C,J,G,U,e⟩),rfl,q _ (I.hok.fresh (Ax _))⟩
 rcases hq with hq|hq
 .obtain⟨J,U,pl,C⟩:=I.list hq
  have O:=U.length;obtain⟨o,E,A,n,T⟩:=pl.isList;exact call_list_seq p (.inl rfl) E A T (λY G L e=>B J U C Y G L e) (by simp only[Bm] <;> lia)
 .obtain⟨J,U,pl,C⟩:=I.tuple hq
  have O:=U.length;obtain⟨o,E,A,n,T⟩:=pl;exact call_list_seq p (.inr rfl) E A T (λY G L e=>B J U C Y G L e) (by simp only[Bm] <;> lia)
theorem pP:jU X (.type "tuple") (λxs H Q=>∃ p Y,xs=[.ref p]/\((kf X.K H p Y/\∀ l,H l=none->Q (.ref l) (c_ H l (.tup Y)))\/(jl X.K H p Y/\Q (.ref p) H))):=by
 intro aj s σ H xs A Q I r h;obtain⟨p,Y,rfl,h⟩:=h;obtain⟨u,rfl,L⟩:=kA r;cases L;rcases h with⟨N,q⟩|⟨N,q⟩
 .obtain⟨G,U,pl,C⟩:=I.list N
  have O:=U.length;refine call_tuple_list pl.isList (λJ E=>?_) (by simp only[Bm] <;> lia)
  have B:Inv X aj σ H { s with heap:=J }:=I.kept (t':=s.toks) E
  have T:Inv X aj σ (c_ H J.objs.size (.tup Y)) { s with heap:=J.push { cls:=.type "tuple",data:=.seq G.toArray } }:=
   B.laid (t':=s.toks) (λb o e=>Ak _ e) (Ax _) (show zK X.prog X.w _ _ _ (.tup Y) from⟨C,G,U,Aa3 _ _⟩)
  exact⟨.ref J.objs.size,_,T,rfl,q _ (B.hok.fresh (Ax _))⟩
 .obtain⟨G,U,pl,C⟩:=I.tuple N
  exact call_tuple_same pl ⟨.ref p,H,I,rfl,q⟩
def _i (K:Aj)(T:Ep)(x:V)(H:Hp):Prop:=match x with
 |.str _=>T = "str"
 |.int _=>T = "int"
 |.ref p=>(T = "list" /\ ∃ Y,kf K H p Y)\/(T = "tuple" /\ ∃ o,K.lookup p=Ab o/\o.cls=.type "tuple" /\ o.dict=none) \/
   (T = "dict" /\ ((∃ Q,H p=Ab (.dK Q))\/∃ Q,H p=Ab (.dT Q)))\/(T = "set" /\ ∃ S n,H p=Ab (.set S n))
 |_=>Ex
theorem aL (I:Inv X aj σ H s)(r:qF x v)(ty:_i X.K T x H) :
  s.TypeIs v T/\∀ a,v=.ref a->∃ N,s.heap.get? a=Ab N/\N.dict=none:=by
 cases x with
 |str z =>
  obtain⟨t,rfl⟩:=r;cases (show T = "str" from ty)
  exact⟨typeIs_str s z t,λ_ e=>nomatch e⟩
 |int i =>
  obtain⟨t,rfl⟩:=r;cases (show T = "int" from ty)
  exact⟨typeIs_int s i t,λ_ e=>nomatch e⟩
 |ref p =>
  cases r;rcases ty with⟨rfl,L,O⟩|⟨rfl,o,Q,C,G⟩|⟨rfl,Q⟩|⟨rfl,S,n,Q⟩
  .obtain⟨B,_,pl,_⟩:=I.list O
   refine⟨pl.isList.typeIs,λa e=>?_⟩;cases e;obtain⟨o,n,e,c,G,_⟩:=pl;exact⟨o,e,G⟩
  .refine⟨⟨o,I.kIn p o Q,C⟩,λa e=>?_⟩
   cases e;exact⟨o,I.kIn _ o Q,G⟩
  .have z:∃ o,s.heap.get? p=Ab o/\o.ExactDict:=by
    rcases Q with⟨J,Q⟩|⟨J,Q⟩
    .obtain⟨_,_,_,_,o,_,_,e,Y,_⟩:=I.hok p _ Q
     exact⟨o,e,Y⟩
    .obtain⟨_,_,_,_,o,_,_,e,Y,_⟩:=I.hok p _ Q
     exact⟨o,e,Y⟩
   obtain⟨o,e,Y⟩:=z;refine⟨⟨o,e,Y.1⟩,λa U=>?_⟩;cases U;exact⟨o,e,Y.2.1⟩
  .obtain⟨o,_,_,_,e,Y,_⟩:=I.hok p _ Q
   refine⟨⟨o,e,Y.1⟩,λa U=>?_⟩;cases U;exact⟨o,e,Y.2.1⟩
 |_=>exact Aq ty
variable {e:Cc}
/- xs.append(e),list.index on a module's tuple .. are yi facts of 06m -/
end
end _L
namespace _L
variable {us:ah}
def _E (X:Cx)(id:Ep)(r:V->Aa V->Hp->VK->Prop):Prop:=
 ∀ (J:aa) (s:Ai) (σ : St) (H:Hp) (x:V) (Y:Aa V) (v:Ac) (us:ah) (Q:VK),Inv X J σ H s->qF x v->qJ Y us->r x Y H Q ->
  b6 X (call (.builtin id) (v::us)) (EP X J σ Q) X.xe s
theorem qJ.one {x:V}(h:qJ [x] us):∃ u,us=[u]/\qF x u:=kA h
theorem qJ.two {x y:V}(h:qJ [x,y] us):∃ u v,us=[u,v]/\qF x u/\qF y v:=X3 h
theorem qJ.eraseIdx:∀ {xs:Aa V} {us:ah} (i:Ag),qJ xs us->qJ (xs.eraseIdx i) (us.eraseIdx i)
 |_,_,_,.nil=>.nil
 |_,_,0,.cons _ t=>t
 |_,_,i+1,.cons r t=>.cons r (qJ.eraseIdx i t)
theorem sL {α:Type}:∀ (l:Aa α) (i:Ag),(l.eraseIdx i).length<=l.length
 |[],_=>Ax _
 |_::_,0=>Tk _
 |_::r,i+1=>AaK (sL r i)
section
variable {X:Cx}{aj:aa}{σ: St}{H:Hp}{s:Ai}{l:Af}{xs ys:Aa V}
theorem Inv.lset {ap jo:ah}{n:Ag}{f:Ay Ac->Ay Ac}{t':Ag}(I:Inv X aj σ H s)(J:H l=Ab (.lst xs))
  (e:s.heap.get? l=Ab { cls:=.type "list",data:=.seq ap.toArray n }) (Q:f ap.toArray=jo.toArray) (hv:qJ ys jo) (hz:ys.length<=sizeLine) :
  Inv X aj σ (c_ H l (.lst ys)) { s with heap:=s.heap.update l (Fc f),toks:=t' }:=by
 have q:=AaL e f;rw[Q] at q;refine I.write (x:=l) (e:=l) (by rw[J];exact trivial) (.inl rfl) (λG u U Y=>(Dt s.heap (Fc f) (Fv U)).trans Y) ⟨_,q⟩ ?_
 exact⟨hz,jo,_,hv,q⟩
theorem Inv.lstM (I:Inv X aj σ H s)(Q:H l=Ab (.lst xs)):xs.length<=sizeLine/\∃ (ap:ah) (n:Ag),qJ xs ap/\xs.length=ap.length/\s.heap.get? l=Ab { cls:=.type "list",data:=.seq ap.toArray n }:=by
 obtain⟨z,ap,n,r,e⟩:=I.hok l _ Q;exact⟨z,ap,n,r,r.length,e⟩
end
section
variable {X:Cx}
def TF:V->Aa V->Hp->VK->Prop:=λx J H Q=>∃ l Y y,x=.ref l/\J=[y]/\H l=Ab (.lst Y)/\Y.length<sizeLine/\Q .non (c_ H l (.lst (Y++[y])))
theorem WX:_E X "list.append" TF:=by
 intro T s σ H x C v us Q I U G h;obtain⟨l,B,y,rfl,rfl,J,O,q⟩:=h;cases U;obtain⟨u,rfl,N⟩:=G.one;obtain⟨z,Y,n,r,L,e⟩:=I.lstM J;refine call_meets Zy ⟨_,e,rfl⟩ Yy (Yd _ _) (Aa8 l Y.toArray n u (by rw[Bm];lia)) ⟨e,?_⟩
 refine⟨.non,_,I.lset (jo:=Y++[u]) J e ba (r.append (.cons N .nil)) ?_,rfl,q⟩
 rw[Ca,Mn]
 lia
def C9:V->Aa V->Hp->VK->Prop:=λx J H Q=>∃ l Y i k y,x=.ref l/\J=[.int i]/\H l=Ab (.lst Y) /\ -(2 ^ 63)<=i/\i<2 ^ 63/\Aa7 i Y.length=Ab k/\Y[k]? = Ab y/\Q y (c_ H l (.lst (Y.eraseIdx k)))
theorem JE:_E X "list.pop" C9:=by
 intro o s σ H x j v us Q I O L h;obtain⟨l,T,i,k,y,rfl,rfl,U,C,G,N,B,q⟩:=h;cases O;obtain⟨u,rfl,E⟩:=L.one;obtain⟨t,rfl⟩:=E;obtain⟨z,Y,n,r,A,e⟩:=I.lstM U;obtain⟨w,M,J⟩:=r.get B;refine call_meets F.slot_list_pop ⟨_,e,rfl⟩ F.entry_list_pop (F.args_list_pop_2 _ _)
  (MeetsSeq.list_pop_at l Y.toArray n i t k w (fitsIndex_both C G) (by rw[Bm,<- A];exact N) (by rw[<- Br];exact M) (by rw[Bm];lia)) ⟨e,?_⟩
 refine⟨y,_,I.lset (jo:=Y.eraseIdx k) U e ?_ (r.eraseIdx k) ?_,J,q⟩
 .show Y.toArray.eraseIdxIfInBounds k=(Y.eraseIdx k).toArray
  rw[List.eraseIdxIfInBounds_toArray]
 .have:=sL T k
  lia
end
end _L
namespace _L
variable {xs:Aa (Aa bq × Af × Ac)}{kvs:Aa (Aa bq × V)}{Q:ae}{H':Hp}
section
variable {κ: Type}[Qi κ]
noncomputable def yR (kvs:Aa (κ × V))(k:κ):Am V:=(kvs.find? λY=>decide (Y.1=k)).map (·.2)
noncomputable def vP (kvs:Aa (κ × V))(k:κ)(v:V):Aa (κ × V):=
 if (kvs.any λY=>decide (Y.1=k))=true then kvs.map (λY=>if Y.1=k then (Y.1,v) else Y) else kvs++[(k,v)]
theorem tJ {p:κ × V}{r:Aa (κ × V)}{k:κ}(e:p.1=k):yR (p::r) k=Ab p.2:=by simp[yR,Ff,e]
theorem tI {p:κ × V}{r:Aa (κ × V)}{k:κ}(e:¬ p.1=k):yR (p::r) k=yR r k:=by simp[yR,Ff,e]
theorem aQ (k:κ):∀ kvs:Aa (κ × V),(kvs.any λY=>decide (Y.1=k))=(yR kvs k).isSome
 |[]=>rfl
 |p::r=>by
  rw[Ly];by_cases e:p.1=k
  .simp only[tJ e,Cn e,v4,Zz]
  .rw[tI e,Cq e,Ac3];exact aQ k r
theorem mC (kvs:Aa (κ × V))(k:κ)(v:V):(vP kvs k v).length<=kvs.length+1:=by
 unfold vP
 split
 .rw[Ao];lia
 .rw[Ca,Cb,Io];lia
theorem vV.isSome_eq (r:vV o u):o.isSome=u.isSome:=by
 cases o with
 |none=>cases u with
  |none=>rfl
  |some _=>exact(show Ex from r).elim
 |some _=>cases u with
  |none=>exact(show Ex from r).elim
  |some _=>rfl
theorem vV.getD (r:vV o u)(Y:qF d d'):qF (o.getD d) (u.getD d'):=by
 cases o with
 |none=>cases u with
  |none=>exact Y
  |some _=>exact(show Ex from r).elim
 |some _=>cases u with
  |none=>exact(show Ex from r).elim
  |some _=>exact r
theorem KV.val {kvs:Aa (κ × V)}(r:KV kvs vs)(k:κ):vV (yR kvs k) (Wd vs k):=by
 unfold KV at r
 induction r with
 |nil=>exact Kx
 |@cons p q O Y h t N =>
  obtain⟨U,G⟩:=h;by_cases e:p.1=k
  .have J:q.1=k:=U.symm.trans e
   have b:Wd (q::Y) k=Ab q.2:=by simp[Wd,Ff,J]
   rw[tJ e,b];exact G
  .have J:¬ q.1=k:=λz=>e (U.trans z)
   have b:Wd (q::Y) k=Wd Y k:=by simp[Wd,Ff,J]
   rw[tI e,b];exact N
theorem KV.any {kvs:Aa (κ × V)}(r:KV kvs vs)(k:κ):(kvs.any λY=>decide (Y.1=k))=vs.any λY=>decide (Y.1=k):=by
 unfold KV at r
 induction r with
 |nil=>rfl
 |cons h t J=>rw[Ly,Ly,J,h.1]
theorem KV.repl {kvs:Aa (κ × V)}(r:KV kvs vs)(k:κ){y:V}{u:Ac}(G:qF y u) :
  KV (kvs.map λY=>if Y.1=k then (Y.1,y) else Y) (vs.map λY=>if Y.1=k then (Y.1,u) else Y):=by
 unfold KV at r ⊢
 induction r with
 |nil=>exact .nil
 |@cons p q C O h t N =>
  rw[Cg,Cg];refine .cons ?_ N;obtain⟨J,U⟩:=h;by_cases e:p.1=k
  .rw[Be e,Be (J.symm.trans e)];exact⟨J,G⟩
  .rw[Bc e,Bc (λz=>e (J.trans z))];exact⟨J,U⟩
theorem KV.put {kvs:Aa (κ × V)}(r:KV kvs vs)(k:κ){y:V}{u:Ac}(Y:qF y u):KV (vP kvs k y) (stored vs k u):=by
 unfold vP stored;rw[r.any k];by_cases e:(vs.any λJ=>decide (J.1=k))=true
 .rw[Be e,Be e];exact r.repl k Y
 .rw[Bc e,Bc e];exact Paired.snoc r ⟨rfl,Y⟩
theorem KV.length {kvs:Aa (κ × V)}(r:KV kvs vs):kvs.length=vs.length:=Paired.length r
end
theorem gS {P:Bh}{k:bq}(r:qF (kV k) u):(x9 P w).is k u=true:=by
 cases k with
 |inl i=>obtain⟨t,e⟩:=(show ∃ t,u=Rj i t from r);subst e;exact aZ P w i t
 |inr x=>obtain⟨t,e⟩:=(show ∃ t,u=Aa2 x t from r);subst e;exact i0 P w x t
theorem sJ {P:Bh}:∀ {ks:Aa bq} {us:ah},qJ (ks.map kV) us->ItemsAre (x9 P w) ks us
 |[],_,r=>by rw[u8] at r;cases r;exact .nil
 |k::ks,_,r=>by
  rw[Cg] at r;cases r with
  |cons h t=>exact .cons (gS h) (sJ t)
abbrev KT (H:Hp):Aa (Aa bq × V)->Aa (Aa bq × Af × Ac)->Prop:=Paired λp q=>p.1=q.1/\H q.2.1=Ab (.tup (p.1.map kV))/\qF p.2 q.2.2
theorem KT.val (r:KT H kvs xs)(k:Aa bq):vV (yR kvs k) ((Mp xs k).map (·.2)):=by
 induction r with
 |nil=>exact Kx
 |@cons p q O Y h t G =>
  obtain⟨U,_,N⟩:=h;by_cases e:p.1=k
  .have J:q.1=k:=U.symm.trans e
   have b:Mp (q::Y) k=Ab q.2:=by simp[Mp,Ff,J]
   rw[tJ e,b];exact N
  .have J:¬ q.1=k:=λz=>e (U.trans z)
   have b:Mp (q::Y) k=Mp Y k:=by simp[Mp,Ff,J]
   rw[tI e,b];exact G
theorem KT.repl (r:KT H kvs xs)(k:Aa bq){y:V}{u:Ac}(N:qF y u) :
  KT H (kvs.map λJ=>if J.1=k then (J.1,y) else J) (xs.map (putAt k u)):=by
 induction r with
 |nil=>exact .nil
 |@cons p q B C h t O =>
  rw[Cg,Cg];refine .cons ?_ O;obtain⟨Y,U,G⟩:=h;unfold putAt;by_cases e:p.1=k
  .rw[Be e,Be (Y.symm.trans e)];exact⟨Y,U,N⟩
  .rw[Bc e,Bc (λz=>e (Y.trans z))];exact⟨Y,U,G⟩
theorem KT.put (r:KT H kvs xs)(k:Aa bq){b:Af}{y:V}{u:Ac}(U:H b=Ab (.tup (k.map kV)))(Y:qF y u) :
  KT H (vP kvs k y) (storedH xs k b u):=by
 have e:(kvs.any λJ=>decide (J.1=k))=(Mp xs k).isSome:=by
  rw[aQ,(r.val k).isSome_eq,Tx]
 unfold vP storedH;rw[e];by_cases q:(Mp xs k).isSome=true
 .rw[Be q,Be q];exact r.repl k Y
 .rw[Bc q,Bc q];exact Paired.snoc r ⟨rfl,U,Y⟩
theorem KT.keeps (r:KT H kvs xs)(J:∀ b Y,H b=Ab (.tup Y)->H' b=Ab (.tup Y)):KT H' kvs xs:=
 Paired.mapP r λ_ _ z=>⟨z.1,J _ _ z.2.1,z.2.2⟩
section
variable {P:Bh}{w:Ce}{H:Hp}{h:By}{a:Af}
theorem PP (ok:gx P w H h)(e:Rd H a u):zK P w H h a u:=e.ok ok
theorem tV {kvs:Aa (bq × V)}(ok:gx P w H h)(e:Rd H a (.dK kvs)):kvs.length<=sizeLine/\(a == Hs)=false/\∃ vs,KV kvs vs/\h.DictOf (x9 P w) a vs:=
 show zK P w H h a (.dK kvs) from PP ok e
theorem GM {kvs:Aa (bq × V)}(ok:gx P w H h)(e:H a=Ab (.dK kvs)):kvs.length<=sizeLine/\(a == Hs)=false/\∃ vs,KV kvs vs/\h.DictOf (x9 P w) a vs:=tV ok (.inl e)
theorem uD {ks:Aa bq}(ok:gx P w H h)(e:H a=Ab (.tup (ks.map kV))):(Eo (x9 P w)).is h ks a:=by
 obtain⟨_,J,r,o,U,Y,n,G⟩:=(show zK P w H h a (.tup (ks.map kV)) from ok a _ e)
 exact⟨o,J.toArray,n,U,Y,G,by simpa using sJ r⟩
theorem tW (ok:gx P w H h)(e:Rd H a (.dT kvs)):kvs.length<=sizeLine/\(a == Hs)=false /\
  ∃ xs,KT H kvs xs/\h.DictOfH (Eo (x9 P w)) a xs:=by
 obtain⟨z,y,xs,r,o,C,N,O,G,B,U,T⟩:=(show zK P w H h a (.dT kvs) from PP ok e)
 refine⟨z,y,xs,r,o,C,N,O,G,B,U,λx hx=>?_,T⟩;have Y:∀ {l:Aa (Aa bq × V)} {m:Aa (Aa bq × Af × Ac)},KT H l m->∀ x∈m,(Eo (x9 P w)).is h x.1 x.2.1:=by
  intro l m q
  induction q with
  |nil=>intro x hx;exact nomatch hx
  |@cons p q I E J t L =>
   intro x hx;rcases Az.mp hx with e|hx
   .subst e
    exact uD ok (by rw[<- J.1];exact J.2.1)
   .exact L x hx
 exact Y r x hx
theorem IA (ok:gx P w H h)(e:H a=Ab (.dT kvs)):kvs.length<=sizeLine/\(a == Hs)=false /\
  ∃ xs,KT H kvs xs/\h.DictOfH (Eo (x9 P w)) a xs:=tW ok (.inl e)
end
def j7 (H:Hp)(a:Af)(y:V)(r:Am V):Prop:=
 (∃ kvs k,Rd H a (.dK kvs)/\y=kV k/\r=yR kvs k)\/∃ kvs k b,Rd H a (.dT kvs)/\y=.ref b/\H b=Ab (.tup (k.map kV))/\r=yR kvs k
def lC (H:Hp)(a:Af)(y v:V)(H':Hp):Prop:=
 (∃ kvs k,H a=Ab (.dK kvs)/\y=kV k/\kvs.length<sizeLine/\H'=c_ H a (.dK (vP kvs k v))) \/
 ∃ kvs k b,H a=Ab (.dT kvs)/\y=.ref b/\H b=Ab (.tup (k.map kV))/\kvs.length<sizeLine/\H'=c_ H a (.dT (vP kvs k v))
theorem j7.k {H:Hp}{a:Af}{kvs:Aa (bq × V)}{k:bq}(e:H a=Ab (.dK kvs)):j7 H a (kV k) (yR kvs k):=.inl ⟨kvs,k,.inl e,rfl,rfl⟩
theorem j7.t {H:Hp}{a b:Af}{k:Aa bq}(e:H a=Ab (.dT kvs))(Y:H b=Ab (.tup (k.map kV))):j7 H a (.ref b) (yR kvs k):=.inr ⟨kvs,k,b,.inl e,rfl,Y,rfl⟩
theorem lC.k {H:Hp}{a:Af}{kvs:Aa (bq × V)}{k:bq}(e:H a=Ab (.dK kvs))(Y:kvs.length<sizeLine):lC H a (kV k) v (c_ H a (.dK (vP kvs k v))):=.inl ⟨kvs,k,e,rfl,Y,rfl⟩
theorem lC.t {H:Hp}{a b:Af}{k:Aa bq}{v:V}(e:H a=Ab (.dT kvs))(Y:H b=Ab (.tup (k.map kV)))(J:kvs.length<sizeLine) :
  lC H a (.ref b) v (c_ H a (.dT (vP kvs k v))):=.inr ⟨kvs,k,b,e,rfl,Y,J,rfl⟩
section
variable {X:Cx}{aj:aa}{σ: St}{H:Hp}{s:Ai}{a:Af}{y v:V}{u r:Ac}{o:Am V}{A:Bw}{E:ae}
theorem Inv.big (I:Inv X aj σ H s):Hs<s.heap.objs.size:=by
 have h:Dr<s.heap.objs.size:=(I.mod.glob.keeps I.bk).lt;exact Hx bb h
theorem XR (T:A.units+1<Ed)(I:Inv X aj σ H s)(g:j7 H a y (Ab v))(B:qF y u)(h:∀ U s',Inv X aj σ H s'->qF v U->Q U s') :
  Ar (Av X.prog X.w) A (Pb (.ref a) u) Q E s:=by
 rcases g with⟨kvs,k,e,G,l⟩|⟨kvs,k,b,e,G,j,l⟩
 .subst G
  obtain⟨z,M,w,Y,C⟩:=tV I.hok e;obtain⟨U,O,J⟩:=vV.some_of (v:=v) (o:=Wd w k) (by rw[l];exact Y.val k)
  exact wpAny_getItem_of (gS B) C.mapOf O (h U _ (I.tok _) J)
 .subst G
  cases (show u=De b from B)
  obtain⟨z,M,xs,Y,C⟩:=tW I.hok e;obtain⟨U,O,J⟩:=vV.some_of (v:=v) (o:=(Mp xs k).map (·.2)) (by rw[l];exact Y.val k)
  obtain⟨p,L,N⟩:=Fx.mp O;refine wpAny_getItem_heap (Ou T) (uD I.hok j) C L ?_;rw[N];exact h U _ (I.tok _) J
theorem qBH (O:A.units+1<Ed)(I:Inv X aj σ H s)(g:j7 H a y o)(N:qF y u)(h:∀ s',Inv X aj σ H s'->Q (.bool o.isSome) s') :
  Ar (Av X.prog X.w) A (Df .In u (.ref a)) Q E s:=by
 rcases g with⟨kvs,k,e,J,l⟩|⟨kvs,k,b,e,J,C,l⟩
 .subst J
  obtain⟨z,U,B,Y,G⟩:=tV I.hok e;refine wpAny_in_of (gS N) U G.mapOf ?_;rw[<- (Y.val k).isSome_eq,<- l];exact h _ (I.tok _)
 .subst J
  cases (show u=De b from N)
  obtain⟨z,U,xs,Y,G⟩:=tW I.hok e;refine wpAny_in_heap (Ou O) (uD I.hok C) U G ?_;have q:=(Y.val k).isSome_eq;rw[Tx] at q;rw[<- q,<- l];exact h _ (I.tok _)
theorem iI {t':Ag}(I:Inv X aj σ H s)(U:yh (H a))(hs:Gg a s.heap h')(N:∃ q,h'.get? a=Ab q)(Y:zK X.prog X.w (c_ H a J) h' a J) :
  Inv X aj σ (c_ H a J) { s with heap:=h',toks:=t' }:=
 I.write (x:=a) (e:=a) U (.inl rfl) (λb q G z=>(hs.2 b G).trans z) N Y
theorem D9 {P:Bh}{h':By}{kvs:Aa (bq × V)}(z:kvs.length<=sizeLine)(J:(a == Hs)=false)(Y:KV kvs vs)(U:h'.DictOf (x9 P w) a vs) :
  zK P w H' h' a (.dK kvs):=⟨z,J,vs,Y,U⟩
theorem XS {Q:Vx->Ai->Prop}(i:A.units+1<Ed)(I:Inv X aj σ H s)(g:lC H a y v H')(p:qF y u)(j:qF v r)(h:∀ s',Inv X aj σ H' s'->Q () s') :
  Ar (Av X.prog X.w) A (setItem (.ref a) u r) Q E s:=by
 rcases g with⟨kvs,k,e,G,l,C⟩|⟨kvs,k,b,e,G,M,l,C⟩
 .subst G C
  obtain⟨z,T,x,Y,N⟩:=GM I.hok e;have B:x.length<=sizeLine:=by rw[<- Y.length];exact z
  have L:(vP kvs k v).length<=sizeLine:=by have:=mC kvs k v;lia
  refine wpAny_setItem_pairs (hsz:=B) (gS p) N λw J O=>h _ ?_;have n:∃ q,w.get? a=Ab q:=let ⟨q,_,_,U,_⟩:=J;⟨q,U⟩
  exact iI I (by rw[e];exact Kx) O n (D9 L T (Y.put k j) J)
 .subst G C
  cases (show u=De b from p)
  obtain⟨z,T,xs,Y,N⟩:=IA I.hok e;have B:xs.length<=sizeLine:=by rw[<- Paired.length Y];exact z
  have L:(vP kvs k v).length<=sizeLine:=by have:=mC kvs k v;lia
  refine wpAny_setItem_heap (hsz:=B) (Ou i) (uD I.hok M) N λw J O=>h _ ?_;obtain⟨q,es,m,U,t,h3,f,_,h5⟩:=J;refine iI I (by rw[e];exact Kx) O ⟨q,U⟩ ⟨L,T,_,(Y.put k M j).keeps λc ys d=>?_,q,es,m,U,t,h3,f,h5⟩
  rw[qR (O8 d e (λz=>nomatch z))];exact d
end
def VE (i:Cc):Prop:=∀ Y J,subscripted i false Y J=operate [Y,J] (Pb Y J)
theorem N3 {prog:Bh}{w:Ce}{A:Bw}{E:ae}{s:Ai}{ak:Ko}{J Y:Cc}{H:Ez}{T id:Ep}
  (M:typeLookup (.type T) "__getitem__" = pure (Ab (.builtin id))) (hs:VE Y)
  (h:Ar (Av prog w) A (eval J ak) (λo N=>Ar (Av prog w) A (eval Y ak) (λi U=>U.TypeIs o T/\Ar (Av prog w) A (Pb o i) Q E U) E N) E s) :
  Ar (Av prog w) A (eval (.Subscript J Y H) ak) Q E s:=by
 refine Subscript_ (Ht h (λo N L=>Ht L (λi U G=>?_) λ_ _ x=>x) λ_ _ x=>x);obtain⟨I,G⟩:=G;unfold Tw;refine Ad ?_;rw[getitemInPython_of_ne I.not_modules];refine Ad (We I M ?_);have C:Ar (Av prog w) A (subscripted Y false o i) (λr O=>Ar (Av prog w) A (letTemporaryGo J o r >>= λ_=>pure r) Q E O) E U:=by
  rw[hs o i];exact wpAny_operating (Ht G (λr O B=>Ad (wpAny_letTemporaryGo (An B))) λ_ _ x=>x)
 first
  |exact An (Ad C)
  |exact Ad (An (Ad C))
  |exact Ad C
theorem aX {X:Cx}{σ:St}{a:Af}(I:Inv X aj σ H s)(g:j7 H a y o):s.TypeIs (.ref a) "dict":=by
 rcases g with⟨kvs,k,e,_,_⟩|⟨kvs,k,b,e,_,_,_⟩
 .obtain⟨_,_,J,_,Y⟩:=tV I.hok e
  exact Y.typeIs
 .obtain⟨_,_,xs,_,Y⟩:=tW I.hok e
  exact Y.typeIs
theorem UB {P:Bh}(h:By)(Y:Hs<h.objs.size):zK P w H (h.push { cls:=.type "dict",data:=.dict #[] }) h.objs.size (.dK []):=
 ⟨Fk _,Sc.mpr (Fv (Cu Y)),[],.nil,Heap.DictOf.new h⟩
def CL:TE:=λ_ H Q=>∀ p,H p=none->Q (.ref p) (c_ H p (.dK []))
section
variable {X:Cx}{aq:Ez}
theorem JO:PE X (.Dict [] [] aq) CL:=λY s σ H Q I h =>
 wpAny_Dict_empty ⟨.ref s.heap.objs.size,_,I.laid (a:=s.heap.objs.size) (o:=.dK []) (t':=s.toks) (λ_ _ q=>Ak _ q) (Ax _) (UB s.heap I.big),rfl,h _ (I.hok.fresh (Ax _))⟩
end
section
variable {X:Cx}{aj:aa}{σ: St}{H:Hp}{s:Ai}{a:Af}{y d:V}{u r:Ac}{o:Am V}{A:Bw}{E:ae}
theorem LP (B:A.units+1<Ed)(I:Inv X aj σ H s)(g:j7 H a y o)(N:qF y u)(O:qF d r)(h:∀ C s',Inv X aj σ H s'->qF (o.getD d) C->Q C s') :
  Ar (Av X.prog X.w) A (call (.builtin "dict.get") [.ref a,u,r]) Q E s:=by
 rcases g with⟨kvs,k,e,U,l⟩|⟨kvs,k,b,e,U,L,l⟩
 .subst U
  obtain⟨z,G,T,Y,J⟩:=tV I.hok e;refine Sa Mq J.typeIs Wf (Vk _ _ _) (meets_dict_get_default (x9 X.prog X.w) a (gS N) G r) ⟨_,J.mapOf,h _ _ (I.tok _) ?_⟩;rw[l];exact(Y.val k).getD O
 .subst U
  cases (show u=De b from N)
  obtain⟨z,G,xs,Y,J⟩:=tW I.hok e;refine Sa Mq J.typeIs Wf (Vk _ _ _) (meetsH_dict_get_default (Eo (x9 X.prog X.w)) a b G r) ⟨Ou B,k,xs,uD I.hok L,J,h _ _ (I.tok _) ?_⟩;rw[l];exact(Y.val k).getD O
end
end _L
namespace _A
open PySem.W PySem.Calls
theorem n6 {P:Params}:∀ (Q:Aa Ah) (vs:ah),WellAll P h vs (Q.map WData.int)->Lx vs Q:=by
 intro Q
 induction Q with
 |nil =>
  intro vs w;rw[u8] at w;cases w;exact .nil
 |cons n Q Y =>
  intro vs w;rw[Cg] at w;cases w with
  |cons a b =>
   cases a;exact .cons _ _ (Y _ b)
theorem YU {l:OpenLaw}(T:l.most=Ab n){P:Params}{h:By}{args:Aa WData}{J:ah}
  (Y:l.row.toRowW.claim.pre args=true) (C:WellAll P h J args) :
  ∃ a vs Q,J=[De a]/\args=[WData.list (Q.map WData.int)]/\h.get? a=Ab { cls:=.type "list",data:=.seq vs.toArray } /\ Lx vs Q/\Q.length<=n:=by
 have B:WShape.hasAll [] args [.list .int]=true:=(pre_splitW Y).1;have L:l.pre.holds [] { args:=args } = true:=(pre_splitW Y).2;obtain⟨d,r,rfl,A,I⟩:=hasAllW_cons B;obtain rfl:=hasAllW_nil I;obtain⟨j,rfl,M⟩:=hasW_list A;obtain⟨Q,rfl⟩:=items_int M;have U:Q.length<=n:=by
  unfold OpenLaw.pre at L;have N:(WTm.not (.lt (.lit (.int (n:Ah))) (.len (.arg 0)))).holds [] { args:=[.list (Q.map .int)] } = true:=by
   have N:=(holds_andW L).1;rw[T] at N;exact N
  have O:=condW_of N (w_not (w_lt w_lit (w_len_list (w_arg rfl))));rw[Ao] at O;refine AaM λq=>?_;have H:(n:Ah)<((Q.length:Ag):Ah):=by lia
  first
   |(rw[Cn H] at O;exact absurd O bb)
   |(simp at O;lia)
 cases C with
 |cons E w =>
  cases w;cases E with
  |list z G=>exact⟨_,_,Q,rfl,rfl,z,n6 Q _ G,U⟩
theorem YC (l:OpenLaw)(args:Aa WData):l.row.toRowW.claim.post args (.bool true) args=true:=
 postW_of (r:=l.row.toRowW) (X:=(true == true))
  (show WShape.has [] (.bool true) .bool=true by first|rfl|decide|simp[WShape.has,WShape.arms,WShape.armsAll])
  (show (WTm.eq .res (.lit (.bool true))).value [] { args:=args,res:=Ab (.bool true),after:=args } = Ab (.bool (true == true)) from w_eq_bool (w_res rfl) w_lit) rfl
theorem oh {l:OpenLaw}{n:Ag}{q:Bh}{v:Aa Aw}{t:(Aw->Am Ac)->By->Prop}{c:Ce->By->Prop}{d:DefRec}
  (m:l.most=Ab n) (A:d.params.defaults=[])
  (call:∀ (w:Ce) (J Q:Ai) (I H:ai) (C:Af) (o:Dc) (j E N:Ac) (a:Af) (vs:ah) (T:Aa Ah),
   Ground q v [] t w J I H Q.heap->c w Q.heap ->
   Q.heap.get? C=Ab o->o.data=.func (docDef d.name d.params d.body d.scope j E N)->Q.heap.CodeRec E d.name->I d.name=Ab (.ref C) ->
   Q.heap.get? a=Ab { cls:=.type "list",data:=.seq vs.toArray } -> Lx vs T->T.length<=n->Q.gens=#[] ->
   Kg (Av l.prog w) Tz (.call (.ref C) ⟨[.ref a],[]⟩) (λr s'=>r=.ok (.ret (.bool true))/\OldK Q.heap s'.heap/\s'.os=Q.os/\Qj s'.gens) Q) :
  WalkO q v t c l.row.toRowW d [] (λf vs=>AbO f vs):=by
 intro w J Q I H G Y C o j E N dV kV ho hd z k y hg u g as B p h M s;obtain rfl:dV=.none:=Dflts.none k A;obtain rfl:kV=.none:=Dflts.noKw k;obtain⟨a,vs,T,rfl,rfl,L,U,O⟩:=YU m B M;refine enter_call (Nd (call w J Q I H C o j E N a vs T G Y ho (fd_plain hd) z y L U O hg) λr s' hq=>?_);obtain⟨rfl,i,x,e⟩:=hq;exact⟨.inl ⟨.bool true,.bool true,[],rfl,λ_=>rfl,.bool true,YC l _,λ_=>⟨Mr,λ_ b=>(nomatch b)⟩⟩,i,x,e⟩
end _A
namespace _L
theorem V4 (h:Lx vs Q):qJ (Q.map V.int) vs:=by
 induction h with
 |nil=>exact .nil
 |cons n t h Y=>exact .cons ⟨t,rfl⟩ Y
def qu (K:Aj)(H:Hp)(a:Af)(xs:Aa V):Prop:=
 Rd H a (.lst xs)\/∃ (Q:ah) (n:Ag),K.lookup a=Ab { cls:=.type "list",data:=.seq Q.toArray n } /\ xs.length<=sizeLine/\qJ xs Q
theorem qu.l {K:Aj}{a:Af}(h:qu K H a xs):kf K H a xs:=by
 rcases h with h|⟨Q,n,e,l,v⟩
 .exact .inl h
 .exact .inr ⟨_,Q.toArray,n,e,rfl,rfl,rfl,by rw[Bm,<- v.length];exact l,by simpa using v⟩
end _L
namespace _L
variable {ps:Aa Aw}{f:Af}{x bg:Aw}{H:Hp}
noncomputable def yL (s:Fz):Wv:=match s with
 |.FunctionDef _ a _ _ _ _ _ _ _ _=>a
 |_=>{ posonlyargs:=[],args:=[],vararg:=none,kwonlyargs:=[],kw_defaults:=[],kwarg:=none,defaults:=[] }
def zZ (s:Fz):Aa Fz:=match s with
 |.FunctionDef _ _ b _ _ _ _ _ _ _=>b
 |_=>[]
def qK (s:Fz):Eu:=match s with
 |.FunctionDef _ _ _ _ _ _ Q _ _ _=>Q
 |_=>{ kind:=.function,names:=[],isGenerator:=false,isCoroutine:=false }
abbrev _N:vm:=λ_ _ _ _ _ _=>Ex
structure vj (K:Aj)(x qual:Aw)(st:Fz)(f:Af)(fd:Fw):Prop where
 ex:∃ (oc:Ac) (od:Am Af) (kV doc pm:Ac) (an:Am Af) (cdv ct:Ac) (osl:Ay (Am Ac)),
  fd=Gv x qual (yL st) (zZ st) (qK st) .none kV doc pm an cdv ct/\K.lookup f=Ab ⟨oc,od,.func fd,osl⟩/\Mz K cdv qual=true
 kp:Gw K (.ref f)=true
section
variable {P:Bh}{w:Ce}{K:Aj}{mg:ai}{base:By}
theorem vj.ok {st:Fz}{k:Ag}{sp:Sp}(F:vj K x bg st f fd)(S:dc N ps (qK st))(G:∀ vs H Q E,sp vs H Q E->vs.length=ps.length)
  (J:∀ (Y:Ac) (A:Bw) (U:Aa Ko) (s:Ai) (H:Hp) (vs:Aa V) (Q:VK) (E:XK),jx k (A.deeper (Hg bg (qK st) s.heap.objs.size f Y))->sp vs H Q E ->
   ∃ t,jm (lH _N P w K mg base N bg (qK st) f Y A U s H E).nox (zZ st) t/\t { nx:=λ_ T=>Q .non T,rt:=Q } (w9 N vs) H):ot P w K mg base _N (k+1) f fd ps sp:=by
 obtain⟨z,j,kV,I,u,M,Y,y,L,rfl,lk,O⟩:=F.ex;refine IG lk O S G λA U s H vs Q E B C=>?_;obtain⟨t,h,q⟩:=J Y A U s H vs Q E B C;exact⟨t,h.nox,q⟩
theorem vj.binds {st:Fz}(F:vj K x bg st f fd)
  (h:∀ (kV Y G:Ac) (J:Am Af) (Q U:Ac) (us:ah),us.length=ps.length->AbD (Gv x bg (yL st) (zZ st) (qK st) .none kV Y G J Q U) ⟨us,[]⟩=pure (ps.zip us)):uR K fd ps []:=by
 obtain⟨C,B,kV,Y,G,J,Q,U,N,rfl,lk,O⟩:=F.ex;exact .all (h kV Y G J Q U)
theorem SH {st:Fz}{O:Ac}{C G:Am Af}{J:Ay (Am Ac)}{kV Y U Q N:Ac}(l:K.lookup f=Ab ⟨O,C,.func (Gv x bg (yL st) (zZ st) (qK st) .none kV Y U G Q N),J⟩)
  (c:Mz K Q bg=true) (k:Gw K (.ref f)=true):vj K x bg st f (Gv x bg (yL st) (zZ st) (qK st) .none kV Y U G Q N):=⟨⟨O,C,kV,Y,U,G,Q,N,J,rfl,l,c⟩,k⟩
end
def qE (H Q:Hp):Prop:=∀ b o,H b=Ab o->Q b=Ab o
theorem qE.refl (H:Hp):qE H H:=λ_ _ h=>h
theorem qE.trans (a:qE H Y)(b:qE Y Q):qE H Q:=λc o h=>b c o (a c o h)
theorem qE.free (e:qE H Q){l:Af}(h:Q l=AcK):H l=AcK:=by
 cases q:H l with
 |none=>rfl
 |some o =>
  rw[e l o q] at h;cases h
theorem qE.seq {K:Aj}{a:Af}(e:qE H Q)(h:kf K H a xs):kf K Q a xs:=by
 rcases h with (h|⟨o,h⟩)|h
 .exact .inl (.inl (e _ _ h))
 .exact .inl (.inr ⟨o,e _ _ h⟩)
 .exact .inr h
end _L
end
section
namespace _D
open _L
inductive D where
 |non|bl (b:As)|int (i:Ah)|str (x:Aw)|ty (n:Ep)|obj (a:Af)|tup (xs:Aa D)|lst (xs:Aa D)|dct0|loc (i:Ag)|exn (c:Ac)|fd (ks:Aa bq) (ds:Aa D)|clo (a:Af) (vs:Aa V) (ds:Aa D)
def qBK (a:Af)(c:Ac):HO:=.ext λh=>∃ Q,h.get? a=Ab Q/\Q.cls=c
inductive MO where
 |dead|lst (xs:Aa D)|dct (kvs:Aa (bq × D))|dcT (kvs:Aa (Aa Ah × D))|ins (C:Af) (fs:Aa (Aw × D))
abbrev ao:=Aa MO
inductive az (β : Type) where
 |ok (d:β) (S:ao)|ex (c:Ac) (x:D) (S:ao)|bad
@[inline] noncomputable def az.bind {β γ:Type}(r:az β)(f:β->ao->az γ) : az γ:=
 match r with
 |.ok d S=>f d S
 |.ex c x S=>.ex c x S
 |.bad=>.bad
theorem az.bind_ok {β γ:Type}(d:β)(S:ao)(f:β->ao->az γ) : (az.ok d S).bind f=f d S:=rfl
section
variable (K:Aj)(P:Hp)(α: Aa Af)
mutual
def av:D->V->Prop
 |.non,v=>v=.non
 |.bl b,v=>v=.bl b
 |.int i,v=>v=.int i
 |.str x,v=>v=.str x
 |.ty n,v=>v=.ty n
 |.obj a,v=>v=.ref a/\Gw K (.ref a)=true
 |.tup Y,v=>∃ a Q,v=.ref a/\jl K P a Q/\qD Y Q
 |.lst Y,v=>∃ a Q,v=.ref a/\qu K P a Q/\qD Y Q
 |.dct0,v=>∃ a,v=.ref a/\P a=Ab (.dK [])
 |.loc i,v=>∃ a,v=.ref a/\α[i]? = Ab a
 |.exn c,v=>∃ a,v=.ref a/\P a=Ab (qBK a c)
 |.fd J Y,v=>∃ a o Q,v=.ref a/\P a=Ab (.frz o (.dK (J.zip Q)))/\J.length=Q.length/\qD Y Q
 |.clo a Q Y,v=>v=.ref a/\qD Y Q
def qD:Aa D->Aa V->Prop
 |[],Q=>Q=[]
 |d::J,Q=>∃ w Y,Q=w::Y/\av d w/\qD J Y
end
end
section
variable {K:Aj}{P P':Hp}{α α':ag}
theorem wB (e:qE P P'){a:Af}{xs:Aa V}(h:jl K P a xs):jl K P' a xs:=by
 rcases h with (h|⟨o,h⟩)|h
 .exact .inl (.inl (e _ _ h))
 .exact .inl (.inr ⟨o,e _ _ h⟩)
 .exact .inr h
theorem oH (e:qE P P'){a:Af}{u:HO}(h:Rd P a u):Rd P' a u:=by
 rcases h with h|⟨o,h⟩
 .exact .inl (e _ _ h)
 .exact .inr ⟨o,e _ _ h⟩
theorem xO (e:qE P P'){a:Af}{xs:Aa V}(h:qu K P a xs):qu K P' a xs:=by
 rcases h with h|h
 .exact .inl (oH e h)
 .exact .inr h
theorem fN {i:Ag}{a:Af}(h:α<+:α')(e:α[i]? = Ab a):α'[i]? = Ab a:=by
 obtain⟨r,rfl⟩:=h;rw[Bn (Ba.mp e).1];exact e
mutual
theorem av.mono (e:qE P P')(h:α<+:α'):∀ (d:D) (v:V),av K P α d v->av K P' α' d v
 |.non,_,r=>by simpa only [av] using r
 |.bl _,_,r=>by simpa only [av] using r
 |.int _,_,r=>by simpa only [av] using r
 |.str _,_,r=>by simpa only [av] using r
 |.ty _,_,r=>by simpa only [av] using r
 |.obj _,_,r=>by simpa only [av] using r
 |.tup Y,v,r=>by
  simp only[av] at r ⊢;obtain⟨a,Q,rfl,q,t⟩:=r;exact⟨a,Q,rfl,wB e q,qD.mono e h Y Q t⟩
 |.lst Y,v,r=>by
  simp only[av] at r ⊢;obtain⟨a,Q,rfl,q,t⟩:=r;exact⟨a,Q,rfl,xO e q,qD.mono e h Y Q t⟩
 |.dct0,v,r=>by
  simp only[av] at r ⊢;obtain⟨a,rfl,q⟩:=r;exact⟨a,rfl,e _ _ q⟩
 |.loc i,v,r=>by
  simp only[av] at r ⊢;obtain⟨a,rfl,q⟩:=r;exact⟨a,rfl,fN h q⟩
 |.exn c,v,r=>by
  simp only[av] at r ⊢;obtain⟨a,rfl,q⟩:=r;exact⟨a,rfl,e _ _ q⟩
 |.fd U Y,v,r=>by
  simp only[av] at r ⊢;obtain⟨a,o,Q,rfl,q,J,t⟩:=r;exact⟨a,o,Q,rfl,e _ _ q,J,qD.mono e h Y Q t⟩
 |.clo a Q Y,v,r=>by
  simp only[av] at r ⊢;exact⟨r.1,qD.mono e h Y Q r.2⟩
theorem qD.mono (e:qE P P')(h:α<+:α'):∀ (ds:Aa D) (vs:Aa V),qD K P α ds vs->qD K P' α' ds vs
 |[],vs,r=>by simpa only [qD] using r
 |d::ds,vs,r=>by
  simp only[qD] at r ⊢;obtain⟨w,Q,rfl,J,Y⟩:=r;exact⟨w,Q,rfl,av.mono e h d w J,qD.mono e h ds Q Y⟩
end
theorem qD.nil:qD K P α [] []:=by simp only[qD]
theorem qD.cons {d:D}{v:V}{ds:Aa D}{vs:Aa V}(r:av K P α d v)(t:qD K P α ds vs):qD K P α (d::ds) (v::vs):=by
 simp only[qD];exact⟨v,vs,rfl,r,t⟩
theorem qD.nil_inv {vs:Aa V}(r:qD K P α [] vs):vs=[]:=by simpa only [qD] using r
theorem qD.cons_inv {d:D}{ds:Aa D}(r:qD K P α (d::ds) vs):∃ w Q,vs=w::Q/\av K P α d w/\qD K P α ds Q:=by simpa only [qD] using r
theorem qD.length:∀ {ds:Aa D} {vs:Aa V},qD K P α ds vs->ds.length=vs.length
 |[],vs,r=>by rw[r.nil_inv];rfl
 |d::ds,vs,r=>by
  obtain⟨w,Q,rfl,_,t⟩:=r.cons_inv;rw[Cb,Cb,t.length]
theorem qD.append:∀ {ds es:Aa D} {vs Q:Aa V},qD K P α ds vs->qD K P α es Q->qD K P α (ds++es) (vs++Q)
 |[],es,vs,Q,r,t=>by rw[r.nil_inv];exact t
 |d::ds,es,vs,Q,r,t=>by
  obtain⟨w,U,rfl,J,Y⟩:=r.cons_inv;exact .cons J (Y.append t)
theorem qD.get:∀ {ds:Aa D} {vs:Aa V} {i:Ag} {d:D},qD K P α ds vs->ds[i]? = Ab d->∃ v,vs[i]? = Ab v/\av K P α d v
 |[],_,_,_,_,e=>by simp at e
 |d::ds,vs,i,J,r,e=>by
  obtain⟨w,N,rfl,G,U⟩:=r.cons_inv;cases i with
  |zero=>simp at e;subst e;exact⟨w,rfl,G⟩
  |succ i =>
   obtain⟨v,Y,Q⟩:=U.get (i:=i) (d:=J) (by simpa using e)
   exact⟨v,by simpa using Y,Q⟩
theorem qD.drop:∀ {ds:Aa D} {vs:Aa V} (n:Ag),qD K P α ds vs->qD K P α (ds.drop n) (vs.drop n)
 |ds,vs,0,r=>by simpa using r
 |[],vs,n+1,r=>by rw[r.nil_inv];exact .nil
 |d::ds,vs,n+1,r=>by
  obtain⟨w,Y,rfl,_,Q⟩:=r.cons_inv;simpa using Q.drop n
theorem qD.take:∀ {ds:Aa D} {vs:Aa V} (n:Ag),qD K P α ds vs->qD K P α (ds.take n) (vs.take n)
 |ds,vs,0,r=>by simpa using qD.nil
 |[],vs,n+1,r=>by rw[r.nil_inv];exact .nil
 |d::ds,vs,n+1,r=>by
  obtain⟨w,J,rfl,Y,Q⟩:=r.cons_inv;simpa using qD.cons Y (Q.take n)
theorem qD.set (q:av K P α d v):∀ {ds:Aa D} {vs:Aa V} (n:Ag),qD K P α ds vs->qD K P α (ds.set n d) (vs.set n v)
 |[],vs,n,r=>by rw[r.nil_inv];exact .nil
 |e::ds,vs,0,r=>by
  obtain⟨w,J,rfl,Y,Q⟩:=r.cons_inv;exact .cons q Q
 |e::ds,vs,n+1,r=>by
  obtain⟨w,J,rfl,Y,Q⟩:=r.cons_inv;exact .cons Y (Q.set q n)
end
abbrev qB:=Aa (Am D)
def zI (K:Aj)(P:Hp)(α : Aa Af)(σ : _L.St)(ak:qB):Prop:=ak.length=σ.length/\∀ (i:Ag) (d:D),ak[i]? = Ab (Ab d)->∃ v,σ[i]? = Ab (Ab v)/\av K P α d v
def ol (K:Aj)(P:Hp)(α : Aa Af){κ : Type}:Aa (κ × D)->Aa (κ × V)->Prop:=Paired λ(p:κ × D) (q:κ × V)=>p.1=q.1/\av K P α p.2 q.2
def Z5 (Q:Aa Ah):Ah:=reduceHash (Builtin.Tuple.tupleHashOf (Q.map hashInt))
def rY (a:Af)(xs:Aa (Aa Ah × Af × V))(h:By):Prop:=∃ Y:Aa (Aa Ah × Af × Ac),Paired (λ(p:Aa Ah × Af × V) (q:Aa Ah × Af × Ac)=>p.1=q.1/\p.2.1=q.2.1/\qF p.2.2 q.2.2) xs Y /\
 ∃ o Q J,h.get? a=Ab o/\o.ExactDict/\o.data=.dict Q J/\Q.toList=Y.map λx=>⟨Z5 x.1,.ref x.2.1,x.2.2⟩
abbrev wc (a:Af)(xs:Aa (Aa Ah × Af × V)):HO:=.ext (rY a xs)
def vk (K:Aj)(P:Hp)(α : Aa Af):Aa (Aa Ah × D)->Aa (Aa Ah × Af × V)->Prop:=Paired λ(p:Aa Ah × D) (q:Aa Ah × Af × V)=>p.1=q.1/\jl K P q.2.1 (q.1.map V.int)/\av K P α p.2 q.2.2
def u_ (K:Aj)(H P:Hp)(α : Aa Af)(a:Af):MO->Prop
 |.dead=>Re
 |.lst U=>∃ Q,H a=Ab (.lst Q)/\qD K P α U Q
 |.dct Y=>∃ Q,H a=Ab (.dK Q)/\ol K P α Y Q
 |.dcT Y=>∃ J,H a=Ab (wc a J)/\(a == Hs)=false/\J.length<=sizeLine/\(J.map (·.1)).Nodup/\vk K P α Y J
 |.ins C G=>∃ N Q,H a=Ab (.ins C N Q)/\ol K P α G Q
inductive ya (x:Aw)(H P:Hp)(α : Aa Af)(T:Af):Prop
 |mk (ps:Ay Ac) (e:H T=Ab (.tbl ps)) (pn:P T=none) (an:T ∉ α) (ok:TriplesOk ps.toList) (cd:∀ pos cv,codeAmong pos ps.toList=Ab cv->∃ c oc vs t,cv=.ref c/\H c=Ab (.frz oc (.frz oc (.own 0)))/\oc.data=.fields vs/\vs[1]? = Ab (.str (x ++ ".<locals>." ++ "<lambda>") t)):ya x H P α T
def Q9 (K:Aj)(H P:Hp)(α : Aa Af):Prop:=∀ x∈vM,∀ c T,Es K x=Ab (c,T)->ya x H P α T
def SM (u:HO):Prop:=(∃ Q,u=.tbl Q)\/∃ o,u=.frz o (.frz o (.own 0))
theorem Q9.keep {K:Aj}{H J P Y:Hp}{α Q:ag}(r:Q9 K H P α)(e:∀ b u,H b=Ab u->SM u->J b=Ab u)(hp:∀ b u,H b=Ab u->SM u->P b=none->b ∉ α->Y b=none/\b ∉ Q):Q9 K J Y Q:=λx L c T h =>
 let ⟨A,U,E,G,ok,C⟩:=r x L c T h
 let z:=hp _ _ U (.inl ⟨_,rfl⟩) E G
 ⟨A,e _ _ U (.inl ⟨_,rfl⟩),z.1,z.2,ok,λB I q=>let ⟨c,N,O,t,a,b,d⟩:=C B I q;⟨c,N,O,t,a,e _ _ b (.inr ⟨_,rfl⟩),d⟩⟩
structure bi (K:Aj)(H P:Hp)(α : Aa Af)(S:ao):Prop where
 tb:Q9 K H P α
 sub:qE P H
 len:α.length=S.length
 nd:α.Nodup
 sep:∀ (i:Ag) (a:Af) (o:MO),α[i]? = Ab a->S[i]? = Ab o->o≠.dead->P a=none
 at':∀ (i:Ag) (a:Af) (o:MO),α[i]? = Ab a->S[i]? = Ab o->u_ K H P α a o
 own:∀ (i:Ag) (a:Af),α[i]? = Ab a->H a≠none
section
variable {K:Aj}{H P P':Hp}{α α':ag}{S:ao}
theorem zI.mono {σ : _L.St}(e:qE P P')(h:α<+:α')(r:zI K P α σ ak):zI K P' α' σ ak:=
 ⟨r.1,λi d q=>let ⟨v,Y,Q⟩:=r.2 i d q;⟨v,Y,av.mono e h d v Q⟩⟩
theorem ol.mono {κ : Type}(e:qE P P')(h:α<+:α'){kvs:Aa (κ × D)}{vs:Aa (κ × V)}(r:ol K P α kvs vs):ol K P' α' kvs vs:=by
 refine Paired.mapP r λp q z=>⟨z.1,av.mono e h _ _ z.2⟩
theorem vk.mono (e:qE P P')(h:α<+:α'){kvs:Aa (Aa Ah × D)}{xs:Aa (Aa Ah × Af × V)}(r:vk K P α kvs xs):vk K P' α' kvs xs:=
 Paired.mapP r λp q z=>⟨z.1,wB e z.2.1,av.mono e h _ _ z.2.2⟩
theorem u_.mono {a:Af}(e:qE P P')(h:α<+:α'):∀ {o:MO},u_ K H P α a o->u_ K H P' α' a o
 |.dead,_=>trivial
 |.lst _,⟨Q,q,r⟩=>⟨Q,q,qD.mono e h _ _ r⟩
 |.dct _,⟨Q,q,r⟩=>⟨Q,q,r.mono e h⟩
 |.dcT _,⟨Q,q,d,l,n,r⟩=>⟨Q,q,d,l,n,r.mono e h⟩
 |.ins _ _,⟨Y,Q,q,r⟩=>⟨Y,Q,q,r.mono e h⟩
theorem bi.grow (r:bi K H P α S)(e:qE H J):bi K J P α S where
 tb:=r.tb.keep (λb u q _=>e _ _ q) λ_ _ _ _ p n=>⟨p,n⟩
 sub:=r.sub.trans e
 len:=r.len
 nd:=r.nd
 sep:=r.sep
 at':=λi a o U G=>by
  have m:=r.at' i a o U G;cases o with
  |dead=>trivial
  |lst B=>obtain⟨Q,q,t⟩:=m;exact⟨Q,e _ _ q,t⟩
  |dct Y=>obtain⟨Q,q,t⟩:=m;exact⟨Q,e _ _ q,t⟩
  |dcT Y=>obtain⟨Q,q,t⟩:=m;exact⟨Q,e _ _ q,t⟩
  |ins C O=>obtain⟨N,Q,q,t⟩:=m;exact⟨N,Q,e _ _ q,t⟩
 own:=λi a q=>by
  have m:=r.own i a q;cases z:H a with
  |none=>exact absurd z m
  |some o=>rw[e _ _ z];intro w;cases w
theorem tB {H:Hp}{a:Af}(h:H a=none):qE H (c_ H a o):=λb u e=>by rw[qR (zG e h)];exact e
theorem bi.pure {a:Af}(r:bi K H P α S)(h:H a=none):bi K (c_ H a o) (c_ P a o) α S/\qE P (c_ P a o):=by
 have N:P a=none:=by
  cases z:P a with
  |none=>rfl
  |some u=>rw[r.sub _ _ z] at h;cases h
 have U:qE P (c_ P a o):=tB N;have G:=r.grow (tB (o:=o) h);refine⟨⟨r.tb.keep (λb u q _=>(qR (zG q h)).trans q) λb u q _ p n=>⟨(qR (zG q h)).trans p,n⟩,λb u e=>?_,r.len,r.nd,λi b u Q J O=>?_,λi b u Q J=>(G.at' i b u Q J).mono U (Bg _),G.own⟩,U⟩
 .by_cases Y:b=a
  .subst Y;rw[zE] at e ⊢;exact e
  .rw[qR Y] at e ⊢;exact r.sub _ _ e
 .have Y:b≠a:=by rintro rfl;exact r.own i b Q h
  rw[qR Y];exact r.sep i b u Q J O
theorem bi.new {a:Af}(r:bi K H P α S)(h:H a=none)(hm:u_ K (c_ H a o) P (α ++ [a]) a m):bi K (c_ H a o) P (α ++ [a]) (S++[m]):=by
 have O:P a=none:=by
  cases z:P a with
  |none=>rfl
  |some u=>rw[r.sub _ _ z] at h;cases h
 have U:=r.grow (tB (o:=o) h);have C:α<+:α++[a]:=Et _ _;have split:∀ (i:Ag) (b:Af),(α++[a])[i]? = Ab b->(i<α.length/\α[i]? = Ab b)\/(i=α.length/\b=a):=λi b q=>by
  by_cases Q:i<α.length
  .rw[Bn Q] at q;exact .inl ⟨Q,q⟩
  .rw[Dk om] at q
   cases G:i-α.length with
   |zero=>rw[G] at q;simp at q;exact .inr ⟨by fin2,q.symm⟩
   |succ k=>rw[G] at q;simp at q
 refine⟨r.tb.keep (λb u q _=>(qR (zG q h)).trans q) λb u q _ p n=>⟨p,λz=>(Bp.mp z).elim n λw=>zG q h (by simpa using w)⟩,U.sub,by simp[r.len],?_,λi b u J Y B=>?_,λi b u J Y=>?_,λi b q=>?_⟩
 .rw[Ho]
  refine⟨r.nd,by simp,λb L c N e=>?_⟩
  simp at N;subst N;subst e;obtain⟨i,Q,e⟩:=Co.mp L;exact r.own i b (by rw[Ap Q,e]) h
 .rcases split i b J with⟨Q,z⟩|⟨Q,rfl⟩
  .rw[Bn (by rw[<- r.len];exact Q)] at Y
   exact r.sep i b u z Y B
  .exact O
 .rcases split i b J with⟨Q,z⟩|⟨Q,rfl⟩
  .rw[Bn (by rw[<- r.len];exact Q)] at Y
   exact(U.at' i b u z Y).mono (qE.refl _) C
  .rw[Q,r.len,Dk (Ax _)] at Y
   simp at Y;subst Y;exact hm
 .rcases split i b q with⟨_,z⟩|⟨_,rfl⟩
  .exact U.own i b z
  .rw[zE];intro z;cases z
theorem Y6 {N:ag}(J:N.Nodup){i j:Ag}{x:Af}(a:N[i]? = Ab x)(b:N[j]? = Ab x):i=j:=by
 obtain⟨G,Y⟩:=Ba.mp a;obtain⟨U,Q⟩:=Ba.mp b;exact(Qk J).mp (Y.trans Q.symm)
theorem bi.put {a:Af}{i:Ag}(r:bi K H P α S)(O:α[i]? = Ab a)(hs:S[i]? = Ab m)(T:m≠.dead)(hm:u_ K (c_ H a o) P α a m'):bi K (c_ H a o) P α (S.set i m'):=by
 have L:=r.sep i a m O hs T;have I:i<S.length:=(Ba.mp hs).1;refine⟨r.tb.keep (λb u q B=>?_) λ_ _ _ _ p n=>⟨p,n⟩,λb u e=>?_,by simp[r.len],r.nd,λj b u J G w=>?_,λj b u J G=>?_,λj b q=>?_⟩
 .refine(qR ?_).trans q
  rintro rfl;have z:=r.at' i _ m O hs;cases m with
  |dead=>exact T rfl
  |lst M=>obtain⟨Q,z,_⟩:=z;rw[q] at z;rcases B with⟨_,rfl⟩|⟨_,rfl⟩ <;> cases z
  |dct U=>obtain⟨Q,z,_⟩:=z;rw[q] at z;rcases B with⟨_,rfl⟩|⟨_,rfl⟩ <;> cases z
  |dcT U=>obtain⟨Q,z,_⟩:=z;rw[q] at z;rcases B with⟨_,rfl⟩|⟨_,rfl⟩ <;> cases z
  |ins C A=>obtain⟨E,Q,z,_⟩:=z;rw[q] at z;rcases B with⟨_,rfl⟩|⟨_,rfl⟩ <;> cases z
 .have Y:b≠a:=by rintro rfl;rw[L] at e;cases e
  rw[qR Y];exact r.sub _ _ e
 .by_cases N:j=i
  .subst N;rw[O] at J;cases J;exact L
  .rw[Dd (Fv N)] at G;exact r.sep j b u J G w
 .by_cases N:j=i
  .subst N;rw[O] at J;cases J
   rw[DL I] at G;cases G;exact hm
  .rw[Dd (Fv N)] at G
   have Y:b≠a:=by rintro rfl;exact N (Y6 r.nd J O)
   have z:=r.at' j b u J G;cases u with
   |dead=>trivial
   |lst M=>obtain⟨Q,q,t⟩:=z;exact⟨Q,by rw[qR Y];exact q,t⟩
   |dct U=>obtain⟨Q,q,t⟩:=z;exact⟨Q,by rw[qR Y];exact q,t⟩
   |dcT U=>obtain⟨Q,q,t⟩:=z;exact⟨Q,by rw[qR Y];exact q,t⟩
   |ins C A=>obtain⟨E,Q,q,t⟩:=z;exact⟨E,Q,by rw[qR Y];exact q,t⟩
 .by_cases Y:b=a
  .subst Y;rw[zE];intro z;cases z
  .rw[qR Y];exact r.own j b q
end
theorem nn {β : Type}{a:β}{p:Prop}(h:(none:Am β) = Ab a):p:=by cases h
theorem gR {β : Type}{c:Prop}[Hy c]{a b:β}(h:(if c then Ab a else none)=Ab b):c/\a=b:=by
 by_cases z:c
 .rw[Be z] at h;exact⟨z,Dm h⟩
 .rw[Bc z] at h;exact nn h
end _D
end
namespace _D
open _L
variable {us:ah}{cw:Aa Fz}{vs:Aa V}{u vv:Ac}{p:Af}{sp:Sp}{S:ao}{Q:VK}
abbrev DE:=qB->ao->az D
abbrev DT:=qB->ao->az As
abbrev DA:=qB->ao->az (Aa D)
inductive jd where
 |nx (env:qB) (S:ao)|rt (d:D) (S:ao)|bk (env:qB) (S:ao)|ct (env:qB) (S:ao)|ex (c:Ac) (x:D) (env:qB) (S:ao)|bad
abbrev DS:=qB->ao->jd
def wx (X:Cx)(aj:aa)(H:Hp)(b:Af):Prop:=
 (∃ o,X.s₀.heap.get? b=Ab o)\/H b≠none\/(∃ p∈X.pn++aj,p.1=b)\/∃ x,X.env.cells.lookup x=Ab b
def Cv (X:Cx)(aj:aa)(H:Hp)(B h:By):Prop:=∀ b o,h.get? b=Ab o->wx X aj H b->b ∉ jq X.stack->B.get? b=Ab o
inductive sn (X:Cx)(pins:aa)(H:Hp)(c:Ac)(e:Af)(h:By):Prop where
 |new (g:By) (args:ah):AbU g h e c args->g.FunFrames X.base X.stack->(∀ b o,h.get? b=Ab o->wx X pins H b->g.get? b=Ab o)->sn X pins H c e h
 |fly (B:By) (a0:Ac):v6 B X.stack e c a0 h->Cv X pins H B h->sn X pins H c e h
inductive wt (X:Cx)(P:Hp)(α : Aa Af)(c:Ac)(x:D)(S:ao)(u:Ac)(s:Ai):Prop
 |mk (e:Af) (pins:aa) (σ : _L.St) (H:Hp) (P':Hp) (α' : Aa Af) (e1:u=.ref e) (I:Inv X pins σ H s) (r:bi X.K H P' α' S) (q1:qE P P') (q2:α<+:α') (q3:X.ex=[]/\X.stack=X.env::X.outer/\X.env.frame=Ab X.env.locals) (q4:sn X pins H c e s.heap):wt X P α c x S u s
theorem wt.base {X:Cx}{P P1:Hp}{α Y:ag}(e:qE P P1)(h:α<+:Y)(k:wt X P1 Y c x S u s):wt X P α c x S u s:=by
 obtain⟨a,B,σ,H,N,J,L,I,r,G,C,O,U⟩:=k;exact⟨a,B,σ,H,N,J,L,I,r,e.trans G,h.trans C,O,U⟩
section
variable (X:Cx)
def qI {β:Type}(P:Hp)(α : Aa Af)(r:az β)(Ok:β->ao->Prop):Prop:=
 match r with
 |.ok d Y=>Ok d Y
 |.ex c x Y=>∀ u J,wt X P α c x Y u J->X.xe u J
 |.bad=>Ex
def jn (P:Hp)(α : Aa Af)(Q:VK)(d:D)(G:ao):Prop:=∀ v U J Y,bi X.K U J Y G->qE P J->α<+:Y->av X.K J Y d v->Q v U
def zt (P:Hp)(α : Aa Af)(Q:As->Hp->Prop)(b:As)(G:ao):Prop:=∀ J U Y,bi X.K J U Y G->qE P U->α<+:Y->Q b J
def _C (P:Hp)(α : Aa Af)(Q:Aa V->Hp->Prop)(ds:Aa D)(G:ao):Prop:=∀ vs U J Y,bi X.K U J Y G->qE P J->α<+:Y->qD X.K J Y ds vs->Q vs U
abbrev qV (P:Hp)(α : Aa Af)(r:az D)(Q:VK):Prop:=qI X P α r (jn X P α Q)
abbrev yA (P:Hp)(α : Aa Af)(r:az As)(Q:As->Hp->Prop):Prop:=qI X P α r (zt X P α Q)
abbrev pS (P:Hp)(α : Aa Af)(r:az (Aa D))(Q:Aa V->Hp->Prop):Prop:=qI X P α r (_C X P α Q)
def qY (P:Hp)(α : Aa Af)(r:jd)(D:Ends):Prop:=
 match r with
 |.nx U O=>∀ J N G Y,bi X.K N G Y O->zI X.K G Y J U->qE P G->α<+:Y->D.nx J N
 |.bk U O=>∀ J N G Y,bi X.K N G Y O->zI X.K G Y J U->qE P G->α<+:Y->D.bk J N
 |.ct U O=>∀ J N G Y,bi X.K N G Y O->zI X.K G Y J U->qE P G->α<+:Y->D.ct J N
 |.rt d O=>∀ v N G Y,bi X.K N G Y O->qE P G->α<+:Y->av X.K G Y d v->D.rt v N
 |.ex c x _ O=>∀ u C,wt X P α c x O u C->X.xe u C
 |.bad=>Ex
inductive tD (f:DE)(σ : _L.St)(H:Hp)(Q:VK):Prop
 |mk (P:Hp) (α : Aa Af) (env:qB) (S:ao) (r:bi X.K H P α S) (re:zI X.K P α σ env) (af:qV X P α (f env S) Q):tD f σ H Q
inductive nh (f:DT)(σ : _L.St)(H:Hp)(Q:As->Hp->Prop):Prop
 |mk (P:Hp) (α : Aa Af) (env:qB) (S:ao) (r:bi X.K H P α S) (re:zI X.K P α σ env) (af:yA X P α (f env S) Q):nh f σ H Q
inductive mz (f:DA)(σ : _L.St)(H:Hp)(Q:Aa V->Hp->Prop):Prop
 |mk (P:Hp) (α : Aa Af) (env:qB) (S:ao) (r:bi X.K H P α S) (re:zI X.K P α σ env) (af:pS X P α (f env S) Q):mz f σ H Q
inductive ji (f:DS)(D:Ends)(σ : _L.St)(H:Hp):Prop
 |mk (P:Hp) (α : Aa Af) (env:qB) (S:ao) (r:bi X.K H P α S) (re:zI X.K P α σ env) (af:qY X P α (f env S) D):ji f D σ H
end
section
variable {X:Cx}{P P1:Hp}{α α1:ag}
theorem qV.base (e:qE P P1)(h:α<+:α1)(k:qV X P α r Q):qV X P1 α1 r Q:=by
 cases r with
 |ok d S=>exact λv J N Y r C U O=>k v J N Y r (e.trans C) (h.trans U) O
 |ex c x S=>exact λu G q=>k u G (q.base e h)
 |bad=>exact k
theorem yA.base {Q:As->Hp->Prop}(e:qE P P1)(h:α<+:α1)(k:yA X P α r Q):yA X P1 α1 r Q:=by
 cases r with
 |ok d S=>exact λU O Y r J G=>k U O Y r (e.trans J) (h.trans G)
 |ex c x S=>exact λu N q=>k u N (q.base e h)
 |bad=>exact k
theorem pS.base {Q:Aa V->Hp->Prop}(e:qE P P1)(h:α<+:α1)(k:pS X P α r Q):pS X P1 α1 r Q:=by
 cases r with
 |ok d S=>exact λv G C Y r U N J=>k v G C Y r (e.trans U) (h.trans N) J
 |ex c x S=>exact λu O q=>k u O (q.base e h)
 |bad=>exact k
theorem qY.base {D:Ends}(e:qE P P1)(h:α<+:α1)(k:qY X P α r D):qY X P1 α1 r D:=by
 cases r with
 |nx C S=>exact λv U N Y r O J G=>k v U N Y r O (e.trans J) (h.trans G)
 |bk C S=>exact λv U N Y r O J G=>k v U N Y r O (e.trans J) (h.trans G)
 |ct C S=>exact λv U N Y r O J G=>k v U N Y r O (e.trans J) (h.trans G)
 |rt d S=>exact λv U N Y r J G B=>k v U N Y r (e.trans J) (h.trans G) B
 |ex c x C S=>exact λu L q=>k u L (q.base e h)
 |bad=>exact k
theorem xr (k:jn X P α Q d S)(r:bi X.K H P α S)(q:av X.K P α d v):Q v H:=k v H P α r (qE.refl _) (Bg _) q
end
section
variable {X:Cx}{a b e:Cc}{aq:Ez}
theorem q_ {t t':TE}(h:PE X e t)(w:∀ σ H Q,t' σ H Q->t σ H Q):PE X e t':=λY s σ H Q I q=>h Y s σ H Q I (w σ H Q q)
theorem xw {st:Fz}{t t':TS}(h:PS X st t)(w:∀ D σ H,t' D σ H->t D σ H):PS X st t':=λY s σ H D I q=>h Y s σ H D I (w D σ H q)
theorem EW {st:Aa Fz}{t t':TS}(h:jm X st t)(w:∀ D σ H,t' D σ H->t D σ H):jm X st t':=λY s σ H D I q=>h Y s σ H D I (w D σ H q)
theorem paW {t t':TA}(h:PA X es t)(w:∀ σ H Q,t' σ H Q->t σ H Q):PA X es t':=λaq Y s σ H Q I q=>h aq Y s σ H Q I (w σ H Q q)
structure Got (X:Cx)(pins:aa)(σ : _L.St)(env:qB)(P:Hp)(α : Aa Af)(u:Ac)(s1:Ai)(v:V)(H1 P1:Hp)(α1:ag)(d:D)(S1:ao):Prop where
 inv:Inv X pins σ H1 s1
 val:qF v u
 rel:bi X.K H1 P1 α1 S1
 env:zI X.K P1 α1 σ env
 rep:av X.K P1 α1 d v
 same:qE P P1
 pre:α<+:α1
inductive yp (X:Cx)(pins:aa)(σ : _L.St)(env:qB)(P:Hp)(α : Aa Af)(u:Ac)(s1:Ai){γ : Type}(g:D->ao->az γ)(Ok:γ->ao->Prop):Prop
 |mk (v:V) (H1 P1:Hp) (α1:ag) (d:D) (S1:ao) (G:Got X pins σ env P α u s1 v H1 P1 α1 d S1) (q:qI X P α (g d S1) Ok):yp X pins σ env P α u s1 g Ok
inductive wk (X:Cx)(pins:aa)(σ : _L.St)(env:qB)(P:Hp)(α : Aa Af)(us:ah)(s1:Ai){γ : Type}(g:Aa D->ao->az γ)(Ok:γ->ao->Prop):Prop
 |mk (vs:Aa V) (H1 P1:Hp) (α1:ag) (ds:Aa D) (S1:ao) (I:Inv X pins σ H1 s1) (rv:qJ vs us) (r:bi X.K H1 P1 α1 S1) (re:zI X.K P1 α1 σ env) (rp:qD X.K P1 α1 ds vs) (e1:qE P P1) (e2:α<+:α1) (q:qI X P α (g ds S1) Ok):wk X pins σ env P α us s1 g Ok
inductive ym (X:Cx)(pins:aa)(σ : _L.St)(env:qB)(P:Hp)(α : Aa Af)(b:As)(s1:Ai){γ : Type}(g:As->ao->az γ)(Ok:γ->ao->Prop):Prop
 |mk (H1 P1:Hp) (α1:ag) (S1:ao) (I:Inv X pins σ H1 s1) (r:bi X.K H1 P1 α1 S1) (re:zI X.K P1 α1 σ env) (e1:qE P P1) (e2:α<+:α1) (q:qI X P α (g b S1) Ok):ym X pins σ env P α b s1 g Ok
theorem zT {γ:Type}{g:D->ao->az γ}{Ok:γ->ao->Prop}{σ:_L.St}{H P:Hp}{α:ag}{ak:qB}(t:PE X e (tD X f))(I:Inv X aj σ H s)(r:bi X.K H P α S)
  (C:zI X.K P α σ ak) (J:qI X P α ((f ak S).bind g) Ok) :
  b6 X (eval e X.env) (λu L=>yp X aj σ ak P α u L g Ok) X.xe s:=by
 refine bn (t aj s σ H (λv N=>∃ U Y d G,bi X.K N U Y G/\zI X.K U Y σ ak/\av X.K U Y d v/\qE P U/\α<+:Y/\qI X P α (g d G) Ok) I ⟨P,α,ak,S,r,C,?_⟩) λu L ⟨v,N,l,y,U,Y,d,G,w,m,o,A,k,z⟩=>⟨v,N,U,Y,d,G,⟨l,y,w,m,o,A,k⟩,z⟩;cases q:f ak S with
 |bad=>rw[q] at J;exact J
 |ex c x T=>rw[q] at J;exact J
 |ok d T =>
  rw[q] at J;exact λv i j O M E B n=>⟨j,O,d,T,M,C.mono E B,n,E,B,J⟩
theorem vH {γ:Type}{g:Aa D->ao->az γ}{Ok:γ->ao->Prop}{σ:_L.St}{H P:Hp}{α:ag}{ak:qB}(m:PA X es (mz X f))(I:Inv X aj σ H s)(r:bi X.K H P α S)
  (C:zI X.K P α σ ak) (J:qI X P α ((f ak S).bind g) Ok) (aq:Ez) :
  b6 X (spliced (Hc aq (Bu es X.env))) (λus T=>wk X aj σ ak P α us T g Ok) X.xe s:=by
 refine bn (m aq aj s σ H (λvs N=>∃ U Y L G,bi X.K N U Y G/\zI X.K U Y σ ak/\qD X.K U Y L vs/\qE P U/\α<+:Y/\qI X P α (g L G) Ok) I ⟨P,α,ak,S,r,C,?_⟩) λu T ⟨v,N,t,k,U,Y,d,G,z,n,l,M,o,j⟩=>⟨v,N,U,Y,d,G,t,k,z,n,l,M,o,j⟩;cases q:f ak S with
 |bad=>rw[q] at J;exact J
 |ex c x E=>rw[q] at J;exact J
 |ok d E =>
  rw[q] at J;exact λv h y O w A B i=>⟨y,O,d,E,w,C.mono A B,i,A,B,J⟩
theorem kU {γ:Type}{f:DT}{g:As->ao->az γ}{Ok:γ->ao->Prop}{aj:aa}{s:Ai}{σ:_L.St}{H P:Hp}{α:ag}{ak:qB}{m:Kv As}
  (w:∀ (Q:As->Hp->Prop),nh X f σ H Q->b6 X m (TP X aj σ Q) X.xe s) (r:bi X.K H P α S) (L:zI X.K P α σ ak) (J:qI X P α ((f ak S).bind g) Ok) :
  b6 X m (λb T=>ym X aj σ ak P α b T g Ok) X.xe s:=by
 refine bn (w (λb O=>∃ U Y G,bi X.K O U Y G/\zI X.K U Y σ ak/\qE P U/\α<+:Y/\qI X P α (g b G) Ok) ⟨P,α,ak,S,r,L,?_⟩) λb T ⟨O,k,U,Y,G,A,o,I,M,j⟩=>⟨O,U,Y,G,k,A,o,I,M,j⟩;cases q:f ak S with
 |bad=>rw[q] at J;exact J
 |ex c x B=>rw[q] at J;exact J
 |ok d B =>
  rw[q] at J;exact λl y N z E C=>⟨y,N,B,z,L.mono E C,E,C,J⟩
def dC (d:D):DE:=λ_ S=>.ok d S
def q9 (i:Ag):DE:=λY S=>match Y[i]? with
 |some (Ab d)=>.ok d S
 |_=>.bad
theorem LW:PE X (.Constant (.int i) j aq) (tD X (dC (.int i))):=q_ EJ λσ H Q ⟨P,α,J,S,r,U,Y⟩=>xr Y r (by simp only[av])
theorem AR:PE X (.Constant (.bool i) j aq) (tD X (dC (.bl i))):=q_ OV λσ H Q ⟨P,α,J,S,r,U,Y⟩=>xr Y r (by simp only[av])
theorem LZ:PE X (.Constant .none j aq) (tD X (dC .non)):=q_ EK λσ H Q ⟨P,α,J,S,r,U,Y⟩=>xr Y r (by simp only[av])
set_option tactic.hygienic true in
theorem N5 {σ:_L.St}(h:tD X (q9 i) σ H Q):CM i σ H Q:=by
 obtain⟨P,α,N,S,r,G,Y⟩:=h;unfold q9 at Y
 split at Y
 .rename_i d q
  obtain⟨v,U,J⟩:=G.2 i d q;exact⟨v,U,xr Y r J⟩
 .exact Aq Y
theorem dv (i:Ag){x:Aw}(U:X.N[i]? = Ab x:=by rfl)(hv:ur X.env.scope x:=by first|exact AaN rfl|exact Zr (AaN rfl)|exact Zr (Zr rfl))(J:(x == ("__debug__" : Aw))=false:=by decide)
  (Y:(x == ("__classdict__" : Aw))=false:=by decide):PE X (.Name x aq) (tD X (q9 i)):=q_ (EN U hv J Y) λσ H Q h=>N5 h
theorem BD (J:Gl X x)(hm:X.mg x=Ab u)(r:qF v u)(q:∀ P α,av X.K P α d v)(U:(x == ("__debug__" : Aw))=false:=by decide):PE X (.Name x aq) (tD X (dC d)):=
 q_ (ME J hm r U) λσ H Q ⟨P,α,G,S,r,N,Y⟩=>xr Y r (q _ _)
theorem BA (U:Gl X x)(hm:X.mg x=none)(hv:Gf x=Ab (.type n))(Y:x ≠ "__name__":=by decide)(G:(x == ("__debug__" : Aw))=false:=by decide):PE X (.Name x aq) (tD X (dC (.ty n))):=
 q_ (MD (v:=.ty n) U hm hv rfl Y G) λσ H Q ⟨P,α,N,S,r,O,J⟩=>xr J r (by simp only[av])
abbrev G2:=D->D->ao->az D
def gj (X:Cx)(f:Ac->Ac->Kv Ac)(g:G2):Prop:=
 ∀ (Y:aa) (σ : _L.St) (H:Hp) (s:Ai) (P:Hp) (α : Aa Af) (S:ao) (v u:V) (vv uu:Ac) (a b:D) (Q:VK),Inv X Y σ H s->bi X.K H P α S->qF v vv->qF u uu->av X.K P α a v->av X.K P α b u->qV X P α (g a b S) Q ->
  b6 X (f vv uu) (EP X Y σ Q) X.xe s
theorem gj.of {f:Ac->Ac->Kv Ac}{g:G2}(h:k_ X f r)(w:∀ H P α S v u a b Q,bi X.K H P α S->av X.K P α a v->av X.K P α b u->qV X P α (g a b S) Q->r v u H Q):gj X f g:=
 λO σ H s P α S v u vv uu a b Q I Y C N G U J=>h O s σ H v u vv uu Q I C N (w H P α S v u a b Q Y G U J)
def P_ (X:Cx)(f:Ac->Kv Ac)(g:D->ao->az D):Prop:=
 ∀ (Y:aa) (σ : _L.St) (H:Hp) (s:Ai) (P:Hp) (α : Aa Af) (S:ao) (v:V) (vv:Ac) (a:D) (Q:VK),Inv X Y σ H s->bi X.K H P α S->qF v vv->av X.K P α a v->qV X P α (g a S) Q ->
  b6 X (f vv) (EP X Y σ Q) X.xe s
def T_ (X:Cx)(g:G2):Prop:=
 ∀ (J Y:Cc) (U:aa) (σ : _L.St) (H:Hp) (s:Ai) (P:Hp) (α : Aa Af) (S:ao) (v u:V) (vv uu:Ac) (a b:D) (Q:VK),Inv X U σ H s->bi X.K H P α S->qF v vv->qF u uu->av X.K P α a v->av X.K P α b u->qV X P α (g a b S) Q ->
  subscripted Y false vv uu=operate [vv,uu] (Pb vv uu)->b6 X (Tw J Y vv uu) (EP X U σ Q) X.xe s
def y8 (X:Cx)(f:Ac)(g:Aa D->ao->az D):Prop:=
 ∀ (J:aa) (σ : _L.St) (H:Hp) (s:Ai) (P:Hp) (α : Aa Af) (S:ao) (vs:Aa V) (us:ah) (Y:Aa D) (Q:VK),Inv X J σ H s->bi X.K H P α S->qJ vs us->qD X.K P α Y vs->qV X P α (g Y S) Q ->
  b6 X (call f us) (EP X J σ Q) X.xe s
def d2 (g:G2)(N J:DE):DE:=λY S=>(N Y S).bind λx G=>(J Y G).bind λy U=>g x y U
def d1 (g:D->ao->az D)(Y:DE):DE:=λJ S=>(Y J S).bind g
variable {fa fb:DE}
theorem eQ {f:Ac->Ac->Kv Ac}{σ:_L.St}(j:gj X f g)(w:PE X a (tD X fa))(q:PE X b (tD X fb))(I:Inv X aj σ H s)(h:tD X (d2 g fa fb) σ H Q) :
  b6 X (eval a X.env) (λv J=>b6 X (eval b X.env) (λu U=>b6 X (f v u) (EP X aj σ Q) X.xe U) X.xe J) X.xe s:=by
 obtain⟨P,α,c,S,r,E,T⟩:=h;refine bn (zT w I r E T) λvv t ⟨v,o,L,G,d,l,Y,B⟩=>?_;refine bn (zT q Y.inv Y.rel Y.env (P:=L) (α:=G) (Ok:=jn X L G Q) (g:=λy N=>g d y N) ?_) λuu A ⟨u,z,k,C,M,N,G2,O⟩=>?_
 .exact qV.base Y.same Y.pre B
 .exact j aj σ z A k C N v u vv uu d M Q G2.inv G2.rel Y.val G2.val (av.mono G2.same G2.pre _ _ Y.rep) G2.rep (qV.base G2.same G2.pre O)
theorem AW (J:gj X (El op) g)(Y:PE X a (tD X fa))(U:PE X b (tD X fb)):PE X (.BinOp a op b aq) (tD X (d2 g fa fb)):=
 λG s σ H Q I h=>wpAny_BinOp (eQ J Y U I h)
theorem LU (J:gj X (Df op) g)(Y:PE X a (tD X fa))(U:PE X b (tD X fb))(hm:Nv op b=false:=by first|exact bG _|with_unfolding_all rfl):PE X (.Compare a [op] [b] aq) (tD X (d2 g fa fb)):=
 λG s σ H Q I h=>wpAny_Compare1 (eQ J Y U I h) hm
theorem AY {g:D->ao->az D}(E:P_ X (AaG op) g)(T:PE X a (tD X fa)):PE X (.UnaryOp op a aq) (tD X (d1 g fa)):=by
 intro A s σ H Q I h;obtain⟨P,α,M,S,r,N,G⟩:=h;exact UnaryOp_ (bn (zT T I r N G) λvv L ⟨v,O,B,J,d,C,Y,U⟩=>E A σ O L B J C v vv d Q Y.inv Y.rel Y.val Y.rep (qV.base Y.same Y.pre U))
theorem AV (ho:T_ X g)(ha:PE X a (tD X fa))(hb:PE X b (tD X fb))(hs:lD b:=by intro _ _;rfl):PE X (.Subscript a b aq) (tD X (d2 g fa fb)):=by
 intro M s σ H Q I h;obtain⟨P,α,N,S,r,C,J⟩:=h;have O:wj X (λx y H Q=>∃ P α S a b,bi X.K H P α S/\av X.K P α a x/\av X.K P α b y/\qV X P α (g a b S) Q):=λU G M s σ H x y v u Q I t ry ⟨P,α,S,a,b,r,p1,p2,J⟩ j =>
  ho U G M σ H s P α S x y v u a b Q I r t ry p1 p2 J j
 refine q_ (OW O ha hb hs) (t':=tD X (d2 g fa fb)) (λσ H Q h=>?_) M s σ H Q I ⟨P,α,N,S,r,C,J⟩;obtain⟨P,α,N,S,r,C,J⟩:=h;refine⟨P,α,N,S,r,C,?_⟩;unfold d2 at J;cases q:fa N S with
 |bad=>rw[q] at J;exact J
 |ex c x n=>rw[q] at J;exact J
 |ok d B =>
  rw[q] at J;intro v H1 P1 T r1 o L rp;refine⟨P1,T,N,B,r1,C.mono o L,?_⟩;have Y:qV X P α ((fb N B).bind λy w=>g d y w) Q:=J;cases k:fb N B with
  |bad=>rw[k] at Y;exact Y
  |ex c x n=>rw[k] at Y;exact λu m z=>Y u m (z.base o L)
  |ok d' w =>
   rw[k] at Y;intro u H2 i A r2 f l E;exact⟨i,A,w,d,d',r2,av.mono f l _ _ rp,E,qV.base (o.trans f) (L.trans l) Y⟩
def qA:DA:=λ_ S=>.ok [] S
def q8 (f:DE)(g:DA):DA:=λY S=>(f Y S).bind λx G=>(g Y G).bind λJ U=>.ok (x::J) U
theorem LQ:PA X [] (mz X qA):=paW EH λσ H Q ⟨P,α,J,S,r,U,Y⟩=>Y [] H P α r (qE.refl _) (Bg _) .nil
theorem B9 (q:PE X e (tD X fa))(L:PA X es (mz X g))(hs:Bu (e::es) X.env=(false,eval e X.env)::Bu es X.env:=by rfl):PA X (e::es) (mz X (q8 fa g)):=by
 intro aq c s σ H Q I h;obtain⟨P,α,m,S,r,z,w⟩:=h;rw[hs];show Ar _ _ (spliced ((false,eval e X.env)::Hc aq (Bu es X.env))) _ _ s;refine Jn (bn (zT q I r z w) λu i ⟨x,t,C,J,d,o,Y,G⟩=>?_);refine bn (vH L Y.inv Y.rel Y.env (P:=C) (α:=J) (Ok:=_C X C J Q) (pS.base Y.same Y.pre G) aq) λus l ⟨T,M,v,A,n,f,j,k,y,E,U,B,O,N⟩=>?_;exact⟨x::T,M,j,.cons Y.val k,N _ _ _ _ y B O (.cons (av.mono B O _ _ Y.rep) U)⟩
noncomputable def br:Ag:=16777216
theorem xQ:br=sizeLine:=Fu.symm
def zA (f:DA):DE:=λJ S=>(f J S).bind λY U=>if Y.length<=br then .ok (.tup Y) U else .bad
def wL (f:DA):DE:=λJ S=>(f J S).bind λY U=>if Y.length<=br then .ok (.lst Y) U else .bad
def u9 (f:DA):DE:=λU S=>(f U S).bind λY J=>if Y.length<=br then .ok (.loc J.length) (J++[.lst Y]) else .bad
theorem oI {K:Aj}{P:Hp}{α:ag}{a:Af}(h:jl K P a vs)(r:qD K P α ds vs):av K P α (.tup ds) (.ref a):=by simp only[av];exact⟨a,vs,rfl,h,r⟩
theorem gB {K:Aj}{P:Hp}{α:ag}{a:Af}(h:qu K P a vs)(r:qD K P α ds vs):av K P α (.lst ds) (.ref a):=by simp only[av];exact⟨a,vs,rfl,h,r⟩
theorem gY {H P:Hp}{α:ag}(r:bi X.K H P α S)(hp:H p=none)(U:qD X.K P α ds vs)(J:jn X P α Q (.tup ds) S):Q (.ref p) (c_ H p (.tup vs)):=by
 obtain⟨G,Y⟩:=r.pure (o:=.tup vs) hp;exact J _ _ _ α G Y (Bg _) (oI (.of zE) (qD.mono Y (Bg _) _ _ U))
theorem xU {H P:Hp}{α:ag}(r:bi X.K H P α S)(hp:H p=none)(U:qD X.K P α ds vs)(J:jn X P α Q (.lst ds) S):Q (.ref p) (c_ H p (.lst vs)):=by
 obtain⟨G,Y⟩:=r.pure (o:=.lst vs) hp;exact J _ _ _ α G Y (Bg _) (gB (.inl (.inl zE)) (qD.mono Y (Bg _) _ _ U))
theorem fG {H P:Hp}{α:ag}(r:bi X.K H P α S)(hp:H p=none)(U:qD X.K P α ds vs)(J:jn X P α Q (.loc S.length) (S++[.lst ds])):Q (.ref p) (c_ H p (.lst vs)):=by
 have Y:α<+:α++[p]:=Et _ _;have G:=r.new (o:=.lst vs) (m:=.lst ds) hp ⟨vs,zE,qD.mono (qE.refl _) Y _ _ U⟩;refine J _ _ _ _ G (qE.refl _) Y ?_;simp only[av];exact⟨p,rfl,by rw[<- r.len];simp⟩
theorem lI {f:DA}{σ:_L.St}{H:Hp}{G:Aa D->ao->az D}{mk:Aa V->HO}(h:tD X (λak S=>(f ak S).bind λxs S1=>if xs.length<=br then G xs S1 else .bad) σ H Q)
  (k:∀ N P1 J S1 ds vs p,bi X.K N P1 J S1->N p=none->qD X.K P1 J ds vs->qV X P1 J (G ds S1) Q->Q (.ref p) (c_ N p (mk vs))) :
  mz X f σ H λvs N=>vs.length<=sizeLine/\∀ p,N p=none->Q (.ref p) (c_ N p (mk vs)):=by
 obtain⟨P,α,ak,S,r,L,B⟩:=h;refine⟨P,α,ak,S,r,L,?_⟩;have Y:qV X P α ((f ak S).bind λxs S1=>if xs.length<=br then G xs S1 else .bad) Q:=B
 cases q:f ak S with
 |bad=>rw[q] at Y;exact Y
 |ex c x M=>rw[q] at Y;exact Y
 |ok ds S1 =>
  rw[q] at Y;intro vs N P1 J A I E C;have U:qV X P α (if ds.length<=br then G ds S1 else .bad) Q:=Y
  by_cases O:ds.length<=br
  .rw[Be O] at U
   exact⟨by rw[<- C.length,<- xQ];exact O,λp T=>k N P1 J S1 ds vs p A T C (qV.base I E U)⟩
  .rw[Bc O] at U;exact Aq U
theorem D3 {x1}(h:PA X es (mz X f)):PE X (.Tuple es x1 aq) (tD X (zA f)):=
 q_ (EM h) λσ H Q q=>lI (G:=λN Y=>.ok (.tup N) Y) (mk:=.tup) q λB L U Y T vs p r O C J=>gY r O C J
theorem LY (h:PA X es (mz X f)):PE X (.List es aq) (tD X (wL f)):=
 q_ (YA h) λσ H Q q=>lI (G:=λN Y=>.ok (.lst N) Y) (mk:=.lst) q λB L U Y T vs p r O C J=>xU r O C J
theorem BE (h:PA X es (mz X f)):PE X (.List es aq) (tD X (u9 f)):=
 q_ (YA h) λσ H Q q=>lI (G:=λN Y=>.ok (.loc Y.length) (Y++[MO.lst N])) (mk:=.lst) q λB L U Y T vs p r O C J=>fG r O C J
end
section
variable {X:Cx}{a b c e:Cc}{aq:Ez}{fa fb fc:DE}{ta tb:DT}
def xJ:D->ao->Am As
 |.non,_=>Ab false
 |.bl b,_=>Ab b
 |.int i,_=>Ab (i != 0)
 |.str x,_=>if x.length<=br then Ab ((x.length:Ah) != 0) else none
 |.tup Y,_=>Ab (!Y.isEmpty)
 |.lst Y,_=>Ab (!Y.isEmpty)
 |.dct0,_=>Ab false
 |.loc i,S=>match S[i]? with
  |some (.lst Y)=>Ab (!Y.isEmpty)
  |some (.dct J)=>Ab (!J.isEmpty)
  |_=>none
 |_,_=>none
theorem qD.isEmpty {K:Aj}{P:Hp}{α:ag}(r:qD K P α ds vs):(!ds.isEmpty)=!vs.isEmpty:=by
 cases ds with
 |nil=>rw[r.nil_inv];rfl
 |cons d ds=>obtain⟨w,Y,rfl,_,_⟩:=r.cons_inv;rfl
theorem w4 {K:Aj}{H P:Hp}(e:qE P H){a:Af}{xs:Aa V}(h:jl K P a xs):jl K H a xs:=wB e h
theorem u0 {H P:Hp}{α:ag}{k:As}(r:bi X.K H P α S)(p:av X.K P α d v)(h:xJ d S=Ab k):QC X.K v H k:=by
 cases d with
 |non=>simp only[av] at p;subst p;cases h;rfl
 |bl b=>simp only[av] at p;subst p;cases h;rfl
 |int i=>simp only[av] at p;subst p;cases h;rfl
 |str x =>
  simp only[av] at p;subst p;obtain⟨N,rfl⟩:=gR h;exact⟨by rw[<- xQ];exact N,rfl⟩
 |tup U =>
  simp only[av] at p;obtain⟨a,vs,rfl,q,t⟩:=p;cases h;exact .inr (.inl ⟨vs,w4 r.sub q,t.isEmpty⟩)
 |lst U =>
  simp only[av] at p;obtain⟨a,vs,rfl,q,t⟩:=p;cases h;exact .inl ⟨vs,(xO r.sub q).l,t.isEmpty⟩
 |dct0 =>
  simp only[av] at p;obtain⟨a,rfl,q⟩:=p;cases h;exact .inr (.inr ⟨[],r.sub _ _ q,rfl⟩)
 |loc i =>
  simp only[av] at p;obtain⟨a,rfl,q⟩:=p;have h:(match S[i]? with|some (.lst U)=>Ab (!U.isEmpty)|some (.dct Y)=>Ab (!Y.isEmpty)|_=>none)=Ab k:=h
  cases J:S[i]? with
  |none=>rw[J] at h;exact nn h
  |some m =>
   rw[J] at h;cases m with
   |lst U =>
    cases h;obtain⟨vs,z,t⟩:=r.at' i a _ q J;exact .inl ⟨vs,.of z,t.isEmpty⟩
   |dct Y =>
    cases h;obtain⟨vs,z,t⟩:=r.at' i a _ q J;refine .inr (.inr ⟨vs,z,?_⟩);cases t <;> rfl
   |_=>exact nn h
 |ty n=>exact nn h
 |obj a=>exact nn h
 |exn c=>exact nn h
 |fd O G=>exact nn h
 |clo a vs G=>exact nn h
theorem PR {σ:_L.St}{H P:Hp}{α:ag}{k:As}{Q:As->Hp->Prop}(I:Inv X aj σ H s)(r:bi X.K H P α S)(Y:qF v vv)(p:av X.K P α d v)(h:xJ d S=Ab k)(q:Q k H) :
  b6 X (truthy vv) (TP X aj σ Q) X.xe s:=bP aj s σ H v vv Q I Y ⟨k,u0 r p h,q⟩
def uL (o:Am As)(S:ao):az As:=match o with
 |some b=>.ok b S
 |none=>.bad
def cg (f:DE):DT:=λJ S=>(f J S).bind λd Y=>uL (xJ d Y) Y
theorem dD {P:Hp}{α:ag}{Ok:As->ao->Prop}(h:qI X P α (uL o S) Ok):∃ b,o=Ab b/\Ok b S:=by
 cases o with
 |none=>exact Aq h
 |some b=>exact⟨b,rfl,h⟩
theorem DV (T:PE X a (tD X fa))(L:∀ Y,isTrue a X.env Y=(do let v <- Y;T0 a.pos;holding [v] (truthy v)):=by intro _;rfl):PT X a (nh X (cg fa)):=by
 intro z s σ H Q I h;obtain⟨P,α,M,S,r,O,N⟩:=h;refine isTrue_plain (bn (zT T I r O N) λvv w ⟨v,C,B,U,d,A,J,G⟩=>?_) (L _);obtain⟨k,E,q⟩:=dD G;exact PR J.inv J.rel J.val J.rep E (q C B U J.rel J.same J.pre)
theorem DR (ho:gj X (Df op) g)(ha:PE X a (tD X fa))(j:PE X b (tD X fb))(hm:Nv op b=false:=by first|exact bG _|with_unfolding_all rfl):PT X (.Compare a [op] [b] aq) (nh X (cg (d2 g fa fb))):=by
 intro w s σ H Q I h;obtain⟨P,α,O,S,r,t,f⟩:=h;refine wpAny_isTrue_Compare1 ?_ hm;have G:tD X (d2 g fa fb) σ H (λv J=>∃ k,QC X.K v J k/\Q k J):=by
  refine⟨P,α,O,S,r,t,?_⟩;have Y:qI X P α ((d2 g fa fb O S).bind λd U=>uL (xJ d U) U) (zt X P α Q):=f;cases q:d2 g fa fb O S with
  |bad=>rw[q] at Y;exact Y
  |ex c x S'=>rw[q] at Y;exact Y
  |ok d U =>
   rw[q] at Y;obtain⟨k,e1,C⟩:=dD (X:=X) Y;exact λv J m N B i E z=>⟨k,u0 B z e1,C J m N B i E⟩
 exact bn (eQ ho ha j I G) λv s1 n=>bn n λu s2 L=>bn L λx o ⟨y,T,l,A,k,M,C⟩=>bP w o σ T y x Q l A ⟨k,M,C⟩
def yC (g g':G2)(fa fb fc:DE):DE:=λY S=>(fa Y S).bind λx G=>(fb Y G).bind λy U=>(g x y U).bind λz J =>
 match xJ z J with
 |some true=>(fc Y J).bind λw N=>g' y w N
 |some false=>.ok z J
 |none=>.bad
inductive yo (X:Cx)(pins:aa)(σ : _L.St)(P:Hp)(α : Aa Af)(w:Ac)(s1:Ai){γ : Type}(k:D->ao->az γ)(Ok:γ->ao->Prop):Prop
 |mk (y:V) (H1 P1:Hp) (α1:ag) (d:D) (S1:ao) (I:Inv X pins σ H1 s1) (rv:qF y w) (r:bi X.K H1 P1 α1 S1) (rp:av X.K P1 α1 d y) (e1:qE P P1) (e2:α<+:α1) (q:qI X P α (k d S1) Ok):yo X pins σ P α w s1 k Ok
theorem cQ {γ:Type}{f:Ac->Ac->Kv Ac}{k:D->ao->az γ}{Ok:γ->ao->Prop}{σ:_L.St}{P:Hp}{α:ag}{v u:V}{uu:Ac}{a b:D}(ho:gj X f g)(I:Inv X aj σ H s)(r:bi X.K H P α S)
  (n:qF v vv) (A:qF u uu) (z:av X.K P α a v) (j:av X.K P α b u) (J:qI X P α ((g a b S).bind k) Ok) :
  b6 X (f vv uu) (λw B=>yo X aj σ P α w B k Ok) X.xe s:=by
 refine bn (ho aj σ H s P α S v u vv uu a b (λy O=>∃ U Y d G,bi X.K O U Y G/\av X.K U Y d y/\qE P U/\α<+:Y/\qI X P α (k d G) Ok) I r n A z j ?_) λw B ⟨y,O,h,l,U,Y,d,G,T,q2,i,L,M⟩=>⟨y,O,U,Y,d,G,h,l,T,q2,i,L,M⟩;cases q:g a b S with
 |bad=>rw[q] at J;exact J
 |ex c x C=>rw[q] at J;exact J
 |ok d C =>
  rw[q] at J;exact λv H' m N t e1 E o=>⟨m,N,d,C,t,o,e1,E,J⟩
theorem qI.base' {β:Type}{P P1:Hp}{α Y:ag}{r:az β}{Ok J:β->ao->Prop}(e:qE P P1)(h:α<+:Y)(G:∀ d S,Ok d S->J d S)(k:qI X P α r Ok):qI X P1 Y r J:=by
 cases r with
 |ok d S=>exact G d S k
 |ex c x S=>exact λu U q=>k u U (q.base e h)
 |bad=>exact k
theorem U5 (ho:gj X (Df op) g)(L:gj X (Df U) g')(ha:PE X a (tD X fa))(hb:PE X b (tD X fb))(hc:PE X c (tD X fc))
  (hm:Aa9 [op,U] [b,c]=false:=by with_unfolding_all rfl):PE X (.Compare a [op,U] [b,c] aq) (tD X (yC g g' fa fb fc)):=by
 intro n s σ H Q I h;obtain⟨P,α,ak,S,r,re,af⟩:=h;refine Compare_chain (bn (zT ha I r re af) λvv s1 ⟨v,H1,P1,zb,d,S1,N,E⟩=>chain_link (bn (zT hb N.inv N.rel N.env (qV.base N.same N.pre E)) λuu s2 ⟨u,H2,P2,zc,d',S2,G2,A⟩ =>
  bn (cQ ho G2.inv G2.rel N.val G2.val (av.mono G2.same G2.pre _ _ N.rep) G2.rep (qV.base G2.same G2.pre A)) λw s3 ⟨y,l,P3,T,z,S3,I3,f,G,O,B,C,Y⟩=>?_)) hm
 cases M:xJ z S3 with
 |none=>simp only[M] at Y;exact Aq Y
 |some k =>
  simp only[M] at Y;have tv:=u0 G O M;refine bn (bP n s3 σ l y w (λq H'=>q=k/\H'=l) I3 f ⟨k,tv,rfl,rfl⟩) λq s4 ⟨m,t,i,hH⟩=>?_;subst i;subst hH;cases q with
  |false=>exact ite_ff ⟨y,m,t,f,Y y m P3 T G B C O⟩
  |true =>
   refine ite_tt (chain_last (bn (zT hc t G (G2.env.mono B C) (qV.base B C Y)) λww s5 ⟨x,H5,P5,o,d5,S5,J,j⟩=>?_));exact L n σ H5 s5 P5 o S5 u x uu ww d' d5 Q J.inv J.rel G2.val J.val (av.mono (B.trans J.same) (C.trans J.pre) _ _ G2.rep) J.rep (qV.base J.same J.pre j)
theorem UF (ho:gj X (Df op) g)(t:gj X (Df B) g')(ha:PE X a (tD X fa))(hb:PE X b (tD X fb))(hc:PE X c (tD X fc))
  (hm:Aa9 [op,B] [b,c]=false:=by with_unfolding_all rfl):PT X (.Compare a [op,B] [b,c] aq) (nh X (cg (yC g g' fa fb fc))):=by
 intro aj s σ H Q I h;obtain⟨P,α,U,S,r,re,af⟩:=h;have q:qI X P α ((yC g g' fa fb fc U S).bind λd Y=>uL (xJ d Y) Y) (zt X P α Q):=af;have C:(yC g g' fa fb fc U S).bind (λd Y=>uL (xJ d Y) Y)=(fa U S).bind λx Y=>(fb U Y).bind λy A=>(g x y A).bind λz J =>
   match xJ z J with
   |some true=>((fc U J).bind λw N=>g' y w N).bind λd Y=>uL (xJ d Y) Y
   |some false=>.ok false J
   |none=>.bad:=by
  unfold yC;cases fa U S with
  |bad=>rfl
  |ex _ _ _=>rfl
  |ok x Y =>
   show az.bind (az.bind (fb U Y) _) _=az.bind (fb U Y) _;cases fb U Y with
   |bad=>rfl
   |ex _ _ _=>rfl
   |ok y A =>
    show az.bind (az.bind (g x y A) _) _=az.bind (g x y A) _;cases g x y A with
    |bad=>rfl
    |ex _ _ _=>rfl
    |ok z J =>
     show az.bind (match xJ z J with|some true=>(fc U J).bind λw N=>g' y w N|some false=>.ok z J|none=>.bad) _=_
     cases E:xJ z J with
     |none=>simp only[E,az.bind]
     |some k=>cases k <;> simp only[E,az.bind,uL]
 rw[C] at q;refine isTrue_chain (bn (zT ha I r re q) λvv s1 ⟨v,H1,P1,zv,d,Y,T,i⟩=>test_link (bn (zT hb T.inv T.rel T.env (yA.base T.same T.pre i)) λuu s2 ⟨u,H2,P2,j,d',A,G2,zb⟩ =>
  bn (cQ ho G2.inv G2.rel T.val G2.val (av.mono G2.same G2.pre _ _ T.rep) G2.rep (yA.base G2.same G2.pre zb)) λw s3 ⟨y,H3,P3,m,z,J,I3,r3,L,zl,l,o,G⟩=>?_)) hm
 cases E:xJ z J with
 |none=>simp only[E] at G;exact Aq G
 |some k =>
  simp only[E] at G;have tv:=u0 L zl E;refine bn (bP aj s3 σ H3 y w (λk' H'=>k'=k/\H'=H3) I3 r3 ⟨k,tv,rfl,rfl⟩) λk' s4 ⟨H4,I4,hk,hH⟩=>?_;subst hk;subst hH;cases k' with
  |false=>exact ite_ff ⟨H4,I4,G H4 P3 m L l o⟩
  |true =>
   have zc:qI X P2 j ((fc U J).bind λw N=>(g' d' w N).bind λd Y=>uL (xJ d Y) Y) (zt X P2 j Q):=by
    have e:((fc U J).bind λw N=>(g' d' w N).bind λd Y=>uL (xJ d Y) Y)=(((fc U J).bind λw N=>g' d' w N).bind λd Y=>uL (xJ d Y) Y):=by
     cases fc U J <;> rfl
    rw[e];exact G
   refine ite_tt (test_last (bn (zT hc I4 L (G2.env.mono l o) (yA.base l o zc)) λww s5 ⟨w',H5,P5,zx,d5,S5,O,zh⟩ =>
    bn (cQ t O.inv O.rel G2.val O.val (av.mono (l.trans O.same) (o.trans O.pre) _ _ G2.rep) O.rep (yA.base O.same O.pre zh)) λx6 s6 ⟨y6,H6,P6,f,d6,S6,I6,r6,M,n,e5,e6,zs⟩=>?_))
   obtain⟨k6,q6,z6⟩:=dD zs;exact PR I6 M r6 n q6 (z6 H6 P6 f M e5 e6)
def vG (t:DT):DT:=λY S=>(t Y S).bind λb J=>.ok (!b) J
def wG (t u:DT):DT:=λY S=>(t Y S).bind λb J=>if b then u Y J else .ok false J
def mQ (t u:DT):DT:=λY S=>(t Y S).bind λb J=>if b then .ok true J else u Y J
theorem DU (E:PT X a (nh X ta)):PT X (.UnaryOp .Not a aq) (nh X (vG ta)):=by
 intro A s σ H Q I h;obtain⟨P,α,j,S,r,C,O⟩:=h;refine isTrue_not (bn (kU (λG q=>E A s σ H G I q) r C O) λb y ⟨U,B,Y,z,T,w,N,M,L,J⟩=>⟨U,T,J U B Y w M L⟩)
def tm (X:Cx)(e:Cc)(t:DT):Prop:=PW X e (nh X t)
theorem tm.pt {t:DT}(h:tm X e t):PT X e (nh X t):=h _
theorem BR (Y:PT X a (nh X ta)):tm X (.BoolOp .And [a] aq) ta:=MT Y
theorem DY (Y:PT X a (nh X ta)):tm X (.BoolOp .Or [a] aq) ta:=EZ Y
theorem DX {qC:Aa Cc}(y:PT X a (nh X ta))(l:tm X (.BoolOp .And (b::qC) aq) tb):tm X (.BoolOp .And (a::b::qC) aq) (wG ta tb):=by
 intro o B s σ H Q I h;obtain⟨P,α,E,S,r,z,M⟩:=h;refine isTrue_and (bn (kU (λA q=>y B s σ H A I q) r z M) λk w ⟨G,O,Y,j,N,T,U,L,C,J⟩=>?_);cases k with
 |true=>exact l o B w σ G Q N ⟨O,Y,E,j,T,U,yA.base L C J⟩
 |false=>exact⟨G,N,J G O Y T L C⟩
theorem IB {qC:Aa Cc}(y:PT X a (nh X ta))(l:tm X (.BoolOp .Or (b::qC) aq) tb):tm X (.BoolOp .Or (a::b::qC) aq) (mQ ta tb):=by
 intro o B s σ H Q I h;obtain⟨P,α,E,S,r,z,M⟩:=h;refine isTrue_or (bn (kU (λA q=>y B s σ H A I q) r z M) λk w ⟨G,O,Y,j,N,T,U,L,C,J⟩=>?_);cases k with
 |true=>exact⟨G,N,J G O Y T L C⟩
 |false=>exact l o B w σ G Q N ⟨O,Y,E,j,T,U,yA.base L C J⟩
def mP (f g:DE):DE:=λJ S=>(f J S).bind λx Y=>match xJ x Y with
 |some true=>g J Y
 |some false=>.ok x Y
 |none=>.bad
def zj (f g:DE):DE:=λJ S=>(f J S).bind λx Y=>match xJ x Y with
 |some true=>.ok x Y
 |some false=>g J Y
 |none=>.bad
def U3 (f:DE):DE:=λJ S=>(f J S).bind λx Y=>match xJ x Y with
 |some b=>.ok (.bl (!b)) Y
 |none=>.bad
theorem D1  (h:PE X a (tD X fa)):PE X (.BoolOp op [a] aq) (tD X fa):=EL h
theorem KQ {σ:_L.St}{k:As}{R:As->Ai->Prop}(I:Inv X aj σ H s)(G:qF v vv)(t:QC X.K v H k)(h:∀ s',Inv X aj σ H s'->R k s') :
  b6 X (truthy vv) R X.xe s:=bn (bP aj s σ H v vv (λY C=>Y=k/\C=H) I G ⟨k,t,rfl,rfl⟩) λY U ⟨B,N,J,O⟩=>by subst J;subst O;exact h U N
theorem LR {qC:Aa Cc}(A:PE X a (tD X fa))(z:PE X (.BoolOp .And (b::qC) aq) (tD X fb)):PE X (.BoolOp .And (a::b::qC) aq) (tD X (mP fa fb)):=by
 intro w s σ H Q I h;obtain⟨P,α,L,S,r,E,T⟩:=h;refine BoolOp_and (bn (zT A I r E T) λvv j ⟨v,G,C,U,d,O,Y,J⟩=>?_);cases N:xJ d O with
 |none=>simp only[N] at J;exact Aq J
 |some k =>
  simp only[N] at J;refine KQ Y.inv Y.val (u0 Y.rel Y.rep N) λM B=>?_;cases k with
  |true=>exact z w M σ G Q B ⟨C,U,L,O,Y.rel,Y.env,qV.base Y.same Y.pre J⟩
  |false=>exact⟨v,G,B,Y.val,J v G C U Y.rel Y.same Y.pre Y.rep⟩
theorem AX {qC:Aa Cc}(A:PE X a (tD X fa))(z:PE X (.BoolOp .Or (b::qC) aq) (tD X fb)):PE X (.BoolOp .Or (a::b::qC) aq) (tD X (zj fa fb)):=by
 intro w s σ H Q I h;obtain⟨P,α,L,S,r,E,T⟩:=h;refine BoolOp_or (bn (zT A I r E T) λvv j ⟨v,G,C,U,d,O,Y,J⟩=>?_);cases N:xJ d O with
 |none=>simp only[N] at J;exact Aq J
 |some k =>
  simp only[N] at J;refine KQ Y.inv Y.val (u0 Y.rel Y.rep N) λM B=>?_;cases k with
  |false=>exact z w M σ G Q B ⟨C,U,L,O,Y.rel,Y.env,qV.base Y.same Y.pre J⟩
  |true=>exact⟨v,G,B,Y.val,J v G C U Y.rel Y.same Y.pre Y.rep⟩
theorem D0 (E:PE X a (tD X fa)):PE X (.UnaryOp .Not a aq) (tD X (U3 fa)):=by
 intro z s σ H Q I h;obtain⟨P,α,M,S,r,C,O⟩:=h;refine UnaryOp_ (bn (zT E I r C O) λvv w ⟨v,N,L,U,d,B,J,Y⟩=>?_);cases G:xJ d B with
 |none=>simp only[G] at Y;exact Aq Y
 |some k =>
  simp only[G] at Y;exact not_of (KQ J.inv J.val (u0 J.rel J.rep G) λA T=>⟨.bl (!k),N,T,rfl,Y (.bl (!k)) N L U J.rel J.same J.pre (by simp only[av])⟩)
def pr (t:DT)(f g:DE):DE:=λY S=>(t Y S).bind λb J=>if b then f Y J else g Y J
theorem AU (l:PT X c (nh X ta))(y:PE X a (tD X fa))(o:PE X b (tD X fb)):PE X (.IfExp c a b aq) (tD X (pr ta fa fb)):=by
 intro G s σ H Q I h;obtain⟨P,α,L,S,r,j,z⟩:=h;refine wpAny_IfExp (bn (kU (λw q=>l G s σ H w I q) r j z) λk T ⟨N,C,J,O,E,M,Y,A,B,U⟩=>?_);cases k with
 |true=>exact y G T σ N Q E ⟨C,J,L,O,M,Y,qV.base A B U⟩
 |false=>exact o G T σ N Q E ⟨C,J,L,O,M,Y,qV.base A B U⟩
end
@[inline] noncomputable def az.toS {β:Type}(ak:qB)(r:az β)(k:β->ao->jd):jd:=
 match r with
 |.ok d S=>k d S
 |.ex c x S=>.ex c x ak S
 |.bad=>.bad
section
variable {X:Cx}{a b c e:Cc}{aq:Ez}{fa:DE}{ta:DT}{f g:DS}{st:Fz}{qC:Aa Fz}
def zR:DS:=λY S=>.nx Y S
def qG (f g:DS):DS:=λJ S=>match f J S with
 |.nx Y U=>g Y U
 |o=>o
theorem DJ:jm X [] (ji X zR):=EW MN λD σ H ⟨P,α,U,S,r,J,Y⟩=>Y σ H P α r J (qE.refl _) (Bg _)
theorem BL (h1:PS X st (ji X f))(h2:jm X qC (ji X g)):jm X (st::qC) (ji X (qG f g)):=EW (JV h1 h2) λD σ H ⟨P,α,O,S,r,C,J⟩=>by
 refine⟨P,α,O,S,r,C,?_⟩;unfold qG at J;cases q:f O S with
 |nx Y U =>
  rw[q] at J;exact λT A E G B N I L=>⟨E,G,Y,U,B,N,qY.base I L J⟩
 |rt d U=>rw[q] at J;exact J
 |bk Y U=>rw[q] at J;exact J
 |ct Y U=>rw[q] at J;exact J
 |ex c x Y U=>rw[q] at J;exact J
 |bad=>rw[q] at J;exact J
theorem DM (h1:PS X st (ji X f)):jm X [st] (ji X f):=MP h1
theorem xI {β:Type}{P:Hp}{α:ag}{r:az β}{k:β->ao->jd}{D:Ends}(h:qY X P α (r.toS ak k) D):qI X P α r λd S=>qY X P α (k d S) D:=by
 cases r with
 |ok d S=>exact h
 |ex c x S=>exact h
 |bad=>exact h
inductive yn (X:Cx)(pins:aa)(σ : _L.St)(env:qB)(P:Hp)(α : Aa Af)(u:Ac)(s1:Ai)(k:D->ao->jd)(E:Ends):Prop
 |mk (v:V) (H1 P1:Hp) (α1:ag) (d:D) (S1:ao) (G:Got X pins σ env P α u s1 v H1 P1 α1 d S1) (q:qY X P1 α1 (k d S1) E):yn X pins σ env P α u s1 k E
theorem tR {k:D->ao->jd}{σ:_L.St}{H P:Hp}{α:ag}{ak:qB}{D:Ends}(T:PE X e (tD X fa))(I:Inv X aj σ H s)(r:bi X.K H P α S)
  (O:zI X.K P α σ ak) (N:qY X P α ((fa ak S).toS ak k) D) :
  b6 X (eval e X.env) (λu U=>yn X aj σ ak P α u U k D) X.xe s:=by
 have J:qI X P α ((fa ak S).bind λd S=>.ok d S) λd S=>qY X P α (k d S) D:=by
  have:=xI N;cases q:fa ak S <;> rw[q] at this <;> exact this
 exact bn (zT T I r O J) λu U ⟨v,C,L,Y,d,B,G,q⟩=>⟨v,C,L,Y,d,B,G,qY.base G.same G.pre q⟩
def xG (f:DE):DS:=λY S=>(f Y S).toS Y λ_ J=>.nx Y J
theorem BM (C:PE X e (tD X fa))(hs:Po e none aq.line X.env=pure false:=by rfl):PS X (.Expr e aq) (ji X (xG fa)):=by
 intro E s σ H D I h;obtain⟨P,α,L,S,r,N,U⟩:=h;exact wpAny_Expr_any (bn (tR C I r N U) λv T ⟨x,J,O,Y,d,B,G,q⟩=>⟨σ,J,G.inv,q σ J O Y G.rel G.env (qE.refl _) (Bg _)⟩) I.quiet hs
def qW (f:DE):DS:=λY S=>(f Y S).toS Y λd J=>.rt d J
theorem DP (C:PE X e (tD X fa)):PS X (.Return (Ab e) aq) (ji X (qW fa)):=by
 intro E s σ H D I h;obtain⟨P,α,L,S,r,N,U⟩:=h;exact wpAny_Return_some (bn (tR C I r N U) λv T ⟨x,J,O,Y,d,B,G,q⟩=>⟨x,σ,J,G.inv,G.val,q x J O Y G.rel (qE.refl _) (Bg _) G.rep⟩)
def fj (t:DT)(f g:DS):DS:=λY S=>(t Y S).toS Y λb J=>if b then f Y J else g Y J
theorem I9 (t:PT X c (nh X ta))(l:jm X as (ji X f))(v:jm X C (ji X g)):PS X (.If c as C aq) (ji X (fj ta f g)):=by
 intro N s σ H D I h;obtain⟨P,α,Y,S,r,o,y⟩:=h;have O:qI X P α ((ta Y S).bind λd S=>.ok d S) λb S=>qY X P α (if b then f Y S else g Y S) D:=by
  have:=xI y;cases q:ta Y S <;> rw[q] at this <;> exact this
 refine wpAny_If (bn (kU (λj q=>t N s σ H j I q) r o O) λk B ⟨L,A,U,T,E,z,J,w,M,G⟩=>?_);cases k with
 |true=>exact l N B σ L D E ⟨A,U,Y,T,z,J,qY.base w M G⟩
 |false=>exact v N B σ L D E ⟨A,U,Y,T,z,J,qY.base w M G⟩
abbrev DG:=D->qB->ao->az qB
abbrev so:=Aa D->qB->ao->az qB
def yg (X:Cx)(P:Hp)(α : Aa Af)(Q:_L.St->Hp->Prop)(U:qB)(O:ao):Prop:=∀ J N G Y,bi X.K N G Y O->zI X.K G Y J U->qE P G->α<+:Y->Q J N
def nr (X:Cx)(g:DG):TG:=λv σ H Q=>∃ P α Y S d,bi X.K H P α S/\zI X.K P α σ Y/\av X.K P α d v/\qI X P α (g d Y S) (yg X P α Q)
def aG (X:Cx)(g:so):we:=λvs σ H Q=>∃ P α Y S J,bi X.K H P α S/\zI X.K P α σ Y/\qD X.K P α J vs/\qI X P α (g J Y S) (yg X P α Q)
theorem zI.set {K:Aj}{P:Hp}{α:ag}{σ:_L.St}(Y:zI K P α σ ak)(i:Ag)(N:av K P α d v):zI K P α (σ.set i (Ab v)) (ak.set i (Ab d)):=by
 refine⟨by simp[Y.1],λj G e=>?_⟩
 by_cases U:i=j
 .subst U
  by_cases J:i<ak.length
  .rw[DL J] at e
   cases e;exact⟨v,by rw[DL (by rw[<- Y.1];exact J)],N⟩
  .rw[Wz (by simp;fin2)] at e;cases e
 .rw[Dd U] at e ⊢
  exact Y.2 j G e
def bj (i:Ag):DG:=λd Y S=>.ok (Y.set i (Ab d)) S
theorem BG {i:Ag}(O:X.N.Nodup)(hi:X.N[i]? = Ab x:=by rfl)(B:Loc X.env.scope x:=by first|exact AaN rfl|exact Zr rfl)(N:X.fn x=true\/X.env.scope.names.lookup x=Ab .local:=by first|exact .inl rfl|exact .inr rfl|assumption):PG X (.Name x aq) (nr X (bj i)):=by
 intro Y s σ H v u Q I C h;obtain⟨P,α,L,S,d,r,G,J,U⟩:=h;exact MF O hi B N Y s σ H v u Q I C (U _ H P α r (G.set i J) (qE.refl _) (Bg _))
def wH:so:=λJ Y S=>match J with
 |[]=>.ok Y S
 |_=>.bad
def zD (g:DG)(N:so):so:=λU J S=>match U with
 |d::r=>(g d J S).bind λY G=>N r Y G
 |[]=>.bad
theorem BH:uw X [] (aG X wH):=by
 intro N s σ H vs us Q I G h;obtain⟨P,α,C,S,J,r,U,O,Y⟩:=h;cases J with
 |nil=>exact MG N s σ H vs us Q I G ⟨O.nil_inv,Y σ H P α r U (qE.refl _) (Bg _)⟩
 |cons d J=>exact Aq Y
theorem U9 {g:DG}(h1:PG X e (nr X g))(h2:uw X es (aG X O))(hs:(Hd (e::es) X.env).map (·.2)=assign e X.env::(Hd es X.env).map (·.2):=by rfl):uw X (e::es) (aG X (zD g O)):=by
 intro v s σ H vs us Q I rv h;obtain⟨P,α,A,S,U,r,n,m,z⟩:=h;cases U with
 |nil=>exact Aq z
 |cons d U =>
  obtain⟨w,ws,rfl,p1,p2⟩:=m.cons_inv;refine JQ h1 h2 hs v s σ H _ us Q I rv ⟨w,ws,rfl,P,α,A,S,d,r,n,p1,?_⟩;have Y:qI X P α ((g d A S).bind λJ G=>O U J G) (yg X P α Q):=z;cases q:g d A S with
  |bad=>rw[q] at Y;exact Y
  |ex c x l=>rw[q] at Y;exact Y
  |ok J G =>
   rw[q] at Y;intro y H' P' T i E M N;refine⟨P',T,J,G,U,i,E,qD.mono M N _ _ p2,qI.base' M N (λj l ok B o t L r2 C e3 k=>ok B o t L r2 C (M.trans e3) (N.trans k)) Y⟩
def kb (n:Ag)(U:so):DG:=λd J S=>match d with
 |.tup Y=>if Y.length=n then U Y J S else .bad
 |_=>.bad
set_option tactic.hygienic true in
theorem D6 {k:Ag}{n:Ag}(M:X.calm=true)(h:uw X es (aG X U))(N:(Hd es X.env).length=n:=by rfl)(J:(Hd es X.env).findIdx? (·.1)=none:=by rfl):PG X (.Tuple es k aq) (nr X (kb n U)):=by
 intro A s σ H v u Q I O E;obtain⟨P,α,C,S,d,r,B,G,Y⟩:=E;cases d with
 |tup L =>
  simp only[av] at G;obtain⟨a,vs,rfl,q,t⟩:=G;simp only[kb] at Y
  split at Y
  .rename_i T
   exact EO M h N J A s σ H _ u Q I O ⟨a,vs,rfl,w4 r.sub q,by rw[<- t.length];exact T,P,α,C,S,L,r,B,t,Y⟩
  .exact Aq Y
 |_=>exact Aq Y
abbrev G3:=D->D->D->ao->az Vx
def OkU (X:Cx)(P:Hp)(α : Aa Af)(Q:Hp->Prop)(_:Vx)(G:ao):Prop:=∀ J U Y,bi X.K J U Y G->qE P U->α<+:Y->Q J
def rX (X:Cx)(g:G3):VF:=λo i v H Q=>∃ P α S a b d,bi X.K H P α S/\av X.K P α a o/\av X.K P α b i/\av X.K P α d v/\qI X P α (g a b d S) (OkU X P α Q)
def ni (J fi:DE)(g:G3):DG:=λd Y S=>(J Y S).bind λo G=>(fi Y G).bind λi U=>(g o i d U).bind λ_ N=>.ok Y N
theorem D5 {g:G3}(ho:PE X o (tD X j))(hi:PE X i (tD X fi))(hs:eB X (rX X g))
  (ha:∀ v,assign (.Subscript o i aq) X.env v=(do
   let G <- holding [v] (eval o X.env)
   let O <- holding [v,G] (eval i X.env)
   T0 aq
   holding [v,G,O] (setItem G O v)
   release [v,G,O] []):=by intro _;rfl):PG X (.Subscript o i aq) (nr X (ni j fi g)):=by
 intro aj s σ H v u Q I rv h;obtain⟨P,α,ak,S,d,r,re,rp,af⟩:=h;rw[ha];refine Ad (EQ (bn (zT ho I r re af) λG s1 ⟨x,H1,l,N,d1,S1,J,A⟩=>?_));refine Ad (EQ (bn (zT hi J.inv J.rel J.env (P:=l) (α:=N) (Ok:=yg X l N Q) (qI.base' J.same J.pre (λm S' ok L E M U r2 B e3 e4=>ok L E M U r2 B (J.same.trans e3) (J.pre.trans e4)) A)) λO s2 ⟨y,E,M,U,d2,k,G2,Y⟩=>?_));refine Ad (Lu (Ad (EQ (bn (hs aj s2 σ E x y v G O u (λC=>Q σ C) G2.inv J.val G2.val rv ⟨M,U,k,d1,d2,d,G2.rel,av.mono G2.same G2.pre _ _ J.rep,G2.rep,av.mono (J.same.trans G2.same) (J.pre.trans G2.pre) _ _ rp,?_⟩) λ_ s3 ⟨C,I3,q3⟩=>?_))))
 .cases q:g d1 d2 d k with
  |bad=>rw[q] at Y;exact Y
  |ex c x S'=>rw[q] at Y;exact λu s' z=>Y u s' (z.base G2.same G2.pre)
  |ok w S3 =>
   rw[q] at Y;exact λH' P' T r' n t=>Y σ H' P' T r' (G2.env.mono n t) (G2.same.trans n) (G2.pre.trans t)
 .exact wpAny_release ⟨σ,C,I3,q3⟩
def qQ (f:DE)(g:DG):DS:=λJ S=>(f J S).toS J λd G=>(g d J G).toS J λY U=>.nx Y U
theorem XC {g:DG}{P:Hp}{α:ag}{U:Ends}(h:qY X P α ((g d ak S).toS ak λY G=>.nx Y G) U):qI X P α (g d ak S) (yg X P α U.nx):=by
 cases q:g d ak S with
 |bad=>rw[q] at h;exact h
 |ex c x O=>rw[q] at h;exact h
 |ok J N=>rw[q] at h;exact h
theorem DB {g:DG}(E:PE X e (tD X fa))(A:PG X Y (nr X g))(hs:Nu [Y] e aq.line X.env=pure false:=by rfl)(hw:Nt [Y] e X.env=pure none:=by rfl)
  (h1:(Hd [Y] X.env).map (·.2)=[assign Y X.env]:=by rfl):PS X (.Assign [Y] e aq) (ji X (qQ fa g)):=by
 intro M s σ H D I h;obtain⟨P,α,U,S,r,C,N⟩:=h;refine wpAny_Assign_stores (bn (tR E I r C N) λv O ⟨x,B,T,J,d,L,G,q⟩=>?_) hs hw;rw[h1];exact bn (A M O σ B x v _ G.inv G.val ⟨T,J,U,L,d,G.rel,G.env,G.rep,XC q⟩) λ_ w q=>q
theorem DQ {i:Ag}(E:X.N.Nodup)(N:PE X e (tD X fa))(hi:X.N[i]? = Ab x:=by rfl)(A:Loc X.env.scope x:=by first|exact AaN rfl|exact Zr rfl)(hs:Po e (Ab (.Name x Y)) aq.line X.env=pure false:=by rfl)
  (B:X.fn x=true\/X.env.scope.names.lookup x=Ab .local:=by first|exact .inl rfl|exact .inr rfl|assumption):PS X (.Assign [.Name x Y] e aq) (ji X (qQ fa (bj i))):=by
 intro z s σ H D I h;obtain⟨P,α,j,S,r,C,O⟩:=h;refine wpAny_Assign_Name (bn (tR N I r C O) λv k ⟨y,U,L,J,d,M,G,q⟩=>?_) hs;exact jR G.inv E hi A G.val (λw T=>⟨_,U,T,q _ U L J G.rel (G.env.set i G.rep) (qE.refl _) (Bg _)⟩) B
noncomputable def cR (i j:Ag)(ak:qB)(S1:ao):Aa D->jd
 |[x,y]=>.nx ((ak.set i (Ab x)).set j (Ab y)) S1
 |_=>.bad
def uO (i j:Ag)(f:DA):DS:=λY S=>(f Y S).toS Y λJ U=>cR i j Y U J
theorem DN {i j:Ag}{f:DA}{C O G:Ez}{kt k2 pt2}(hc:X.calm=true) (l:X.N.Nodup) (ha:PA X [a,b] (mz X f)) (hi:X.N[i]? = Ab x:=by rfl) (n:X.N[j]? = Ab y:=by rfl) (N:i≠j:=by decide)
  (s:X.env.scope.names.lookup x=Ab .local:=by rfl) (k:X.env.scope.names.lookup y=Ab .local:=by rfl)
  (hw:Nt [.Tuple [.Name x C,.Name y O] kt G] (.Tuple [a,b] k2 pt2) X.env=pure (Ab [x,y]):=by rfl)
  (hs:Nu [.Tuple [.Name x C,.Name y O] kt G] (.Tuple [a,b] k2 pt2) aq.line X.env=pure false:=by rfl) :
  PS X (.Assign [.Tuple [.Name x C,.Name y O] kt G] (.Tuple [a,b] k2 pt2) aq) (ji X (uO i j f)):=xw (EV hc l hi n N s k ha hw hs) λD σ H ⟨P,α,B,S,r,T,A⟩=>by
 refine⟨P,α,B,S,r,T,?_⟩;have Y:=xI A;cases q:f B S with
 |bad=>rw[q] at Y;exact Y
 |ex c x S'=>rw[q] at Y;exact Y
 |ok U M =>
  rw[q] at Y;intro vs H' v L z I E rp;have J:qY X P α (cR i j B M U) D:=Y;cases U with
  |nil=>exact Aq J
  |cons d U=>cases U with
   |nil=>exact Aq J
   |cons d' U=>cases U with
    |cons _ _=>exact Aq J
    |nil =>
     obtain⟨w,ws,rfl,p1,t⟩:=rp.cons_inv;obtain⟨m,o,rfl,h,t⟩:=t.cons_inv;rw[t.nil_inv];exact⟨w,m,rfl,J _ _ v L z (((T.mono I E).set i p1).set j h) I E⟩
end
structure w_ (K:Aj)(J:It)(P:Hp)(α : Aa Af)(ds:Aa D):Prop where
 go:∀ i H P1 α1 S,i<ds.length->bi K H P1 α1 S->qE P P1->α<+:α1->J.go i H
 yld:∀ i H x H' P1 α1 S,i<ds.length->bi K H P1 α1 S->qE P P1->α<+:α1->J.yld i H x H'->∃ P2 d,ds[i]? = Ab d/\bi K H' P2 α1 S/\qE P1 P2/\av K P2 α1 d x
 stop:∀ i H P1 α1 S,ds.length<=i->bi K H P1 α1 S->qE P P1->α<+:α1->J.stop i H
abbrev DI:=qB->ao->az (Aa D)
def xo (X:Cx)(P:Hp)(α : Aa Af)(R:It->Hp->Prop)(ds:Aa D)(N:ao):Prop:=∀ J G U Y,bi X.K G U Y N->qE P U->α<+:Y->w_ X.K J U Y ds->R J G
inductive wn (X:Cx)(f:DI)(σ : _L.St)(H:Hp)(R:It->Hp->Prop):Prop
 |mk (P:Hp) (α : Aa Af) (env:qB) (S:ao) (r:bi X.K H P α S) (re:zI X.K P α σ env) (af:qI X P α (f env S) (xo X P α R)):wn X f σ H R
def uM {β:Type}(o:Am β)(S:ao):az β:=match o with
 |some b=>.ok b S
 |none=>.bad
theorem j3 {X:Cx}{β:Type}{o:Am β}{P:Hp}{α:ag}{Ok:β->ao->Prop}(h:qI X P α (uM o S) Ok):∃ b,o=Ab b/\Ok b S:=by
 cases o with
 |none=>exact Aq h
 |some b=>exact⟨b,rfl,h⟩
theorem vL {X:Cx}{β:Type}{c:Prop}[Hy c]{r:az β}{P:Hp}{α : Aa Af}{Ok:β->ao->Prop}(h:qI X P α (if c then r else .bad) Ok):c/\qI X P α r Ok:=by
 by_cases z:c
 .rw[Be z] at h;exact⟨z,h⟩
 .rw[Bc z] at h;exact Aq h
theorem cP {X:Cx}{β:Type}{g:D->az β}{P:Hp}{α:ag}{Ok:β->ao->Prop}(h:qI X P α (match ds with|[d]=>g d|_=>.bad) Ok):∃ d,ds=[d]/\qI X P α (g d) Ok:=by
 cases ds with
 |nil=>exact Aq h
 |cons d ds =>
  cases ds with
  |nil=>exact⟨d,rfl,h⟩
  |cons _ _=>exact Aq h
theorem d7 {β:Type}{i:Ag}{f:Aa D->Am β}{g:Aa (bq × D)->Am β}{b:β}(h:(match S[i]? with|some (.lst xs)=>f xs|some (.dct kvs)=>g kvs|_=>none)=Ab b):(∃ xs,S[i]? = Ab (.lst xs)/\f xs=Ab b)\/∃ kvs,S[i]? = Ab (.dct kvs)/\g kvs=Ab b:=by
 cases e:S[i]? with
 |none=>rw[e] at h;exact nn h
 |some m =>
  rw[e] at h;cases m with
  |lst xs=>exact .inl ⟨xs,rfl,h⟩
  |dct kvs=>exact .inr ⟨kvs,rfl,h⟩
  |_=>exact nn h
theorem RB {β:Type}{i:Ag}{f:Aa D->Am β}{b:β}(h:(match S[i]? with|some (.lst xs)=>f xs|_=>none)=Ab b):∃ xs,S[i]? = Ab (.lst xs)/\f xs=Ab b:=by
 cases e:S[i]? with
 |none=>rw[e] at h;exact nn h
 |some m =>
  rw[e] at h;cases m with
  |lst xs=>exact⟨xs,rfl,h⟩
  |_=>exact nn h
inductive _M (d:D)(xs:Aa D):Prop
 |tup (e:d=.tup xs)
 |lst (e:d=.lst xs)
noncomputable def fM {β:Type}(S:ao)(n:Ag)(f:Aa D->az β) : az β:=match S[n]? with
 |some (.lst Y)=>f Y
 |_=>.bad
theorem jN {X:Cx}{β:Type}{f:Aa D->az β}{P:Hp}{α:ag}{Ok:β->ao->Prop}(h:qI X P α (fM S n f) Ok):∃ xs,S[n]? = Ab (.lst xs)/\qI X P α (f xs) Ok:=by
 unfold fM at h;cases e:S[n]? with
 |none=>rw[e] at h;exact Aq h
 |some m =>
  rw[e] at h;cases m with
  |lst xs=>exact⟨xs,rfl,h⟩
  |_=>exact Aq h
def xB:D->Am (Aa D)
 |.tup Y=>Ab Y
 |.lst Y=>Ab Y
 |_=>none
theorem K_ (h:xB d=Ab xs):_M d xs:=by
 cases d with
 |tup Y=>exact .tup (congrArg D.tup (Dm h))
 |lst Y=>exact .lst (congrArg D.lst (Dm h))
 |_=>exact nn h
def w5 (f:DE):DI:=λY S=>(f Y S).bind λd J=>uM (xB d) J
section
variable {X:Cx}{K:Aj}{tg e:Cc}{fa:DE}
theorem UW {P:Hp}{α:ag}{a:Af}(q:kf K P a vs)(t:qD K P α ds vs):w_ K (U_ K a) P α ds where
 go:=λi H U J S Y r e _=>⟨vs,vs[i]'(by rw[<- t.length];exact Y),(e.trans r.sub).seq q,by simp⟩
 yld:=λi H x B U J S Y r e C y=>by
  obtain⟨rfl,y⟩:=y;have O:=y vs ((e.trans r.sub).seq q);obtain⟨v,G,N⟩:=t.get (Ap Y);rw[O] at G;cases G;exact⟨U,_,Ap Y,r,qE.refl _,av.mono e C _ _ N⟩
 stop:=λi H U J S Y r e _=>⟨vs,(e.trans r.sub).seq q,by rw[<- t.length];exact Y⟩
theorem FF {P:Hp}{α:ag}{a:Af}(q:jl K P a vs)(t:qD K P α ds vs):w_ K (_J K a) P α ds where
 go:=λi H U J S Y r e _=>⟨vs,vs[i]'(by rw[<- t.length];exact Y),wB (e.trans r.sub) q,by simp⟩
 yld:=λi H x B U J S Y r e C y=>by
  obtain⟨rfl,y⟩:=y;have O:=y vs (wB (e.trans r.sub) q);obtain⟨v,G,N⟩:=t.get (Ap Y);rw[O] at G;cases G;exact⟨U,_,Ap Y,r,qE.refl _,av.mono e C _ _ N⟩
 stop:=λi H U J S Y r e _=>⟨vs,wB (e.trans r.sub) q,by rw[<- t.length];exact Y⟩
theorem c8 {σ:_L.St}{H P:Hp}{α:ag}{R:It->Hp->Prop}(I:Inv X aj σ H s)(r:bi X.K H P α S)(J:qF v vv)(U:av X.K P α d v)(G:xB d=Ab ds)
  (q:xo X P α R ds S):b6 X (Rz vv) (xn X aj σ tg R) X.xe s:=by
 cases d with
 |tup B =>
  cases G;simp only[av] at U;obtain⟨a,vs,rfl,Y,t⟩:=U;cases J;obtain⟨O,J,p,C⟩:=I.tuple (w4 r.sub Y);refine Jo (show s.heap.IsTuple a O.toArray from p) ?_
  refine⟨s.heap.objs.size,[s.heap.objs.size],_,_,H,rfl,I.kept (t':=s.toks) λb o e=>Ak _ e,X2 a _,⟨_,Bi _ rfl,rfl,rfl⟩,λb N=>?_,q _ _ P α r (qE.refl _) (Bg _) (FF Y t)⟩;have e:b=s.heap.objs.size:=by simpa using N
  subst e;exact I.fpOk (Ax _) (I.hok.fresh (Ax _))
 |lst B =>
  cases G;simp only[av] at U;obtain⟨a,vs,rfl,Y,t⟩:=U;cases J;obtain⟨O,J,p,C⟩:=I.list ((xO r.sub Y).l);refine Ip p.isList ?_;refine⟨s.heap.objs.size,[s.heap.objs.size],_,_,H,rfl,I.kept (t':=s.toks) λb o e=>Ak _ e,r0 a _,⟨_,Bi _ rfl,rfl,rfl⟩,λb N=>?_,q _ _ P α r (qE.refl _) (Bg _) (UW Y.l t)⟩;have e:b=s.heap.objs.size:=by simpa using N
  subst e;exact I.fpOk (Ax _) (I.hok.fresh (Ax _))
 |_=>cases G
theorem xo.base {P P1:Hp}{α Y:ag}{R:It->Hp->Prop}(e:qE P P1)(h:α<+:Y)(k:xo X P α R ds S):xo X P1 Y R ds S:=λJ G O U r B N C=>k J G O U r (e.trans B) (h.trans N) C
theorem D7 (O:PE X e (tD X fa)):PI X tg e (wn X (w5 fa)):=by
 intro w s σ H R I h;obtain⟨P,α,E,S,r,G,U⟩:=h;refine bn (zT O I r G U) λvv M ⟨v,B,T,N,d,L,Y,J⟩=>?_;obtain⟨A,C,q⟩:=j3 J;exact c8 Y.inv Y.rel Y.val Y.rep C (q.base Y.same Y.pre)
noncomputable def wO (lo:Ah)(n:Ag):Aa D:=(Cj n).map λ(i:Ag)=>D.int (lo+(i:Ah))
theorem gZ (lo:Ah)(n:Ag):(wO lo n).length=n:=by simp[wO]
theorem sI {P:Hp}{α:ag}{lo:Ah}:w_ K (yl lo n) P α (wO lo n) where
 go:=λi H U J S Y r e _=>by rw[gZ] at Y;exact Y
 yld:=λi H x G U J S Y r e N y=>by
  obtain⟨rfl,rfl⟩:=y;rw[gZ] at Y;exact⟨U,.int (lo+i),by simp[wO,Y],r,qE.refl _,by simp only[av]⟩
 stop:=λi H U J S Y r e _=>by rw[gZ] at Y;exact Y
def uN (ds:Aa D):Am (Aa D):=match ds with
 |[.int j]=>if -(2 ^ 62)<=j/\j<2 ^ 62 then Ab (wO 0 j.toNat) else none
 |[.int i,.int j]=>if -(2 ^ 62)<=i/\i<2 ^ 62 /\ -(2 ^ 62)<=j/\j<2 ^ 62 then Ab (wO i (j-i).toNat) else none
 |_=>none
def xT (f:DA):DI:=λY S=>(f Y S).bind λJ U=>uM (uN J) U
def zm:D->Am Ah
 |.int i=>Ab i
 |_=>none
theorem mG (h:zm d=Ab i):d=.int i:=by
 cases d with
 |int k=>exact congrArg D.int (Dm h)
 |_=>exact nn h
inductive wv:Aa D->Aa D->Prop
 |one (j:Ah) (h : -(2 ^ 62)<=j/\j<2 ^ 62):wv [.int j] (wO 0 j.toNat)
 |two (i j:Ah) (h : -(2 ^ 62)<=i/\i<2 ^ 62 /\ -(2 ^ 62)<=j/\j<2 ^ 62):wv [.int i,.int j] (wO i (j-i).toNat)
theorem qAL (d:D):uN [d]=(zm d).bind λj=>if -(2 ^ 62)<=j/\j<2 ^ 62 then Ab (wO 0 j.toNat) else none:=by cases d <;> rfl
theorem qAM (d d':D):uN [d,d']=(zm d).bind λi=>(zm d').bind λj=>if -(2 ^ 62)<=i/\i<2 ^ 62 /\ -(2 ^ 62)<=j/\j<2 ^ 62 then Ab (wO i (j-i).toNat) else none:=by
 cases d with
 |int i=>cases d' <;> rfl
 |_=>rfl
theorem TL (h:uN ds=Ab ap):wv ds ap:=by
 cases ds with
 |nil=>exact nn h
 |cons d ds =>
  cases ds with
  |nil =>
   obtain⟨j,e,h⟩:=Gh.mp ((qAL d).symm.trans h);obtain⟨c,rfl⟩:=gR h;rw[mG e];exact .one j c
  |cons J ds =>
   cases ds with
   |nil =>
    obtain⟨i,e,h⟩:=Gh.mp ((qAM d J).symm.trans h);obtain⟨j,U,h⟩:=Gh.mp h;obtain⟨c,rfl⟩:=gR h;rw[mG e,mG U];exact .two i j c
   |cons _ _ =>
    have G:∀ Y t,uN (d::J::Y::t)=none:=λY t=>by cases d <;> first|rfl|(cases J <;> rfl)
    exact nn ((G _ _).symm.trans h)
theorem dB {P:Hp}{α:ag}{ds:Aa D}(r:qD K P α (.int i::ds) vs):∃ Y,vs=.int i::Y/\qD K P α ds Y:=by
 obtain⟨w,Y,rfl,p,t⟩:=r.cons_inv;exact⟨Y,congrArg (· :: Y) (by simpa only [av] using p),t⟩
theorem PI.weak {t t':TI}(h:PI X tg Y t)(w:∀ σ H R,t' σ H R->t σ H R):PI X tg Y t':=λJ s σ H R I q=>h J s σ H R I (w σ H R q)
end
section
variable {X:Cx}{tg:Cc}{f:DA}{p aq:Ez}
theorem UA {e:Cc}{es:Aa Cc}(g:Gl X "range")(hm:X.mg "range" = none)(d:PA X (e::es) (mz X f))(hs:Bu (e::es) X.env=(false,eval e X.env)::Bu es X.env:=by rfl)(U:(Hc aq (Bu es X.env)).any (·.1)=false:=by rfl) :
  PI X tg (.Call (.Name "range" p) (e::es) [] aq) (wn X (xT f)):=by
 intro aj s σ H R I h;obtain⟨P,α,ak,S,r,l,k⟩:=h;refine Call_ (yT I g hm boot_range (Gd (bn (vH d I r l k aq) λus s1 ⟨vs,B,L,Y,ds,n,E,T,C,M,O,A,N,G⟩=>?_) hs U));obtain⟨x,o,q⟩:=j3 G;cases TL o with
 |one j c =>
  obtain⟨v,rfl,J⟩:=dB O;cases J.nil_inv;obtain⟨u,rfl,t,rfl⟩:=kA T;refine call_range_1 (cX E om om c.1 c.2 ?_);have z:=q (yl 0 j.toNat) B L Y C A N sI;rw[wE];exact z
 |two i j c =>
  obtain⟨v,rfl,J⟩:=dB O;obtain⟨w,rfl,y⟩:=dB J;cases y.nil_inv;obtain⟨u,m,rfl,⟨t,rfl⟩,t',rfl⟩:=X3 T;exact call_range_2 (cX E c.1 c.2.1 c.2.2.1 c.2.2.2 (q (yl i (j-i).toNat) B L Y C A N sI))
noncomputable def xN (g:DG)(f:DS):Aa D->qB->ao->jd
 |[],G,S=>.nx G S
 |d::N,G,S=>(g d G S).toS G λJ O=>match f J O with
  |.nx Y U=>xN g f N Y U
  |.ct Y U=>xN g f N Y U
  |.bk Y U=>.nx Y U
  |o=>o
def wY (fi:DI)(g:DG)(f:DS):DS:=λY S=>(fi Y S).toS Y λJ U=>xN g f J Y U
inductive sk (X:Cx)(P1:Hp)(α1:ag)(g:DG)(f:DS)(ds:Aa D)(D:Ends)(i m:Ag)(σ : _L.St)(H:Hp):Prop
 |mk (hi:i<=ds.length) (hm:m=ds.length-i) (P2:Hp) (α2:ag) (env2:qB) (S2:ao) (r:bi X.K H P2 α2 S2) (re:zI X.K P2 α2 σ env2) (e1:qE P1 P2) (e2:α1<+:α2) (af:qY X P2 α2 (xN g f (ds.drop i) env2 S2) D):sk X P1 α1 g f ds D i m σ H
theorem DH {f:DS}(hp:Rm (Av X.prog X.w) X.A X.env X.xe)(hc:X.calm=true)(hi:PI X tg ay (wn X fi))(hg:PG X tg (nr X g))(hb:jm X cw (ji X f))
  (hs:∀ x,Dx ay X.env x=pure x:=by intro _;rfl):PS X (.For tg ay cw [] aq) (ji X (wY fi g f)):=xw (YH hp hc hi hg hb hs) λD σ H ⟨P,α,ak,S,r,re,af⟩=>by
 refine⟨P,α,ak,S,r,re,?_⟩;have G:=xI af;cases q:fi ak S with
 |bad=>rw[q] at G;exact G
 |ex c x S'=>rw[q] at G;exact G
 |ok L S1 =>
  rw[q] at G;have zh:qY X P α (xN g f L ak S1) D:=G;intro J H1 P1 M r1 e1 e2 it;refine⟨sk X P1 M g f L D,
   ⟨L.length,Fk _,rfl,P1,M,ak,S1,r1,re.mono e1 e2,qE.refl _,Bg _,qY.base e1 e2 zh⟩,?_⟩
  rintro i m zs h ⟨hi,rfl,P2,C,T,n,r2,l,e,o,B⟩;by_cases N:i<L.length
  .refine .inr ⟨it.go i h P2 C n N r2 e o,sk X P1 M g f L D (i+1) (L.length-(i+1)),λzx H' w=>⟨_,?_,w⟩,λx H3 y=>?_⟩
   .omega
   .obtain⟨P3,d,hd,r3,s,rp⟩:=it.yld i h x H3 P2 C n N r2 e o y
    have I:L.drop i=d::L.drop (i+1):=by
     rw[Gq N];rw[Ap N] at hd;rw[Dm hd]
    rw[I] at B;have O:=xI (qY.base s (Bg _) B);refine⟨P3,C,T,n,d,r3,l.mono s (Bg _),rp,?_⟩;cases q2:g d T n with
    |bad=>rw[q2] at O;exact O
    |ex c x S'=>rw[q2] at O;exact O
    |ok E S3 =>
     rw[q2] at O;intro zv H4 P4 zb r4 zc e6 e7;refine⟨P4,zb,E,S3,r4,zc,?_⟩;have Y:=qY.base e6 e7 O;cases k:f E S3 with
     |bad=>simp only[k] at Y;exact Y
     |ex c x U j=>simp only[k] at Y;exact Y
     |rt d4 j=>simp only[k] at Y;exact Y
     |bk U j=>simp only[k] at Y;exact Y
     |nx U j =>
      simp only[k] at Y;exact λzl H5 P5 z r5 A t v=>⟨N,rfl,P5,z,U,j,r5,A,((e.trans s).trans e6).trans t,(o.trans e7).trans v,qY.base t v Y⟩
     |ct U j =>
      simp only[k] at Y;exact λzl H5 P5 z r5 A t v=>⟨N,rfl,P5,z,U,j,r5,A,((e.trans s).trans e6).trans t,(o.trans e7).trans v,qY.base t v Y⟩
  .have I:L.drop i=[]:=Pz om
   rw[I] at B;exact .inl ⟨it.stop i h P2 C n om r2 e o,B zs h P2 C r2 l (qE.refl _) (Bg _)⟩
end
abbrev DF:=Aa D->ao->az D
section
variable {X:Cx}{x:Aw}{p aq:Ez}{e:Cc}{es:Aa Cc}{F:DF}{fa:DA}
def qN (F:DF)(fa:DA):DE:=λY S=>(fa Y S).bind λJ U=>F J U
theorem dW {σ:_L.St}{U P P1:Hp}{α Y:ag}{ds:Aa D}(B:y8 X u F)(L:Inv X aj σ U J)(O:bi X.K U P1 Y S1)(G:qJ vs us)
  (C:qD X.K P1 Y ds vs) (e1:qE P P1) (e2:α<+:Y) (N:qI X P α (F ds S1) (jn X P α Q)):b6 X (call u us) (EP X aj σ Q) X.xe J:=B aj σ U J P1 Y S1 vs us ds Q L O G C (qV.base e1 e2 N)
theorem U4 {id:Ep}(y:y8 X (.builtin id) F)(M:Gl X x)(hm:X.mg x=none)(hv:Gf x=Ab (.builtin id))(w:PA X (e::es) (mz X fa))(G:x ≠ "__name__":=by decide)(U:(x == ("__debug__" : Aw))=false:=by decide)
  (A:Bu (e::es) X.env=(false,eval e X.env)::Bu es X.env:=by rfl) (Y:(Hc aq (Bu es X.env)).any (·.1)=false:=by rfl):PE X (.Call (.Name x p) (e::es) [] aq) (tD X (qN F fa)):=by
 intro v s σ H Q I h;obtain⟨P,α,g,S,r,C,O⟩:=h;refine Jp (yT I M hm hv ?_ G U);exact Ll (bn (vH w I r C O aq) λus d ⟨vs,q,l,T,c,o,E,L,k,N,j,z,B,J⟩=>dW y E k L j z B J) A Y
theorem XY (k:y8 X (.type T) F)(w:Gl X x)(hm:X.mg x=none)(hv:Gf x=Ab (.type T))(z:PA X (e::es) (mz X fa))(G:x ≠ "__name__":=by decide)(U:(x == ("__debug__" : Aw))=false:=by decide)
  (M:Bu (e::es) X.env=(false,eval e X.env)::Bu es X.env:=by rfl) (Y:(Hc aq (Bu es X.env)).any (·.1)=false:=by rfl):PE X (.Call (.Name x p) (e::es) [] aq) (tD X (qN F fa)):=by
 intro f s σ H Q I h;obtain⟨P,α,c,S,r,C,O⟩:=h;refine Jp (yT I w hm hv ?_ G U);exact Gd (bn (vH z I r C O aq) λus v ⟨vs,o,g,E,d,l,A,L,q,N,y,j,B,J⟩=>dW k A q L y j B J) M Y
end
theorem zK.there {P:Bh}{a:Af}(x:zK P w H h a o):∃ J,h.get? a=Ab J:=by
 cases o with
 |lst U=>obtain⟨_,_,_,_,e⟩:=x;exact⟨_,e⟩
 |tup U=>obtain⟨_,_,_,J,e,_⟩:=x;exact⟨_,e⟩
 |dK Y=>obtain⟨_,_,_,_,o,_,_,e,_⟩:=x;exact⟨_,e⟩
 |dT Y=>obtain⟨_,_,_,_,o,_,_,e,_⟩:=x;exact⟨_,e⟩
 |set S n=>obtain⟨o,_,_,_,e,_⟩:=x;exact⟨_,e⟩
 |ins C O G=>obtain⟨_,_,_,e,_⟩:=x;exact⟨_,e⟩
 |own y=>obtain⟨_,e⟩:=x;exact⟨_,e⟩
 |xd G=>obtain⟨_,⟨_,_,_,e,_⟩,_⟩:=x;exact⟨_,e⟩
 |rng lo N=>obtain⟨_,_,_,e⟩:=x;exact⟨_,e⟩
 |frz J u=>obtain⟨e,_⟩:=x;exact⟨_,e⟩
 |tbl B=>exact⟨_,show h.get? a=Ab _ from x⟩
 |met f y=>exact⟨_,show h.get? a=Ab _ from x⟩
 |ext φ => obtain⟨_,e,_⟩:=x;exact e
section
variable {X:Cx}{aj:aa}{σ: _L.St}{H:Hp}{s:Ai}{B h':By}
abbrev qg (X:Cx):Prop:=X.ex=[]/\X.stack=X.env::X.outer/\X.env.frame=Ab X.env.locals
theorem qg.mem (F:qg X){b:Af}:b∈jq X.stack↔b=X.env.locals\/b∈X.fs:=by
 rw[F.2.1];unfold jq;rw[Jd,F.2.2];exact Az
theorem wx.there (I:Inv X aj σ H s)(F:qg X){b:Af}(o:wx X aj H b):∃ Y,s.heap.get? b=Ab Y:=by
 rcases o with⟨o,e⟩|e|⟨p,U,rfl⟩|⟨x,e⟩
 .exact I.base.there b o e (by rw[F.1];simp)
 .cases q:H b with
  |none=>exact absurd q e
  |some u=>exact zK.there (I.hok b u q)
 .exact⟨_,(I.pin p U).1⟩
 .obtain⟨v,Y,J,_⟩:=I.cell x b e
  exact⟨Y,J⟩
theorem Inv.fly (I:Inv X aj σ H s)(F:qg X)(t:Cv X aj H B s.heap)(st:B.StaysIn h')(up:s.heap.UpToSlots h'):Inv X aj σ H { s with heap:=h' } /\ Cv X aj H B h':=by
 have L:∀ b o,s.heap.get? b=Ab o->wx X aj H b->b ∉ jq X.stack->h'.get? b=Ab o:=λb o e q n=>st b o (t b o e q n);have M:∀ b o,X.s₀.heap.get? b=Ab o->b≠X.env.locals:=λb o e=>Cu (Bk (Bf e) I.ok.above);have O:∀ b o,X.s₀.heap.get? b=Ab o->b ∉ X.fs->b ∉ jq X.stack:=λb o e n z=>(F.mem.mp z).elim (M b o e) n;have nx:∀ b,b ∉ X.ex:=λb=>by rw[F.1];simp
 have G:∀ b,b∈jq X.stack->∀ o,s.heap.get? b=Ab o->∃ sl,h'.get? b=Ab { o with slots:=sl }:=λb hb o e=>by
  obtain⟨_,w,g,T⟩:=I.stack.mem hb;rw[e] at g;cases g;exact up b o e T
 have Y:∀ x c,X.env.cells.lookup x=Ab c->∀ v,s.heap.IsCell c v->h'.IsCell c v:=λx c e v ⟨o,ho,h⟩=>by
  obtain⟨sl,q⟩:=up c o ho λvs z=>by rw[h] at z;cases z
  exact⟨_,q,h⟩
 refine⟨⟨I.ok,I.os,I.bare,⟨λb o e n hb N=>?_,λb o e n hb N=>?_,I.base.free,λb o e N=>?_,I.base.tups,I.base.frzs,I.base.tbls⟩,?_,λx c e=>?_,I.free,I.freeC,λp f=>?_,λa o e=>?_,I.len⟩,λb o e q n=>?_⟩
 .exact L b o (I.base.keep b o e n hb N) (.inl ⟨o,e⟩) (O b o e hb)
 .obtain⟨sl,U⟩:=I.base.slot b o e n hb N
  obtain⟨A,J⟩:=G b (F.mem.mpr (.inr hb)) _ U;exact⟨A,J⟩
 .obtain⟨w,U⟩:=I.base.there b o e N
  by_cases hb:b∈jq X.stack
  .obtain⟨sl,J⟩:=G b hb _ U
   exact⟨_,J⟩
  .exact⟨w,L b w U (.inl ⟨o,e⟩) hb⟩
 .obtain⟨m,C,hl⟩:=I.loc
  refine⟨m,up.ns C,λi x v U J E=>?_⟩;obtain⟨u,r,l⟩:=hl i x v U J E;refine⟨u,r,?_⟩;rcases l with l|⟨k,c,e,z⟩
  .exact .inl l
  .exact .inr ⟨k,c,e,Y x c e _ z⟩
 .obtain⟨v,z⟩:=I.cell x c e
  exact⟨v,Y x c e v z⟩
 .obtain⟨e,n,y,T,d⟩:=I.pin p f
  exact⟨L p.1 p.2 e (.inr (.inr (.inl ⟨p,f,rfl⟩))) λz=>(F.mem.mp z).elim y T,n,y,T,d⟩
 .refine(I.hok a o e).stay (λb u hb q=>?_) (λ_ q=>q) λ_ _ q=>q
  have C:H b≠none:=by
   rcases hb with rfl|hb
   .rw[e];intro z;cases z
   .rw[hb];intro z;cases z
  exact L b u q (.inr (.inl C)) λz=>C (I.stkFree b z)
 .obtain⟨j,U⟩:=wx.there I F q
  have J:=t b j U q n;have E:=st b j J;rw[e] at E;cases E;exact J
theorem RG (I:Inv X aj σ H s)(hm:AbU g s.heap e c Y)(G:g.FunFrames X.base X.stack)(U:∀ b o,s.heap.get? b=Ab o->wx X aj H b->g.get? b=Ab o) :
  (Rk g (jq X.stack)).StaysIn g/\g.FunFrames (Rk g (jq X.stack)) X.stack/\Cv X aj H (Rk g (jq X.stack)) s.heap:=
 ⟨λb o q=>Zu _ q,PySem.W.funFrames_hide G λJ N a O=>Ot.mpr ⟨J,N,O⟩,λb o e q n=>Yp _ (U b o e q) n⟩
theorem WN {M:Pn}{A:Bw}{E:ae}{Q:Vx->Ai->Prop}(I:Inv X aj σ H s)(F:qg X)(U:A.frames=Ab X.stack)(f:sn X aj H c e s.heap)
  (O:∀ h' B C,v6 B X.outer e c C h'->Inv X aj σ H { s with heap:=h' } -> Cv X aj H B h'->Q () { s with heap:=h' }) : Ar M A (leaving X.env (.ref e)) Q E s:=by
 cases f with
 |new g N L j z =>
  obtain⟨w,o,l⟩:=RG I L j z;rw[F.2.1] at U;refine wpAny_leaves_madeW U F.2.2 w (by rw[<- F.2.1];exact o) L λh' t J T d k=>?_
  obtain⟨G,Y⟩:=Inv.fly I F l J.1 k;exact O h' _ _ J G Y
 |fly B C y q =>
  rw[F.2.1] at U;refine wpAny_leaves_onW U F.2.2 (by rw[<- F.2.1];exact y) λh' J T=>?_
  obtain⟨G,Y⟩:=Inv.fly I F q J.1 T;exact O h' _ _ J G Y
end
def ox (P:Bh)(w:Ce):vm:=λU H s E u Y =>
 ∃ e c J B G,u=.ref e/\Y.os=s.os/\Qj Y.gens/\Un (jq U) [] H J s.heap Y.heap/\gx P w J Y.heap/\v6 B U e c G Y.heap /\
  (∀ b o,Y.heap.get? b=Ab o->((∃ o,s.heap.get? b=Ab o)\/J b≠none)->b ∉ jq U->B.get? b=Ab o)/\E c none J
section
variable {X:Cx}{aj:aa}{σ: _L.St}{H:Hp}{s s':Ai}
theorem SC (I:Inv X aj σ H s)(F:qg X)(h:ox X.prog X.w X.stack H s E u s'):∃ e c Y,u=.ref e/\Inv X aj σ Y s'/\sn X aj Y c e s'.heap/\E c none Y:=by
 obtain⟨e,c,Y,B,C,rfl,os,J,T,U,L,N,q⟩:=h;have O:Inv X aj σ Y s':=Inv.call' I os T U J (ch:=[]) λb z=>absurd z ba
 refine⟨e,c,Y,rfl,O,.fly B C L λb o w G n=>N b o w ?_ n,q⟩;rcases G with⟨o,z⟩|z|⟨p,A,rfl⟩|⟨x,z⟩
 .exact .inl (I.base.there b o z (by rw[F.1];simp))
 .exact .inr z
 .exact .inl ⟨_,(I.pin p A).1⟩
 .obtain⟨v,j,M,_⟩:=I.cell x b z
  exact .inl ⟨j,M⟩
end
structure be (cm:As)(k:Ag)(A:Bw):Prop where
 hd:cm=true->A.handled=none
 dp:A.depth+3*k+5<Sm
 un:A.units+16*k+200<Ed
 gd:A.guards=Ab []
theorem be.mono {j k:Ag}(r:be cm k A)(h:j<=k:=by decide):be cm j A:=⟨r.hd,by have:=r.dp;fin2,by have:=r.un;fin2,r.gd⟩
theorem be.deeper {k:Ag}(r:be cm (k+1) A)(ak:Ko):be cm k (A.deeper ak):=
 ⟨r.hd,by have:=r.dp;show A.depth+1+3*k+5<_;fin2,by have:=r.un;show A.units+3+16*k+200<_;fin2,r.gd⟩
theorem be.depth {k:Ag}(r:be cm k A):A.depth<Sm:=by have:=r.dp;fin2
theorem be.units {k:Ag}(r:be cm k A):A.units+64<Ed:=by have:=r.un;fin2
theorem be.of {k:Ag}(r:jx k A):be true k A:=⟨λ_=>r.hd,r.dp,r.un,r.gd⟩
theorem be.any {k:Ag}(r:be cm k A):be false k A:=⟨(λz=>nomatch z),r.dp,r.un,r.gd⟩
theorem be.mark {k:Ag}(r:be cm k A)(h:Am Ac):be false k (A.mark h):=⟨(λz=>nomatch z),r.dp,r.un,r.gd⟩
noncomputable abbrev Cx.re (X:Cx)(A:Bw)(cm:As)(E:ae):Cx:={ X with A:=A,calm:=cm,xe:=E }
theorem Inv.re {X:Cx}{σ:_L.St}(I:Inv X aj σ H s)(A:Bw)(cm:As)(E:ae)(J:A.frames=Ab X.stack)(Y:cm=true->A.handled=none):Inv (Cx.re X A cm E) aj σ H s:=
 ⟨⟨I.ok.mod,I.ok.kind,I.ok.glob,I.ok.blt,I.ok.above,I.ok.inj,I.ok.has,I.ok.cab,Y,J,I.ok.stk,I.ok.exf,I.ok.bs,I.ok.bsz,I.ok.noex,I.ok.exfs,I.ok.funs,I.ok.frf⟩,I.os,I.bare,I.base,I.loc,I.cell,I.free,I.freeC,I.pin,I.hok,I.len⟩
structure ph (P:Bh)(w:Ce)(K:Aj)(mg:ai)(base:By)(cm:As)(k:Ag)(f:Af)(fd:Fw)(ps:Aa Aw)(sp:Sp):Prop where
 len:∀ vs H Q E,sp vs H Q E->vs.length=ps.length
 run:∀ (A:Bw) (outer:Aa Ko) (s:Ai) (H:Hp) (args:Args) (us:ah) (vs:Aa V) (Q:VK) (E:XK),be cm k A->pj P w K mg base A outer s H->Ql s fd args (ps.zip us)->qJ vs us->sp vs H Q E ->
  Kg (Av P w) A (.call (.ref f) args) (CR (ox P w) outer P w H s Q E) s
theorem ph.ok {P:Bh}{K:Aj}{base:By}{k:Ag}(F:ph P w K J base true k f fd U sp):ot P w K J base (ox P w) k f fd U sp:=
 ⟨F.len,λA G s H Y us vs Q E N=>F.run A G s H Y us vs Q E (.of N)⟩
theorem ph.any {P:Bh}{K:Aj}{base:By}{k:Ag}(F:ph P w K J base false k f fd U sp):ph P w K J base cm k f fd U sp:=
 ⟨F.len,λA G s H Y us vs Q E N=>F.run A G s H Y us vs Q E N.any⟩
theorem ph.imp {P:Bh}{K:Aj}{base:By}{k:Ag}{J:Sp}(F:ph P w K U base cm k f fd G sp)
  (h:∀ vs H Q E,J vs H Q E->sp vs H Q E):ph P w K U base cm k f fd G J:=
 ⟨λvs H Q E q=>F.len vs H Q E (h _ _ _ _ q),λA N s H Y us vs Q E C L B hv O=>F.run A N s H Y us vs Q E C L B hv (h _ _ _ _ O)⟩
noncomputable def mw (cm:As)(P:Bh)(w:Ce)(K:Aj)(mg:ai)(base:By)(N:Aa Aw)(J:Aw)(am:Eu)(f:Af)(U:Ac)(A:Bw)(G:Aa Ko)(s:Ai)(H:Hp)(E:XK):Cx where
 prog:=P
 w:=w
 K:=K
 mg:=mg
 base:=base
 A:=A.deeper (Hg J am s.heap.objs.size f U)
 N:=N
 s₀:=s
 H₀:=H
 env:=Hg J am s.heap.objs.size f U
 outer:=G
 stack:=Hg J am s.heap.objs.size f U::G
 ex:=[]
 calm:=cm
 fn:=λ_=>true
 pn:=[]
 xe:=λe O=>Ar (Av P w) (A.deeper (Hg J am s.heap.objs.size f U)) (leaving (Hg J am s.heap.objs.size f U) e) (λ_ Y=>ox P w G H s E e Y) (λC Y=>ox P w G H s E C Y) O
section
variable {P:Bh}{w:Ce}{K:Aj}{mg:ai}{base:By}{cm:As}{N:Aa Aw}{bg:Aw}{am:Eu}{f:Af}{cd:Ac}{A:Bw}{ar:Aa Ko}{s:Ai}{H:Hp}{E:XK}
theorem VZ:Rm (Av P w) (A.deeper (Hg bg am s.heap.objs.size f cd)) (Hg bg am s.heap.objs.size f cd) (mw cm P w K mg base N bg am f cd A ar s H E).xe:=PassesOwn.leaving (Q₁:=λe Y=>ox P w ar H s E e Y)
abbrev _e (P:Bh)(w:Ce)(A:Bw)(ak:Ko)(ar:Aa Ko)(H:Hp)(s:Ai)(E:XK):Ac->Ai->Prop:=λe J=>Ar (Av P w) (A.deeper ak) (leaving ak e) (λ_ Y=>ox P w ar H s E e Y) (λU Y=>ox P w ar H s E U Y) J
theorem U0 {X:Cx}{α:ag}(M:X.A=A.deeper X.env)(k:wt X C α c x S u s')
  (q:∀ L O J,bi X.K L O J S->qE C O->α<+:J->E c none L):_e X.prog X.w A X.env X.outer X.H₀ X.s₀ E u s':=by
 obtain⟨e,aj,σ,G,y,U,rfl,I,r,i,l,F,d⟩:=k;unfold _e;rw[<- M];refine WN I F I.ok.frames d λa B g j Y t=>?_;refine⟨e,c,G,B,g,rfl,Y.os,Y.bare,by have z:=Y.base;rw[F.1] at z;exact z,Y.hok,j,λb o m T n=>t b o m ?_ λz=>?_,q G y U r i l⟩
 .rcases T with z|z
  .exact .inl z
  .exact .inr (.inl z)
 .rcases (qg.mem F).mp z with z|z
  .subst z
   rcases T with⟨h,v⟩|z
   .exact absurd (Bf v) (Qb.mpr Y.ok.above)
   .exact z Y.free
  .exact n z
theorem Z6 {G:Ai}(S:dc N U am)(C:cm=true->A.handled=none)(Y:pj P w K mg base A ar s H)(O:vs.length=U.length)(r:qJ vs us)
  (x:InCallC s s.heap.objs.size (Yu (Hg bg am s.heap.objs.size f cd).kindOf (U.zip us) λ_=>none) (Hz (s.heap.objs.size+1) am.names []) (Yv (Hg bg am s.heap.objs.size f cd).kindOf (U.zip us) λ_=>none) G) :
  Inv (mw cm P w K mg base N bg am f cd A ar s H E) [] (_L.w9 N vs) H G:=by
 have I:=sH (CX:=ox P w) (E:=E) (A:={ A with handled:=none }) S rfl ⟨Y.frames,Y.mod,Y.bs,Y.bsz,Y.funs,Y.frf,Y.hok,Y.bare⟩ O r x
 have J:=Inv.re I (A.deeper (Hg bg am s.heap.objs.size f cd)) cm (mw cm P w K mg base N bg am f cd A ar s H E).xe (Yb Y.frames) C;exact J
end
theorem SE {P:Bh}{w:Ce}{K:Aj}{g:ai}{base:By}{cm:As}{k:Ag}{f:Af}{M:Aw}{je:Wv}{am:Eu}{oc:Ac}{od h:Am Af}{m:Ay (Am Ac)}{x:Aw}{kV l pm Y ct:Ac}{N c:Aa Aw}
  {A:Bw} {L:Aa Ko} {s:Ai} {H:Hp} {G:Args} {us:ah} {vs:Aa V} {Q:VK} {E:XK} (lk:K.lookup f=Ab ⟨oc,od,.func (Gv x M je cw am .none kV l pm h Y ct),m⟩) (a:Mz K Y M=true) (S:dc N c am) (hl:vs.length=c.length) (hr:be cm (k+1) A)
  (j:pj P w K g base A L s H) (hb:Ql s (Gv x M je cw am .none kV l pm h Y ct) G (c.zip us)) (r:qJ vs us)
  (B:∃ t,jm (mw cm P w K g base N M am f Y A L s H E) cw t/\t { nx:=λ_ O=>Q .non O,rt:=Q } (_L.w9 N vs) H) :
  Kg (Av P w) A (.call (.ref f) G) (CR (ox P w) L P w H s Q E) s:=by
 have KX:K.In s.heap:=j.mod.kin.keeps λb o e=>(j.bs b o e).1;have br:s.heap.NoLimit:=j.mod.nolimit.keeps λb o e=>(j.bs b o e).1;have C:∀ y∈c.zip us,am.names.lookup y.1=Ab .local \/ (am.names.lookup y.1=Ab .cell/\((Hz (s.heap.objs.size+1) am.names []).lookup y.1).isSome=true):=λ⟨n,v⟩ hy=>by
  rcases S.par n (Ro hy).1 with q|q
  .exact .inl q
  .exact .inr ⟨q,Lw _ _ _ (.inl q)⟩
 refine Ww hr.depth (KX _ _ lk) rfl S.co S.gen rfl (Zw KX a) (hb _ _ _ _ ?_);refine Tg S.kind C λak he s1 x=>?_;subst he;refine⟨br.keeps x.toInCall.keep,codeAny_func ?_⟩;obtain⟨t,ht,hq⟩:=B;have I:Inv (mw cm P w K g base N M am f Y A L s H E) [] (_L.w9 N vs) H s1:=Z6 S hr.hd j hl r x;refine Ht (ht [] s1 (_L.w9 N vs) H _ I hq) (λfl d T=>?_) λe d T=>T;have z:∀ {U : _L.St} {O:Hp} {v:V} {u:Ac},Inv (mw cm P w K g base N M am f Y A L s H E) [] U O d->qF v u->Q v O->CE L P w H s Q u d:=
  λ{U O v u} J i q=>⟨v,O,J.os,J.bare,J.base,J.hok,i,q⟩
 cases fl with
 |ret u =>
  obtain⟨v,U,O,J,i,q⟩:=T;exact z J i q
 |next =>
  obtain⟨U,O,J,q⟩:=T;exact z (v:=V.non) (u:=Dg) J rfl q
 |brk =>
  obtain⟨_,_,_,q⟩:=T;exact Aq q
 |cont =>
  obtain⟨_,_,_,q⟩:=T;exact Aq q
def mF (K:Aj)(x:Aw)(Y:Ac):Prop:=∀ c T,Es K x=Ab (c,T)->Y=.ref c
theorem SD {P:Bh}{w:Ce}{K:Aj}{B:ai}{base:By}{cm:As}{k:Ag}{st:Fz}(F:vj K x C st f fd)(S:dc N T (qK st))
  (U:∀ vs H Q E,sp vs H Q E->vs.length=T.length)
  (J:∀ (Y:Ac) (A:Bw) (O:Aa Ko) (s:Ai) (H:Hp) (vs:Aa V) (Q:VK) (E:XK),fd.code=Y/\Mod K B base->be cm k (A.deeper (Hg C (qK st) s.heap.objs.size f Y))->sp vs H Q E ->
   ∃ t,jm (mw cm P w K B base N C (qK st) f Y A O s H E) (zZ st) t/\t { nx:=λ_ o=>Q .non o,rt:=Q } (_L.w9 N vs) H) :
  ph P w K B base cm (k+1) f fd T sp:=by
 obtain⟨g,c,kV,y,v,l,Y,d,j,rfl,lk,L⟩:=F.ex;exact⟨U,λA O s H I us vs Q E M z q r G=>SE lk L S (U _ _ _ _ G) M z q r (J Y A O s H vs Q E ⟨rfl,z.mod⟩ (M.deeper _) G)⟩
def yX (n:Ag)(ds:Aa D):qB:=ds.map Ab++AbT (n-ds.length) none
noncomputable def ZP:jd->az D
 |.rt d S=>.ok d S
 |.nx _ S=>.ok .non S
 |.ex c x _ S=>.ex c x S
 |_=>.bad
def qL (n:Ag)(g:DS):DF:=λY S=>ZP (g (yX n Y) S)
def C_ (K:Aj)(P:Hp)(α : Aa Af)(R:az D)(Q:VK)(E:XK):Prop:=match R with
 |.ok d G=>∀ v U J Y,bi K U J Y G->qE P J->α<+:Y->av K J Y d v->Q v U
 |.ex c _ G=>∀ U J Y,bi K U J Y G->qE P J->α<+:Y->E c none U
 |.bad=>Ex
def vq (K:Aj)(n:Ag)(F:DF):Sp:=λvs H Q E=>vs.length=n/\∃ P α Y S,bi K H P α S/\qD K P α Y vs/\C_ K P α (F Y S) Q E
theorem ZR {K:Aj}{P:Hp}{α:ag}(r:qD K P α ds vs):zI K P α (_L.w9 N vs) (yX N.length ds):=by
 refine⟨by simp[yX,_L.w9,r.length],λi d e=>?_⟩
 unfold yX at e;unfold _L.w9;by_cases Y:i<ds.length
 .rw[Bn (by simpa using Y),Ee] at e
  rw[Bn (by rw[Ao,<- r.length];exact Y),Ee]
  cases q:ds[i]? with
  |none=>rw[q] at e;cases e
  |some G =>
   rw[q] at e;cases e;obtain⟨v,U,J⟩:=r.get q;exact⟨v,by rw[U];rfl,J⟩
 .rw[Dk (by simpa using Y),Vi] at e
  split at e <;> cases e
section
variable {P:Bh}{w:Ce}{K:Aj}{mg:ai}{base:By}{cm:As}
theorem VL {H M:Hp}{α:ag}{ds:Aa D}{I:ao}(n:jm (mw cm P w K mg base N y am f G A j s H E) cw (ji (mw cm P w K mg base N y am f G A j s H E) g))
  (r:bi K H M α I) (m:qD K M α ds vs) (Y:C_ K M α (qL N.length g ds I) Q E):∃ t,jm (mw cm P w K mg base N y am f G A j s H E) cw t/\t { nx:=λ_ U=>Q .non U,rt:=Q } (_L.w9 N vs) H:=by
 refine⟨_,n,M,α,yX N.length ds,I,r,ZR m,?_⟩;unfold qL at Y;cases q:g (yX N.length ds) I with
 |rt d T=>rw[q] at Y;exact λv U B J C L O i=>Y v U B J C L O i
 |nx k T=>rw[q] at Y;exact λl U B J C o L O=>Y .non U B J C L O (by simp only[av])
 |bk k T=>rw[q] at Y;exact Aq Y
 |ct k T=>rw[q] at Y;exact Aq Y
 |ex c x k T=>rw[q] at Y;exact λu e z=>U0 (A:=A) rfl z λU B J C L O=>Y U B J C L O
 |bad=>rw[q] at Y;exact Aq Y
theorem fnX {st:Fz}{k:Ag}{g:DS}(F:vj K x G st f fd)(S:dc N O (qK st))
  (J:∀ (Y:Ac) (A:Bw) (U:Aa Ko) (s:Ai) (H:Hp) (E:XK),fd.code=Y/\Mod K mg base->be cm k (A.deeper (Hg G (qK st) s.heap.objs.size f Y)) ->
   jm (mw cm P w K mg base N G (qK st) f Y A U s H E) (zZ st) (ji (mw cm P w K mg base N G (qK st) f Y A U s H E) g)) :
  ph P w K mg base cm (k+1) f fd O (vq K O.length (qL N.length g)):=by
 refine SD F S (λvs H Q E h=>h.1) λY A U s H vs Q E L B h=>?_;obtain⟨z,I,α,M,j,r,T,C⟩:=h;exact VL (J Y A U s H E L B) r T C
end
section
variable {X:Cx}{cm:As}{k:Ag}{f:Af}{fd:Fw}{ps:Aa Aw}{F:DF}{x:Aw}{p aq:Ez}{e:Cc}{es:Aa Cc}{fa:DA}{n:Ag}
def qH (n:Ag)(F:DF)(fa:DA):DE:=λJ S=>(fa J S).bind λY U=>if Y.length=n then F Y U else .bad
def EX (X:Cx)(P:Hp)(α : Aa Af)(R:az D):XK:=λc _ U=>match R with
 |.ex N _ G=>c=N/\∃ J Y,bi X.K U J Y G/\qE P J/\α<+:Y
 |_=>Ex
theorem CH {P:Hp}{α:ag}{R:az D}(J:qV X P α R Q):C_ X.K P α R Q (EX X P α R):=by
 cases R with
 |ok d G=>exact J
 |ex c x G=>exact λB O Y C N U=>⟨rfl,O,Y,C,N,U⟩
 |bad=>exact J
theorem VQ {σ:_L.St}{P:Hp}{α:ag}{R:az D}(C:(∃ c x U,R=.ex c x U)->qg X)(I:Inv X aj σ H s)(N:qV X P α R Q)
  (h:Kg (Av X.prog X.w) X.A (.call u ⟨us,[]⟩) (CR (ox X.prog X.w) X.stack X.prog X.w H s Q (EX X P α R)) s):b6 X (call u us) (EP X aj σ Q) X.xe s:=by
 refine wpAny_call (Nd h λr E Y=>?_);cases r with
 |error u =>
  have Y:ox X.prog X.w X.stack H s (EX X P α R) u E:=Y;cases R with
  |ok d U=>obtain⟨_,_,_,_,_,_,_,_,_,_,_,_,q⟩:=Y;exact Aq q
  |bad=>exact Aq N
  |ex j z U =>
   have O:=C ⟨_,_,_,rfl⟩;obtain⟨a,c,T,rfl,B,G,rfl,M,J,L,w,A⟩:=SC I O Y;exact N _ _ ⟨a,aj,σ,T,M,J,rfl,B,L,w,A,O,G⟩
 |ok G =>
  cases G with
  |ret u=>exact I.after Y
  |next=>exact Aq Y
  |brk=>exact Aq Y
  |cont=>exact Aq Y
theorem TQ {aj:aa}{σ:_L.St}{H:Hp}{s:Ai}{P:Hp}{α:ag}{ds:Aa D}(G:ph X.prog X.w X.K X.mg X.base cm k f fd ps (vq X.K n F))(B:be cm k X.A)(E:uR X.K fd ps [])(L:qg X)
  (I:Inv X aj σ H s) (r:bi X.K H P α S) (N:qJ vs us) (O:qD X.K P α ds vs) (C:ds.length=n) (U:qV X P α (F ds S) Q):b6 X (call (.ref f) us) (EP X aj σ Q) X.xe s:=by
 have Y:vq X.K n F vs H Q (EX X P α (F ds S)):=⟨by rw[<- O.length];exact C,P,α,ds,S,r,O,CH U⟩
 have T:us.length=ps.length:=by rw[<- N.length];exact G.len _ _ _ _ Y
 have J:=E s us I.kIn (by rw[Hu];exact T)
 rw[Hu] at J;exact VQ (λ_=>L) I U (G.run X.A X.stack s H ⟨us,[]⟩ us vs Q _ B I.env0 J N Y)
theorem sA {ak:qB}{S S1:ao}{P:Hp}{α:ag}{ds:Aa D}{Ok:D->ao->Prop}(h:qI X P α (if ds.length=n then F ds S1 else .bad) Ok):ds.length=n/\qI X P α (F ds S1) Ok:=by
 by_cases Y:ds.length=n
 .rw[Be Y] at h;exact⟨Y,h⟩
 .rw[Bc Y] at h;exact Aq h
theorem BB (G:ph X.prog X.w X.K X.mg X.base cm k f fd ps (vq X.K n F))(M:be cm k X.A)(z:qg X)(q:Gl X x)(hm:X.mg x=Ab (.ref f))(T:Gw X.K (.ref f)=true)(c:uR X.K fd ps [])
  (o:PA X (e::es) (mz X fa)) (N:(x == ("__debug__" : Aw))=false:=by decide) (y:Bu (e::es) X.env=(false,eval e X.env)::Bu es X.env:=by rfl) (J:(Hc aq (Bu es X.env)).any (·.1)=false:=by rfl) :
  PE X (.Call (.Name x p) (e::es) [] aq) (tD X (qH n F fa)):=by
 intro a s σ H Q I h;obtain⟨P,α,ak,S,r,E,L⟩:=h;refine Jp (lU I q hm ?_ N);refine ZB (h₀:=X.base) I.ok.mod.kin T (bn (vH o I r E L aq) λus b ⟨vs,v,m,j,i,t,O,w,d,B,g,l,A,U⟩=>⟨O.kIn,?_⟩) y J;obtain⟨C,Y⟩:=sA (ak:=ak) (S:=S) U;exact TQ G M c z O d w g C (qV.base l A Y)
end
noncomputable abbrev qBC:Aa Ac:=[.type "ValueError",.type "Exception",.type "BaseException",.type "object"]
noncomputable def IP:Ac->As
 |.str _ _=>true
 |_=>false
def oC (K:Aj)(N:Af):As:=(match List.lookup N K with
 |some o=>match o.data with
  |.dict Y _=>Y.toList.all λe=>IP e.key
  |_=>false
 |none=>false)&&decide (Ga K N "__init__" = Ab none)
def PL (K:Aj)(C:Af)(f:Ac->ClassData->Ay (Am Ac)->As):As:=match List.lookup C K with
 |some o=>(match o.data with|.cls Y=>f o.cls Y o.slots|_=>false)
 |none=>false
def VV (K:Aj)(C A:Af):As:=PL K C λJ Y sl=>PL K A λ_ U _=>decide (J=.type "type")&&(decide (Y.mro=.ref C::.ref A::qBC)&&(!Y.hasDel&&(oC K Y.ns&&(oC K U.ns&&(decide (sl.toList.length=6)&&decide (sl.toList[4]? = Ab (Ab (.builtin "ValueError.__new__"))))))))
noncomputable abbrev Cx.tryIn (X:Cx)(E:ae)(pn:aa):Cx:={ X with xe:=E,pn:=pn }
end _D
namespace _D
open _L PySem.W
structure _a (K:Aj)(C:Af):Prop where
 ga:findIn K (.ref C) "__getattribute__" = Ab (Ab (.builtin "BaseException.__getattribute__"))
 hk:findIn K (.ref C) "__getattr__" = Ab none
 cl:findIn K (.ref C) "__class__" = Ab (Ab (.builtin "object.__class__"))
 sp:specialIn K (.builtin "object.__class__") "__get__" = Ab (Ab (.builtin "getset_descriptor.__get__"))
 tk:takesIn K (.builtin "object.__class__")=Ab true
 mo:mroIn K C (.type "object")=Ab true
 mb:mroIn K C (.type "BaseException")=Ab true
 isC:(clsIn K C).isSome=true
section
variable {x C:Af}
abbrev G7 (x C:Af)(h:By):Prop:=∃ Q,h.get? x=Ab Q/\Q.cls=.ref C
theorem G7.type (I:G7 x C h):Looks M h (AaO (.ref x)) (.ref C):=by
 obtain⟨Q,e,c⟩:=I;rw[<- c];exact(Looks.ld e).andThen .now
end
end _D
namespace _D
open _L
variable {jr:Aa (Aw × Af)}{α α1:ag}{ds:Aa D}{E:ae}{C:Af}{s:Ai}{K:Aj}{w:Ce}{o:Dc}{H P P1:Hp}{S S1:ao}
theorem kI {α:Type}{t:Kv α}{Q Y:α->Ai->Prop}(h:Ar M A t Q (λ_ _=>Ex) s)(J:∀ a s,Q a s->Y a s):Ar M A t Y E s:=Ht h J λ_ _ x=>x.elim
def jS (Q:Aa Cc)(ak:Ko):Kv As:=forIn Q true λc r=>if r=true then do let ok <- AcI c ak (eval c ak);pure (Lz ok) else pure (Lz r)
def qv (X:Cx)(J:Aa Cc)(t:DT):Prop:=
 ∀ (Y:aa) (s:Ai) (σ : _L.St) (H:Hp) (Q:As->Hp->Prop),Inv X Y σ H s->nh X t σ H Q->b6 X (jS J X.env) (TP X Y σ Q) X.xe s
def zQ:DT:=λ_ S=>.ok true S
section
variable {X:Cx}
theorem mE {prog:Bh}{A:Bw}{ak:Ko}{Q:As->Ai->Prop}:∀ (J:Aa Cc) {s:Ai},Q false s ->
  Ar (Av prog w) A (forIn J false λc r=>if r=true then do let ok <- AcI c ak (eval c ak);pure (Lz ok) else pure (Lz r)) Q E s
 |[],s,h=>by rw[Pk];exact An h
 |c::Y,s,h=>by
  rw[Oe];rw[Bc ba]
  refine Ad (An ?_);exact mE Y h
theorem BQ:qv X [] zQ:=λU s σ H Q I ⟨P,α,J,S,r,G,Y⟩=>by
 unfold jS;rw[Pk];exact An ⟨H,I,Y H P α r (qE.refl _) (Bg _)⟩
theorem UG {t u:DT}(h1:PT X c (nh X t))(h2:qv X G u):qv X (c::G) (wG t u):=λB s σ H Q I ⟨P,α,A,S,r,y,z⟩=>by
 unfold jS;rw[Oe,Be rfl];refine Ad (Ad (bn (kU (λM q=>h1 B s σ H M I q) r y z) λb j ⟨U,P1,α1,S1,N,T,J,L,O,Y⟩=>An ?_));cases b with
 |true=>exact h2 B j σ U Q N ⟨P1,α1,A,S1,T,J,yA.base L O Y⟩
 |false=>exact mE G ⟨U,N,Y U P1 α1 T L O⟩
theorem EI {σ:_L.St}(T:PE X e (tD X f))(I:Inv X aj σ H s)(r:bi X.K H P α S)(O:zI X.K P α σ ak)(q:f ak S=.ok d S1) :
  b6 X (eval e X.env) (λu U=>∃ v Q P1 α1,Got X aj σ ak P α u U v Q P1 α1 d S1) X.xe s:=by
 refine bn (zT (g:=λd S=>az.ok d S) (Ok:=λY J=>Y=d/\J=S1) T I r O (by rw[q];exact⟨rfl,rfl⟩)) λu U ⟨v,Q,P1,α1,Y,J,G,L,N⟩=>?_
 have A:Y=d:=L;have B:J=S1:=N;subst A;subst B;exact⟨v,Q,P1,α1,G⟩
theorem OY {t:DT}{σ:_L.St}{b:As}(y:qv X B t)(I:Inv X aj σ H s)(r:bi X.K H P α S)(U:zI X.K P α σ ak)(q:t ak S=.ok b S1) :
  b6 X (jS B X.env) (λY N=>Y=b/\∃ Q P1 α1,Inv X aj σ Q N/\bi X.K Q P1 α1 S1/\zI X.K P1 α1 σ ak/\qE P P1/\α<+:α1) X.xe s:=by
 refine bn (y aj s σ H (λY Q=>Y=b/\∃ P1 α1,bi X.K Q P1 α1 S1/\zI X.K P1 α1 σ ak/\qE P P1/\α<+:α1) I ⟨P,α,ak,S,r,U,?_⟩) λY N ⟨Q,j,e,P1,α1,A,k,z,L⟩=>⟨e,Q,P1,α1,j,A,k,z,L⟩;rw[q];exact λu M J T O G=>⟨rfl,M,J,T,U.mono O G,O,G⟩
theorem qBe {σ:_L.St}{ak Y:qB}{d:D}(l:PG X N (nr X g))(I:Inv X aj σ H s)(r:bi X.K H P α S)(L:zI X.K P α σ ak)(y:qF v u)
  (t:av X.K P α d v) (q:g d ak S=.ok Y S1) :
  b6 X (assign N X.env u) (λ_ O=>∃ Q J P1 α1,Inv X aj Q J O/\bi X.K J P1 α1 S1/\zI X.K P1 α1 Q Y/\qE P P1/\α<+:α1) X.xe s:=by
 refine bn (l aj s σ H v u (λQ J=>∃ P1 α1,bi X.K J P1 α1 S1/\zI X.K P1 α1 Q Y/\qE P P1/\α<+:α1) I y ⟨P,α,ak,S,d,r,L,t,?_⟩) λ_ O ⟨Q,J,p,P1,α1,A,c,k,B⟩=>⟨Q,J,P1,α1,p,A,c,k,B⟩;rw[q];exact λz m j U T G f M=>⟨j,U,T,G,f,M⟩
def pR (K:Aj)(P:Hp)(α : Aa Af)(ds:Aa D)(o:Dc):Prop:=∃ (Q:ah) (n:Ag) (Y:Aa V),o={ cls:=.type "list",data:=.seq Q.toArray n } /\ qJ Y Q/\qD K P α ds Y/\ds.length<=br
theorem pR.mono (e:qE P P1)(h:α<+:α1)(a:pR K P α ds o):pR K P1 α1 ds o:=by
 obtain⟨Y,n,U,N,Q,G,J⟩:=a;exact⟨Y,n,U,N,Q,qD.mono e h _ _ G,J⟩
theorem pR.cell (a:pR K P α ds o):∀ v,o.data≠.cell v:=by
 obtain⟨Q,n,Y,rfl,_⟩:=a;intro v z;cases z
theorem Inv.pin1 {σ:_L.St}{a:Af}(I:Inv X aj σ H s)(f:xH X aj H a)(e:s.heap.get? a=Ab o)(d:∀ v,o.data≠.cell v):Inv X (aj++[(a,o)]) σ H s:=
 I.pins_of λp Q=>(Bp.mp Q).elim (λz=>I.pin p (Bx _ z)) λz=>by
  have Y:p=(a,o):=by simpa using z
  subst Y;exact⟨e,f.1,f.2.1,f.2.2.1,d⟩
theorem Inv.pinned1 {aj:aa}{σ:_L.St}{a:Af}(I:Inv X (aj++[(a,o)]) σ H s):s.heap.get? a=Ab o/\H a=none:=by
 have:=I.pin (a,o) (Bx _ (Bx _ ba))
 exact⟨this.1,this.2.1⟩
end
structure Acc where
 m:As
 O:Aj->Hp->Aa Af->Aa D->Dc->Prop
 mono:∀ {K:Aj} {P P1:Hp} {α α1:ag} {ds:Aa D} {o:Dc},qE P P1->α<+:α1->O K P α ds o->O K P1 α1 ds o
 cell:∀ {K:Aj} {P:Hp} {α : Aa Af} {ds:Aa D} {o:Dc},O K P α ds o->∀ v,o.data≠.cell v
@[reducible] def kz:Acc:=⟨false,pR,pR.mono,pR.cell⟩
def xW (m:As)(Q:Cc)(Y:Aa Do)(am:Eu)(J:Ez):Cc:=match m with
 |false=>.ListComp Q Y am J
 |true=>.SetComp Q Y am J
structure fu (B:Acc)(Y:Cx)(pins:aa)(P1:Hp)(α1:ag)(fp:ag)(acc:Af)(env:qB)(S:ao)(ds:Aa D)(s:Ai)(σ : _L.St)(H P:Hp)(α : Aa Af)(o:Dc):Prop where
 inv:Inv Y pins σ H s
 rel:bi Y.K H P α S
 env:zI Y.K P α σ env
 same:qE P1 P
 pre:α1<+:α
 fpn:∀ b∈fp,H b=none
 acn:H acc=none
 at':s.heap.get? acc=Ab o
 acc:B.O Y.K P α ds o
noncomputable def vF (jr:Aa (Aw × Af)):Aa (Aw × Im)->Aa (Aw × Af)->Aa (Aw × Af)
 |[],Q=>Q
 |(n,k)::r,Q=>vF jr r (if k == .free then (n,(jr.lookup n).getD 0)::Q else Q)
theorem r8 {ak:Ko}{am:Eu}(h:∀ y∈am.names,y.2=.free->∃ c,ak.cells.lookup y.1=Ab c):closureFor am ak=pure (vF ak.cells am.names []):=by
 have T:∀ (l:Aa (Aw × Im)) (Y:Aa (Aw × Af)),(∀ y∈l,y.2=.free->∃ c,ak.cells.lookup y.1=Ab c) ->
   (forIn l Y λx Y=>match x with|(Q,J)=>if (J == HT)=true then do let a <- cellOf ak Q;pure (Lz ((Q,a)::Y)) else pure (Lz Y):Kv (Aa (Aw × Af)))=pure (vF ak.cells l Y):=by
  intro l
  induction l with
  |nil=>intro Y _;rfl
  |cons y r L =>
   intro Y N;obtain⟨n,k⟩:=y;rw[Oe];by_cases O:k=.free
   .subst O
    obtain⟨c,I⟩:=N (n,.free) Cf rfl;have U:ak.cells.lookup n=Ab c:=I;have e:cellOf ak n=pure c:=by unfold cellOf;rw[U]
    simp only[Gm,Ds,e,pure_bind];rw[L _ λz G=>N z (AT _ G)];simp only[vF,Gm,Ds,U,Uz]
   .have B:(k == HT)=false:=by simpa using O
    simp only[B,Bl,Dq,pure_bind];rw[L _ λz G=>N z (AT _ G)];simp only[vF,B,Bl,Dq]
 unfold closureFor;have:=T am.names [] h;simp only[bind_pure];exact this
theorem m9:∀ (l:Aa (Aw × Im)) (Y:Aa (Aw × Af)),(vF jr l Y).lookup x=Ab c->Y.lookup x=Ab c\/((x,HT)∈l/\c=(jr.lookup x).getD 0)
 |[],Y,h=>.inl h
 |(n,k)::r,Y,h=>by
  rcases m9 r _ h with h|⟨U,G⟩
  .by_cases J:k=.free
   .subst J
    simp only[Gm,Ds,La] at h;cases Q:x == n with
    |true =>
     rw[Q] at h;have e:x=n:=by simpa using Q
     subst e;exact .inr ⟨Cf,(Dm h).symm⟩
    |false=>rw[Q] at h;exact .inl h
   .have Q:(k == HT)=false:=by simpa using J
    simp only[Q,Bl,Dq] at h;exact .inl h
  .exact .inr ⟨AT _ U,G⟩
theorem dY {x:Aw}:∀ (l:Aa (Aw × Im)) (Q:Aa (Aw × Af)),((x,HT)∈l\/∃ c,Q.lookup x=Ab c)->∃ c,(vF jr l Q).lookup x=Ab c
 |[],Q,h=>by
  rcases h with h|h
  .cases h
  .exact h
 |(n,k)::r,Q,h=>by
  refine dY r _ ?_;rcases h with h|⟨c,h⟩
  .rcases Az.mp h with e|h
   .cases e
    exact .inr ⟨(jr.lookup x).getD 0,by simp only[Gm,Ds,La]⟩
   .exact .inl h
  .by_cases J:k=.free
   .subst J
    simp only[Gm,Ds,La];cases Y:x == n with
    |true=>exact .inr ⟨_,rfl⟩
    |false=>exact .inr ⟨c,h⟩
   .have Y:(k == HT)=false:=by simpa using J
    simp only[Y,Bl,Dq];exact .inr ⟨c,h⟩
structure dj (scX:Eu)(NX:Aa Aw)(scope:Eu)(N':Aa Aw)(cap:Aa (Am Ag)):Prop where
 kind:scope.kind=.function
 names:∀ y∈scope.names,y.2=.local -> scope.names.lookup y.1=Ab .local
 cel:∀ y∈scope.names,y.2=.cell->scope.names.lookup y.1=Ab .cell
 free:∀ y∈scope.names,y.2=.free->scX.names.lookup y.1=Ab .cell\/scX.names.lookup y.1=Ab .free
 fr2:∀ y∈scope.names,y.2=.free->scope.names.lookup y.1=Ab .free
 len:cap.length=N'.length
 caps:((cap.zip N').all λp=>match p.1 with|none=>true|some i=>NX[i]? == Ab p.2&&scope.names.lookup p.2 == Ab .free)=true
 nd:N'.Nodup
def vT (bw:Aa (Am Ag))(σ : _L.St):_L.St:=bw.map λo=>match o with
 |none=>none
 |some i=>(σ[i]?).join
def xE (bw:Aa (Am Ag))(ak:qB):qB:=bw.map λo=>match o with
 |none=>none
 |some i=>(ak[i]?).join
theorem YO {σ:_L.St}(G:zI K P α σ ak)(bw:Aa (Am Ag)):zI K P α (vT bw σ) (xE bw ak):=by
 refine⟨by simp[vT,xE],λj d e=>?_⟩
 unfold xE at e;unfold vT;rw[Ee] at e ⊢;cases q:bw[j]? with
 |none=>rw[q] at e;cases e
 |some o =>
  rw[q] at e;cases o with
  |none=>cases e
  |some i =>
   have Q:(ak[i]?).join=Ab d:=by simpa using e
   cases z:ak[i]? with
   |none=>rw[z] at Q;cases Q
   |some w =>
    rw[z] at Q;have Y:w=Ab d:=Q;subst Y;obtain⟨v,U,J⟩:=G.2 i d z;exact⟨v,by simp[U],J⟩
noncomputable def qO (X:Cx)(Q:Aa Aw)(am:Eu)(Y:Aa (Aw × Af))(C:Af)(ex:ag)(s₀:Ai)(H₀:Hp):Cx:=
 { X with N:=Q,s₀:=s₀,H₀:=H₀,env:=compEnvC am Y C X.env,outer:=X.stack,stack:=X.stack,ex:=ex,fn:=λx=>decide (am.names.lookup x=Ab .cell),pn:=[],xe:=λ_ _=>Ex }
theorem jO {am:Eu}{ak:Ko}:∀ {Q:Aa (Aw × Im)} {x:Aw} {k:Im},
  (Q.map λ(n,k)=>if (k == HT&&ak.scope.kind == .function&&ak.kindOf n == Ab .cell) then (n,Qo) else (n,k)).lookup x=Ab k ->
  Q.lookup x=Ab k\/(k=.cell/\Q.lookup x=Ab .free)
 |[],_,_,h=>by simp at h
 |(n,U)::r,x,k,h=>by
  rw[Cg,La] at h;rw[La];dsimp only at h;cases J:(U == HT&&ak.scope.kind == .function&&ak.kindOf n == Ab .cell) with
  |true =>
   rw[J] at h;simp only[Ds] at h;cases Y:x == n with
   |true =>
    rw[Y] at h;have e:Qo=k:=Dm h;have G:U=.free:=by
     have:=(Bj _ _).mp J;have:=(Bj _ _).mp this.1;simpa using this.1
    subst G;exact .inr ⟨e.symm,rfl⟩
   |false=>rw[Y] at h;exact jO (am:=am) h
  |false =>
   rw[J] at h;simp only[Bl,Dq] at h;cases Y:x == n with
   |true=>rw[Y] at h;exact .inl h
   |false=>rw[Y] at h;exact jO (am:=am) h
section
variable {X:Cx}{am:Eu}{N':Aa Aw}{bw:Aa (Am Ag)}{aj:aa}{σ: _L.St}{H2:Hp}{s2:Ai}{fp:ag}
theorem gI (S:dj X.env.scope X.N am N' bw){x:Aw}{k:Im}(h:(relabel am X.env).names.lookup x=Ab k):am.names.lookup x=Ab k\/(k=.cell/\am.names.lookup x=Ab .free):=jO (am:=am) h
theorem XM (S:dj X.env.scope X.N am N' bw)(ok:X.Ok){x:Aw}{c:Af}(h:(vF X.env.cells am.names []).lookup x=Ab c):X.env.cells.lookup x=Ab c/\(x,HT)∈am.names:=by
 rcases m9 _ _ h with h|⟨J,Y⟩
 .cases h
 .have:=S.free _ J rfl
  obtain⟨U,Q⟩:=ok.has x this;rw[Q,Uz] at Y;rw[Q,Y];exact⟨rfl,J⟩
def JM (am:Eu)(C:Af):Aa (Aw × Af):=Hz (C+1) am.names []
def gG (X:Cx)(am:Eu)(C:Af):Aa (Aw × Af):=Hz (C+1) am.names (vF X.env.cells am.names [])
theorem v8:∀ (Q:Aa (Aw × Im)) (lo:Ag) (au:Aa (Aw × Af)),Hz lo Q au=Hz lo Q [] ++ au
 |[],_,_=>rfl
 |(n,k)::r,lo,au=>by
  unfold Hz
  split
  .rw[v8 r _ ((n,lo)::au),v8 r _ [(n,lo)],Ch];rfl
  .exact v8 r lo au
set_option tactic.hygienic true in
theorem pU:∀ (Q:Aa (Aw × Im)) (lo:Ag) {n:Aw} {c:Af},(n,c)∈Hz lo Q [] -> (n,Qo)∈Q
 |[],_,_,_,h=>by cases h
 |(J,k)::r,lo,n,c,h=>by
  unfold Hz at h
  split at h
  .rename_i Y
   rw[v8] at h;rcases Bp.mp h with h|h
   .exact AT _ (pU r _ h)
   .have e:(n,c)=(J,lo):=by simpa using h
    cases e;have:k=Qo:=by simpa using Y
    rw[this];exact Cf
  .exact AT _ (pU r _ h)
theorem xR (S:dj X.env.scope X.N am N' bw)(ok:X.Ok){C:Af}{x:Aw}{c:Af}(h:(gG X am C).lookup x=Ab c):((x,c)∈JM am C/\am.names.lookup x=Ab .cell)\/(X.env.cells.lookup x=Ab c/\(x,HT)∈am.names):=by
 unfold gG at h;rw[v8,dL] at h;cases q:(Hz (C+1) am.names []).lookup x with
 |some Q =>
  rw[q] at h;cases h;have m:=Go q;exact .inl ⟨m,S.cel _ (pU _ _ m) rfl⟩
 |none =>
  rw[q] at h;exact .inr (XM S ok h)
theorem eO (S:dj X.env.scope X.N am N' bw)(ok:X.Ok){C:Af}{x:Aw}(h:am.names.lookup x=Ab .cell\/am.names.lookup x=Ab .free):∃ c,(gG X am C).lookup x=Ab c:=by
 unfold gG;rw[v8,dL];rcases h with h|h
 .have:=Lw am.names (C+1) [] (x:=x) (.inl h)
  obtain⟨c,Y⟩:=Kq.mp this;exact⟨c,by rw[Y];rfl⟩
 .obtain⟨J,Q⟩:=dY (jr:=X.env.cells) am.names [] (.inl (Go h))
  rw[Q];cases (Hz (C+1) am.names []).lookup x with
  |none=>exact⟨J,rfl⟩
  |some c=>exact⟨c,rfl⟩
theorem B8 (S:dj X.env.scope X.N am N' bw)(Q:Inv X aj σ H2 s2)(T:∀ b∈fp,xH X aj H2 b)(O:∀ b∈fp,b<s2.heap.objs.size)(U:s2.heap.objs.size<=C){h1:By}(L:CellsOk h1 (C+1) (JM am C)) :
  (qO X N' am (gG X am C) C fp s2 H2).Ok where
 mod:=Q.ok.mod
 kind:=S.kind
 glob:=Q.ok.glob
 blt:=Q.ok.blt
 above:=U
 inj:=λx y c h1 G=>by
  rcases xR S Q.ok h1 with⟨N,_⟩|⟨N,_⟩ <;> rcases xR S Q.ok G with⟨B,_⟩|⟨B,_⟩
  .exact PySem.name_of_addr L.apart N B
  .obtain⟨v,j,Y,_⟩:=Q.cell y c B
   exact absurd (Bk (Bf Y) U) (Qb.mpr (Ec (L.empty x c N).2))
  .obtain⟨v,j,Y,_⟩:=Q.cell x c N
   exact absurd (Bk (Bf Y) U) (Qb.mpr (Ec (L.empty y c B).2))
  .exact Q.ok.inj x y c N B
 has:=λx M=>by
  have I:(relabel am X.env).names.lookup x=Ab .cell\/(relabel am X.env).names.lookup x=Ab .free:=M;refine eO S Q.ok ?_;rcases I with h|h
  .rcases gI S h with h|⟨_,h⟩
   .exact .inl h
   .exact .inr h
  .rcases gI S h with h|⟨z,_⟩
   .exact .inr h
   .cases z
 cab:=λx c h G=>by
  have M:am.names.lookup x=Ab .cell:=Bz h;rcases xR S Q.ok G with⟨m,_⟩|⟨_,m⟩
  .exact Cw U (Ec (L.empty x c m).2)
  .have:=S.fr2 _ m rfl
   have this':am.names.lookup x=Ab .free:=this;rw[M] at this';cases this'
 hd:=Q.ok.hd
 frames:=Q.ok.frames
 stk:=.inl rfl
 exf:=λb J=>⟨Cu (Bk (O b J) U),λx c h=>by
  rcases xR S Q.ok h with⟨m,_⟩|⟨m,_⟩
  .exact Fv (Cu (Hx (Bk (O b J) U) (L.empty x c m).2))
  .exact(T b J).2.2.2.2.1 x c m⟩
 bs:=Q.bs
 bsz:=Cw Q.ok.bsz Q.sz
 noex:=λb o e J=>by
  obtain⟨_,_,_,h,_⟩:=T b J;rcases h with h|h
  .exact Q.ok.noex b o e h
  .exact absurd (Bk (Bf e) (Cw Q.ok.bsz h)) (Ey _)
 exfs:=λb J A=>by
  obtain⟨_,h1,G,_⟩:=T b J;rcases Az.mp (Q.stkSub b A) with z|z
  .exact h1 z
  .exact G z
 funs:=Q.stack
 frf:=Q.stkFree
theorem VX {s4:Ai}{m:ai}(S:dj X.env.scope X.N am N' bw)(Y:Inv X aj σ H2 s2)(hf:∀ b∈fp,xH X aj H2 b)(y:∀ b∈fp,b<s2.heap.objs.size)(g:s2.heap.objs.size<=C)
  (hn:s4.heap.Ns C m) (os:s4.os=s2.os) (bf:s4.gens=s2.gens) (Q:∀ b o,s2.heap.get? b=Ab o->s4.heap.get? b=Ab o) (f:CellsOk s4.heap (C+1) (JM am C)) :
  Inv (qO X N' am (gG X am C) C fp s2 H2) [] (vT bw σ) H2 s4 where
 ok:=B8 S Y hf y g f
 os:=os
 bare:=bf▸Y.bare
 base:=Un.kept Q
 loc:=by
  refine⟨m,hn,λj x v h1 G h3=>?_⟩;have l:N'[j]? = Ab x:=h1;unfold vT at G;rw[Ee] at G;cases q:bw[j]? with
  |none=>rw[q] at G;cases G
  |some o =>
   rw[q] at G;cases o with
   |none=>cases G
   |some i =>
    have I:(σ[i]?).join=Ab v:=by simpa using G
    have t:σ[i]? = Ab (Ab v):=by
     cases z:σ[i]? with
     |none=>rw[z] at I;cases I
     |some w=>rw[z] at I;have:w=Ab v:=I;rw[this]
    have hz:(Ab i,x)∈bw.zip N':=by
     refine List.mem_iff_getElem?.mpr ⟨j,?_⟩;rw[List.getElem?_zip_eq_some];exact⟨q,l⟩
    have a:=Bs.mp S.caps _ hz;simp only[Bj,Yz] at a;obtain⟨hN,J⟩:=a;have n:=S.free _ (Go J) rfl;obtain⟨mo,zb,hl⟩:=Y.loc;have A:ur X.env.scope x:=by
     rcases n with k|k
     .exact .inr (.inl k)
     .exact .inr (.inr k)
    obtain⟨u,ru,lk⟩:=hl i x v hN t A;refine⟨u,ru,?_⟩;rcases lk with⟨kl,_⟩|⟨_,c,M,U⟩
    .have B:X.env.scope.names.lookup x=Ab .local:=kl
     rcases n with k|k
     .have O:X.env.scope.names.lookup x=Ab .cell:=k
      rw[B] at O;cases O
     .have O:X.env.scope.names.lookup x=Ab .free:=k
      rw[B] at O;cases O
    .obtain⟨c',L⟩:=eO S Y.ok (C:=C) (.inr J)
     have e:X.env.cells.lookup x=Ab c':=by
      rcases xR S Y.ok L with⟨_,z⟩|⟨z,_⟩
      .rw[J] at z;cases z
      .exact z
     rw[M] at e;cases e;refine .inr ⟨?_,c,L,?_⟩
     .have d:ur (relabel am X.env) x:=h3
      rcases d with h|h|h
      .rcases gI S h with h|⟨z,_⟩
       .rw[J] at h;cases h
       .cases z
      .exact .inl h
      .exact .inr h
     .obtain⟨T,N,r⟩:=U
      exact⟨T,Q c T N,r⟩
 cell:=λx c h=>by
  rcases xR S Y.ok h with⟨m,_⟩|⟨m,_⟩
  .exact⟨none,(f.empty x c m).1⟩
  .obtain⟨v,T,N,r⟩:=Y.cell x c m
   exact⟨v,T,Q c T N,r⟩
 free:=Y.hok.fresh g
 freeC:=λx c h=>by
  rcases xR S Y.ok h with⟨m,_⟩|⟨m,_⟩
  .exact Y.hok.fresh (Cw g (Ec (f.empty x c m).2))
  .exact Y.freeC x c m
 pin:=λp hp=>absurd (show p∈([]:aa) from hp) ba
 hok:=Y.hok.kept Q
 len:=by
  show (vT bw σ).length=N'.length;simp[vT,S.len]
end
theorem WA {P:Bh}{a:Af}{o:HO}(x:gx P w H h)(Y:H a=none)(Q:zK P w (c_ H a o) h a o):gx P w (c_ H a o) h:=λb u e=>by
 by_cases J:b=a
 .subst J;rw[zE] at e;cases e;exact Q
 .rw[qR J] at e
  exact(x b u e).stay (λc v _ q=>q) (λc q=>by rw[qR (zG q Y)];exact q) λc U q=>by rw[qR (zG q Y)];exact q
theorem sG {P:Bh}{h h':By}(x:gx P w H h)(Q:H C=none)(k:∀ b o,b≠C->h.get? b=Ab o->h'.get? b=Ab o):gx P w H h':=λb u e =>
 (x b u e).stay (λc v Y q=>k c v (by
  rintro rfl;rcases Y with z|z
  .subst z;rw[Q] at e;cases e
  .rw[Q] at z;cases z) q) (λ_ q=>q) λ_ _ q=>q
section
variable {X:Cx}{am:Eu}{N':Aa Aw}{bw:Aa (Am Ag)}
def kJ (X:Cx)(aj:aa)(σ : _L.St)(P1:Hp)(α1:ag)(ds:Aa D)(G:ao)(au C:Af)(s:Ai):Prop:=
 ∃ (Y J:Hp) (Q : Aa Af) (U:Aa V),Inv X aj σ (c_ Y au (.lst U)) s/\bi X.K Y J Q G/\Y au=none/\qE P1 J/\α1<+:Q/\qD X.K J Q ds U/\Y C=none
theorem eM {Y:Cx}{σ y:_L.St}{J s':Ai}{fp:ag}{au:Af}{U f:Hp}{B:ag}{fx:qB}{v:ao}{x:Aa (Aw × Af)}(I2:Inv X aj σ L J)
  (hf:∀ b∈fp,xH X aj L b) (hY:Y=qO X N' am x C fp J L) (a:J.heap.objs.size<=C) (hA:J.heap.objs.size<=au) (l:au≠C) (st:fu kz Y [] P1 α1 fp au fx v ds s' y U f B o)
  {h':By} (sb:Gg C s'.heap h'):kJ X aj σ P1 α1 ds v au C { s' with heap:=h' }:=by
 subst hY;obtain⟨c,n,p,rfl,rv,d,hz⟩:=st.acc;have I:∀ b o,b≠C->s'.heap.get? b=Ab o->h'.get? b=Ab o:=λb o G e=>(sb.2 b G).trans e;have M:∀ b o,J.heap.get? b=Ab o->b≠C:=λb o e=>Cu (Bk (Bf e) a);have i:∀ b o,J.heap.get? b=Ab o->b≠au:=λb o e=>Cu (Bk (Bf e) hA);have base:Un (jq X.stack) fp L U J.heap s'.heap:=st.inv.base;have z:∀ b u,U b=Ab u->b≠au:=λb u e=>zG e st.acn;have un:Un (jq X.stack) fp L (c_ U au (.lst p)) J.heap h':=by
  refine⟨λb Q q O G N=>I b Q (M b Q q) (base.keep b Q q O G N),λb Q q O G N=>?_,λb Q q O N=>?_,λb Q q N=>?_,λb h q=>?_,λb Q u q=>?_,λb ps q=>?_⟩
  .obtain⟨sl,e⟩:=base.slot b Q q O G N
   exact⟨sl,I b _ (M b Q q) e⟩
  .rw[qR (i b Q q)];exact base.free b Q q O N
  .obtain⟨r,e⟩:=base.there b Q q N
   exact⟨r,I b r (M b Q q) e⟩
  .have:=base.tups b h q;rw[qR (z _ _ this)];exact this
  .have:=base.frzs b Q u q;rw[qR (z _ _ this)];exact this
  .obtain⟨T,e⟩:=base.tbls b ps q
   exact⟨T,by rw[qR (z _ _ e)];exact e⟩
 have A:gx X.prog X.w U h':=sG st.inv.hok st.inv.free I;have k:h'.get? au=Ab { cls:=.type "list",data:=.seq c.toArray n }:=I au _ l st.at';have j:gx X.prog X.w (c_ U au (.lst p)) h':=WA A st.acn ⟨by rw[<- d.length,<- xQ];exact hz,c,n,rv,k⟩
 refine⟨U,f,B,p,?_,st.rel,st.acn,st.same,st.pre,d,st.inv.free⟩;exact I2.call' (s':={ s' with heap:=h' }) (ch:=fp) (st.inv.os) un j st.inv.bare λb G=>by
  obtain⟨_,h1,h2,h3,m,h5⟩:=hf b G;exact⟨h3,h1,m,h5⟩
theorem lF (S:dj X.env.scope X.N am N' bw)(ok:X.Ok):closureFor am X.env=pure (vF X.env.cells am.names []):=r8 λy Q Y=>ok.has y.1 (S.free y Q Y)
theorem BU {σ:_L.St}(c:kJ X aj σ P1 α1 ds J au C s)(ok:jn X P1 α1 Q (.lst ds) J):EP X aj σ Q (.ref au) s:=by
 obtain⟨y,u,L,k,I,r,U,A,O,M,_⟩:=c;exact⟨.ref au,_,I,rfl,xU r U M λv T z Y j N B G=>ok v T z Y j (A.trans N) (O.trans B) G⟩
end
end _D
section
namespace _D
open _L PySem.SeqAt
noncomputable def zk (b:As):Ah:=if b then 1 else 0
mutual
def ki:D->D->As
 |.non,.non=>true
 |.bl a,.bl b=>a == b
 |.bl a,.int b=>zk a == b
 |.int a,.bl b=>a == zk b
 |.int a,.int b=>a == b
 |.str a,.str b=>a == b
 |.tup Y,.tup Q=>zW Y Q
 |.lst Y,.lst Q=>zW Y Q
 |_,_=>false
def zW:Aa D->Aa D->As
 |[],[]=>true
 |x::Q,y::Y=>ki x y&&zW Q Y
 |_,_=>false
end
noncomputable def pl:Ag->D->As
 |_,.non=>true
 |_,.bl _=>true
 |_,.int _=>true
 |_,.str _=>true
 |n+1,.tup Q=>Q.all (pl n)
 |n+1,.lst Q=>Q.all (pl n)
 |_,_=>false
theorem sC (x y:D)(xs Q:Aa D):zW (x::xs) (y::Q)=(ki x y&&zW xs Q):=rfl
theorem vW:∀ (xs Q:Aa D),zW xs Q=((Cj (min xs.length Q.length)).all (λj=>ki (xs.getD j .non) (Q.getD j .non))&&xs.length == Q.length)
 |[],[]=>rfl
 |[],y::Q=>rfl
 |x::xs,[]=>rfl
 |x::xs,y::Q=>by
  have Y:=vW xs Q;rw[sC,Y,Cb,Cb,Nat.succ_min_succ,Jg,Za,Iy,Bool.and_assoc];have e:(xs.length+1 == Q.length+1)=(xs.length == Q.length):=by simp
  rw[e];rfl
theorem UK {xs Q:Aa D}(h:xs.length≠Q.length):zW xs Q=false:=by
 rw[vW];simp[h]
theorem lL (xs Q:Aa D):ki (.tup xs) (.tup Q)=zW xs Q:=rfl
theorem lK (xs Q:Aa D):ki (.lst xs) (.lst Q)=zW xs Q:=rfl
section
variable {X:Cx}{aj:aa}{σ: _L.St}{H P:Hp}{α: Aa Af}{S:ao}{s:Ai}
inductive Kd (X:Cx)(P:Hp)(α : Aa Af)(s:Ai):D->Ac->Prop where
 |non:Kd X P α s .non .none
 |bl (b:As):Kd X P α s (.bl b) (.bool b)
 |int (i:Ah) (t:Yo):Kd X P α s (.int i) (.int i t)
 |str (x:Aw) (t:Yo):Kd X P α s (.str x) (.str x t)
 |tup (a:Af) (xs:Aa D) (its:ah) (vs:Aa V) (rp:qD X.K P α xs vs) (rv:qJ vs its) (h:s.heap.IsTuple a its.toArray) (q:jl X.K P a vs):Kd X P α s (.tup xs) (.ref a)
 |lst (a:Af) (xs:Aa D) (its:ah) (vs:Aa V) (rp:qD X.K P α xs vs) (rv:qJ vs its) (h:s.heap.IsList a its.toArray) (q:qu X.K P a vs):Kd X P α s (.lst xs) (.ref a)
theorem jX (I:Inv X aj σ H s)(r:bi X.K H P α S){n:Ag}{d:D}{v:V}{u:Ac}(h:pl n d=true)(p:av X.K P α d v)(Q:qF v u):Kd X P α s d u:=by
 cases d with
 |non=>simp only[av] at p;subst p;cases Q;exact .non
 |bl b=>simp only[av] at p;subst p;cases Q;exact .bl b
 |int i=>simp only[av] at p;subst p;obtain⟨t,rfl⟩:=Q;exact .int i t
 |str x=>simp only[av] at p;subst p;obtain⟨t,rfl⟩:=Q;exact .str x t
 |tup U =>
  simp only[av] at p;obtain⟨a,Y,rfl,q,t⟩:=p;cases Q;obtain⟨J,N,G,_⟩:=I.tuple (w4 r.sub q);exact .tup a U J Y t N G q
 |lst U =>
  simp only[av] at p;obtain⟨a,Y,rfl,q,t⟩:=p;cases Q;obtain⟨J,N,G,_⟩:=I.list ((xO r.sub q).l);exact .lst a U J Y t N G.isList q
 |_=>cases n <;> exact Dz h
theorem wU (U:qD X.K P α ds vs)(Y:qJ vs ap){j:Ag}(h:j<ap.toArray.size):∃ v,av X.K P α (ds.getD j .non) v/\qF v ap.toArray[j]/\ds.getD j .non∈ds:=by
 have L:=U.length;have B:=Y.length;have N:j<ap.length:=by simpa using h
 have Q:j<ds.length:=by lia
 obtain⟨v,C,p⟩:=U.get (Ap Q);obtain⟨u,J,q⟩:=Y.get C;have G:ap.toArray[j]=u:=by
  have:ap[j]? = Ab ap[j]:=Ap N;rw[this] at J;simpa using Dm J
 have O:ds.getD j .non=ds[j]:=by simp[Gr,Q]
 rw[G,O];exact⟨v,p,q,Nl Q⟩
theorem jZ {ds:Aa D}(h:ds.all (pl n)=true){d:D}(Q:d∈ds):pl n d=true:=Bs.mp h d Q
theorem iO {h:By}{a:Af}(h1:h.IsTuple a xs)(h2:h.IsTuple a Q):xs=Q:=by
 obtain⟨o,e,_,n,d⟩:=h1;obtain⟨U,J,_,G,Y⟩:=h2;cases e.symm.trans J;cases d.symm.trans Y;rfl
theorem F9 {h:By}{a:Af}(h1:h.IsList a xs)(h2:h.IsList a Q):xs=Q:=by
 obtain⟨o,e,_,n,d⟩:=h1;obtain⟨U,J,_,G,Y⟩:=h2;cases e.symm.trans J;cases d.symm.trans Y;rfl
theorem SL {h:By}{a:Af}(h1:h.IsTuple a xs)(h2:h.IsList a Q):Ex:=by
 obtain⟨o,e,c,_⟩:=h1;obtain⟨U,Y,J,_⟩:=h2;cases e.symm.trans Y;exact absurd (c.symm.trans J) bb
inductive mh (X:Cx)(P:Hp)(α : Aa Af)(xs ys:Aa D)(its its2:ah):Prop
 |mk (vs ws:Aa V) (rp:qD X.K P α xs vs) (rv:qJ vs its) (rp2:qD X.K P α ys ws) (rv2:qJ ws its2):mh X P α xs ys its its2
theorem mh.len1 (q:mh X P α xs J ap Q):xs.length=ap.length:=by
 obtain⟨N,G,U,Y,_,_⟩:=q;exact U.length.trans Y.length
theorem mh.len2 (q:mh X P α xs Y ap Q):Y.length=Q.length:=by
 obtain⟨N,G,_,_,U,J⟩:=q;exact U.length.trans J.length
inductive qe (X:Cx)(P:Hp)(α : Aa Af):D->D->Prop
 |eq {d d':D} (h:ki d d'=true):qe X P α d d'
 |tt (xs ys:Aa D) (its:ah) (q:mh X P α xs ys its its):qe X P α (.tup xs) (.tup ys)
 |ll (xs ys:Aa D) (its:ah) (q:mh X P α xs ys its its):qe X P α (.lst xs) (.lst ys)
theorem oK (A:Kd X P α s d u)(G:Kd X P α s d' u):qe X P α d d':=by
 cases A with
 |non=>cases G;exact .eq rfl
 |bl b=>cases G;exact .eq (Gm _)
 |int i t=>cases G;exact .eq (Gm _)
 |str x t=>cases G;exact .eq (Gm _)
 |tup a L B E I C h q =>
  cases G with
  |tup _ N J O Y Q U T =>
   cases iO h U;exact .tt L N B ⟨E,O,I,C,Y,Q⟩
  |lst _ N J O Y Q U T=>exact(SL h U).elim
 |lst a L B E I C h q =>
  cases G with
  |lst _ N J O Y Q U T =>
   cases F9 h U;exact .ll L N B ⟨E,O,I,C,Y,Q⟩
  |tup _ N J O Y Q U T=>exact(SL U h).elim
theorem sD (I:Inv X aj σ H s)(r:bi X.K H P α S){m:Ag}(M:∀ (d d':D) (u:Ac),pl m d=true->pl m d'=true->Kd X P α s d u->Kd X P α s d' u->ki d d'=true){xs U:Aa D}{ap:ah}(h1:xs.all (pl m)=true)(h2:U.all (pl m)=true)(q:mh X P α xs U ap ap):zW xs U=true:=by
 obtain⟨y,o,C,O,Y,Q⟩:=q;have E:=C.length.trans O.length;have T:=Y.length.trans Q.length;rw[vW,E,T,Vl,Bj];refine⟨Bs.mpr λj J=>?_,BEq.rfl⟩;have J:j<ap.toArray.size:=Dn.mp J;obtain⟨z,L,B,G⟩:=wU C O J;obtain⟨k,w,A,N⟩:=wU Y Q J;exact M _ _ _ (jZ h1 G) (jZ h2 N) (jX I r (jZ h1 G) L B) (jX I r (jZ h2 N) w A)
theorem iK (I:Inv X aj σ H s)(r:bi X.K H P α S):∀ (n:Ag) (d d':D) (u:Ac),pl n d=true->pl n d'=true->Kd X P α s d u->Kd X P α s d' u->ki d d'=true:=by
 intro n
 induction n with
 |zero =>
  intro d d' u Q J Y N;cases oK Y N with
  |eq h=>exact h
  |tt=>exact Dz Q
  |ll=>exact Dz Q
 |succ m O =>
  intro d d' u Q J Y N;cases oK Y N with
  |eq h=>exact h
  |tt U G C q=>exact(lL U G).trans (sD I r O Q J q)
  |ll U G C q=>exact(lK U G).trans (sD I r O Q J q)
structure E3 (A:Bw)(s:Ai)(u u':Ac)(b:As):Prop where
 eq:EqAt A s u u' b
 rc:RcAt A s u u' b
 ne:RcNeAt A s u u' (!b)
inductive zu (X:Cx)(P:Hp)(α : Aa Af)(A:Bw)(s:Ai):D->D->Ac->Ac->Prop
 |of {d d':D} {u u':Ac} (b:As) (e:ki d d'=b) (h:E3 A s u u' b):zu X P α A s d d' u u'
 |tt (a b:Af) (xs ys:Aa D) (its its2:ah) (ha:s.heap.IsTuple a its.toArray) (hb:s.heap.IsTuple b its2.toArray) (q:mh X P α xs ys its its2):zu X P α A s (.tup xs) (.tup ys) (.ref a) (.ref b)
 |ll (a b:Af) (xs ys:Aa D) (its its2:ah) (ha:s.heap.IsList a its.toArray) (hb:s.heap.IsList b its2.toArray) (q:mh X P α xs ys its its2):zu X P α A s (.lst xs) (.lst ys) (.ref a) (.ref b)
theorem GN {A:Bw}(Q:A.units<Ed)(k:Kd X P α s d u)(E:Kd X P α s d' y):zu X P α A s d d' u y:=by
 cases k with
 |non  =>
  cases E with
  |non  => exact .of _ rfl ⟨Ac4 _,RcAt.none_none,RcNeAt.none_none⟩
  |bl b=>exact .of _ rfl ⟨EqAt.none_bool b,RcAt.none_bool b,RcNeAt.none_bool b⟩
  |int b Y=>exact .of _ rfl ⟨EqAt.none_int b Y,RcAt.none_int b Y,RcNeAt.none_int b Y⟩
  |str b Y=>exact .of _ rfl ⟨EqAt.none_str b Y,RcAt.none_str b Y,RcNeAt.none_str b Y⟩
  |tup b B U L C O J T=>exact .of _ rfl ⟨EqAt.none_tuple J Q,RcAt.none_tuple J Q,RcNeAt.none_tuple J Q⟩
  |lst b B U L C O J T=>exact .of _ rfl ⟨EqAt.none_list J Q,RcAt.none_list J Q,RcNeAt.none_list J Q⟩
 |bl a =>
  cases E with
  |non  => exact .of _ rfl ⟨EqAt.bool_none a,RcAt.bool_none a,RcNeAt.bool_none a⟩
  |bl b=>exact .of _ rfl ⟨EqAt.bool_bool a b,RcAt.bool_bool a b,RcNeAt.bool_bool a b⟩
  |int b Y=>exact .of _ rfl ⟨EqAt.bool_int a b Y,RcAt.bool_int a b Y,RcNeAt.bool_int a b Y⟩
  |str b Y=>exact .of _ rfl ⟨EqAt.bool_str a b Y,RcAt.bool_str a b Y,RcNeAt.bool_str a b Y⟩
  |tup b B U L C O J T=>exact .of _ rfl ⟨EqAt.bool_tuple a J Q,RcAt.bool_tuple a J Q,RcNeAt.bool_tuple a J Q⟩
  |lst b B U L C O J T=>exact .of _ rfl ⟨EqAt.bool_list a J Q,RcAt.bool_list a J Q,RcNeAt.bool_list a J Q⟩
 |int a G =>
  cases E with
  |non  => exact .of _ rfl ⟨EqAt.int_none a G,RcAt.int_none a G,RcNeAt.int_none a G⟩
  |bl b=>exact .of _ rfl ⟨EqAt.int_bool a G b,RcAt.int_bool a G b,RcNeAt.int_bool a G b⟩
  |int b Y=>exact .of _ rfl ⟨EqAt.int_int a G b Y,RcAt.int_int a G b Y,RcNeAt.int_int a G b Y⟩
  |str b Y=>exact .of _ rfl ⟨EqAt.int_str a G b Y,RcAt.int_str a G b Y,RcNeAt.int_str a G b Y⟩
  |tup b B U L C O J T=>exact .of _ rfl ⟨EqAt.int_tuple a G J Q,RcAt.int_tuple a G J Q,RcNeAt.int_tuple a G J Q⟩
  |lst b B U L C O J T=>exact .of _ rfl ⟨EqAt.int_list a G J Q,RcAt.int_list a G J Q,RcNeAt.int_list a G J Q⟩
 |str a G =>
  cases E with
  |non  => exact .of _ rfl ⟨EqAt.str_none a G,RcAt.str_none a G,RcNeAt.str_none a G⟩
  |bl b=>exact .of _ rfl ⟨EqAt.str_bool a G b,RcAt.str_bool a G b,RcNeAt.str_bool a G b⟩
  |int b Y=>exact .of _ rfl ⟨EqAt.str_int a G b Y,RcAt.str_int a G b Y,RcNeAt.str_int a G b Y⟩
  |str b Y=>exact .of _ rfl ⟨EqAt.str_str a G b Y,RcAt.str_str a G b Y,RcNeAt.str_str a G b Y⟩
  |tup b B U L C O J T=>exact .of _ rfl ⟨EqAt.str_tuple a G J Q,RcAt.str_tuple a G J Q,RcNeAt.str_tuple a G J Q⟩
  |lst b B U L C O J T=>exact .of _ rfl ⟨EqAt.str_list a G J Q,RcAt.str_list a G J Q,RcNeAt.str_list a G J Q⟩
 |tup a w M z j I N q =>
  cases E with
  |non  => exact .of _ rfl ⟨EqAt.tuple_none N Q,RcAt.tuple_none N Q,RcNeAt.tuple_none N Q⟩
  |bl b=>exact .of _ rfl ⟨EqAt.tuple_bool b N Q,RcAt.tuple_bool b N Q,RcNeAt.tuple_bool b N Q⟩
  |int b Y=>exact .of _ rfl ⟨EqAt.tuple_int b Y N Q,RcAt.tuple_int b Y N Q,RcNeAt.tuple_int b Y N Q⟩
  |str b Y=>exact .of _ rfl ⟨EqAt.tuple_str b Y N Q,RcAt.tuple_str b Y N Q,RcNeAt.tuple_str b Y N Q⟩
  |tup b B U L C O J T=>exact .tt a b w B M U N J ⟨z,L,j,I,C,O⟩
  |lst b B U L C O J T=>exact .of _ rfl ⟨EqAt.tuple_list N J Q,RcAt.tuple_list N J Q,RcNeAt.tuple_list N J Q⟩
 |lst a w M z j I N q =>
  cases E with
  |non  => exact .of _ rfl ⟨EqAt.list_none N Q,RcAt.list_none N Q,RcNeAt.list_none N Q⟩
  |bl b=>exact .of _ rfl ⟨EqAt.list_bool b N Q,RcAt.list_bool b N Q,RcNeAt.list_bool b N Q⟩
  |int b Y=>exact .of _ rfl ⟨EqAt.list_int b Y N Q,RcAt.list_int b Y N Q,RcNeAt.list_int b Y N Q⟩
  |str b Y=>exact .of _ rfl ⟨EqAt.list_str b Y N Q,RcAt.list_str b Y N Q,RcNeAt.list_str b Y N Q⟩
  |tup b B U L C O J T=>exact .of _ rfl ⟨EqAt.list_tuple N J Q,RcAt.list_tuple N J Q,RcNeAt.list_tuple N J Q⟩
  |lst b B U L C O J T=>exact .ll a b w B M U N J ⟨z,L,j,I,C,O⟩
theorem E3.cast {b c:As}(e:c=b)(h:E3 A s u Q b):E3 A s u Q c:=e▸h
theorem GO {A:Bw}{a b:Af}{xs J:Aa D}{ap Q:ah}(U:A.units<Ed)(G:s.heap.IsTuple a ap.toArray)(N:s.heap.IsTuple b Q.toArray)(C:xs.length=ap.length)(O:J.length=Q.length)
  (sub:∀ j (h1:j<ap.toArray.size) (h2:j<Q.toArray.size),EqAt A.in1 s ap.toArray[j] Q.toArray[j] (ki (xs.getD j .non) (J.getD j .non))) (same:a=b->zW xs J=true):E3 A s (.ref a) (.ref b) (zW xs J):=by
 have e:zW xs J=((Cj (min ap.toArray.size Q.toArray.size)).all (λj=>ki (xs.getD j .non) (J.getD j .non))&&ap.toArray.size == Q.toArray.size):=by rw[vW,C,O];rfl
 have R1:=RcAt.tuples G N U sub;have R2:=RcNeAt.tuples G N U sub;rw[<- e] at R1 R2;refine⟨?_,R1,R2⟩;by_cases Y:a=b
 .rw[same Y,Y]
  exact Ac4 _
 .exact EqAt.of_refs Y R1
theorem IE {A:Bw}{a b:Af}{xs Y:Aa D}{ap Q:ah}(G:A.units<Ed)(N:s.heap.IsList a ap.toArray)(O:s.heap.IsList b Q.toArray)(L:xs.length=ap.length)(B:Y.length=Q.length)
  (sub:∀ j (h1:j<ap.toArray.size) (h2:j<Q.toArray.size),EqAt A.in1 s ap.toArray[j] Q.toArray[j] (ki (xs.getD j .non) (Y.getD j .non))) (same:a=b->zW xs Y=true):E3 A s (.ref a) (.ref b) (zW xs Y):=by
 have R:RcAt A s (.ref a) (.ref b) (zW xs Y)/\RcNeAt A s (.ref a) (.ref b) (!zW xs Y):=by
  by_cases U:ap.length=Q.length
  .have e:zW xs Y=(Cj ap.toArray.size).all (λj=>ki (xs.getD j .non) (Y.getD j .non)):=by rw[vW,L,B,<- U,Vl,BEq.rfl,Zb];rfl
   rw[e];exact⟨RcAt.lists N O U G sub,RcNeAt.lists N O U G sub⟩
  .rw[UK (by rw[L,B];exact U)]
   have C:(ap.toArray.size != Q.toArray.size)=true:=bne_iff_ne.mpr U;exact⟨RcAt.lists_lengths N O C G,RcNeAt.lists_lengths N O C G⟩
 refine⟨?_,R.1,R.2⟩;by_cases J:a=b
 .rw[same J,J]
  exact Ac4 _
 .exact EqAt.of_refs J R.1
theorem W4 (I:Inv X aj σ H s)(r:bi X.K H P α S):∀ (n:Ag) (A:Bw) (d d':D) (u L:Ac),A.units+n<Ed->pl n d=true->pl n d'=true->Kd X P α s d u->Kd X P α s d' L->E3 A s u L (ki d d'):=by
 intro n
 induction n with
 |zero =>
  intro A d d' u L T U N C B;cases GN T C B with
  |of b e h=>exact h.cast e
  |tt=>exact Dz U
  |ll=>exact Dz U
 |succ m t =>
  intro A d d' u L T U N C B;have G:A.units<Ed:=Lm (Nm _ _) T;have vy:A.in1.units+m<Ed:=by show A.units+1+m<Ed;lia
  have sub:∀ {Y J:Aa D} {O Q:ah},Y.all (pl m)=true->J.all (pl m)=true->mh X P α Y J O Q ->
    ∀ j (U:j<O.toArray.size) (N:j<Q.toArray.size),EqAt A.in1 s O.toArray[j] Q.toArray[j] (ki (Y.getD j .non) (J.getD j .non)):=λ{Y J O Q} z k ⟨vs,ws,x,v,i,c⟩ j p f=>by
   obtain⟨w1,l,o,w⟩:=wU x v p;obtain⟨w2,y2,g,y⟩:=wU i c f;exact(t A.in1 _ _ _ _ vy (jZ z w) (jZ k y) (jX I r (jZ z w) l o) (jX I r (jZ k y) y2 g)).eq
  cases GN G C B with
  |of b e h=>exact h.cast e
  |tt a b Y J O Q M E q=>exact(GO G M E q.len1 q.len2 (sub U N q) λe=>by subst e;exact(lL Y J).symm.trans (iK I r (m+1) _ _ _ U N C B)).cast (lL Y J)
  |ll a b Y J O Q M E q=>exact(IE G M E q.len1 q.len2 (sub U N q) λe=>by subst e;exact(lK Y J).symm.trans (iK I r (m+1) _ _ _ U N C B)).cast (lK Y J)
def wM:Ag:=30
def ig:G2:=λa b S=>if pl wM a&&pl wM b then .ok (.bl (ki a b)) S else .bad
def ky:G2:=λa b S=>if pl wM a&&pl wM b then .ok (.bl (!ki a b)) S else .bad
set_option tactic.hygienic true in
theorem PF (C:X.A.units+64<Ed):gj X (Df .Eq) ig:=by
 intro aj σ H s P α S v u J uu a b Q I r U G N O Y;unfold ig at Y
 split at Y
 .rename_i h
  rw[Bj] at h;exact(W4 I r wM X.A a b J uu (by unfold wM;lia) h.1 h.2 (jX I r h.1 N U) (jX I r h.2 O G)).rc _ _ _ _ ⟨.bl _,H,I,rfl,xr Y r (by simp only[av])⟩
 .exact Aq Y
set_option tactic.hygienic true in
theorem PJ (C:X.A.units+64<Ed):gj X (Df .NotEq) ky:=by
 intro aj σ H s P α S v u J uu a b Q I r U G N O Y;unfold ky at Y
 split at Y
 .rename_i h
  rw[Bj] at h;exact(W4 I r wM X.A a b J uu (by unfold wM;lia) h.1 h.2 (jX I r h.1 N U) (jX I r h.2 O G)).ne _ _ _ _ ⟨.bl _,H,I,rfl,xr Y r (by simp only[av])⟩
 .exact Aq Y
end
end _D
end
namespace _D
open _L
variable {aj:aa}{kvs:Aa (bq × D)}{ap us:ah}{xs ds:Aa D}{vs:Aa V}{f:Ac->Ac->Kv Ac}{s:Ai}{d:D}{v:V}{Q:VK}{σ:_L.St}
section
variable {X:Cx}
noncomputable def i2 (C:Ah->Ah->As)(f:Ah->Ah->D):G2:=λa b S=>match a,b with
 |.int i,.int j=>if C i j then .ok (f i j) S else .bad
 |_,_=>.bad
theorem f6 {C:Ah->Ah->As}{f:Ah->Ah->D}{a b:D}{S:ao}{P:Hp}{α:ag}{Ok:D->ao->Prop}(h:qI X P α (i2 C f a b S) Ok):∃ i j,a=.int i/\b=.int j/\C i j=true/\Ok (f i j) S:=by
 cases a with
 |int i =>
  cases b with
  |int j =>
   obtain⟨Y,h⟩:=vL (X:=X) h;exact⟨i,j,rfl,rfl,Y,h⟩
  |_=>exact Aq h
 |_=>exact Aq h
theorem zS {P:Hp}{α:ag}(r:av X.K P α (.int i) v):v=.int i:=by simpa only [av] using r
theorem gA {Y:Ah->Ah->Prop}{v:Ah->Ah->V}{C:Ah->Ah->As}{d:Ah->Ah->D}(h:k_ X f (rI Y v))(U:∀ i j,C i j=true->Y i j)(hv:∀ P α i j,av X.K P α (d i j) (v i j)):gj X f (i2 C d):=
 gj.of h λH P α S x y a b Q r N G J=>by
  obtain⟨i,j,rfl,rfl,O,ok⟩:=f6 J;exact⟨i,j,zS N,zS G,U i j O,xr ok r (hv P α i j)⟩
theorem bJ {v:Ah->Ah->V}{d:Ah->Ah->D}(h:k_ X f (t_ v))(hv:∀ P α i j,av X.K P α (d i j) (v i j)):gj X f (i2 (λ_ _=>true) d):=
 gj.of h λH P α S x y a b Q r U J Y=>by
  obtain⟨i,j,rfl,rfl,_,ok⟩:=f6 Y;exact⟨i,j,zS U,zS J,xr ok r (hv P α i j)⟩
def zU:G2:=i2 (λ_ _=>true) λi j=>.int (i-j)
theorem E5:gj X (El .Sub) zU:=bJ EG λP α i j=>by simp only[av]
noncomputable def mM (i j:Ah):As:=decide (-(2 ^ 64)<i/\i<2 ^ 64)||decide (-(2 ^ 64)<j/\j<2 ^ 64)
theorem M6:gj X (El .Mult) (i2 mM λi j=>.int (i*j)):=gA ED (λi j h=>by
 unfold mM at h;rw[Rp] at h;rcases h with h|h
 .exact .inl (Bz h)
 .exact .inr (Bz h)) λP α i j=>by simp only[av]
noncomputable def VN (i j:Ah):As:=decide (0<j/\j<1073741824)
def vK:G2:=i2 VN λi j=>.int (i/j)
theorem RX:gj X (El .FloorDiv) vK:=gA MA (λi j h=>(Bz h:0<j/\j<1073741824)) λP α i j=>by simp only[av]
def xX:G2:=i2 (λ_ j=>decide (0<j)) λi j=>.int (i % j)
theorem E1:gj X (El .Mod) xX:=gA EC (λi j h=>Bz h) λP α i j=>by simp only[av]
noncomputable def VO (i j:Ah):As:=decide (0<=j/\j<=1000000/\i.natAbs<2 ^ 64)
def gN:G2:=i2 VO λi j=>.int (i ^ j.toNat)
theorem E2:gj X (El .Pow) gN:=gA EE (λi j h=>(Bz h:0<=j/\j<=1000000/\i.natAbs<2 ^ 64)) λP α i j=>by simp only[av]
def mi:G2:=i2 (λ_ _=>true) λi j=>.bl (decide (i<j))
def lj:G2:=i2 (λ_ _=>true) λi j=>.bl (decide (i<=j))
def nj:G2:=i2 (λ_ _=>true) λi j=>.bl (decide (j<i))
def qq:G2:=i2 (λ_ _=>true) λi j=>.bl (decide (j<=i))
theorem PH:gj X (Df .Lt) mi:=bJ OU λP α i j=>by simp only[av]
theorem OQ:gj X (Df .LtE) lj:=bJ OT λP α i j=>by simp only[av]
theorem OO:gj X (Df .Gt) nj:=bJ OS λP α i j=>by simp only[av]
theorem ON:gj X (Df .GtE) qq:=bJ OR λP α i j=>by simp only[av]
def uK:D->ao->az D:=λa S=>match a with
 |.int i=>.ok (.int (-i)) S
 |_=>.bad
theorem CY:P_ X (AaG .USub) uK:=by
 intro aj σ H s P α S v U a Q I r J p Y;cases a with
 |int i=>exact CZ aj s σ H v U Q I J ⟨i,zS p,xr Y r (by simp only[av])⟩
 |_=>exact Aq Y
noncomputable def zf:G2:=λa b S=>match b with
 |.non=>match a with
  |.non=>.ok (.bl true) S
  |_=>.ok (.bl false) S
 |_=>.bad
def c5:G2:=λa b S=>match b with
 |.non=>match a with
  |.non=>.ok (.bl false) S
  |_=>.ok (.bl true) S
 |_=>.bad
theorem o4 {P:Hp}{α:ag}(r:av X.K P α d v):decide (v=.non)=(match d with|.non=>true|_=>false):=by
 cases d <;> simp only[av] at r
 case non=>subst r;rfl
 case bl=>subst r;rfl
 case int=>subst r;rfl
 case str=>subst r;rfl
 case ty=>subst r;rfl
 case clo=>obtain⟨rfl,_⟩:=r;rfl
 case obj=>obtain⟨rfl,_⟩:=r;rfl
 case tup=>obtain⟨a,vs,rfl,_⟩:=r;rfl
 case lst=>obtain⟨a,vs,rfl,_⟩:=r;rfl
 case dct0=>obtain⟨a,rfl,_⟩:=r;rfl
 case loc=>obtain⟨a,rfl,_⟩:=r;rfl
 case exn=>obtain⟨a,rfl,_⟩:=r;rfl
 case fd=>obtain⟨a,o,vs,rfl,_⟩:=r;rfl
theorem OP:gj X (Df .Is) zf:=gj.of EB λH P α S x y a b Q r U J Y=>by
 cases b with
 |non =>
  simp only[av] at J;refine⟨J,?_⟩;rw[o4 U];cases a <;> exact xr Y r (by simp only[av])
 |_=>exact Aq Y
theorem JJ:gj X (Df .IsNot) c5:=gj.of MB λH P α S x y a b Q r U J Y=>by
 cases b with
 |non =>
  simp only[av] at J;refine⟨J,?_⟩;rw[o4 U];cases a <;> exact xr Y r (by simp only[av] <;> rfl)
 |_=>exact Aq Y
def zB:G2:=λa b S=>match a,b with
 |.int i,.int j=>.ok (.int (i+j)) S
 |.str x,.str y=>if x.length+y.length<=br then .ok (.str (x++y)) S else .bad
 |.tup xs,.tup Y=>if xs.length+Y.length<=br then .ok (.tup (xs++Y)) S else .bad
 |.lst xs,.lst Y=>if xs.length+Y.length<=br then .ok (.lst (xs++Y)) S else .bad
 |_,_=>.bad
theorem vU {H P:Hp}{α:ag}{S:ao}(I:Inv X aj σ H s)(r:bi X.K H P α S)(p:av X.K P α (.tup xs) v) :
  ∃ a vs ap,v=.ref a/\jl X.K P a vs/\qD X.K P α xs vs/\qJ vs ap/\Vh s.heap a ap.toArray/\xs.length=ap.length/\xs.length<=br:=by
 simp only[av] at p;obtain⟨a,vs,rfl,q,t⟩:=p;obtain⟨ap,Y,J,z⟩:=I.tuple (w4 r.sub q);exact⟨a,vs,ap,rfl,q,t,Y,J,by rw[t.length,Y.length],by rw[t.length,xQ];exact z⟩
theorem bB {H P:Hp}{α:ag}{S:ao}(I:Inv X aj σ H s)(r:bi X.K H P α S)(p:av X.K P α (.lst xs) v) :
  ∃ a vs ap n,v=.ref a/\qu X.K P a vs/\qD X.K P α xs vs/\qJ vs ap/\s.heap.get? a=Ab { cls:=.type "list",data:=.seq ap.toArray n } /\ xs.length=ap.length/\xs.length<=br:=by
 simp only[av] at p;obtain⟨a,vs,rfl,q,t⟩:=p;have:∃ ap n,qJ vs ap/\s.heap.get? a=Ab { cls:=.type "list",data:=.seq ap.toArray n } /\ vs.length<=sizeLine:=by
  rcases q with q|⟨ap,n,e,z,Y⟩
  .obtain⟨z,ap,n,Y,e⟩:=(oH r.sub q).ok I.hok
   exact⟨ap,n,Y,e,z⟩
  .exact⟨ap,n,Y,I.kIn _ _ e,z⟩
 obtain⟨ap,n,Y,e,z⟩:=this;exact⟨a,vs,ap,n,rfl,q,t,Y,e,by rw[t.length,Y.length],by rw[t.length,xQ];exact z⟩
theorem J0 {H P:Hp}{α:ag}{S:ao}(I:Inv X aj σ H s)(r:bi X.K H P α S)(t:qD X.K P α xs vs)(Y:qJ vs ap)(hz:xs.length<=br)
  (ok:jn X P α Q (.tup xs) S):EP X aj σ Q (.ref s.heap.objs.size) { s with heap:=s.heap.push { cls:=.type "tuple",data:=.seq ap.toArray } }:=by
 refine⟨.ref s.heap.objs.size,_,I.laid (t':=s.toks) (o:=.tup vs) (λb J q=>Ak _ q) (Ax _) ⟨by rw[<- t.length,<- xQ];exact hz,ap,Y,Aa3 _ _⟩,rfl,gY r (I.hok.fresh (Ax _)) t ok⟩
theorem cB {H P:Hp}{α:ag}{S:ao}(I:Inv X aj σ H s)(r:bi X.K H P α S)(t:qD X.K P α xs vs)(Y:qJ vs ap)(hz:xs.length<=br)
  (ok:jn X P α Q (.lst xs) S):EP X aj σ Q (.ref s.heap.objs.size) { s with heap:=s.heap.push { cls:=.type "list",data:=.seq ap.toArray } }:=by
 refine⟨.ref s.heap.objs.size,_,I.laid (t':=s.toks) (o:=.lst vs) (λb J q=>Ak _ q) (Ax _) ⟨by rw[<- t.length,<- xQ];exact hz,ap,0,Y,Bi _ rfl⟩,rfl,xU r (I.hok.fresh (Ax _)) t ok⟩
theorem L0 {H P:Hp}{α:ag}{S:ao}{q uu:Ac}(I:Inv X aj σ H s)(r:bi X.K H P α S)(e:qF v q)(x:qF u uu)(p:av X.K P α (.tup xs) v)(l:av X.K P α (.tup N) u)(o:xs.length+N.length<=br)(O:jn X P α Q (.tup (xs++N)) S) :
  b6 X (El .Add q uu) (EP X aj σ Q) X.xe s:=by
 obtain⟨a,vs,ap,rfl,q1,t1,L,k,y,_⟩:=vU I r p;obtain⟨b,ws,Y,rfl,q2,h,T,w,j,_⟩:=vU I r l;cases e;cases x;by_cases E:ap=[]
 .obtain⟨⟨cls,dd,data,sl⟩,t,m,n,g⟩:=id k
  obtain⟨⟨c,A,data2,C⟩,G,J,i,U⟩:=id w;simp only at m g J U;subst m g J U;have B:xs=[]:=Ew.mp (by rw[y,E];rfl)
  subst B;exact t3 ⟨_,t,rfl⟩ ⟨_,G,rfl⟩ Uy Yw Py Pa (Op _ _) (tuple_addW0 a b ap.toArray Y.toArray n i dd A sl C (by simp[E]))
   ⟨t,G,⟨.ref b,H,I,rfl,xr O r l⟩⟩
 .refine _H.uq k w E (λz=>⟨.ref a,H,I,rfl,xr O r ?_⟩) (λz=>?_) (by rw[<- y,<- j,<- xQ];exact o)
  .have M:N=[]:=Ew.mp (by rw[j,z];rfl)
   rw[M,Hu];exact p
  .exact J0 I r (t1.append h) (L.append T) (by rw[Ca];exact o) O
theorem NZ {H P:Hp}{α:ag}{S:ao}{N uu:Ac}(I:Inv X aj σ H s)(r:bi X.K H P α S)(A:qF v N)(M:qF u uu)(w:av X.K P α (.lst xs) v)(j:av X.K P α (.lst U) u)(O:xs.length+U.length<=br)(B:jn X P α Q (.lst (xs++U)) S) :
  b6 X (El .Add N uu) (EP X aj σ Q) X.xe s:=by
 obtain⟨a,vs,ap,n,rfl,q,y,Y,E,T,_⟩:=bB I r w;obtain⟨b,p,G,k,rfl,o,z,J,C,L,_⟩:=bB I r j;cases A;cases M;refine AaP E C ?_ (by rw[Bm,Bm,<- T,<- L,<- xQ];exact O)
 rw[Zc];exact cB I r (y.append z) (Y.append J) (by rw[Ca];exact O) B
inductive _c (a b:D)(S:ao):Prop
 |bad (e:zB a b S=.bad)
 |int (i j:Ah) (ea:a=.int i) (eb:b=.int j)
 |str (x y:Aw) (ea:a=.str x) (eb:b=.str y)
 |tup (x y:Aa D) (ea:a=.tup x) (eb:b=.tup y)
 |lst (x y:Aa D) (ea:a=.lst x) (eb:b=.lst y)
theorem qBA (a b:D)(S:ao):_c a b S:=by
 cases a with
 |int i=>cases b with
  |int j=>exact .int i j rfl rfl
  |_=>exact .bad rfl
 |str i=>cases b with
  |str j=>exact .str i j rfl rfl
  |_=>exact .bad rfl
 |tup i=>cases b with
  |tup j=>exact .tup i j rfl rfl
  |_=>exact .bad rfl
 |lst i=>cases b with
  |lst j=>exact .lst i j rfl rfl
  |_=>exact .bad rfl
 |_=>exact .bad rfl
theorem RW:gj X (El .Add) zB:=by
 intro aj σ H s P α S v u L uu a b Q I r C B N O Y;cases qBA a b S with
 |bad e=>rw[e] at Y;exact Aq Y
 |int i j J U =>
  subst J U;exact EA aj s σ H v u L uu Q I C B ⟨i,j,zS N,zS O,xr Y r (by simp only[av])⟩
 |str x y J U =>
  subst J U;obtain⟨G,Y⟩:=vL (X:=X) Y;simp only[av] at N O;exact ZO aj s σ H v u L uu Q I C B ⟨x,y,N,O,by rw[<- xQ];exact G,xr Y r (by simp only[av])⟩
 |tup xs T J U =>
  subst J U;obtain⟨G,Y⟩:=vL (X:=X) Y;exact L0 I r C B N O G Y
 |lst xs T J U =>
  subst J U;obtain⟨G,Y⟩:=vL (X:=X) Y;exact NZ I r C B N O G Y
def dk:G2:=λa b S=>match b with
 |.int k=>match a with
  |.tup xs=>uM (mj xs k) S
  |.lst xs=>uM (mj xs k) S
  |.loc i=>match S[i]? with
   |some (.lst xs)=>uM (mj xs k) S
   |_=>.bad
  |_=>.bad
 |_=>.bad
theorem lE {P:Hp}{α:ag}{k:Ah}(Y:qD X.K P α ds vs)(h:mj ds k=Ab d):∃ v,mj vs k=Ab v/\av X.K P α d v:=by
 unfold mj at h ⊢;rw[<- Y.length];cases q:pq ds.length k with
 |none=>rw[q] at h;cases h
 |some j =>
  rw[q] at h;obtain⟨v,U,J⟩:=Y.get (show ds[j]? = Ab d from h)
  exact⟨v,U,J⟩
theorem qBS:T_ X dk:=by
 intro Y J aj σ H s P α S v u L uu a b Q I r T E N M G C;cases b with
 |int k =>
  have B:=zS M;cases a with
  |tup xs =>
   obtain⟨d,e,ok⟩:=j3 (X:=X) G;simp only[av] at N;obtain⟨p,vs,rfl,q,t⟩:=N;obtain⟨w,O,U⟩:=lE t e;exact SU Y J aj s σ H _ u L uu Q I T E ⟨p,vs,k,w,rfl,B,w4 r.sub q,O,xr ok r U⟩ C
  |lst xs =>
   obtain⟨d,e,ok⟩:=j3 (X:=X) G;simp only[av] at N;obtain⟨p,vs,rfl,q,t⟩:=N;obtain⟨w,O,U⟩:=lE t e;exact iS Y J aj s σ H _ u L uu Q I T E ⟨p,vs,k,w,rfl,B,(xO r.sub q).l,O,xr ok r U⟩ C
  |loc i =>
   obtain⟨xs,A,G⟩:=jN (X:=X) (f:=λxs=>uM (mj xs k) S) G;obtain⟨d,e,ok⟩:=j3 (X:=X) G;simp only[av] at N;obtain⟨p,rfl,q⟩:=N;obtain⟨vs,z,t⟩:=r.at' i p _ q A;obtain⟨w,O,U⟩:=lE t e;exact iS Y J aj s σ H _ u L uu Q I T E ⟨p,vs,k,w,rfl,B,.of z,O,xr ok r U⟩ C
  |_=>exact Aq G
 |_=>exact Aq G
def mV:G3:=λo i d S=>match o,i with
 |.loc n,.int k=>match S[n]? with
  |some (.lst xs)=>match pq xs.length k with
   |some j=>.ok () (S.set n (.lst (xs.set j d)))
   |none=>.bad
  |_=>.bad
 |_,_=>.bad
theorem qAR:eB X (rX X mV):=by
 intro aj s σ H o i v O E u Q I N L C h;obtain⟨P,α,S,a,b,d,r,G,T,B,Y⟩:=h;cases a with
 |loc n =>
  cases b with
  |int k =>
   obtain⟨xs,U,Y⟩:=jN (X:=X) (f:=λxs=>match pq xs.length k with|some j=>.ok () (S.set n (.lst (xs.set j d)))|none=>.bad) Y
   cases J:pq xs.length k with
   |none=>rw[J] at Y;exact Aq Y
   |some j =>
    rw[J] at Y;simp only[av] at G;obtain⟨p,rfl,q⟩:=G;obtain⟨vs,z,t⟩:=r.at' n p _ q U;refine KJ aj s σ H _ i v O E u Q I N L C ⟨p,vs,k,j,rfl,zS T,z,by rw[<- t.length];exact J,?_⟩
    refine Y _ P α (r.put (m':=.lst (xs.set j d)) q U (by intro z;cases z) ⟨vs.set j v,zE,t.set B j⟩) (qE.refl _) (Bg _)
  |_=>exact Aq Y
 |_=>exact Aq Y
def Z9:D->ao->Am Ag
 |.tup xs,_=>Ab xs.length
 |.lst xs,_=>Ab xs.length
 |.str x,_=>if x.length<=br then Ab x.length else none
 |.dct0,_=>Ab 0
 |.loc i,S=>match S[i]? with
  |some (.lst xs)=>Ab xs.length
  |_=>none
 |_,_=>none
def eY:DF:=λds S=>match ds with
 |[d]=>match Z9 d S with
  |some n=>.ok (.int n) S
  |none=>.bad
 |_=>.bad
end
section
variable {X:Cx}
theorem vQ {P:Hp}{α:ag}(J:qD X.K P α [d] vs)(Y:qJ vs us):∃ v u,vs=[v]/\us=[u]/\av X.K P α d v/\qF v u:=by
 obtain⟨v,U,rfl,p,t⟩:=J.cons_inv;have:=t.nil_inv;subst this;obtain⟨u,rfl,q⟩:=kA Y;exact⟨v,u,rfl,rfl,p,q⟩
theorem nW {P:Hp}{α:ag}{e:D}(N:qD X.K P α [d,e] vs)(Y:qJ vs us):∃ v w u x,vs=[v,w]/\us=[u,x]/\av X.K P α d v/\av X.K P α e w/\qF v u/\qF w x:=by
 obtain⟨v,G,rfl,p,t⟩:=N.cons_inv;obtain⟨w,G,rfl,U,t⟩:=t.cons_inv;have:=t.nil_inv;subst this;obtain⟨u,x,rfl,q,J⟩:=X3 Y;exact⟨v,w,u,x,rfl,rfl,p,U,q,J⟩
def Z8 (d:D)(S:ao):Am Ag:=match d with
 |.dct0=>none
 |_=>Z9 d S
theorem jJ {H P:Hp}{α:ag}{S:ao}(r:bi X.K H P α S)(p:av X.K P α d v)(Y:Z8 d S=Ab n):NW X.K v H n:=by
 cases d with
 |str x =>
  cases (show v=.str x from p)
  obtain⟨N,rfl⟩:=gR Y;exact⟨by rw[<- xQ];exact N,rfl⟩
 |tup xs =>
  simp only[av] at p;obtain⟨a,J,rfl,U,t⟩:=p;cases Y;exact .inr ⟨J,w4 r.sub U,t.length⟩
 |lst xs =>
  simp only[av] at p;obtain⟨a,J,rfl,U,t⟩:=p;cases Y;exact .inl ⟨J,(xO r.sub U).l,t.length⟩
 |loc i =>
  simp only[av] at p;obtain⟨a,rfl,e⟩:=p;obtain⟨xs,G,Y⟩:=RB (f:=λxs=>Ab xs.length) Y;cases Y;obtain⟨J,z,t⟩:=r.at' i a _ e G;exact .inl ⟨J,.of z,t.length⟩
 |_=>exact nn Y
inductive yk (ds:Aa D)(S:ao)(r:az D):Prop
 |bad (e:r=.bad)
 |of (d:D) (n:Ag) (ed:ds=[d]) (hn:Z8 d S=Ab n) (e:r=.ok (.int n) S)
theorem IX (ds:Aa D)(S:ao):yk ds S (match ds with|[.dct0]=>.bad|_=>eY ds S):=by
 cases ds with
 |nil=>exact .bad rfl
 |cons d ds =>
  cases ds with
  |cons _ _=>cases d <;> exact .bad rfl
  |nil =>
   have z:(match [d] with|[D.dct0]=>az.bad|_=>eY [d] S)=(match Z8 d S with|some n=>az.ok (D.int n) S|none=>.bad):=by cases d <;> rfl
   rw[z];cases Y:Z8 d S with
   |none=>exact .bad rfl
   |some n=>exact .of d n rfl Y rfl
theorem LG (C:Re):y8 X (.builtin "len") (λds S=>match ds with|[.dct0]=>.bad|_=>eY ds S):=by
 intro aj σ H s P α S vs us ds Q I r U O J;have Y:qI X P α (match ds with|[D.dct0]=>az.bad|_=>eY ds S) (jn X P α Q):=J
 clear J;cases IX ds S with
 |bad e=>rw[e] at Y;exact Aq Y
 |of d n N G e =>
  rw[e] at Y;subst N;obtain⟨v,u,rfl,rfl,p,q⟩:=vQ O U;exact VR aj s σ H _ _ Q I U ⟨v,n,rfl,jJ r p G,xr Y r (by simp only[av])⟩
noncomputable def ng:D->ao->Am Ep
 |.non,_=>Ab "NoneType"
 |.bl _,_=>Ab "bool"
 |.int _,_=>Ab "int"
 |.str _,_=>Ab "str"
 |.tup _,_=>Ab "tuple"
 |.lst _,_=>Ab "list"
 |.dct0,_=>Ab "dict"
 |.loc i,S=>match S[i]? with
  |some (.lst _)=>Ab "list"
  |some (.dct _)=>Ab "dict"
  |_=>none
 |_,_=>none
def gQ (a b:Ep):As:=a == b||(a == "bool" && b == "int")
noncomputable def t8 (b:Ep):As:=b == "int" || b == "bool" || b == "tuple" || b == "list" || b == "str" || b == "dict"
noncomputable def R0 (a b:Ep):Am As:=if (Jx a == Jx b)=true then Ab true else if PySem.W.kitMeta b=true then (fastBuiltinMro a).map (·.contains (.type b)) else none
noncomputable def B_:Aa Ep:=["NoneType","bool","int","str","tuple","list","dict"]
noncomputable def F_:Aa Ep:=["int","bool","tuple","list","str","dict"]
theorem FH:(B_.all λa=>F_.all λb=>decide (R0 a b=Ab (gQ a b)))=true:=by decide +kernel
theorem E7 {b:Ep}(Y:t8 b=true):b∈F_:=by simpa [t8,F_,or_assoc] using Y
theorem FI {K:Aj}{a b:Ep}(J:a∈B_)(Y:t8 b=true):My K (.type a) (.type b)=Ab (gQ a b):=
 Bz (p:=R0 a b=Ab (gQ a b)) (Bs.mp (Bs.mp FH a J) b (E7 Y))
def kF:DF:=λds S=>match ds with
 |[d,.ty b]=>if t8 b then match ng d S with
   |some a=>.ok (.bl (gQ a b)) S
   |none=>.bad
  else .bad
 |_=>.bad
inductive TyV (X:Cx)(H:Hp)(v:V)(a:Ep):Prop
 |of (t:ke X.K H v (.type a))
 |tup (p:Af) (vs:Aa V) (e:v=.ref p) (q:jl X.K H p vs) (ea:a = "tuple")
 |lst (p:Af) (vs:Aa V) (e:v=.ref p) (q:kf X.K H p vs) (ea:a = "list")
theorem CW {S:ao}{a:Ep}(h:ng d S=Ab a):a∈B_:=by
 cases d with
 |non=>cases h;exact .head _
 |bl b=>cases h;exact .tail _ (.head _)
 |int i=>cases h;exact .tail _ (.tail _ (.head _))
 |str x=>cases h;exact .tail _ (.tail _ (.tail _ (.head _)))
 |tup xs=>cases h;exact .tail _ (.tail _ (.tail _ (.tail _ (.head _))))
 |lst xs=>cases h;exact .tail _ (.tail _ (.tail _ (.tail _ (.tail _ (.head _)))))
 |dct0=>cases h;exact .tail _ (.tail _ (.tail _ (.tail _ (.tail _ (.tail _ (.head _))))))
 |loc i =>
  rcases d7 (f:=λ_=>Ab "list") (g:=λ_=>Ab "dict") h with⟨_,_,h⟩|⟨_,_,h⟩
  .cases h;exact .tail _ (.tail _ (.tail _ (.tail _ (.tail _ (.head _)))))
  .cases h;exact .tail _ (.tail _ (.tail _ (.tail _ (.tail _ (.tail _ (.head _))))))
 |_=>exact nn h
theorem qAc {H P:Hp}{α:ag}{S:ao}{a:Ep}(r:bi X.K H P α S)(p:av X.K P α d v)(h:ng d S=Ab a):TyV X H v a:=by
 cases d with
 |non=>cases h;cases (show v=.non from p);exact .of .non
 |bl b=>cases h;cases (show v=.bl b from p);exact .of (.bl b)
 |int i=>cases h;cases (show v=.int i from p);exact .of (.int i)
 |str x=>cases h;cases (show v=.str x from p);exact .of (.str x)
 |tup xs =>
  cases h;simp only[av] at p;obtain⟨a,vs,e,q,t⟩:=p;exact .tup a vs e (w4 r.sub q) rfl
 |lst xs =>
  cases h;simp only[av] at p;obtain⟨a,vs,e,q,t⟩:=p;exact .lst a vs e (xO r.sub q).l rfl
 |dct0 =>
  cases h;simp only[av] at p;obtain⟨a,rfl,q⟩:=p;exact .of (.dK (r.sub _ _ q))
 |loc i =>
  simp only[av] at p;obtain⟨a,rfl,q⟩:=p;rcases d7 (f:=λ_=>Ab "list") (g:=λ_=>Ab "dict") h with⟨xs,Y,h⟩|⟨kvs,Y,h⟩
  .cases h
   obtain⟨vs,z,t⟩:=r.at' i a _ q Y;exact .of (.lst z)
  .cases h
   obtain⟨vs,z,t⟩:=r.at' i a _ q Y;exact .of (.dK z)
 |_=>exact nn h
inductive V_ (ds:Aa D)(S:ao):Prop
 |bad (e:kF ds S=.bad)
 |of (d:D) (b a:Ep) (ed:ds=[d,.ty b]) (hb:t8 b=true) (ha:ng d S=Ab a) (e:kF ds S=.ok (.bl (gQ a b)) S)
theorem qBQ (ds:Aa D)(S:ao):V_ ds S:=by
 cases ds with
 |nil=>exact .bad rfl
 |cons d ds =>
  cases ds with
  |nil=>exact .bad rfl
  |cons e ds =>
   cases ds with
   |cons _ _=>cases e <;> exact .bad rfl
   |nil =>
    cases e with
    |ty b =>
     have z:kF [d,.ty b] S=if t8 b then (match ng d S with|some a=>.ok (.bl (gQ a b)) S|none=>.bad) else .bad:=rfl
     by_cases J:t8 b=true
     .rw[Be J] at z
      cases Y:ng d S with
      |none=>rw[Y] at z;exact .bad z
      |some a=>rw[Y] at z;exact .of d b a rfl J Y z
     .rw[Bc J] at z
      exact .bad z
    |_=>exact .bad rfl
theorem LF:y8 X (.builtin "isinstance") kF:=by
 intro aj σ H s P α S vs us ds Q I r j l G;cases qBQ ds S with
 |bad e=>rw[e] at G;exact Aq G
 |of d b a M g E e =>
  subst M;rw[e] at G;obtain⟨v,w,u,x,rfl,rfl,p,U,q,A⟩:=nW l j;simp only[av] at U;subst U;cases (show x=Jx b from A)
  have J:=FI (K:=X.K) (CW E) g;have Y:∀ O,EP X aj σ Q (.bool (gQ a b)) { s with toks:=O }:=λO=>⟨.bl _,H,I.tok O,rfl,xr G r (by simp only[av])⟩
  cases qAc r p E with
  |of y=>exact WC I q y J Y
  |tup U k e L B =>
   subst e B;cases (show u=De U from q)
   obtain⟨ap,T,⟨o,C,N,_⟩,_⟩:=I.tuple L;exact Fe Zv I.kIn ⟨o,C,N⟩ J (λz=>nomatch z) Y
  |lst U k e L B =>
   subst e B;cases (show u=De U from q)
   obtain⟨ap,T,⟨o,_,C,N,_⟩,_⟩:=I.list L;exact Fe Tv I.kIn ⟨o,C,N⟩ J (λz=>nomatch z) Y
noncomputable def yB:Aa D->Am (Aa As)
 |[]=>Ab []
 |.bl b::r=>(yB r).map (b::·)
 |_=>none
theorem gE {P:Hp}{α:ag}:∀ {ds:Aa D} {Y:Aa As} {vs:Aa V} {us:ah},yB ds=Ab Y->qD X.K P α ds vs->qJ vs us->us=Y.map Jw
 |[],Y,vs,us,h,U,J=>by
  cases h;have:=U.nil_inv;subst this;cases J;rfl
 |d::ds,Y,vs,us,h,U,J=>by
  cases d with
  |bl b =>
   obtain⟨O,q,rfl⟩:=Fx.mp (show (yB ds).map (b::·)=Ab Y from h)
   obtain⟨w,C,rfl,p,t⟩:=U.cons_inv;simp only[av] at p;subst p;cases J with
   |cons G N =>
    cases (show _=Jw b from G)
    rw[gE q t N];rfl
  |_=>exact nn h
def mT (Y:As):DF:=λds S=>match ds with
 |[d]=>match (xB d).bind yB with
  |some J=>.ok (.bl (if Y then J.any id else J.all id)) S
  |none=>.bad
 |_=>.bad
theorem sS (Y:Aa As):((Cj Y.length).all λi=>Y.getD i false)=Y.all id:=by
 induction Y with
 |nil=>rfl
 |cons b Y J =>
  rw[Cb,Jg,Za,Iy,Za,<- J];rfl
theorem sT (Y:Aa As):((Cj Y.length).any λi=>Y.getD i false)=Y.any id:=by
 induction Y with
 |nil=>rfl
 |cons b Y J =>
  rw[Cb,Jg,Ly,wS,Ly,<- J];rfl
theorem WE {h':By}{J:Ag}(I:Inv X aj σ H s)(k:∀ b Y,b ∉ [s.heap.objs.size]->(s.heap.push o).get? b=Ab Y->h'.get? b=Ab Y):Inv X aj σ H { s with heap:=h',toks:=J }:=
 I.kept λb u e=>k b u (by simp;exact Cu (Bf e)) (Ak _ e)
theorem k8 {J:Aa As}(hi:ap=J.map Jw){A:Bw}:TruthOf X.prog X.w A (λi v=>ap.toArray[i]? = Ab v) (λi=>J.getD i false):=λi v G N C hv O=>by
 subst hi;have Y:(J.map Jw)[i]? = Ab v:=by simpa using hv
 rw[Ee] at Y;cases e:J[i]? with
 |none=>rw[e] at Y;exact nn Y
 |some b =>
  rw[e] at Y;cases Dm Y;have:J.getD i false=b:=by simp[Gr,e]
  have U:N (J.getD i false) G:=O;rw[this] at U;exact wpAny_truthy_bool U
theorem BV {S:ao}{P:Hp}{α:ag}{Ok:D->ao->Prop}(h:qI X P α (mT J ds S) Ok):∃ d xs Y,ds=[d]/\_M d xs/\yB xs=Ab Y/\Ok (.bl (if J then Y.any id else Y.all id)) S:=by
 obtain⟨d,rfl,U⟩:=cP (X:=X) (β:=D) (g:=λd=>match (xB d).bind yB with|some Y=>.ok (D.bl (if J then Y.any id else Y.all id)) S|none=>.bad) h
 cases N:(xB d).bind yB with
 |none=>rw[N] at U;exact Aq U
 |some Y =>
  rw[N] at U;obtain⟨xs,O,G⟩:=Gh.mp N;exact⟨d,xs,Y,rfl,K_ O,G,U⟩
theorem LC (J:As)(hc:X.calm=true):y8 X (.builtin (if J then "any" else "all")) (mT J):=by
 intro aj σ H s P α S vs us ds Q I r l i j;obtain⟨d,xs,z,E,hd,A,ok⟩:=BV j;clear j;subst E;obtain⟨v,u,rfl,rfl,p,q⟩:=vQ i l;clear i;have N:∀ {o:Dc} (U:By) (G:Ag),(∀ b m,b ∉ [s.heap.objs.size]->(s.heap.push o).get? b=Ab m->U.get? b=Ab m)->EP X aj σ Q (.bool (if J then z.any id else z.all id)) { s with heap:=U,toks:=G }:=
  λ{o} U G k=>⟨.bl _,H,WE I k,rfl,xr ok r (by simp only[av])⟩
 clear l ok;have g:X.A.in1.handled=none:=I.ok.hd hc;cases hd with
 |tup E =>
  subst E;obtain⟨a,ws,ap,rfl,sq,t,L,B,h,_⟩:=vU I r p;cases (show u=De a from q)
  have O:=gE A t L;have Y:ap.toArray.size=z.length:=by rw[O];simp
  have C:a≠s.heap.objs.size:=by obtain⟨o,e,_⟩:=B;exact Cu (Bf e)
  have W:=Walks.tuple (prog:=X.prog) (w:=X.w) g s.heap.objs.size a C ap.toArray;have x:∀ o,(s.heap.push o).IsTuple a ap.toArray:=λo=>by obtain⟨o,e,c⟩:=B;exact⟨o,Ak _ e,c⟩
  have T:s.heap.IsTuple a ap.toArray:=B;cases J with
  |false =>
   refine call_all_walk (Jo T ⟨s.heap.objs.size,_,_,_,_,_,_,rfl,W,⟨⟨_,Bi _ rfl,rfl,rfl⟩,x _⟩,k8 O,λU G k=>?_⟩);rw[Y,sS];exact N U G k
  |true =>
   refine call_any_walk (Jo T ⟨s.heap.objs.size,_,_,_,_,_,_,rfl,W,⟨⟨_,Bi _ rfl,rfl,rfl⟩,x _⟩,k8 O,λU G k=>?_⟩);rw[Y,sT];exact N U G k
 |lst E =>
  subst E;obtain⟨a,ws,ap,n,rfl,sq,t,L,B,h,_⟩:=bB I r p;cases (show u=De a from q)
  have y:s.heap.IsList a ap.toArray:=⟨_,B,rfl,n,rfl⟩;have O:=gE A t L;have Y:ap.toArray.size=z.length:=by rw[O];simp
  have C:a≠s.heap.objs.size:=Cu (Bf B);have W:=Walks.list (prog:=X.prog) (w:=X.w) g s.heap.objs.size a C ap.toArray;have M:∀ o,(s.heap.push o).IsList a ap.toArray:=λo=>⟨_,Ak _ B,rfl,n,rfl⟩;cases J with
  |false =>
   refine call_all_walk (Ip y ⟨s.heap.objs.size,_,_,_,_,_,_,rfl,W,⟨⟨_,Bi _ rfl,rfl,rfl⟩,M _⟩,k8 O,λU G k=>?_⟩);rw[Y,sS];exact N U G k
  |true =>
   refine call_any_walk (Ip y ⟨s.heap.objs.size,_,_,_,_,_,_,rfl,W,⟨⟨_,Bi _ rfl,rfl,rfl⟩,M _⟩,k8 O,λU G k=>?_⟩);rw[Y,sT];exact N U G k
def Z3:DF:=λds S=>match ds with
 |[.int i]=>.ok (.int i) S
 |[.bl b]=>.ok (.int (zk b)) S
 |_=>.bad
inductive W_ (ds:Aa D)(S:ao):Prop
 |bad (e:Z3 ds S=.bad)
 |int (i:Ah) (e:ds=[.int i])
 |bl (b:As) (e:ds=[.bl b])
theorem qBO (ds:Aa D)(S:ao):W_ ds S:=by
 cases ds with
 |nil=>exact .bad rfl
 |cons d ds =>
  cases ds with
  |cons _ _=>cases d <;> exact .bad rfl
  |nil =>
   cases d with
   |int i=>exact .int i rfl
   |bl b=>exact .bl b rfl
   |_=>exact .bad rfl
theorem LD:y8 X (.type "int") Z3:=by
 intro aj σ H s P α S vs us ds Q I r J U Y;cases qBO ds S with
 |bad e=>rw[e] at Y;exact Aq Y
 |int i e =>
  subst e;obtain⟨v,u,rfl,rfl,p,q⟩:=vQ U J;exact dX aj s σ H _ _ Q I J (.inl ⟨_,by rw[zS p],xr Y r (by simp only[av])⟩)
 |bl b e =>
  subst e;obtain⟨v,u,rfl,rfl,p,q⟩:=vQ U J;simp only[av] at p;subst p;exact dX aj s σ H _ _ Q I J (.inr ⟨_,rfl,xr Y r (by simp only[av];rfl)⟩)
def vJ:DF:=λds S=>match ds with
 |[d]=>match xB d with
  |some xs=>.ok (.tup xs) S
  |none=>.bad
 |_=>.bad
theorem VU:y8 X (.type "tuple") vJ:=by
 intro aj σ H s P α S vs us ds Q I r G L C;obtain⟨d,rfl,Y⟩:=cP (X:=X) (β:=D) (g:=λd=>match xB d with|some xs=>.ok (D.tup xs) S|none=>.bad) C
 obtain⟨xs,U,J⟩:∃ xs,xB d=Ab xs/\jn X P α Q (.tup xs) S:=by
  cases U:xB d with
  |none=>rw[U] at Y;exact Aq Y
  |some xs=>rw[U] at Y;exact⟨xs,rfl,Y⟩
 obtain⟨v,u,rfl,rfl,p,q⟩:=vQ L G;cases K_ U with
 |tup e =>
  subst e;have T:=p;simp only[av] at p;obtain⟨a,O,rfl,N,t⟩:=p;exact pP aj s σ H _ _ Q I G ⟨a,O,rfl,.inr ⟨w4 r.sub N,xr J r T⟩⟩
 |lst e =>
  subst e;simp only[av] at p;obtain⟨a,O,rfl,N,t⟩:=p;exact pP aj s σ H _ _ Q I G ⟨a,O,rfl,.inl ⟨(xO r.sub N).l,λl B=>gY r B t J⟩⟩
def rL:DF:=λds S=>match ds with
 |[d]=>match xB d with
  |some xs=>.ok (.lst xs) S
  |none=>.bad
 |_=>.bad
theorem B5:y8 X (.type "list") rL:=by
 intro aj σ H s P α S vs us ds Q I r G L B;obtain⟨d,rfl,Y⟩:=cP (X:=X) (β:=D) (g:=λd=>match xB d with|some xs=>.ok (D.lst xs) S|none=>.bad) B
 obtain⟨xs,U,J⟩:∃ xs,xB d=Ab xs/\jn X P α Q (.lst xs) S:=by
  cases U:xB d with
  |none=>rw[U] at Y;exact Aq Y
  |some xs=>rw[U] at Y;exact⟨xs,rfl,Y⟩
 obtain⟨v,u,rfl,rfl,p,q⟩:=vQ L G;cases K_ U with
 |tup e =>
  subst e;simp only[av] at p;obtain⟨a,C,rfl,O,t⟩:=p;exact pT aj s σ H _ _ Q I G ⟨a,C,rfl,.inr (w4 r.sub O),λl N=>xU r N t J⟩
 |lst e =>
  subst e;simp only[av] at p;obtain⟨a,C,rfl,O,t⟩:=p;exact pT aj s σ H _ _ Q I G ⟨a,C,rfl,.inl ((xO r.sub O).l),λl N=>xU r N t J⟩
end
section
variable {X:Cx}
structure yq (K:Aj)(cl:ag):Prop where
 ex:∀ C∈cl,_a K C
 one:∀ C∈cl,∀ B∈cl,My K (.ref C) (.ref B)=Ab (C == B)
 ve:∀ C∈cl,My K (.ref C) (.type "ValueError")=Ab true
def qCJ (Y:ag):DF:=λds S=>match ds with
 |[.exn (.ref C),.obj B]=>if Y.contains C&&Y.contains B then .ok (.bl (C == B)) S else .bad
 |[.exn (.ref C),.ty b]=>if Y.contains C&&(b == "ValueError") then .ok (.bl true) S else .bad
 |_=>kF ds S
def wz (X:Cx)(id:Ep)(g:D->Aa D->ao->az D):Prop:=
 ∀ (aj:aa) (σ : _L.St) (H:Hp) (s:Ai) (P:Hp) (α : Aa Af) (S:ao) (v:V) (Y:Ac) (vs:Aa V) (us:ah) (a:D) (ds:Aa D) (Q:VK),Inv X aj σ H s->bi X.K H P α S->qF v Y->av X.K P α a v->qJ vs us->qD X.K P α ds vs->qV X P α (g a ds S) Q ->
  b6 X (call (.builtin id) (Y::us)) (EP X aj σ Q) X.xe s
def mr (T:Ep)(g:D->Aa D->ao->az D)(U:DE)(N:DA):DE:=λY S=>(U Y S).bind λa J=>if (ng a J == Ab T)=true then (N Y J).bind λds G=>g a ds G else .bad
theorem aM {H P:Hp}{α:ag}{S:ao}{a:D}(r:bi X.K H P α S)(p:av X.K P α a v)(h:ng a S=Ab T)(hT:T = "list" \/ T = "dict" \/ T = "int" \/ T = "str"):_i X.K T v H:=by
 cases a with
 |int i=>cases h;simp only[av] at p;subst p;rfl
 |str x=>cases h;simp only[av] at p;subst p;rfl
 |lst xs =>
  cases h;simp only[av] at p;obtain⟨b,vs,rfl,q,t⟩:=p;exact .inl ⟨rfl,vs,(xO r.sub q).l⟩
 |dct0 =>
  cases h;simp only[av] at p;obtain⟨b,rfl,q⟩:=p;exact .inr (.inr (.inl ⟨rfl,.inl ⟨[],r.sub _ _ q⟩⟩))
 |loc i =>
  simp only[av] at p;obtain⟨b,rfl,q⟩:=p;rcases d7 (f:=λ_=>Ab "list") (g:=λ_=>Ab "dict") h with⟨xs,Y,h⟩|⟨kvs,Y,h⟩
  .cases h
   obtain⟨vs,z,t⟩:=r.at' i b _ q Y;exact .inl ⟨rfl,vs,kf.of z⟩
  .cases h
   obtain⟨vs,z,t⟩:=r.at' i b _ q Y;exact .inr (.inr (.inl ⟨rfl,.inl ⟨vs,z⟩⟩))
 |non=>cases h;exact absurd hT bb
 |bl b=>cases h;exact absurd hT bb
 |tup xs=>cases h;exact absurd hT bb
 |_=>exact nn h
variable {o e:Cc}{es:Aa Cc}{fo:DE}{fa:DA}{name:Aw}{cq ci:Ez}{T id:Ep}{g:D->Aa D->ao->az D}
theorem XU {P:Hp}{α:ag}{a:D}{S:ao}{β:Type}{k:az β}{Ok:β->ao->Prop}(h:qI X P α (if (ng a S == Ab T)=true then k else .bad) Ok):ng a S=Ab T/\qI X P α k Ok:=by
 by_cases z:(ng a S == Ab T)=true
 .rw[Be z] at h;exact⟨Yz.mp z,h⟩
 .rw[Bc z] at h;exact Aq h
theorem AS (pa:Zd T)(slot:Slot T name id)(L:AaO (.builtin id)=pure (.type "method_descriptor"))(hT:T = "list" \/ T = "dict" \/ T = "int" \/ T = "str")(hm:wz X id g)(ho:PE X o (tD X fo))(ha:PA X (e::es) (mz X fa))
  (U:Ia o name X.env (eval o X.env)=eval o X.env:=by rfl)
  (N:((Hc ci (Bu (e::es) X.env)).all (λx=>!x.1)&&(AbE ci (WF [] X.env)).all (λx=>x.1.isSome)
   && decide ((e::es).length+([]:Aa TD).length+(if ([] : Aa TD).isEmpty then 0 else 1)<30))=true:=by rfl)
  (G:(cq.endLine == ci.line)=true:=by rfl) (hs:Bu (e::es) X.env=(false,eval e X.env)::Bu es X.env:=by rfl) (J:(Hc ci (Bu es X.env)).any (·.1)=false:=by rfl) :
  PE X (.Call (.Attribute o name cq) (e::es) [] ci) (tD X (mr T g fo fa)):=by
 intro aj s σ H Q I h;obtain⟨P,α,b,S,r,p,q⟩:=h;refine Wg U N G rfl (bn (zT ho I r p q) λn s1 ⟨v,H1,j,O,d,l,Y,w⟩=>?_);obtain⟨ht,B⟩:=XU w;obtain⟨m,u⟩:=aL Y.inv Y.val (aM Y.rel Y.rep ht hT);refine⟨T,id,pa,slot,L,m,u,?_⟩;have z:=vH ha Y.inv Y.rel Y.env (P:=j) (α:=O) (Ok:=jn X j O Q) (qV.base Y.same Y.pre (r:=(fa b l).bind λds C=>g d ds C) B) ci;rw[hs] at z ⊢;refine Jh (by show (false||(Hc ci (Bu es X.env)).any (·.1))=false;rw[J] <;> rfl) (Ye ?_)
 exact bn z λus t ⟨vs,H2,P2,A,ds,C,c,a,i,zb,E,k,y,M⟩=>hm aj σ H2 t P2 A C v n vs us d ds Q c i Y.val (av.mono k y _ _ Y.rep) a E (qV.base k y M)
def U2 (T:Ep)(g:D->Aa D->ao->az D)(fo:DE):DE:=λJ S=>(fo J S).bind λa Y=>if (ng a Y == Ab T)=true then g a [] Y else .bad
theorem LS (z:Zd T)(slot:Slot T name id)(O:AaO (.builtin id)=pure (.type "method_descriptor"))(hT:T = "list" \/ T = "dict" \/ T = "int" \/ T = "str")(hm:wz X id g)(y:PE X o (tD X fo))
  (J:Ia o name X.env (eval o X.env)=eval o X.env:=by rfl) (U:(cq.endLine == ci.line)=true:=by rfl):PE X (.Call (.Attribute o name cq) [] [] ci) (tD X (U2 T g fo)):=by
 intro aj s σ H Q I h;obtain⟨P,α,p,S,r,A,L⟩:=h;refine Pc J U (bn (zT y I r A L) λu E ⟨v,M,j,G,d,w,Y,C⟩=>?_);obtain⟨q,N⟩:=XU C;obtain⟨k,B⟩:=aL Y.inv Y.val (aM Y.rel Y.rep q hT);exact⟨T,id,z,slot,O,k,B,Jh rfl (Sf (hm aj σ M E j G w v u [] [] d [] Q Y.inv Y.rel Y.val Y.rep .nil .nil (qV.base Y.same Y.pre N)))⟩
def xZ:D->Aa D->ao->az D:=λa ds S=>match a,ds with
 |.loc i,[d]=>match S[i]? with
  |some (.lst xs)=>if xs.length<br then .ok .non (S.set i (.lst (xs++[d]))) else .bad
  |_=>.bad
 |_,_=>.bad
inductive ApV (a:D)(ds:Aa D)(S:ao):Prop
 |bad (e:xZ a ds S=.bad)
 |of (i:Ag) (d:D) (xs:Aa D) (ea:a=.loc i) (ed:ds=[d]) (hS:S[i]? = Ab (.lst xs)) (hl:xs.length<br) (e:xZ a ds S=.ok .non (S.set i (.lst (xs++[d]))))
theorem apV (a:D)(ds:Aa D)(S:ao):ApV a ds S:=by
 cases a with
 |loc i =>
  cases ds with
  |nil=>exact .bad rfl
  |cons d ds =>
   cases ds with
   |cons _ _=>exact .bad rfl
   |nil =>
    have z:xZ (.loc i) [d] S=(match S[i]? with|some (.lst xs)=>(if xs.length<br then .ok .non (S.set i (.lst (xs++[d]))) else .bad)|_=>.bad):=rfl
    cases Y:S[i]? with
    |none=>rw[Y] at z;exact .bad z
    |some m =>
     rw[Y] at z;cases m with
     |lst xs =>
      by_cases J:xs.length<br
      .exact .of i d xs rfl rfl Y J (z.trans (Be J))
      .exact .bad (z.trans (Bc J))
     |_=>exact .bad z
 |_=>exact .bad rfl
theorem WV:wz X "list.append" xZ:=by
 intro aj σ H s P α S v L vs us a ds Q I r A p J U Y;cases apV a ds S with
 |bad e=>rw[e] at Y;exact Aq Y
 |of i d xs B E G M e =>
  rw[e] at Y;subst B E;obtain⟨w,u,rfl,rfl,C,O⟩:=vQ U J;simp only[av] at p;obtain⟨b,rfl,q⟩:=p;obtain⟨N,z,t⟩:=r.at' i b _ q G;refine WX aj s σ H (.ref b) [w] L [u] Q I A (.cons O .nil) ⟨b,N,w,rfl,rfl,z,by rw[<- t.length,<- xQ];exact M,?_⟩
  exact xr Y (r.put (m':=.lst (xs++[d])) q G (by intro z;cases z) ⟨N++[w],zE,t.append (.cons C .nil)⟩) (by simp only[av])
def rM:D->Aa D->ao->az D:=λa ds S=>match a,ds with
 |.int n,[]=>.ok (.int (Lb n)) S
 |_,_=>.bad
theorem FV:wz X "int.bit_length" rM:=by
 intro aj σ H s P α S v N vs us a ds Q I r G p J U Y;unfold rM at Y
 split at Y
 .simp only[av] at p
  subst p;obtain⟨t,rfl⟩:=G;cases U.nil_inv;cases J;exact call_int_bit_length ⟨.int _,H,I.tok _,⟨_,rfl⟩,xr Y r (by simp only[av])⟩
 .exact Aq Y
end
def yZ:D->Am bq
 |.int i=>Ab (.inl i)
 |.str x=>Ab (.inr x)
 |_=>none
def xK (kvs:Aa (bq × D))(k:bq):Am D:=(kvs.find? λY=>decide (Y.1=k)).map (·.2)
def vO (kvs:Aa (bq × D))(k:bq)(v:D):Aa (bq × D):=
 if (kvs.any λY=>decide (Y.1=k))=true then kvs.map (λY=>if Y.1=k then (Y.1,v) else Y) else kvs++[(k,v)]
section
variable {K:Aj}{P:Hp}{α: Aa Af}
theorem FM {vs:Aa (bq × V)}(r:ol K P α kvs vs):kvs.length=vs.length:=Paired.length r
theorem fB {k:bq}:∀ {kvs:Aa (bq × D)} {vs:Aa (bq × V)},ol K P α kvs vs->(∀ d,xK kvs k=Ab d->∃ v,yR vs k=Ab v/\av K P α d v)/\(xK kvs k=none->yR vs k=none)
 |_,_,.nil=>⟨λd h=>by simp[xK] at h,λ_=>rfl⟩
 |(J,d1)::kvs,(O,N)::vs,.cons z t=>by
  obtain⟨e,r⟩:=z;dsimp only at e r;subst e;obtain⟨G,U⟩:=fB (k:=k) t;unfold xK yR at *;by_cases Y:J=k
  .subst Y
   constructor
   .intro d h
    simp at h;subst h;exact⟨N,by simp,r⟩
   .intro h
    simp at h
  .constructor
   .intro d h
    rw[Wh (by simpa using Y)] at h ⊢
    exact G d h
   .intro h
    rw[Wh (by simpa using Y)] at h ⊢
    exact U h
theorem FJ {k:bq}{vs:Aa (bq × V)}(h:ol K P α kvs vs):(kvs.any λY=>decide (Y.1=k))=(vs.any λY=>decide (Y.1=k)):=by
 induction h with
 |nil=>rfl
 |cons z t J=>rw[Ly,Ly,J,z.1]
theorem FN {k:bq}(q:av K P α d v){kvs:Aa (bq × D)}{vs:Aa (bq × V)}(h:ol K P α kvs vs):ol K P α (kvs.map λY=>if Y.1=k then (Y.1,d) else Y) (vs.map λY=>if Y.1=k then (Y.1,v) else Y):=by
 induction h with
 |nil=>exact .nil
 |cons z t J =>
  rw[Cg,Cg];refine .cons ?_ J;rw[<- z.1]
  split
  .exact⟨rfl,q⟩
  .exact z
theorem FK {k:bq}(q:av K P α d v){kvs:Aa (bq × D)}{vs:Aa (bq × V)}(h:ol K P α kvs vs):ol K P α (kvs++[(k,d)]) (vs++[(k,v)]):=by
 induction h with
 |nil=>exact .cons ⟨rfl,q⟩ .nil
 |cons z t Y=>exact .cons z Y
theorem FO {k:bq}(q:av K P α d v){kvs:Aa (bq × D)}{vs:Aa (bq × V)}(r:ol K P α kvs vs):ol K P α (vO kvs k d) (vP vs k v):=by
 unfold vO vP;rw[FJ r]
 split
 .exact FN q r
 .exact FK q r
theorem nF {k:bq}(h:yZ d=Ab k)(r:av K P α d v):v=kV k:=by
 cases d with
 |int i=>cases h;simp only[av] at r;exact r
 |str x=>cases h;simp only[av] at r;exact r
 |_=>cases h
end
section
variable {X:Cx}{o i e:Cc}{aq:Ez}
noncomputable def eR:DE:=λ_ S=>.ok (.loc S.length) (S++[.dct []])
theorem LV:PE X (.Dict [] [] aq) (tD X eR):=by
 refine q_ JO λσ H Q ⟨P,α,N,S,r,O,J⟩ p U=>?_;have Y:α<+:α++[p]:=Et _ _;have G:=r.new (o:=.dK []) (m:=.dct []) U ⟨[],zE,.nil⟩;refine J _ _ _ _ G (qE.refl _) Y ?_;simp only[av];exact⟨p,rfl,by rw[<- r.len];simp⟩
def w6:G3:=λo i d S=>match o with
 |.loc n=>match S[n]? with
  |some (.dct kvs)=>match yZ i with
   |some k=>if kvs.length<br then .ok () (S.set n (.dct (vO kvs k d))) else .bad
   |none=>.bad
  |_=>mV o i d S
 |_=>mV o i d S
inductive ye (a b d:D)(S:ao):Prop
 |bad (e:w6 a b d S=.bad)
 |old (e:w6 a b d S=mV a b d S)
 |of (n:Ag) (kvs:Aa (bq × D)) (k:bq) (ea:a=.loc n) (hS:S[n]? = Ab (.dct kvs)) (hk:yZ b=Ab k) (hl:kvs.length<br) (e:w6 a b d S=.ok () (S.set n (.dct (vO kvs k d))))
theorem qAQ (a b d:D)(S:ao):ye a b d S:=by
 cases a with
 |loc n =>
  have z:w6 (.loc n) b d S=(match S[n]? with|some (.dct kvs)=>(match yZ b with|some k=>(if kvs.length<br then .ok () (S.set n (.dct (vO kvs k d))) else .bad)|none=>.bad)|_=>mV (.loc n) b d S):=rfl
  cases Y:S[n]? with
  |none=>rw[Y] at z;exact .old z
  |some m =>
   rw[Y] at z;cases m with
   |dct kvs =>
    cases J:yZ b with
    |none=>rw[J] at z;exact .bad z
    |some k =>
     rw[J] at z;by_cases U:kvs.length<br
     .exact .of n kvs k rfl Y J U (z.trans (Be U))
     .exact .bad (z.trans (Bc U))
   |_=>exact .old z
 |_=>exact .old rfl
theorem CF (A:X.A.units+1<Ed):eB X (rX X w6):=by
 intro aj s σ H o i v G j u Q I U B N h;obtain⟨P,α,S,a,b,d,r,J,L,C,Y⟩:=h;cases qAQ a b d S with
 |bad e=>rw[e] at Y;exact Aq Y
 |old e =>
  rw[e] at Y;exact qAR aj s σ H o i v G j u Q I U B N ⟨P,α,S,a,b,d,r,J,L,C,Y⟩
 |of n kvs k M O E w e =>
  rw[e] at Y;subst M;simp only[av] at J;obtain⟨p,rfl,q⟩:=J;obtain⟨vs,z,t⟩:=r.at' n p _ q O;cases nF E L;cases (show G=De p from U)
  refine XS A I (lC.k (v:=v) z (by rw[<- FM t,<- xQ];exact w)) B N λy T=>⟨_,T,?_⟩
  exact Y _ P α (r.put (m':=.dct (vO kvs k d)) q O (by intro z;cases z) ⟨_,zE,FO C t⟩) (qE.refl _) (Bg _)
def kG:D->Aa D->ao->az D:=λa ds S=>match a,ds with
 |.loc n,[i,x]=>match S[n]? with
  |some (.dct kvs)=>match yZ i with
   |some k=>.ok ((xK kvs k).getD x) S
   |none=>.bad
  |_=>.bad
 |_,_=>.bad
inductive Z_ (a:D)(ds:Aa D)(S:ao):Prop
 |bad (e:kG a ds S=.bad)
 |of (n:Ag) (i x:D) (kvs:Aa (bq × D)) (k:bq) (ea:a=.loc n) (ed:ds=[i,x]) (hS:S[n]? = Ab (.dct kvs)) (hk:yZ i=Ab k) (e:kG a ds S=.ok ((xK kvs k).getD x) S)
theorem qBN (a:D)(ds:Aa D)(S:ao):Z_ a ds S:=by
 cases a with
 |loc n =>
  cases ds with
  |nil=>exact .bad rfl
  |cons i ds =>
   cases ds with
   |nil=>exact .bad rfl
   |cons x ds =>
    cases ds with
    |cons _ _=>exact .bad rfl
    |nil =>
     have z:kG (.loc n) [i,x] S=(match S[n]? with|some (.dct kvs)=>(match yZ i with|some k=>.ok ((xK kvs k).getD x) S|none=>.bad)|_=>.bad):=rfl
     cases Y:S[n]? with
     |none=>rw[Y] at z;exact .bad z
     |some m =>
      rw[Y] at z;cases m with
      |dct kvs =>
       cases J:yZ i with
       |none=>rw[J] at z;exact .bad z
       |some k=>rw[J] at z;exact .of n i x kvs k rfl rfl Y J z
      |_=>exact .bad z
 |_=>exact .bad rfl
theorem RA (L:X.A.units+1<Ed):wz X "dict.get" kG:=by
 intro aj σ H s P α S v j vs us a ds Q I r u p J G Y;cases qBN a ds S with
 |bad e=>rw[e] at Y;exact Aq Y
 |of n i x kvs k M y l C e =>
  rw[e] at Y;subst M y;obtain⟨h,vx,ui,ux,rfl,rfl,c,A,g,B⟩:=nW G J;simp only[av] at p;obtain⟨b,rfl,q⟩:=p;obtain⟨ws,z,t⟩:=r.at' n b _ q l;cases nF C c;cases (show j=De b from u)
  refine LP L I (j7.k z) g B λw' s' O U=>⟨_,H,O,U,xr Y r ?_⟩;obtain⟨E,N⟩:=fB (k:=k) t;cases hv:xK kvs k with
  |none=>rw[N hv];exact A
  |some d =>
   obtain⟨w,m,T⟩:=E d hv;rw[m];exact T
end
def uS (S:ao):ao:=S.map λ_=>.dead
noncomputable def QH:D->As
 |.non=>true
 |.bl _=>true
 |.int _=>true
 |.str _=>true
 |_=>false
noncomputable def mapO {β γ:Type}(f:β->Am γ) : Aa β -> Am (Aa γ)
 |[]=>Ab []
 |b::r=>match f b,mapO f r with
  |some c,Ab Y=>Ab (c::Y)
  |_,_=>none
noncomputable def xS:Ag->ao->D->Am D
 |n+1,S,.tup xs=>(mapO (xS n S) xs).map .tup
 |n+1,S,.lst xs=>(mapO (xS n S) xs).map .lst
 |n+1,S,.loc i=>match S[i]? with
  |some (.lst xs)=>(mapO (xS n S) xs).map .lst
  |_=>none
 |_,_,.non=>Ab .non
 |_,_,.bl b=>Ab (.bl b)
 |_,_,.int i=>Ab (.int i)
 |_,_,.str x=>Ab (.str x)
 |_,_,.ty n=>Ab (.ty n)
 |_,_,.obj a=>Ab (.obj a)
 |_,_,.dct0=>Ab .dct0
 |_,_,.exn c=>Ab (.exn c)
 |_,_,_=>none
noncomputable def vX (H P:Hp)(α : Aa Af):Hp:=λb=>if (P b).isSome then P b else if b∈α then H b else none
section
variable {K:Aj}{H P:Hp}{α: Aa Af}{S:ao}
theorem jF (H P:Hp)(α : Aa Af):qE P (vX H P α):=λb o e=>by
 unfold vX;rw[e];rfl
theorem UM (r:bi K H P α S):qE (vX H P α) H:=λb o e=>by
 unfold vX at e
 split at e
 .exact r.sub b o e
 .split at e
  .exact e
  .cases e
theorem lN {a:Af}(h:P a=none)(Y:a∈α):vX H P α a=H a:=by
 unfold vX;rw[h];simp[Y]
theorem bi.frz (r:bi K H P α S):bi K H (vX H P α) α (uS S) where
 tb:=r.tb.keep (λ_ _ q _=>q) λb u q _ p n=>⟨by unfold vX;rw[p];simp[n],n⟩
 sub:=UM r
 len:=by rw[r.len];simp[uS]
 nd:=r.nd
 sep:=λi a o J Y U=>by
  unfold uS at Y;rw[Ee] at Y;cases q:S[i]? with
  |none=>rw[q] at Y;cases Y
  |some m=>rw[q] at Y;cases Y;exact absurd rfl U
 at':=λi a o J Y=>by
  unfold uS at Y;rw[Ee] at Y;cases q:S[i]? with
  |none=>rw[q] at Y;cases Y
  |some m=>rw[q] at Y;cases Y;trivial
 own:=r.own
theorem bi.unfrz (r:bi K H P α S)(N:bi K B P1 O S1)(e:qE (vX H P α) P1):bi K B P α S:=by
 have mem:∀ i a,α[i]? = Ab a->a∈α:=λi a h=>Ct h;have G:∀ (i:Ag) (a:Af) (o:MO) (u:HO),α[i]? = Ab a->S[i]? = Ab o->o≠MO.dead->H a=Ab u->B a=Ab u:=λi a o u Y J k A =>
  N.sub a u (e a u (by rw[lN (r.sep i a o Y J k) (mem i a Y)];exact A))
 refine⟨λx L c T h=>let ⟨p,e,_,_,ok,y⟩:=N.tb x L c T h;let ⟨_,_,M,I,_,_⟩:=r.tb x L c T h;⟨p,e,M,I,ok,y⟩,(jF H P α).trans (e.trans N.sub),r.len,r.nd,r.sep,λi a o Y J=>?_,λi a Y=>?_⟩
 .have m:=r.at' i a o Y J
  cases o with
  |dead=>trivial
  |lst ds=>obtain⟨vs,q,t⟩:=m;exact⟨vs,G i a _ _ Y J (by intro z;cases z) q,t⟩
  |dct kvs=>obtain⟨vs,q,t⟩:=m;exact⟨vs,G i a _ _ Y J (by intro z;cases z) q,t⟩
  |dcT kvs=>obtain⟨vs,q,t⟩:=m;exact⟨vs,G i a _ _ Y J (by intro z;cases z) q,t⟩
  |ins C l=>obtain⟨j,vs,q,t⟩:=m;exact⟨j,vs,G i a _ _ Y J (by intro z;cases z) q,t⟩
 .have h:=r.own i a Y
  cases q:H a with
  |none=>exact absurd q h
  |some u =>
   have z:∃ U,vX H P α a=Ab U:=by
    cases E:P a with
    |none=>exact⟨u,by rw[lN E (mem i a Y)];exact q⟩
    |some U=>exact⟨U,jF H P α a U E⟩
   obtain⟨U,z⟩:=z;rw[N.sub a U (e a U z)];intro w;cases w
set_option tactic.hygienic true in
theorem qD.mapO {f:D->Am D}(h:∀ d t v,f d=Ab t->av K P α d v->av K J α t v):∀ {ds Y:Aa D} {vs:Aa V},_D.mapO f ds=Ab Y->qD K P α ds vs->qD K J α Y vs
 |[],Y,vs,e,r=>by cases e;rw[r.nil_inv];exact .nil
 |d::ds,Y,vs,e,r=>by
  obtain⟨w,B,rfl,O,N⟩:=r.cons_inv;unfold _D.mapO at e
  split at e
  .rename_i c C G U
   cases e;exact .cons (h d c w G O) (qD.mapO h U N)
  .cases e
theorem oJ (r:bi K H P α S):∀ (n:Ag) (d t:D) (v:V),xS n S d=Ab t->av K P α d v->av K (vX H P α) α t v:=by
 have Y:∀ (d:D) (v:V),av K P α d v->av K (vX H P α) α d v:=λd v=>av.mono (jF H P α) (Bg _) d v;intro n
 induction n with
 |zero =>
  intro d t v h p;cases d <;> first|(cases h;exact Y _ _ p)|exact nn h
 |succ n G =>
  intro d t v h p;cases d with
  |tup xs =>
   obtain⟨N,J,rfl⟩:=Fx.mp h;simp only[av] at p ⊢;obtain⟨a,vs,rfl,q,t⟩:=p;exact⟨a,vs,rfl,wB (jF H P α) q,qD.mapO (λd t v=>G d t v) J t⟩
  |lst xs =>
   obtain⟨N,J,rfl⟩:=Fx.mp h;simp only[av] at p ⊢;obtain⟨a,vs,rfl,q,t⟩:=p;exact⟨a,vs,rfl,xO (jF H P α) q,qD.mapO (λd t v=>G d t v) J t⟩
  |loc i =>
   have h:(match S[i]? with|some (.lst xs)=>(_D.mapO (xS n S) xs).map D.lst|_=>none)=Ab t:=h
   cases U:S[i]? with
   |none=>rw[U] at h;exact nn h
   |some m =>
    rw[U] at h;cases m with
    |lst xs =>
     obtain⟨N,J,rfl⟩:=Fx.mp h;simp only[av] at p ⊢;obtain⟨a,rfl,q⟩:=p;obtain⟨vs,z,t⟩:=r.at' i a _ q U;refine⟨a,vs,rfl,.inl (.inl ?_),qD.mapO (λd t v=>G d t v) J t⟩;rw[lN (r.sep i a _ q U (by intro z;cases z)) (Ct q)]
     exact z
    |_=>exact nn h
  |fd O ds=>exact nn h
  |clo a vs ds=>exact nn h
  |_=>cases h;exact Y _ _ p
theorem VI (h:QH d=true)(p:av K P α d v):av K J Y d v:=by
 cases d with
 |non=>simpa only [av] using p
 |bl b=>simpa only [av] using p
 |int i=>simpa only [av] using p
 |str x=>simpa only [av] using p
 |_=>cases h
end
def mR:Ag:=20
def ZD (r:az D)(S:ao):az D:=match r with
 |.ok d _=>if QH d then .ok d S else .bad
 |_=>.bad
theorem ZE {X:Cx}{H P:Hp}{α:ag}{S:ao}(J:bi X.K H P α S)(Y:qV X P α (ZD r S) Q):qV X (vX H P α) α r Q:=by
 cases r with
 |ok d C =>
  obtain⟨N,Y⟩:=vL (X:=X) Y;exact λv G E O U B T L=>Y v G P α (J.unfrz U B) (qE.refl _) (Bg _) (VI N L)
 |ex c x C=>exact Aq Y
 |bad=>exact Aq Y
section
variable {X:Cx}
def uU (g:G2):G2:=λa b S=>match xS mR S a,xS mR S b with
 |some x,Ab y=>ZD (g x y (uS S)) S
 |_,_=>.bad
set_option tactic.hygienic true in
theorem gj.look (h:gj X f g):gj X f (uU g):=by
 intro aj σ H s P α S v u U uu a b Q I r G N C B Y;unfold uU at Y
 split at Y
 .rename_i x y O J
  exact h aj σ H s _ α (uS S) v u U uu x y Q I r.frz G N (oJ r mR a x v O C) (oJ r mR b y u J B) (ZE r Y)
 .exact Aq Y
end
noncomputable def yI (t:DT)(f:DS):Ag->qB->ao->jd
 |0,_,_=>.bad
 |n+1,U,S=>(t U S).toS U λb G=>if b then (match f U G with
   |.nx Y J=>yI t f n Y J
   |.ct Y J=>yI t f n Y J
   |.bk Y J=>.nx Y J
   |o=>o) else .nx U G
theorem XD:∃ n:Ag,n=2 ^ 60:=⟨_,rfl⟩
def big:Ag:=Qq XD
theorem tM:big=2 ^ 60:=Ms XD
def vS (t:DT)(f:DS):DS:=λY S=>yI t f big Y S
section
variable {X:Cx}{aq:Ez}
inductive O_ (X:Cx)(P:Hp)(α : Aa Af)(t:DT)(f:DS)(D:Ends)(m:Ag)(σ : _L.St)(H:Hp):Prop
 |mk (P2:Hp) (α2:ag) (env2:qB) (S2:ao) (r:bi X.K H P2 α2 S2) (re:zI X.K P2 α2 σ env2) (e1:qE P P2) (e2:α<+:α2) (af:qY X P2 α2 (yI t f m env2 S2) D):O_ X P α t f D m σ H
theorem UE {t:DT}{f:DS}(hp:Rm (Av X.prog X.w) X.A X.env X.xe)(hc:PT X c (nh X t))(hb:jm X e (ji X f)):PS X (.While c e [] aq) (ji X (vS t f)):=
 xw (JU hp hc hb) λD σ H ⟨P,α,ak,S,r,re,af⟩=>by
  refine⟨O_ X P α t f D,⟨big,P,α,ak,S,r,re,qE.refl _,Bg _,af⟩,?_⟩;rintro m u H2 ⟨P2,p,Y,N,r2,C,a,n,z⟩;cases m with
  |zero=>exact Aq z
  |succ m =>
   have G:=xI z;refine⟨P2,p,Y,N,r2,C,?_⟩;cases q:t Y N with
   |bad=>rw[q] at G;exact G
   |ex c x S'=>rw[q] at G;exact G
   |ok b y =>
    rw[q] at G;intro h P3 O i j I;have J:qY X P3 O (if b then (match f Y y with|.nx Y N=>yI t f m Y N|.ct Y N=>yI t f m Y N|.bk Y N=>.nx Y N|o=>o) else .nx Y y) D:=qY.base j I G
    cases b with
    |false=>exact J u h P3 O i (C.mono j I) (qE.refl _) (Bg _)
    |true =>
     simp only[Ds] at J ⊢;refine⟨O_ X P α t f D m,λzb H' w=>⟨m,Ji _,w⟩,P3,O,Y,y,i,C.mono j I,?_⟩;cases E:f Y y with
     |bad=>rw[E] at J;exact J
     |ex c x U T=>rw[E] at J;exact J
     |rt d4 T=>rw[E] at J;exact J
     |bk U T=>rw[E] at J;exact J
     |nx U T =>
      rw[E] at J;exact λg H5 k L l B M A=>⟨k,L,U,T,l,B,(a.trans j).trans M,(n.trans I).trans A,qY.base M A J⟩
     |ct U T =>
      rw[E] at J;exact λg H5 k L l B M A=>⟨k,L,U,T,l,B,(a.trans j).trans M,(n.trans I).trans A,qY.base M A J⟩
end
section
variable {X:Cx}{a b c e:Cc}{aq:Ez}{fe:DE}
def qBn (X:Cx)(g:G2):yc:=λx y H Q=>∃ P α S a b,bi X.K H P α S/\av X.K P α a x/\av X.K P α b y/\qV X P α (g a b S) Q
def xq (X:Cx)(op:Px)(g:G2):Prop:=zr X op (qBn X g)
def wQ (i:Ag)(g:G2)(fe:DE):DS:=λY S=>match Y[i]? with
 |some (Ab x)=>(fe Y S).toS Y λy U=>(g x y U).toS Y λz J=>.nx (Y.set i (Ab z)) J
 |_=>.bad
set_option tactic.hygienic true in
theorem DC {i:Ag}{U:Ez}(l:X.N.Nodup)(n:PE X e (tD X fe))(ho:xq X op g)(hi:X.N[i]? = Ab x:=by rfl)(m:Loc X.env.scope x:=by first|exact AaN rfl|exact Zr rfl)
  (k:X.fn x=true\/X.env.scope.names.lookup x=Ab .local:=by first|exact .inl rfl|exact .inr rfl|assumption):PS X (.AugAssign (.Name x U) op e aq) (ji X (wQ i g fe)):=
 xw (EU l hi m n ho k) λD σ H ⟨P,α,j,S,r,N,G⟩=>by
  unfold wQ at G
  split at G
  .rename_i d h
   obtain⟨v,hv,p⟩:=N.2 i d h;refine⟨v,hv,P,α,j,S,r,N,?_⟩;have J:=xI G;cases q:fe j S with
   |bad=>rw[q] at J;exact J
   |ex c x S'=>rw[q] at J;exact J
   |ok y I =>
    rw[q] at J;intro u H1 o C r1 E O rp;refine⟨o,C,I,d,y,r1,av.mono E O _ _ p,rp,?_⟩;have Y:=xI (qY.base E O J);cases L:g d y I with
    |bad=>rw[L] at Y;exact Y
    |ex c x S'=>rw[L] at Y;exact Y
    |ok z S2 =>
     rw[L] at Y;exact λw H2 P2 T t M A B=>Y _ H2 P2 T t (((N.mono E O).mono M A).set i B) M A
  .exact Aq G
def uT:G2:=i2 (λ_ _=>true) λi j=>.int (i+j)
theorem F5:xq X .Add uT:=by
 intro aj s σ H x y v u Q I J U h;obtain⟨P,α,S,a,b,r,G,N,Y⟩:=h;obtain⟨i,j,rfl,rfl,_,ok⟩:=f6 Y;exact SI aj s σ H x y v u Q I J U ⟨i,j,zS G,zS N,xr ok r (by simp only[av])⟩
theorem F8:xq X .Sub zU:=by
 intro aj s σ H x y v u Q I J U h;obtain⟨P,α,S,a,b,r,G,N,Y⟩:=h;obtain⟨i,j,rfl,rfl,_,ok⟩:=f6 Y;exact SJ aj s σ H x y v u Q I J U ⟨i,j,zS G,zS N,xr ok r (by simp only[av])⟩
def c6:G2:=i2 VO λi j=>.int (i*2 ^ j.toNat)
theorem E4:gj X (El .LShift) c6:=gA EF (λi j h=>(Bz h:0<=j/\j<=1000000/\i.natAbs<2 ^ 64)) λP α i j=>by simp only[av]
def wA (xs:Aa D)(lo hi:Am Ah):Aa D:=(xs.drop (_H.cz xs.length 0 lo)).take (_H.cz xs.length xs.length hi-_H.cz xs.length 0 lo)
abbrev DO:=qB->ao->az (Am Ah)
def _B (X:Cx)(P:Hp)(α : Aa Af)(Q:Am Ah->Hp->Prop)(o:Am Ah)(G:ao):Prop:=∀ J U Y,bi X.K J U Y G->qE P U->α<+:Y->Q o J
def xt (X:Cx)(f:DO):TO:=λσ H Q=>∃ P α Y S,bi X.K H P α S/\zI X.K P α σ Y/\qI X P α (f Y S) (_B X P α Q)
def wV:DO:=λ_ S=>.ok none S
def xP (f:DE):DO:=λY S=>(f Y S).bind λd J=>match d with
 |.int i=>.ok (Ab i) J
 |_=>.bad
theorem BJ:PO X none (xt X wV):=λaj s σ H Q I ⟨P,α,J,S,r,U,Y⟩=>MK aj s σ H Q I (Y H P α r (qE.refl _) (Bg _))
theorem BK (T:PE X e (tD X fe)):PO X (Ab e) (xt X (xP fe)):=by
 intro aj s σ H Q I h;obtain⟨P,α,J,S,r,O,N⟩:=h;refine MM (te:=tD X fe) T aj s σ H Q I ⟨P,α,J,S,r,O,?_⟩;have Y:qI X P α ((fe J S).bind λd G=>match d with|.int i=>.ok (Ab i) G|_=>.bad) (_B X P α Q):=N
 cases q:fe J S with
 |bad=>rw[q] at Y;exact Y
 |ex c x w=>rw[q] at Y;exact Y
 |ok d G =>
  rw[q] at Y;intro v C B U M E L A;cases d with
  |int i=>exact⟨i,zS A,Y C B U M E L⟩
  |_=>exact Aq Y
theorem qD.cut {K:Aj}{P:Hp}{α:ag}(r:qD K P α ds vs)(lo hi:Am Ah):qD K P α (wA ds lo hi) (pW vs lo hi):=by
 unfold wA pW;rw[r.length];exact(r.drop _).take _
def v_ (d:D)(lo hi:Am Ah)(S:ao):az D:=match d with
 |.lst xs=>.ok (.lst (wA xs lo hi)) S
 |.loc i=>match S[i]? with
  |some (.lst xs)=>.ok (.lst (wA xs lo hi)) S
  |_=>.bad
 |.tup xs=>.ok (.tup (wA xs lo hi)) S
 |_=>.bad
def lr (fe:DE)(N J:DO):DE:=λY S=>(fe Y S).bind λd C=>(N Y C).bind λlo O=>(J Y O).bind λU G=>v_ d lo U G
end
end _D
namespace _D
open _L _H
section
variable {prog:Bh}{w:Ce}{A:Bw}{E:ae}{s:Ai}
theorem pQ {t sl:Af}{lo hi:Am Ah}{Q:ae}(Y:Vh s.heap t items)(hs:s.heap.IsSliceOf sl N O .none)(pl:Th N lo)(C:Th O hi)
  (hw:cz items.size 0 lo=0/\cz items.size items.size hi=items.size) (h:Q (.ref t) s):Ar (Av prog w) A (Pb (.ref t) (.ref sl)) Q E s:=by
 obtain⟨B,G,J,_⟩:=id hs;have U:s.TypeIs (.ref sl) "slice":=⟨B,G,J⟩;unfold Pb
 try with_reducible refine EQ ?_
 first|refine Ad (An ?_)|skip
 refine Ad (wpAny_sequenceKey Y.typeIs bb ?_)
 refine Ad (Em (name:=Ix "__getitem__") Y.typeIs Fj
  (Ef Fj Y.typeIs Yx ?_ (Zx _ _)))
 show Ar _ _ (Tj (.ref t) >>= _) _ _ s;refine Ad (tupleItemsOf_ Y ?_);refine Ad (Nc U ?_);rw[Be bb]
 refine Ad (jP hs pl C ?_);show Ar _ _ (if (((cz items.size 0 lo:Ag):Ah) == 0&&(1:Ah) == 1&&(cz items.size items.size hi-cz items.size 0 lo) == items.size)=true then _ else _) _ _ s
 rw[hw.1,hw.2,Be ba]
 unfold Builtin.Tuple.tupleIsExact;refine Ad (Ad (Nc Y.typeIs (An ?_)));rw[Be bb]
 exact Ad (He (An ⟨_,rfl,An h⟩))
end
section
variable {X:Cx}{e:Cc}{fe:DE}{aq p2:Ez}
def qBh (X:Cx):V->Am Ah->Am Ah->Hp->VK->Prop:=λx lo Y H Q=>∃ P α S d,bi X.K H P α S/\av X.K P α d x/\qV X P α (v_ d lo Y S) Q
theorem qBk:wg X (qBh X):=by
 intro M s σ H x v E A lo J sl Q I L C pl B h;obtain⟨P,α,S,d,r,p,U⟩:=h;cases d with
 |lst G =>
  simp only[av] at p;obtain⟨a,Y,rfl,q,t⟩:=p;exact oP M s σ H _ v E A lo J sl Q I L C pl B ⟨a,Y,rfl,(xO r.sub q).l,λb O=>xU r O (qD.cut t lo J) U⟩
 |loc i =>
  obtain⟨G,y,U⟩:=jN (X:=X) (f:=λG=>az.ok (D.lst (wA G lo J)) S) U;simp only[av] at p;obtain⟨a,rfl,q⟩:=p;obtain⟨Y,z,t⟩:=r.at' i a _ q y;exact oP M s σ H _ v E A lo J sl Q I L C pl B ⟨a,Y,rfl,kf.of z,λb O=>xU r O (qD.cut t lo J) U⟩
 |tup G =>
  have u:=p;simp only[av] at p;obtain⟨a,Y,rfl,q,t⟩:=p;by_cases T:cz Y.length 0 lo=0/\cz Y.length Y.length J=Y.length
  .cases L
   obtain⟨k,j,w,o⟩:=I.tuple (w4 r.sub q);have N:k.toArray.size=Y.length:=by rw[Bm];exact j.length.symm
   refine⟨"tuple",_,Fj.lookup,w.typeIs,pQ w C pl B (by rw[N];exact T) ⟨.ref a,H,I,rfl,xr U r ?_⟩⟩
   have e:wA G lo J=G:=by
    unfold wA;rw[t.length,T.1,T.2,<- t.length];simp
   rw[e];exact u
  .exact CG M s σ H _ v E A lo J sl Q I L C pl B ⟨a,Y,rfl,w4 r.sub q,T,λb O=>gY r O (qD.cut t lo J) U⟩
 |_=>exact Aq U
theorem U7 {lo hi:Am Cc}(n:PE X e (tD X fe))(hl:PO X lo (xt X E))(a:PO X hi (xt X L)):PE X (.Subscript e (.Slice lo hi none p2) aq) (tD X (lr fe E L)):=
 q_ (JP qBk n hl a) λσ H Q ⟨P,α,G,S,r,z,b⟩=>by
  refine⟨P,α,G,S,r,z,?_⟩;have U:qI X P α ((fe G S).bind λd T=>(E G T).bind λlo C=>(L G C).bind λhi B=>v_ d lo hi B) (jn X P α Q):=b;cases q:fe G S with
  |bad=>rw[q] at U;exact U
  |ex c x f=>rw[q] at U;exact U
  |ok d T =>
   rw[q] at U;intro v H1 j N s p I i;refine⟨j,N,G,T,s,z.mono p I,?_⟩;have J:qI X j N ((E G T).bind λlo C=>(L G C).bind λhi B=>v_ d lo hi B) (jn X j N Q):=qV.base p I U;cases o:E G T with
   |bad=>rw[o] at J;exact J
   |ex c x f=>rw[o] at J;exact J
   |ok l C =>
    rw[o] at J;intro H2 w O h y A;refine⟨w,O,G,C,h,(z.mono p I).mono y A,?_⟩;have Y:qI X w O ((L G C).bind λhi B=>v_ d l hi B) (jn X w O Q):=qV.base y A J;cases k:L G C with
    |bad=>rw[k] at Y;exact Y
    |ex c x f=>rw[k] at Y;exact Y
    |ok u B =>
     rw[k] at Y;intro H3 P3 M m g t;exact⟨P3,M,B,d,m,av.mono (y.trans g) (A.trans t) _ _ i,qV.base g t Y⟩
end
end _D
namespace _D
open _L
variable {α:ag}{N:Aa Aw}{ds ul:Aa D}{cw:Aa Fz}{vs:Aa V}{Q:ae}{m:Ag}{Qa Qd:Ai->Prop}{o':Am (Ag × MO)}{tp:As}{xs ys:Ay Ac}{h':By}{id:Ep}{py:Ez}{S SF:ao}{ak fx:qB}
def zY (tp:As)(h:By)(it l:Af)(k:Ag):Prop:=if tp then h.IsTupleIter it l k else h.IsListIter it l k
def wF (tp:As)(h:By)(l:Af)(xs:Ay Ac):Prop:=if tp then h.IsTuple l xs else h.IsList l xs
theorem zY.keep {it l:Af}{k:Ag}(x:zY tp h it l k)(q:∀ o,h.get? it=Ab o->h'.get? it=Ab o):zY tp h' it l k:=by
 cases tp <;> (obtain⟨o,e,r⟩:=x;exact⟨o,q o e,r⟩)
theorem wF.keep {l:Af}(x:wF tp h l xs)(q:∀ o,h.get? l=Ab o->h'.get? l=Ab o):wF tp h' l xs:=by
 cases tp <;> (obtain⟨o,e,r⟩:=x;exact⟨o,q o e,r⟩)
theorem zY.there {it l:Af}{k:Ag}(x:zY tp h it l k):∃ o,h.get? it=Ab o/\∀ v,o.data≠.cell v:=by
 cases tp <;> (obtain⟨o,e,_,d⟩:=x;exact⟨o,e,λv z=>by rw[d] at z;cases z⟩)
section
variable {prog:Bh}{w:Ce}{A:Bw}{E:ae}{s:Ai}
theorem JG {it t:Af}(Y:s.heap.IsTupleIter it t i)(C:s.heap.IsTuple t items)(O:items[i]? = Ab x)
  (J:∀ h',h'.IsTupleIter it t (i+1)->Gg it s.heap h'->Q x { s with heap:=h' }) : Ar (Av prog w) A (Eg (.ref it)) Q E s:=by
 obtain⟨o,e,c,d⟩:=id Y;obtain⟨u,G,_,m,U⟩:=C;unfold Eg;refine Ad (Em (name:=Ix "__next__") Y.typeIs Jt (Ef Jt Y.typeIs Sn ?_ (Sg _)));show Ar _ _ (field (.ref it) 0 >>= _) _ _ s;refine Ad (Gc e d (x:=.ref t) rfl ?_);show Ar _ _ (if (De t == Dg)=true then _ else _) _ _ s;rw[Bc (show ¬ ((De t == Dg)=true) from Gk)]
 show Ar _ _ (field (.ref it) 1 >>= _) _ _ s;refine Ad (Gc e d (x:=.int i 0) rfl ?_);show Ar _ _ (seqItems? (.ref t) >>= _) _ _ s;refine Ad (Gx G U ?_);simp only[Fa,O];refine Ad (Ku e d ba (An ⟨x,rfl,An (J _ ⟨_,Ev _ e (WP (Ov d _)),(AaA ..).trans c,?_⟩ (Fl ..))⟩))
 rw[Ov d];simp[Oc]
theorem cJ {it t:Af}{Q:ae}(J:A.handled=none)(Y:s.heap.IsTupleIter it t i)(B:s.heap.IsTuple t items)(C:items[i]? = none)
  (U:∀ h' e,AaQ it s.heap h'->(∃ o,h'.get? e=Ab o/\o.cls=.type "StopIteration")->E (.ref e) { s with heap:=h' }) : Ar (Av prog w) A (Eg (.ref it)) Q E s:=by
 obtain⟨o,e,c,d⟩:=id Y;obtain⟨u,O,_,m,G⟩:=B;unfold Eg;refine Ad (Em (name:=Ix "__next__") Y.typeIs Jt (Ef Jt Y.typeIs Sn ?_ (Sg _)));show Ar _ _ (field (.ref it) 0 >>= _) _ _ s;refine Ad (Gc e d (x:=.ref t) rfl ?_);show Ar _ _ (if (De t == Dg)=true then _ else _) _ _ s;rw[Bc (show ¬ ((De t == Dg)=true) from Gk)]
 show Ar _ _ (field (.ref it) 1 >>= _) _ _ s;refine Ad (Gc e d (x:=.int i 0) rfl ?_);show Ar _ _ (seqItems? (.ref t) >>= _) _ _ s;refine Ad (Gx O G ?_);simp only[Fa,C];refine Ad (He (Ad (Ku e d ba ?_)))
 show Ar _ _ (AaR (.type "StopIteration") [] >>= _) _ _ _;refine Ad ?_;simp only[AaR,newTuple];refine Ad (Dw ?_ (by size_fits))
 refine Ad (m:=Na _ _) (Xa (a:=Dg) (by first|rfl|(simp only[Na];rfl)) (Dw ?_ (by size_fits)))
 simp only[AbF];refine Ad (Ze ?_)
 first|rw[show A.in1.handled=none from J]|rw[J]
 exact Ad (An (AaS (U _ _ (((Fl ..).extBut.push _).push _) ⟨_,Bi _ rfl,rfl⟩)))
theorem t6 {it l:Af}{k:Ag}(Y:zY tp s.heap it l k)(G:wF tp s.heap l xs)(U:xs[k]? = Ab x)
  (J:∀ h',zY tp h' it l (k+1)->Gg it s.heap h'->Q x { s with heap:=h' }) : Ar (Av prog w) A (Eg (.ref it)) Q E s:=by
 cases tp with
 |false=>exact wpAny_nextOf_list_item Y G U J
 |true=>exact JG Y G U J
theorem bF {it l:Af}{k:Ag}{Q:ae}(J:A.handled=none)(Y:zY tp s.heap it l k)(G:wF tp s.heap l xs)(U:xs[k]? = none)
  (O:∀ h' e,AaQ it s.heap h'->(∃ o,h'.get? e=Ab o/\o.cls=.type "StopIteration")->E (.ref e) { s with heap:=h' }) : Ar (Av prog w) A (Eg (.ref it)) Q E s:=by
 cases tp with
 |false=>exact wpAny_nextOf_list_end J Y G U O
 |true=>exact cJ J Y G U O
structure ZA (z I O i j:Af):Prop where
 Iz:I≠z
 Oz:O≠z
 iz:i≠z
 jz:j≠z
 IO:I≠O
 Ii:I≠i
 Ij:I≠j
 Oi:O≠i
 Oj:O≠j
 ij:i≠j
structure Off (z O i j a:Af):Prop where
 z:a≠z
 O:a≠O
 i:a≠i
 j:a≠j
abbrev VD (z O i j:Af)(h h':By):Prop:=∀ c o,c≠z->c≠O->c≠i->c≠j->h.get? c=Ab o->h'.get? c=Ab o
theorem KZ {u:As}{z I O i j a b:Af}{k:Ag}{x y p q:Ac}(D:ZA z I O i j)(Da:Off z O i j a)(Db:Off z O i j b)
  (hz:So s.heap z I O .none) (hI:Ln s.heap I (.ref i) (.ref j)) (hO:Ln s.heap O p q) (h1:zY tp s.heap i a k) (h2:zY u s.heap j b k) (ha:wF tp s.heap a xs) (hb:wF u s.heap b ys) (hx:xs[k]? = Ab x) (hy:ys[k]? = Ab y)
  (hQ:∀ h',So h' z I O (Oc s.heap.objs.size)->Ln h' O x y->zY tp h' i a (k+1)->zY u h' j b (k+1)->Ln h' s.heap.objs.size x y->h'.objs.size=s.heap.objs.size+1->VD z O i j s.heap h'->Q (.ref s.heap.objs.size) { s with heap:=h' }) :
  Ar (Av prog w) A (Il.«zip.__next__» ⟨[.ref z],[]⟩) (λfin s'=>∃ v,fin=.done (.ret v)/\Q v s') E s:=by
 show Ar _ _ (field (.ref z) 2 >>= _) _ _ _;refine Ad (Gc hz rfl (x:=.bool false) rfl ?_);show Ar _ _ (field (.ref z) 3 >>= _) _ _ _;refine Ad (Gc hz rfl (x:=.ref I) rfl (Ad (Gx hI rfl ?_)));show Ar _ _ (Ha (.ref z) >>= _) _ _ _;refine Ad ?_;unfold Ha;refine Ad (Gc hz rfl (x:=.none) rfl (An ?_));simp only[Ds];refine Ad (He (Ad (Gc hz rfl (x:=.ref O) rfl (Ad (Jq hz ba λg1 d U=>?_)))))
 replace d:So g1 z I O .ellipsis:=d
 refine Ad ?_;simp only[Va,AbG,Oe,Pk];refine Ad (Ad (TW ?_));show Ar _ _ (Eg (.ref i) >>= _) _ _ _;refine Ad (t6 (h1.keep λo e=>U.extBut _ _ D.iz e) (ha.keep λo e=>U.extBut _ _ Da.z e) hx λg2 i2 G=>An ?_);have O2:Ln g2 O p q:=G.extBut _ _ D.Oi (U.extBut _ _ D.Oz hO);refine Ad (Gx O2 rfl (Ad (Rh O2 λg3 t C=>Ad (AaT (An ?_)))))
 replace t:Ln g3 O x q:=t
 refine Ad (Ad (TW ?_));show Ar _ _ (Eg (.ref j) >>= _) _ _ _;refine Ad (t6 (h2.keep λo e=>C.extBut _ _ D.Oj.symm (G.extBut _ _ D.ij.symm (U.extBut _ _ D.jz e))) (hb.keep λo e=>C.extBut _ _ Db.O (G.extBut _ _ Db.i (U.extBut _ _ Db.z e))) hy λg4 j4 T=>An ?_);have O4:Ln g4 O x q:=T.extBut _ _ D.Oj t;refine Ad (Gx O4 rfl (Ad (Rh O4 λY l B=>Ad (AaT (An (An ?_))))))
 replace l:Ln Y O x y:=l
 refine Ad (Gx l rfl (Ad (wpAny_newTuple ?_)));have sz:Y.objs.size=s.heap.objs.size:=by rw[B.1,T.1,C.1,G.1,U.1]
 have z5:So Y z I O .ellipsis:=B.extBut _ _ D.Oz.symm (T.extBut _ _ D.jz.symm (C.extBut _ _ D.Oz.symm (G.extBut _ _ D.iz.symm d)));have k5:VD z O i j s.heap Y:=λc o J M h c4 e=>B.extBut _ _ M (T.extBut _ _ c4 (C.extBut _ _ M (G.extBut _ _ h (U.extBut _ _ J e))));have i5:zY tp Y i a (k+1):=i2.keep λo e=>B.extBut _ _ D.Oi.symm (T.extBut _ _ D.ij (C.extBut _ _ D.Oi.symm e));have j5:zY u Y j b (k+1):=j4.keep λo e=>B.extBut _ _ D.Oj.symm e;have zl:z<Y.objs.size:=Bf z5;show Ar _ _ (Of (.ref z) (.ref Y.objs.size) >>= _) _ _ _;refine Ad ?_;unfold Of;have z6:So (Y.push { cls:=.type "tuple",data:=.seq #[x,y] }) z I O .ellipsis:=Ak _ z5;refine Ad (Jq z6 ba λg7 n f=>?_)
 replace n:So g7 z I O (Oc Y.objs.size):=n
 refine Jq n ba λL g r=>?_
 replace g:So L z I O (Oc Y.objs.size):=g
 have up:∀ c o,c≠z->Y.get? c=Ab o->L.get? c=Ab o:=λc o J e=>r.extBut _ _ J (f.extBut _ _ J (Ak _ e));have T8:Ln L Y.objs.size x y:=r.extBut _ _ (Jy zl) (f.extBut _ _ (Jy zl) (Bi _ rfl));have H:L.objs.size=Y.objs.size+1:=by rw[r.1,f.1,Fg]
 rw[sz] at g T8 H;refine An ⟨_,rfl,?_⟩;show Q (.ref Y.objs.size) _;rw[sz];exact hQ L g (up _ _ D.Oz l) (i5.keep λo e=>up _ o D.iz e) (j5.keep λo e=>up _ o D.jz e) T8 H λc o J M h c4 e=>up c o J (k5 c o J M h c4 e)
end
section
variable {prog:Bh}{w:Ce}{A:Bw}{E:ae}{s:Ai}
theorem G6 {tq:As}{z I O i j a b:Af}{k:Ag}{p q:Ac}{Q:Fin->Ai->Prop}(hh:A.handled=none)(D:ZA z I O i j)(Da:Off z O i j a)(v:Off z O i j b)
  (hz:So s.heap z I O .none) (hI:Ln s.heap I (.ref i) (.ref j)) (hO:Ln s.heap O p q) (h1:zY tp s.heap i a k) (h2:zY tq s.heap j b k) (ha:wF tp s.heap a xs) (hb:wF tq s.heap b ys) (H:xs[k]? = none\/ys[k]? = none)
  (hE:∀ h' e,VD z O i j s.heap h'->(∃ o,h'.get? e=Ab o/\o.cls=.type "StopIteration")->E (.ref e) { s with heap:=h' }) : Ar (Av prog w) A (Il.«zip.__next__» ⟨[.ref z],[]⟩) Q E s:=by
 show Ar _ _ (field (.ref z) 2 >>= _) _ _ _;refine Ad (Gc hz rfl (x:=.bool false) rfl ?_);show Ar _ _ (field (.ref z) 3 >>= _) _ _ _;refine Ad (Gc hz rfl (x:=.ref I) rfl (Ad (Gx hI rfl ?_)));show Ar _ _ (Ha (.ref z) >>= _) _ _ _;refine Ad ?_;unfold Ha;refine Ad (Gc hz rfl (x:=.none) rfl (An ?_));simp only[Ds];refine Ad (He (Ad (Gc hz rfl (x:=.ref O) rfl (Ad (Jq hz ba λu M J=>?_)))))
 replace M:So u z I O .ellipsis:=M
 refine Ad ?_;simp only[Va,AbG,Oe,Pk];refine Ad (Ad (TW ?_));show Ar _ _ (Eg (.ref i) >>= _) _ _ _;have T:zY tp u i a k:=h1.keep λo e=>J.extBut _ _ D.iz e;have L:wF tp u a xs:=ha.keep λo e=>J.extBut _ _ Da.z e;cases r:xs[k]? with
 |none =>
  refine Ad (bF hh T L r λf e x2 d=>?_);obtain⟨t,U,G⟩:=d;have z2:So f z I O .ellipsis:=x2 _ _ D.iz.symm M;have l:e≠z:=λy=>by subst y;rw[z2] at U;cases U;simp at G
  exact Jq z2 ba λg3 _ Y=>hE g3 e (λc o B _ g _ y=>Y.extBut _ _ B (x2 _ _ g (J.extBut _ _ B y))) ⟨t,Y.extBut _ _ l U,G⟩
 |some x =>
  have hy:ys[k]? = none:=by
   rcases H with y|y
   .rw[r] at y;cases y
   .exact y
  refine Ad (t6 T L r λf i2 C=>An ?_);have O2:Ln f O p q:=C.extBut _ _ D.Oi (J.extBut _ _ D.Oz hO);refine Ad (Gx O2 rfl (Ad (Rh O2 λg3 O3 Y=>Ad (AaT (An ?_)))));refine Ad (Ad (TW ?_));show Ar _ _ (Eg (.ref j) >>= _) _ _ _;refine Ad (bF hh (h2.keep λo e=>Y.extBut _ _ D.Oj.symm (C.extBut _ _ D.ij.symm (J.extBut _ _ D.jz e))) (hb.keep λo e=>Y.extBut _ _ v.O (C.extBut _ _ v.i (J.extBut _ _ v.z e))) hy λg4 e h d=>?_);obtain⟨t,U,G⟩:=d;have z4:So g4 z I O .ellipsis:=h _ _ D.jz.symm (Y.extBut _ _ D.Oz.symm (C.extBut _ _ D.iz.symm M));have l:e≠z:=λy=>by subst y;rw[z4] at U;cases U;simp at G
  exact Jq z4 ba λg5 _ n=>hE g5 e (λc o B c2 g c4 y=>n.extBut _ _ B (h _ _ c4 (Y.extBut _ _ c2 (C.extBut _ _ g (J.extBut _ _ B y))))) ⟨t,n.extBut _ _ l U,G⟩
noncomputable abbrev n9 (tp:As)(l:Af):Dc:={ cls:=.type (if tp then "tuple_iterator" else "list_iterator"),data:=.fields #[.ref l,.int 0 0] }
abbrev yw (tp:As)(h:By)(a:Af):By:=h.push (n9 tp a)
abbrev yv (tp Y:As)(h:By)(a b:Af):By:=(yw tp h a).push (n9 Y b)
abbrev yu (tp Y:As)(h:By)(a b:Af):By:=(yv tp Y h a b).push { cls:=.type "tuple",data:=.seq #[.ref h.objs.size,.ref (yw tp h a).objs.size] }
abbrev yt (tp Y:As)(h:By)(a b:Af):By:=(yu tp Y h a b).push { cls:=.type "tuple",data:=.seq #[.none,.none] }
abbrev vn (tp Y:As)(h:By)(a b:Af):By:=(yt tp Y h a b).push { cls:=.type "zip",data:=.fields #[.none,.bool false,.bool false,.ref (yv tp Y h a b).objs.size,.ref (yu tp Y h a b).objs.size] }
set_option maxHeartbeats 4000000 in
theorem NP (tp:As)(a b:Af)(xs ys:Ay Ac) :
  Meets (Il.«zip.__new__» ⟨[.type "zip",.ref a,.ref b],[]⟩) (λ_ R s=>wF tp s.heap a xs/\wF tp s.heap b ys/\R (.ok (.ret (.ref (yt tp tp s.heap a b).objs.size))) { s with heap:=vn tp tp s.heap a b }):=
 .of_wp λprog w A R s h=>by
  obtain⟨Y,g,d,J,os⟩:=s;obtain⟨O,T,h⟩:=h;have B:=sub_zip;have C:∀ L:Dc,wF tp (Y.push L) b ys:=λL=>T.keep λo e=>Ak _ e;cases tp
  .have G:Heap.IsList (Xb ⟨Y,g,d,J,os⟩) a xs:=O
   have U:Heap.IsList (Xb ⟨Y.push { cls:=.type "list_iterator",data:=.fields #[.ref a,.int 0 0] },g,d,J,os⟩) b ys:=C _
   wp_walk using Ip G,Ip U
   exact⟨_,rfl,h⟩
  .have G:Heap.IsTuple (Xb ⟨Y,g,d,J,os⟩) a xs:=O
   have U:Heap.IsTuple (Xb ⟨Y.push { cls:=.type "tuple_iterator",data:=.fields #[.ref a,.int 0 0] },g,d,J,os⟩) b ys:=C _
   wp_walk using Jo G,Jo U
   exact⟨_,rfl,h⟩
theorem nE {h:By}{it l:Af}(e:h.get? it=Ab (n9 tp l)):zY tp h it l 0:=by
 cases tp
 .exact⟨_,e,rfl,rfl⟩
 .exact⟨_,e,rfl,rfl⟩
theorem VS {a b:Af}(H:wF tp s.heap a xs)(z:wF tp s.heap b ys)
  (h:∀ h',So h' (s.heap.objs.size+4) (s.heap.objs.size+2) (s.heap.objs.size+3) .none->Ln h' (s.heap.objs.size+2) (.ref s.heap.objs.size) (.ref (s.heap.objs.size+1)) ->
   Ln h' (s.heap.objs.size+3) .none .none->zY tp h' s.heap.objs.size a 0->zY tp h' (s.heap.objs.size+1) b 0->h'.objs.size=s.heap.objs.size+5->(∀ c o,s.heap.get? c=Ab o->h'.get? c=Ab o)->Q (.ref (s.heap.objs.size+4)) { s with heap:=h' }) :
  Ar (Av prog w) A (call (.type "zip") [.ref a,.ref b]) Q E s:=by
 refine callType_new F.called_zip bb (F.typeCall_zip_2 _ _) (F.newCall_zip_2 _ _) (λG=>F.args_object_init_3 G _ _) F.entry_zip_new (NP tp a b xs ys) ⟨H,z,?_⟩
 have U:(yw tp s.heap a).objs.size=s.heap.objs.size+1:=Fg ..;have C:(yv tp tp s.heap a b).objs.size=s.heap.objs.size+2:=by rw[Fg,U]
 have O:(yu tp tp s.heap a b).objs.size=s.heap.objs.size+3:=by rw[Fg,C]
 have J:(yt tp tp s.heap a b).objs.size=s.heap.objs.size+4:=by rw[Fg,O]
 have M:(vn tp tp s.heap a b).objs.size=s.heap.objs.size+5:=by rw[Fg,J]
 have Y:(vn tp tp s.heap a b).get? (yt tp tp s.heap a b).objs.size=Ab _:=Bi _ rfl;have L:(vn tp tp s.heap a b).get? (yu tp tp s.heap a b).objs.size=Ab _:=Ak _ (Bi _ rfl);have T:(vn tp tp s.heap a b).get? (yv tp tp s.heap a b).objs.size=Ab _:=Ak _ (Ak _ (Bi _ rfl));have B:(vn tp tp s.heap a b).get? (yw tp s.heap a).objs.size=Ab (n9 tp b):=Ak _ (Ak _ (Ak _ (Bi _ rfl)));have I:(vn tp tp s.heap a b).get? s.heap.objs.size=Ab (n9 tp a):=Ak _ (Ak _ (Ak _ (Ak _ (Bi _ rfl))));have j:∀ c o,s.heap.get? c=Ab o->(vn tp tp s.heap a b).get? c=Ab o:=λc o e=>Ak _ (Ak _ (Ak _ (Ak _ (Ak _ e))));show _/\_;rw[C,O,J] at Y;rw[U,C] at T;rw[O] at L;rw[U] at B;rw[J];exact⟨⟨_,Y,rfl⟩,h _ Y T L (nE I) (nE B) M j⟩
end
def Sq (tp:As)(K:Aj)(H:Hp)(a:Af)(xs:Aa V):Prop:=if tp then jl K H a xs else kf K H a xs
section
variable {X:Cx}{aj:aa}{σ: _L.St}{H:Hp}{s:Ai}
theorem Sq.at {a:Af}{xs:Aa V}(I:Inv X aj σ H s)(q:Sq tp X.K H a xs):∃ ap,qJ xs ap/\wF tp s.heap a ap.toArray:=by
 cases tp with
 |true =>
  obtain⟨ap,Y,p,_⟩:=I.tuple q;exact⟨ap,Y,p⟩
 |false =>
  obtain⟨ap,Y,p,_⟩:=I.list q;exact⟨ap,Y,p.isList⟩
theorem Sq.inj {a:Af}{xs ys:Aa V}(I:Inv X aj σ H s)(q:Sq tp X.K H a xs)(Y:Sq tp X.K H a ys):xs=ys:=by
 cases tp with
 |true=>exact I.tuple_inj q Y
 |false=>exact I.list_inj q Y
theorem Sq.off {a b:Af}{xs:Aa V}(I:Inv X aj σ H s)(q:Sq tp X.K H a xs)(f:xH X aj H b):a≠b:=by
 have Y:H a≠none\/∃ o,X.K.lookup a=Ab o:=by
  cases tp with
  |true =>
   rcases q with (q|⟨o,q⟩)|⟨o,_,_,q,_⟩
   .exact .inl (by rw[q];intro z;cases z)
   .exact .inl (by rw[q];intro z;cases z)
   .exact .inr ⟨_,q⟩
  |false =>
   rcases q with (q|⟨o,q⟩)|⟨o,_,_,q,_⟩
   .exact .inl (by rw[q];intro z;cases z)
   .exact .inl (by rw[q];intro z;cases z)
   .exact .inr ⟨_,q⟩
 rintro rfl;rcases Y with k|⟨o,k⟩
 .exact k f.1
 .have e:=I.mod.kin a o k
  rcases f.2.2.2.1 with z|z
  .exact I.ok.noex a o e z
  .exact absurd (Bf (I.ok.bs a o e).1) (Qb.mpr z)
theorem Inv.turnLay {fp:ag}{T:Af}{xs:Aa V}{ap:ah}(I:Inv X aj σ H s)(J:∀ b∈fp,xH X aj H b)(k:∀ b o,b ∉ fp->s.heap.get? b=Ab o->h'.get? b=Ab o)(w:∀ b∈fp,∃ o,h'.get? b=Ab o)
  (hT:s.heap.objs.size<=T) (C:qJ xs ap) (L:Vh h' T ap.toArray) (hz:xs.length<=sizeLine):Inv X aj σ (c_ H T (.tup xs)) { s with heap:=h' }:=by
 have U:H T=none:=I.hok.fresh hT;have A:∀ b o,s.heap.get? b=Ab o->b≠T:=λb o e=>Cu (Bk (Bf e) hT);refine I.step (g':=s.gens) (d':=s.drawn) (t':=s.toks) (ch:=fp) (λb Y=>⟨(J b Y).2.2.2.1,(J b Y).2.1,(J b Y).2.2.2.2.1,(J b Y).2.2.2.2.2⟩) (λb o _ _ hc e _=>k b o hc e) (λb o _ _ hc e _=>⟨o.slots,k b o hc e⟩)
  (λb o _ e n=>by rw[qR (A b o e)];exact n) (λb o hc e=>⟨o,k b o hc e⟩) (λb ys e=>by rw[qR (zG e U)];exact e) (λb o u e=>by rw[qR (zG e U)];exact e)
  (λb j e=>⟨#[],by rw[qR (zG e U),e];simp⟩) (λm M=>?_) (λb u e=>?_) I.bare
 .obtain⟨o,O,B,E,r⟩:=M
  exact⟨o,O,B,k _ o (λz=>(J _ z).2.1 rfl) E,r⟩
 .by_cases Y:b=T
  .subst Y
   rw[zE] at e;cases e;exact⟨hz,ap,C,L⟩
  .rw[qR Y] at e
   refine(I.hok b u e).stay (λc v hc q=>k c v (λz=>?_) q) (λc q=>by rw[qR (zG q U)];exact q) λc ys q=>by rw[qR (zG q U)];exact q
   have G:=(J c z).1;rcases hc with rfl|hc
   .rw[G] at e;cases e
   .rw[G] at hc;cases hc
theorem Inv.turnL {fp:ag}(I:Inv X aj σ H s)(Y:∀ b∈fp,xH X aj H b)(k:∀ b o,b ∉ fp->s.heap.get? b=Ab o->h'.get? b=Ab o):Inv X aj σ H { s with heap:=h' }:=by
 refine I.step (g':=s.gens) (d':=s.drawn) (t':=s.toks) (ch:=fp) (λb U=>⟨(Y b U).2.2.2.1,(Y b U).2.1,(Y b U).2.2.2.2.1,(Y b U).2.2.2.2.2⟩) (λb o _ _ hc e _=>k b o hc e) (λb o _ _ hc e _=>⟨o.slots,k b o hc e⟩)
  (λb o _ e n=>n) (λb o hc e=>⟨o,k b o hc e⟩) (λb ys e=>e) (λb o u e=>e) (λb L e=>⟨#[],by rw[e];simp⟩) (λm B=>?_) (λb u e=>?_) I.bare
 .obtain⟨o,G,O,C,r⟩:=B
  exact⟨o,G,O,k _ o (λz=>(Y _ z).2.1 rfl) C,r⟩
 .refine(I.hok b u e).stay (λc v hc q=>k c v (λz=>?_) q) (λc q=>q) λc ys q=>q
  have J:=(Y c z).1;rcases hc with rfl|hc
  .rw[J] at e;cases e
  .rw[J] at hc;cases hc
end
def _I (tp:As)(K:Aj)(a b:Af):It:=
  ⟨λi H=>∃ xs ys x y,Sq tp K H a xs/\Sq tp K H b ys/\xs[i]? = Ab x/\ys[i]? = Ab y,
   λi H v Y=>∃ T x y,v=.ref T/\H T=none/\Y=c_ H T (.tup [x,y])/\(∀ xs,Sq tp K H a xs->xs[i]? = Ab x)/\∀ ys,Sq tp K H b ys->ys[i]? = Ab y,
   λi H=>∃ xs ys,Sq tp K H a xs/\Sq tp K H b ys/\(xs.length<=i\/ys.length<=i)⟩
def QD (tp:As)(z I O i j a b:Af)(k:Ag)(h:By):Prop:=∃ p q,So h z I O .none/\Ln h I (.ref i) (.ref j)/\Ln h O p q/\zY tp h i a k/\zY tp h j b k
theorem bR {z I O i j a b:Af}{k:Ag}(st:QD tp z I O i j a b k h):∀ c∈[z,I,O,i,j],∃ o,h.get? c=Ab o/\∀ v,o.data≠.cell v:=λc Y=>by
 obtain⟨p,q,C,J,B,G,U⟩:=st;simp only[Az,En,Kc] at Y;rcases Y with rfl|rfl|rfl|rfl|rfl
 .exact⟨_,C,λv y=>by cases y⟩
 .exact⟨_,J,λv y=>by cases y⟩
 .exact⟨_,B,λv y=>by cases y⟩
 .exact G.there
 .exact U.there
theorem P9 {c z I O i j:Af}(h:c ∉ [z,I,O,i,j]):c≠z/\c≠O/\c≠i/\c≠j:=by
 simp only[Az,En,Kc,not_or] at h;exact⟨h.1,h.2.2.1,h.2.2.2.1,h.2.2.2.2⟩
theorem KS {P:Bh}{K:Aj}{z I O i j a b:Af}(D:ZA z I O i j):nk P w K (.Tuple pc x1 oy) (_I tp K a b) [z,I,O,i,j] z (QD tp z I O i j a b) where
 mem:=.head _
 obj:=λk h st=>bR st
 keep:=λk h h' st L=>by
  obtain⟨p,q,C,M,v,f,g⟩:=st;exact⟨p,q,L z (.head _) _ C,L I (.tail _ (.head _)) _ M,L O (.tail _ (.tail _ (.head _))) _ v,f.keep λo e=>L i (.tail _ (.tail _ (.tail _ (.head _)))) o e,g.keep λo e=>L j (.tail _ (.tail _ (.tail _ (.tail _ (.head _))))) o e⟩
 item:=by
  intro X hP hw hK Y k aj s σ H E J U st hg;subst hP hw hK;obtain⟨p,q,C,M,v,f,g⟩:=st;obtain⟨xs,ys,x,y,d,l,hx,hy⟩:=hg;obtain⟨ia,ra,ha⟩:=d.at J;obtain⟨ib,rb,hb⟩:=l.at J;obtain⟨u,hu,ru⟩:=ra.get hx;obtain⟨u',zh,zc⟩:=rb.get hy;have G:∀ {c:Af} {A:Aa V},Sq tp X.K H c A->Off z O i j c:=λ{c A} B=>⟨B.off J (U z (.head _)),B.off J (U O (.tail _ (.tail _ (.head _)))),B.off J (U i (.tail _ (.tail _ (.tail _ (.head _))))),B.off J (U j (.tail _ (.tail _ (.tail _ (.tail _ (.head _))))))⟩;have hT:s.TypeIs (.ref z) "zip":=⟨_,C,rfl⟩;unfold Nk;refine Ad (Ma (Em (name:=Ix "__next__") hT Rq (Ef Rq hT AaU
   (KZ D (G d) (G l) C M v f g ha hb (by simpa using hu) (by simpa using zh) λh' a1 a2 a3 a4 a5 a6 a7=>An ?_) (AaB _))))
  refine⟨_,rfl,wpAny_letOwnedTupleGo_zip (s:={ s with heap:=h' }) a1 λh2 b1 b2=>?_⟩
  have up:∀ c o,c≠z->h'.get? c=Ab o->h2.get? c=Ab o:=λc o n e=>(b2.2 c n).trans e;have zl:z<s.heap.objs.size:=Bf C;have T2:Ln h2 s.heap.objs.size u u':=up _ _ (Jy zl) a5;have t:QD tp z I O i j a b (k+1) h2:=⟨u,u',b1,up _ _ D.Iz (a7 I _ D.Iz D.IO D.Ii D.Ij M),up _ _ D.Oz a2,a3.keep λo e=>up _ o D.iz e,a4.keep λo e=>up _ o D.jz e⟩;refine⟨.ref s.heap.objs.size,c_ H s.heap.objs.size (.tup [x,y]),?_,rfl,⟨_,x,y,rfl,J.hok.fresh (Ax _),rfl,λA qz=>by rw[qz.inj J d];exact hx,λA qz=>by rw[qz.inj J l];exact hy⟩,t,λc Y=>?_⟩
  .show _L.Inv X aj σ (c_ H s.heap.objs.size (.tup [x,y])) { s with heap:=h2 }
   refine Inv.turnLay (fp:=[z,I,O,i,j]) (ap:=[u,u']) J U (λc o Y e=>?_) (λc Y=>?_) (Ax _) (.cons ru (.cons zc .nil)) ⟨_,T2,rfl,_,rfl⟩ (by show 2<=sizeLine;decide)
   .have Y:=P9 Y
    exact up c o Y.1 (a7 c o Y.1 Y.2.1 Y.2.2.1 Y.2.2.2 e)
   .obtain⟨o,e,_⟩:=bR t c Y
    exact⟨o,e⟩
  .have hn:=(U c Y).1
   rw[qR ?_]
   .exact hn
   .rintro rfl
    obtain⟨o,e,_⟩:=bR ⟨p,q,C,M,v,f,g⟩ _ Y;exact absurd (Bf e) (Ey _)
 done:=by
  intro X hP hw hK Y k aj s σ H E J U st hg;subst hP hw hK;obtain⟨p,q,C,M,v,f,g⟩:=st;obtain⟨xs,ys,d,l,r⟩:=hg;obtain⟨ia,ra,ha⟩:=d.at J;obtain⟨ib,rb,hb⟩:=l.at J;have G:∀ {c:Af} {A:Aa V},Sq tp X.K H c A->Off z O i j c:=λ{c A} B=>⟨B.off J (U z (.head _)),B.off J (U O (.tail _ (.tail _ (.head _)))),B.off J (U i (.tail _ (.tail _ (.tail _ (.head _))))),B.off J (U j (.tail _ (.tail _ (.tail _ (.tail _ (.head _))))))⟩;have hT:s.TypeIs (.ref z) "zip":=⟨_,C,rfl⟩;have l1:=ra.length;have l2:=rb.length;unfold Nk;refine Ad (Ma (Em (name:=Ix "__next__") hT Rq (Ef Rq hT AaU
   (G6 (J.ok.hd Y) D (G d) (G l) C M v f g ha hb ?_ λh' e L he=>?_) (AaB _))))
  .rcases r with y|y
   .exact .inl (by simp;lia)
   .exact .inr (by simp;lia)
  .obtain⟨o,ho,zb⟩:=he
   refine Ad (Qr (T:="StopIteration") (b:=true) ⟨o,ho,zb⟩ Xs (An ⟨rfl,Inv.turnL (fp:=[z,I,O,i,j]) J U λc o Y e=>?_⟩));have Y:=P9 Y;exact L c o Y.1 Y.2.1 Y.2.2.1 Y.2.2.2 e
 self:=λ_ _ _ _ _ st h=>by
  obtain⟨p,q,C,_⟩:=st;exact wpAny_pyIter_zip C h
noncomputable def u6 (xs ys:Aa D):Aa D:=List.zipWith (λx y=>D.tup [x,y]) xs ys
def AE (ds:Aa D):Am (Aa D):=match ds with
 |[.tup xs,.tup ys]=>Ab (u6 xs ys)
 |[.lst xs,.lst ys]=>Ab (u6 xs ys)
 |_=>none
def QR (f:DA):DI:=λak S=>(f ak S).bind λds Y=>uM (AE ds) Y
theorem KY {xs ys:Aa D}{i:Ag}:(u6 xs ys)[i]? = match xs[i]?,ys[i]? with|some x,Ab y=>Ab (D.tup [x,y])|_,_=>none:=by
 unfold u6;rw[List.getElem?_zipWith];cases xs[i]? <;> cases ys[i]? <;> rfl
theorem tK (xs ys:Aa D):(u6 xs ys).length=min xs.length ys.length:=by simp[u6]
section
variable {K:Aj}
theorem Sq.mono {P Y:Hp}(e:qE P Y){a:Af}{xs:Aa V}(q:Sq tp K P a xs):Sq tp K Y a xs:=by
 cases tp with
 |true=>exact wB e q
 |false=>exact e.seq q
theorem FG {P:Hp}{a b:Af}{xs ys:Aa D}(E:Sq tp K P a vs)(C:Sq tp K P b Y)(B:qD K P α xs vs)(I:qD K P α ys Y):w_ K (_I tp K a b) P α (u6 xs ys) where
 go:=λi H A U S J r e _=>by
  rw[tK] at J;have O:i<vs.length:=by rw[<- B.length];lia
  have G:i<Y.length:=by rw[<- I.length];lia
  exact⟨vs,Y,vs[i],Y[i],E.mono (e.trans r.sub),C.mono (e.trans r.sub),by simp,by simp⟩
 yld:=λi H x h A U S J r e M y=>by
  obtain⟨T,u,w,rfl,d,rfl,q,c⟩:=y;rw[tK] at J;have O:i<xs.length:=by lia
  have G:i<ys.length:=by lia
  obtain⟨f,k,g⟩:=B.get (Ap O);obtain⟨s,p,l⟩:=I.get (Ap G);have j:=q vs (E.mono (e.trans r.sub));have z:=c Y (C.mono (e.trans r.sub));rw[k] at j;cases j;rw[p] at z;cases z;obtain⟨v,L⟩:=r.pure (o:=.tup [u,w]) d;refine⟨_,.tup [xs[i],ys[i]],?_,v,L,?_⟩
  .rw[KY,Ap O,Ap G]
  .exact oI (.of zE) (.cons (av.mono (e.trans L) M _ _ g) (.cons (av.mono (e.trans L) M _ _ l) .nil))
 stop:=λi H A U S J r e _=>by
  rw[tK] at J;have n:=B.length;have t:=I.length;exact⟨vs,Y,E.mono (e.trans r.sub),C.mono (e.trans r.sub),by lia⟩
end
section
variable {X:Cx}{e1 e2:Cc}{pc:Aa Cc}{x1:Ag}{oy:Ez}{f:DA}{p aq:Ez}
theorem VC {σ:_L.St}{H P:Hp}{a b:Af}{xs ys:Aa D}{R:It->Hp->Prop}(I:Inv X aj σ H s)(r:bi X.K H P α S)(G:Sq tp X.K P a vs)(J:Sq tp X.K P b O)(E:qD X.K P α xs vs)(y:qD X.K P α ys O)
  (q:xo X P α R (u6 xs ys) S):b6 X (call (.type "zip") [.ref a,.ref b]) (λv A=>b6 X (Rz v) (xn X aj σ (.Tuple pc x1 oy) R) X.xe A) X.xe s:=by
 obtain⟨o,g,j⟩:=(G.mono r.sub).at I;obtain⟨u,d,k⟩:=(J.mono r.sub).at I;refine VS j k λh' Y L B M w l T=>?_;refine wpAny_pyIter_zip (s:={ s with heap:=h' }) Y ?_
 have D:ZA (s.heap.objs.size+4) (s.heap.objs.size+2) (s.heap.objs.size+3) s.heap.objs.size (s.heap.objs.size+1):=by constructor <;> (intro z;simp at z)
 refine⟨_,[s.heap.objs.size+4,s.heap.objs.size+2,s.heap.objs.size+3,s.heap.objs.size,s.heap.objs.size+1],_,_,H,rfl,I.kept (t':=s.toks) T,KS (a:=a) (b:=b) D,⟨_,_,Y,L,B,M,w⟩,λc C=>?_,q _ _ P α r (qE.refl _) (Bg _) (FG G J E y)⟩;have U:s.heap.objs.size<=c:=by
  simp only[Az,En,Kc] at C;rcases C with rfl|rfl|rfl|rfl|rfl <;> simp
 exact I.fpOk U (I.hok.fresh U)
inductive N_ (ds:Aa D)(its:Aa D):Prop
 |tup (xs ys:Aa D) (ed:ds=[.tup xs,.tup ys]) (e:its=u6 xs ys)
 |lst (xs ys:Aa D) (ed:ds=[.lst xs,.lst ys]) (e:its=u6 xs ys)
theorem NO (h:AE ds=Ab ap):N_ ds ap:=by
 cases ds with
 |nil=>exact nn h
 |cons a ds =>
  cases a with
  |tup xs =>
   cases ds with
   |nil=>exact nn h
   |cons b ds =>
    cases b with
    |tup ys =>
     cases ds with
     |nil=>exact .tup xs ys rfl (Dm h).symm
     |cons _ _=>exact nn h
    |_=>exact nn h
  |lst xs =>
   cases ds with
   |nil=>exact nn h
   |cons b ds =>
    cases b with
    |lst ys =>
     cases ds with
     |nil=>exact .lst xs ys rfl (Dm h).symm
     |cons _ _=>exact nn h
    |_=>exact nn h
  |_=>exact nn h
theorem D8 (n:Gl X "zip")(hm:X.mg "zip" = none)(i:PA X [e1,e2] (mz X f))(hs:Bu [e1,e2] X.env=(false,eval e1 X.env)::Bu [e2] X.env:=by rfl)(B:(Hc aq (Bu [e2] X.env)).any (·.1)=false:=by rfl) :
  PI X (.Tuple pc x1 oy) (.Call (.Name "zip" p) [e1,e2] [] aq) (wn X (QR f)):=by
 intro aj s σ H R I h;obtain⟨P,α,ak,S,r,d,g⟩:=h;refine Call_ (yT I n hm boot_zip (Gd (bn (vH i I r d g aq) λus s1 ⟨vs,H1,P1,l,ds,S1,y,j,z,k,M,e1,e2,L⟩=>?_) hs B));obtain⟨ap,c,q⟩:=j3 L;cases NO c with
 |tup xs ys G e =>
  subst G e;obtain⟨v,w,u,x,rfl,rfl,J,Y,U,A⟩:=nW M j;simp only[av] at J Y;obtain⟨a,o,rfl,O,E⟩:=J;obtain⟨b,t,rfl,T,C⟩:=Y;cases (show u=De a from U)
  cases (show x=De b from A)
  exact VC (tp:=true) y z O T E C (q.base e1 e2)
 |lst xs ys G e =>
  subst G e;obtain⟨v,w,u,x,rfl,rfl,J,Y,U,A⟩:=nW M j;simp only[av] at J Y;obtain⟨a,o,rfl,O,E⟩:=J;obtain⟨b,t,rfl,T,C⟩:=Y;cases (show u=De a from U)
  cases (show x=De b from A)
  exact VC (tp:=false) y z O.l T.l E C (q.base e1 e2)
end
def wf (K:Aj)(J:ai)(x:Aw)(st:Fz)(U:Aa Aw):Prop:=∃ f Y,J x=Ab (.ref f)/\vj K x x st f Y/\uR K Y U []
def Lk (K:Aj)(f:Af)(fd:Fw):Prop:=∃ J U Y,K.lookup f=Ab ⟨J,U,.func fd,Y⟩
theorem nG {K:Aj}{st:Fz}(F:vj K x q st f fd):Lk K f fd:=by
 obtain⟨G,O,kV,J,L,C,U,B,Y,_,lk,_⟩:=F.ex;exact⟨G,O,Y,lk⟩
theorem Lk.one {K:Aj}(h:Lk K f fd)(h':Lk K f Y):fd=Y:=by
 obtain⟨B,L,C,e⟩:=h;obtain⟨G,O,J,U⟩:=h';rw[e] at U;cases U;rfl
def tw (P:Bh)(w:Ce)(K:Aj)(U:ai)(base:By)(cm:As)(k:Ag)(x:Aw)(n:Ag)(F:DF):Prop:=
 ∃ f Y J,J.length=n/\U x=Ab (.ref f)/\Gw K (.ref f)=true/\uR K Y J [] /\ Lk K f Y/\ph P w K U base cm k f Y J (vq K n F)
def rZ (P:Bh)(w:Ce)(K:Aj)(U:ai)(base:By)(cm:As)(k:Ag)(x:Aw)(J:Aa Aw)(F:DF):Prop:=
 ∃ f Y,U x=Ab (.ref f)/\Gw K (.ref f)=true/\uR K Y J [] /\ Lk K f Y/\ph P w K U base cm k f Y J (vq K J.length F)
section
variable {P:Bh}{w:Ce}{K:Aj}{mg:ai}{base:By}{cm:As}
theorem GF {Y:Ac}(hm:mg x=Ab (.ref f))(lk:Lk K f fd)(h:fd.code=Y/\Mod K mg base):mF K x Y:=λc T e=>by
 obtain⟨U,G,J,lk⟩:=lk;rw[<- h.1];exact PySem.W.law_code h.2.kin h.2.glob e hm (h.2.kin _ _ lk) rfl
theorem D4 {st:Fz}{k:Ag}{g:DS}(h:wf K mg x st G)(S:dc N G (qK st))
  (J:∀ (f:Af) (Y:Ac) (A:Bw) (U:Aa Ko) (s:Ai) (H:Hp) (E:XK),mF K x Y->be cm k (A.deeper (Hg x (qK st) s.heap.objs.size f Y)) ->
   jm (mw cm P w K mg base N x (qK st) f Y A U s H E) (zZ st) (ji (mw cm P w K mg base N x (qK st) f Y A U s H E) g)):tw P w K mg base cm (k+1) x G.length (qL N.length g):=by
 obtain⟨f,T,O,F,C⟩:=h;exact⟨f,T,G,rfl,O,F.kp,C,nG F,fnX F S λY A U s H E B L=>J f Y A U s H E (GF O (nG F) B) L⟩
theorem BF {st:Fz}{k:Ag}{g:DS}(h:wf K mg x st G)(S:dc N G (qK st))
  (J:∀ (f:Af) (Y:Ac) (A:Bw) (U:Aa Ko) (s:Ai) (H:Hp) (E:XK),mF K x Y->be cm k (A.deeper (Hg x (qK st) s.heap.objs.size f Y)) ->
   jm (mw cm P w K mg base N x (qK st) f Y A U s H E) (zZ st) (ji (mw cm P w K mg base N x (qK st) f Y A U s H E) g)):rZ P w K mg base cm (k+1) x G (qL N.length g):=by
 obtain⟨f,T,O,F,C⟩:=h;exact⟨f,T,O,F.kp,C,nG F,fnX F S λY A U s H E B L=>J f Y A U s H E (GF O (nG F) B) L⟩
theorem tw.any {k n:Ag}{F:DF}(h:tw P w K mg base false k x n F):tw P w K mg base cm k x n F:=by
 obtain⟨f,U,C,Y,B,O,G,J,X⟩:=h;exact⟨f,U,C,Y,B,O,G,J,X.any⟩
end
section
variable {X:Cx}{cm:As}{k n:Ag}{F:DF}{x:Aw}{p aq:Ez}{e:Cc}{es:Aa Cc}{fa:DA}
theorem dcN (G:tw X.prog X.w X.K X.mg X.base cm k x n F)(C:be cm k X.A)(U:qg X)(I:Gl X x)(O:PA X (e::es) (mz X fa))(J:(x == ("__debug__" : Aw))=false:=by decide)(E:Bu (e::es) X.env=(false,eval e X.env)::Bu es X.env:=by rfl)(Y:(Hc aq (Bu es X.env)).any (·.1)=false:=by rfl) :
  PE X (.Call (.Name x p) (e::es) [] aq) (tD X (qH n F fa)):=by
 obtain⟨f,A,w,H,B,T,L,M,G⟩:=G;exact BB G C U I B T L O J E Y
end
def zX:DF:=λds S=>match ds with
 |[.dct0]=>.bad
 |_=>eY ds S
theorem B4 {X:Cx}:y8 X (.builtin "len") zX:=LG trivial
theorem GE:∃ C:Ah->Ah->As,C=mM:=⟨_,rfl⟩
def GD:Ah->Ah->As:=Qq GE
theorem gF:GD=mM:=Ms GE
def qT:G2:=i2 GD λi j=>.int (i*j)
theorem M7 {X:Cx}:gj X (El .Mult) qT:=by
 unfold qT;rw[gF];exact M6
theorem vy {k:Ag}(Y:be cm k A):A.units+1<Ed:=by have:=Y.units;lia
section
variable {X:Cx}
theorem F7:xq X .Mult qT:=by
 intro L s σ H x y v u Q I J G h;obtain⟨P,α,S,a,b,r,O,C,Y⟩:=h;unfold qT at Y;obtain⟨i,j,rfl,rfl,hc,ok⟩:=f6 Y;rw[gF] at hc;unfold mM at hc;rw[Rp] at hc;cases zS O;cases zS C;obtain⟨t,rfl⟩:=J;obtain⟨B,rfl⟩:=G;have U:Q1 i j:=by
  rcases hc with hc|hc
  .exact .inl (Bz hc)
  .exact .inr (Bz hc)
 exact imul_int ⟨.int _,H,I.tok _,⟨_,rfl⟩,xr ok r (by simp only[av])⟩ U.ok
theorem F6:xq X .FloorDiv vK:=by
 intro T s σ H x y v u Q I J U h;obtain⟨P,α,S,a,b,r,G,O,Y⟩:=h;obtain⟨i,j,rfl,rfl,C,ok⟩:=f6 Y;have B:0<j/\j<1073741824:=Bz C;cases zS G;cases zS O;obtain⟨t,rfl⟩:=J;obtain⟨L,rfl⟩:=U;refine ifloordiv_int om ?_ (.inl (Vy om));rw[Tf i om];exact⟨.int _,H,I.tok _,⟨_,rfl⟩,xr ok r (by simp only[av])⟩
end
def rq (F:DF):DF:=λds S=>match F ds S with
 |.ok d Y=>.ok d Y
 |_=>.bad
theorem E6 {F:DF}(h:F ds S=.ok d Y):rq F ds S=.ok d Y:=by unfold rq;rw[h]
section
variable {X:Cx}{cm:As}{k n:Ag}{F:DF}{x:Aw}{p aq:Ez}{e:Cc}{es:Aa Cc}{fa:DA}{f:Af}{fd:Fw}{ps:Aa Aw}
theorem TN {aj:aa}{σ:_L.St}{H:Hp}{s:Ai}{Q:VK}{us:ah}{P:Hp}(G:ph X.prog X.w X.K X.mg X.base cm k f fd ps (vq X.K n F))(E:be cm k X.A)(j:uR X.K fd ps [])
  (I:Inv X aj σ H s) (r:bi X.K H P α S) (B:qJ vs us) (L:qD X.K P α ds vs) (T:ds.length=n) (Y:qV X P α (rq F ds S) Q):b6 X (call (.ref f) us) (EP X aj σ Q) X.xe s:=by
 have C:vs.length=n:=by rw[<- L.length];exact T
 have U:vq X.K n F vs H Q λ_ _ _=>Ex:=by
  refine⟨C,P,α,ds,S,r,L,?_⟩;unfold rq at Y;cases q:F ds S with
  |ok d w=>rw[q] at Y;exact Y
  |ex c x w=>rw[q] at Y;exact Aq Y
  |bad=>rw[q] at Y;exact Y
 have M:us.length=ps.length:=by rw[<- B.length];exact G.len _ _ _ _ U
 have O:=j s us I.kIn (by rw[Hu];exact M)
 rw[Hu] at O;refine wpAny_call (Nd (G.run X.A X.stack s H ⟨us,[]⟩ us vs Q _ E I.env0 O B U) λr y J=>?_);cases r with
 |error u =>
  obtain⟨_,_,_,_,_,_,_,_,_,_,_,_,z⟩:=J;exact Aq z
 |ok A =>
  cases A with
  |ret u=>exact I.after J
  |next=>exact Aq J
  |brk=>exact Aq J
  |cont=>exact Aq J
theorem dcO (G:tw X.prog X.w X.K X.mg X.base cm k x n F)(w:be cm k X.A)(o:Gl X x)(l:PA X (e::es) (mz X fa))(O:(x == ("__debug__" : Aw))=false:=by decide)(q:Bu (e::es) X.env=(false,eval e X.env)::Bu es X.env:=by rfl)(J:(Hc aq (Bu es X.env)).any (·.1)=false:=by rfl) :
  PE X (.Call (.Name x p) (e::es) [] aq) (tD X (qH n (rq F) fa)):=by
 obtain⟨f,fd,ps,y,z,E,d,hl,G⟩:=G;intro aj s σ H Q I h;obtain⟨P,α,ak,S,r,A,T⟩:=h;refine Jp (lU I o z ?_ O);refine ZB (h₀:=X.base) I.ok.mod.kin E (bn (vH l I r A T aq) λt s1 ⟨vs,i,a,u,ds,b,C,j,v,L,c,g,M,U⟩=>⟨C.kIn,?_⟩) q J;obtain⟨B,Y⟩:=sA (ak:=ak) (S:=S) U;exact TN G w d C v j c B (qV.base g M Y)
end
structure QE (X:Cx)(e:Cc)(f:DE):Prop where
 get:PE X e (tD X f)
structure QT (X:Cx)(e:Cc)(t:DT):Prop where
 get:PT X e (nh X t)
structure QW (X:Cx)(e:Cc)(t:DT):Prop where
 get:tm X e t
structure QA (X:Cx)(es:Aa Cc)(f:DA):Prop where
 get:PA X es (mz X f)
structure QO (X:Cx)(e:Am Cc)(f:DO):Prop where
 get:PO X e (xt X f)
structure QG (X:Cx)(t:Cc)(g:DG):Prop where
 get:PG X t (nr X g)
structure zq (X:Cx)(ts:Aa Cc)(g:so):Prop where
 get:uw X ts (aG X g)
structure QI (X:Cx)(tg it:Cc)(f:DI):Prop where
 get:PI X tg it (wn X f)
structure QS (X:Cx)(s:Fz)(f:DS):Prop where
 get:PS X s (ji X f)
structure QB (X:Cx)(ss:Aa Fz)(f:DS):Prop where
 get:jm X ss (ji X f)
structure jj (X:Cx)(f:Ac->Ac->Kv Ac)(g:G2):Prop where
 get:gj X f g
structure _w (X:Cx)(f:Ac->Kv Ac)(g:D->ao->az D):Prop where
 get:P_ X f g
structure _x (X:Cx)(g:G2):Prop where
 get:T_ X g
structure gp (X:Cx)(f:Ac)(F:DF):Prop where
 get:y8 X f F
structure xk (X:Cx)(id:Ep)(g:D->Aa D->ao->az D):Prop where
 get:wz X id g
structure xm (X:Cx)(op:Px)(g:G2):Prop where
 get:xq X op g
structure x_ (X:Cx)(g:G3):Prop where
 get:eB X (rX X g)
structure oj (X:Cx):Prop where
 get:Rm (Av X.prog X.w) X.A X.env X.xe
section
variable {X:Cx}{a b c e e1 e2 o i:Cc}{es qC:Aa Cc}{fa fb fc fe fo fi:DE}{ta tb:DT}{fA:DA}{f g:DS}{st:Fz}{_j:Aa Fz}{x:Aw}{p aq:Ez}{n k:Ag}{cm:As}{F:DF}{oq:G2}
theorem HF:QE X (.Constant .none j aq) (dC .non):=⟨LZ⟩
theorem OZ:QE X (.Constant (.bool v) j aq) (dC (.bl v)):=⟨AR⟩
theorem HC:QE X (.Constant (.int v) j aq) (dC (.int v)):=⟨LW⟩
theorem HK (m:Ag)(U:X.N[m]? = Ab x)(hv:ur X.env.scope x)(J:(x == ("__debug__" : Aw))=false)(Y:(x == ("__classdict__" : Aw))=false):QE X (.Name x aq) (q9 m):=⟨dv m U hv J Y⟩
theorem MV (G:Gl X x)(hm:X.mg x=none)(hv:Gf x=Ab (.type Y))(J:x ≠ "__name__")(U:(x == ("__debug__" : Aw))=false):QE X (.Name x aq) (dC (.ty Y)):=⟨BA G hm hv J U⟩
theorem MX (J:Gl X x)(hm:∃ t,X.mg x=Ab (.int v t))(Y:(x == ("__debug__" : Aw))=false):QE X (.Name x aq) (dC (.int v)):=⟨let ⟨_,h⟩:=hm;BD (v:=.int v) J h ⟨_,rfl⟩ (λ_ _=>by simp only[av]) Y⟩
theorem qAE {h:D->ao->az D}(Y:_w X (AaG op) h)(J:QE X a fa):QE X (.UnaryOp op a aq) (d1 h fa):=⟨AY Y.1 J.1⟩
theorem HG (Y:QE X a fa):QE X (.UnaryOp .Not a aq) (U3 fa):=⟨D0 Y.1⟩
theorem qAC (Y:jj X (El op) oq)(J:QE X a fa)(U:QE X b fb):QE X (.BinOp a op b aq) (d2 oq fa fb):=⟨AW Y.1 J.1 U.1⟩
theorem HA (J:jj X (Df op) oq)(Y:QE X a fa)(U:QE X b fb)(hm:Nv op b=false:=by first|exact bG _|with_unfolding_all rfl):QE X (.Compare a [op] [b] aq) (d2 oq fa fb):=⟨LU J.1 Y.1 U.1 hm⟩
theorem JX (G:jj X (Df op) oq)(J:jj X (Df Y) g')(U:QE X a fa)(O:QE X b fb)(C:QE X c fc)(hm:Aa9 [op,Y] [b,c]=false:=by with_unfolding_all rfl):QE X (.Compare a [op,Y] [b,c] aq) (yC oq g' fa fb fc):=⟨U5 G.1 J.1 U.1 O.1 C.1 hm⟩
theorem HH  (h:QE X a fa):QE X (.BoolOp op [a] aq) fa:=⟨D1 h.1⟩
theorem H9 (Y:QE X a fa)(J:QE X (.BoolOp .And (b::qC) aq) fb):QE X (.BoolOp .And (a::b::qC) aq) (mP fa fb):=⟨LR Y.1 J.1⟩
theorem qAD (Y:QE X a fa)(J:QE X (.BoolOp .Or (b::qC) aq) fb):QE X (.BoolOp .Or (a::b::qC) aq) (zj fa fb):=⟨AX Y.1 J.1⟩
theorem qAA (Y:QT X c ta)(J:QE X a fa)(U:QE X b fb):QE X (.IfExp c a b aq) (pr ta fa fb):=⟨AU Y.1 J.1 U.1⟩
theorem HJ  (h:QA X es fA):QE X (.Tuple es x1 aq) (zA fA):=⟨D3 h.1⟩
theorem HE (h:QA X es fA):QE X (.List es aq) (wL fA):=⟨LY h.1⟩
theorem MY (h:QA X es fA):QE X (.List es aq) (u9 fA):=⟨BE h.1⟩
theorem HB:QE X (.Dict [] [] aq) eR:=⟨LV⟩
theorem qAB (Y:_x X oq)(J:QE X a fa)(U:QE X b fb)(hs:lD b:=by intro _ _;rfl):QE X (.Subscript a b aq) (d2 oq fa fb):=⟨AV Y.1 J.1 U.1 hs⟩
theorem JZ {lo hi:Am Cc}(C:QE X e fe)(G:QO X lo Y)(U:QO X hi J):QE X (.Subscript e (.Slice lo hi none O) aq) (lr fe Y J):=⟨U7 C.1 G.1 U.1⟩
theorem T6:QO X none wV:=⟨BJ⟩
theorem T7 (Y:QE X e fe):QO X (Ab e) (xP fe):=⟨BK Y.1⟩
theorem H0:QA X [] qA:=⟨LQ⟩
theorem MU (Y:QE X e fa)(J:QA X es fA)(hs:Bu (e::es) X.env=(false,eval e X.env)::Bu es X.env:=by rfl):QA X (e::es) (q8 fa fA):=⟨B9 Y.1 J.1 hs⟩
theorem _Y (G:tw X.prog X.w X.K X.mg X.base cm k x n F)(C:be cm k X.A)(U:qg X)(L:Gl X x)(O:QA X (e::es) fA)(J:(x == ("__debug__" : Aw))=false)(B:Bu (e::es) X.env=(false,eval e X.env)::Bu es X.env:=by rfl)(Y:(Hc aq (Bu es X.env)).any (·.1)=false:=by rfl):QE X (.Call (.Name x p) (e::es) [] aq) (qH n F fA):=⟨dcN G C U L O.1 J B Y⟩
theorem JW (C:gp X (.builtin id) F)(B:Gl X x)(hm:X.mg x=none)(hv:Gf x=Ab (.builtin id))(G:QA X (e::es) fA)(U:x ≠ "__name__")(J:(x == ("__debug__" : Aw))=false)(O:Bu (e::es) X.env=(false,eval e X.env)::Bu es X.env:=by rfl)(Y:(Hc aq (Bu es X.env)).any (·.1)=false:=by rfl):QE X (.Call (.Name x p) (e::es) [] aq) (qN F fA):=⟨U4 C.1 B hm hv G.1 U J O Y⟩
theorem YK (C:gp X (.type T) F)(B:Gl X x)(hm:X.mg x=none)(hv:Gf x=Ab (.type T))(G:QA X (e::es) fA)(U:x ≠ "__name__")(J:(x == ("__debug__" : Aw))=false)(O:Bu (e::es) X.env=(false,eval e X.env)::Bu es X.env:=by rfl)(Y:(Hc aq (Bu es X.env)).any (·.1)=false:=by rfl):QE X (.Call (.Name x p) (e::es) [] aq) (qN F fA):=⟨XY C.1 B hm hv G.1 U J O Y⟩
theorem rT {C:Ez}{h:D->Aa D->ao->az D}(B:Zd T)(slot:Slot T name id)(O:AaO (.builtin id)=pure (.type "method_descriptor"))(hT:T = "list" \/ T = "dict" \/ T = "int" \/ T = "str")(hm:xk X id h)(E:QE X o fo)(L:QA X (e::es) fA)
  (J:Ia o name X.env (eval o X.env)=eval o X.env:=by rfl)
  (G:((Hc aq (Bu (e::es) X.env)).all (λx=>!x.1)&&(AbE aq (WF [] X.env)).all (λx=>x.1.isSome)&&decide ((e::es).length+([]:Aa TD).length+(if ([] : Aa TD).isEmpty then 0 else 1)<30))=true:=by rfl)
  (U:(C.endLine == aq.line)=true:=by rfl) (hs:Bu (e::es) X.env=(false,eval e X.env)::Bu es X.env:=by rfl) (Y:(Hc aq (Bu es X.env)).any (·.1)=false:=by rfl):QE X (.Call (.Attribute o name C) (e::es) [] aq) (mr T h fo fA):=⟨AS B slot O hT hm.1 E.1 L.1 J G U hs Y⟩
theorem nU {G:Ez}{h:D->Aa D->ao->az D}(C:Zd T)(slot:Slot T name id)(U:AaO (.builtin id)=pure (.type "method_descriptor"))(hT:T = "list" \/ T = "dict" \/ T = "int" \/ T = "str")(hm:xk X id h)(O:QE X o fo)
  (Y:Ia o name X.env (eval o X.env)=eval o X.env:=by rfl) (J:(G.endLine == aq.line)=true:=by rfl):QE X (.Call (.Attribute o name G) [] [] aq) (U2 T h fo):=⟨LS C slot U hT hm.1 O.1 Y J⟩
theorem qAH (h:QW X e ta):QT X e ta:=⟨tm.pt h.1⟩
theorem oG (Y:QT X a ta):QW X (.BoolOp .And [a] aq) ta:=⟨BR Y.1⟩
theorem YN (Y:QT X a ta):QW X (.BoolOp .Or [a] aq) ta:=⟨DY Y.1⟩
theorem YM (Y:QT X a ta)(J:QW X (.BoolOp .And (b::qC) aq) tb):QW X (.BoolOp .And (a::b::qC) aq) (wG ta tb):=⟨DX Y.1 J.1⟩
theorem PN (Y:QT X a ta)(J:QW X (.BoolOp .Or (b::qC) aq) tb):QW X (.BoolOp .Or (a::b::qC) aq) (mQ ta tb):=⟨IB Y.1 J.1⟩
theorem C6 (Y:QT X a ta):QT X (.UnaryOp .Not a aq) (vG ta):=⟨DU Y.1⟩
theorem C5 (J:jj X (Df op) oq)(Y:QE X a fa)(U:QE X b fb)(hm:Nv op b=false:=by first|exact bG _|with_unfolding_all rfl):QT X (.Compare a [op] [b] aq) (cg (d2 oq fa fb)):=⟨DR J.1 Y.1 U.1 hm⟩
theorem K7 (G:jj X (Df op) oq)(J:jj X (Df Y) g')(U:QE X a fa)(O:QE X b fb)(C:QE X c fc)(hm:Aa9 [op,Y] [b,c]=false:=by with_unfolding_all rfl):QT X (.Compare a [op,Y] [b,c] aq) (cg (yC oq g' fa fb fc)):=⟨UF G.1 J.1 U.1 O.1 C.1 hm⟩
theorem C7 (J:QE X a fa)(U:∀ Y,isTrue a X.env Y=(do let v <- Y;T0 a.pos;holding [v] (truthy v)):=by intro _;rfl):QT X a (cg fa):=⟨DV J.1 U⟩
theorem T1 (Y:X.N.Nodup)(hi:X.N[m]? = Ab x)(J:Loc X.env.scope x)(U:X.fn x=true\/X.env.scope.names.lookup x=Ab .local):QG X (.Name x aq) (bj m):=⟨BG Y hi J U⟩
theorem T3:zq X [] wH:=⟨BH⟩
theorem K1 (h1:QG X e h)(h2:zq X es Y)(hs:(Hd (e::es) X.env).map (·.2)=assign e X.env::(Hd es X.env).map (·.2):=by rfl):zq X (e::es) (zD h Y):=⟨U9 h1.1 h2.1 hs⟩
theorem HM (G:X.calm=true)(h:zq X es J)(U:(Hd es X.env).length=n:=by rfl)(Y:(Hd es X.env).findIdx? (·.1)=none:=by rfl):QG X (.Tuple es kk aq) (kb n J):=⟨D6 G h.1 U Y⟩
theorem HL (J:QE X o fo)(hi:QE X i fi)(hs:x_ X h)
  (Y:∀ v,assign (.Subscript o i aq) X.env v=(do
   let ov <- holding [v] (eval o X.env)
   let iv <- holding [v,ov] (eval i X.env)
   T0 aq
   holding [v,ov,iv] (setItem ov iv v)
   release [v,ov,iv] []):=by intro _;rfl):QG X (.Subscript o i aq) (ni fo fi h):=⟨D5 J.1 hi.1 hs.1 Y⟩
theorem HQ (J:QE X e fa):QI X Y e (w5 fa):=⟨D7 J.1⟩
theorem K2 (G:Gl X "range")(hm:X.mg "range" = none)(J:QA X (e::es) fA)(hs:Bu (e::es) X.env=(false,eval e X.env)::Bu es X.env:=by rfl)(Y:(Hc aq (Bu es X.env)).any (·.1)=false:=by rfl):QI X U (.Call (.Name "range" p) (e::es) [] aq) (xT fA):=⟨UA G hm J.1 hs Y⟩
theorem HR (C:Gl X "zip")(hm:X.mg "zip" = none)(U:QA X [e1,e2] fA)(hs:Bu [e1,e2] X.env=(false,eval e1 X.env)::Bu [e2] X.env:=by rfl)(Y:(Hc aq (Bu [e2] X.env)).any (·.1)=false:=by rfl):QI X (.Tuple J O G) (.Call (.Name "zip" p) [e1,e2] [] aq) (QR fA):=⟨D8 C hm U.1 hs Y⟩
theorem H8:QB X [] zR:=⟨DJ⟩
theorem YJ (h:QS X st f):QB X [st] f:=⟨DM h.1⟩
theorem oF (h1:QS X st f)(h2:QB X _j g):QB X (st::_j) (qG f g):=⟨BL h1.1 h2.1⟩
theorem T9 (Y:QE X e fa)(hs:Po e none aq.line X.env=pure false:=by rfl):QS X (.Expr e aq) (xG fa):=⟨BM Y.1 hs⟩
theorem HY (Y:QE X e fa):QS X (.Return (Ab e) aq) (qW fa):=⟨DP Y.1⟩
theorem qAG (G:QT X c ta)(J:QB X as f)(U:QB X Y g):QS X (.If c as Y aq) (fj ta f g):=⟨I9 G.1 J.1 U.1⟩
theorem K6 (hp:oj X)(Y:QT X c ta)(J:QB X cw f):QS X (.While c cw [] aq) (vS ta f):=⟨UE hp.1 Y.1 J.1⟩
theorem HW (hp:oj X)(O:X.calm=true)(hi:QI X J Y U)(C:QG X J h)(G:QB X cw f)(hs:∀ x,Dx Y X.env x=pure x:=by intro _;rfl):QS X (.For J Y cw [] aq) (wY U h f):=⟨DH hp.1 O hi.1 C.1 G.1 hs⟩
theorem HZ (J:X.N.Nodup)(O:QE X e fa)(hi:X.N[m]? = Ab x)(U:Loc X.env.scope x)(hs:Po e (Ab (.Name x Y)) aq.line X.env=pure false)(G:X.fn x=true\/X.env.scope.names.lookup x=Ab .local):QS X (.Assign [.Name x Y] e aq) (qQ fa (bj m)):=⟨DQ J O.1 hi U hs G⟩
theorem HS (J:QE X e fa)(U:QG X Y h)(hs:Nu [Y] e aq.line X.env=pure false:=by rfl)(hw:Nt [Y] e X.env=pure none:=by rfl)(h1:(Hd [Y] X.env).map (·.2)=[assign Y X.env]:=by rfl):QS X (.Assign [Y] e aq) (qQ fa h):=⟨DB J.1 U.1 hs hw h1⟩
theorem HU (J:X.N.Nodup)(C:QE X e fe)(O:xm X op oq)(hi:X.N[m]? = Ab x)(U:Loc X.env.scope x)(G:X.fn x=true\/X.env.scope.names.lookup x=Ab .local):QS X (.AugAssign (.Name x Y) op e aq) (wQ m oq fe):=⟨DC J C.1 O.1 hi U G⟩
theorem HX {l:Ag}{Y J:Ez}{kt k2 pt2}(T:X.calm=true) (B:X.N.Nodup) (G:QA X [a,b] fA) (hi:X.N[m]? = Ab x) (C:X.N[l]? = Ab y) (U:m≠l) (L:X.env.scope.names.lookup x=Ab .local) (O:X.env.scope.names.lookup y=Ab .local)
  (hw:Nt [.Tuple [.Name x Y,.Name y py] kt J] (.Tuple [a,b] k2 pt2) X.env=pure (Ab [x,y]):=by rfl) (hs:Nu [.Tuple [.Name x Y,.Name y py] kt J] (.Tuple [a,b] k2 pt2) aq.line X.env=pure false:=by rfl) :
  QS X (.Assign [.Tuple [.Name x Y,.Name y py] kt J] (.Tuple [a,b] k2 pt2) aq) (uO m l fA):=⟨DN T B G.1 hi C U L O hw hs⟩
theorem qAl:jj X (El .Add) zB:=⟨RW⟩
theorem qA2:jj X (El .Sub) zU:=⟨E5⟩
theorem qAw:jj X (El .Mult) qT:=⟨M7⟩
theorem qAn:jj X (El .FloorDiv) vK:=⟨RX⟩
theorem qAv:jj X (El .Mod) xX:=⟨E1⟩
theorem qAz:jj X (El .Pow) gN:=⟨E2⟩
theorem qA1:jj X (El .LShift) c6:=⟨E4⟩
theorem qB0:jj X (Df .Lt) mi:=⟨PH⟩
theorem _Z:jj X (Df .LtE) lj:=⟨OQ⟩
theorem qBw:jj X (Df .Gt) nj:=⟨OO⟩
theorem qBv:jj X (Df .GtE) qq:=⟨ON⟩
theorem qBx:jj X (Df .Is) zf:=⟨OP⟩
theorem NL:jj X (Df .IsNot) c5:=⟨JJ⟩
theorem qBu (Y:be cm k X.A):jj X (Df .Eq) ig:=⟨PF Y.units⟩
theorem qB1 (Y:be cm k X.A):jj X (Df .NotEq) ky:=⟨PJ Y.units⟩
theorem qAo (Y:be cm k X.A):jj X (Df .Eq) (uU ig):=⟨gj.look (PF Y.units)⟩
theorem qAx (Y:be cm k X.A):jj X (Df .NotEq) (uU ky):=⟨gj.look (PJ Y.units)⟩
theorem qAy:_w X (AaG .USub) uK:=⟨CY⟩
theorem qBy:_x X dk:=⟨qBS⟩
theorem qAs:gp X (.builtin "isinstance") kF:=⟨LF⟩
theorem qAt:gp X (.builtin "len") zX:=⟨B4⟩
theorem qAm (Y:X.calm=true):gp X (.builtin "all") (mT false):=⟨LC false Y⟩
theorem qAq:gp X (.type "int") Z3:=⟨LD⟩
theorem NN:gp X (.type "tuple") vJ:=⟨VU⟩
theorem AD:gp X (.type "list") rL:=⟨B5⟩
theorem aS:xk X "list.append" xZ:=⟨WV⟩
theorem VA:xk X "int.bit_length" rM:=⟨FV⟩
theorem PX (Y:be cm k X.A):xk X "dict.get" kG:=⟨RA (vy Y)⟩
theorem A9:xm X .Add uT:=⟨F5⟩
theorem AB:xm X .Mult qT:=⟨F7⟩
theorem AA:xm X .FloorDiv vK:=⟨F6⟩
theorem AC:xm X .Sub zU:=⟨F8⟩
theorem qA0 (Y:be cm k X.A):x_ X w6:=⟨CF (vy Y)⟩
end
section
variable {P:Bh}{w:Ce}{K:Aj}{mg:ai}{base:By}{cm:As}
theorem NQ:oj (mw cm P w K mg base N Y am f U A J s H E):=⟨VZ⟩
theorem qBI {st:Fz}{k:Ag}{g:DS}(h:wf K mg x st O)(S:dc N O (qK st))(G:zZ st=cw)
  (J:∀ (f:Af) (Y:Ac) (A:Bw) (U:Aa Ko) (s:Ai) (H:Hp) (E:XK),mF K x Y->be cm k (A.deeper (Hg x (qK st) s.heap.objs.size f Y)) ->
   QB (mw cm P w K mg base N x (qK st) f Y A U s H E) cw g):tw P w K mg base cm (k+1) x O.length (qL N.length g):=
 D4 h S λf Y A U s H E B C=>G▸(J f Y A U s H E B C).1
theorem AZ {st:Fz}{k:Ag}{g:DS}(h:wf K mg x st O)(S:dc N O (qK st))(G:zZ st=cw)
  (J:∀ (f:Af) (Y:Ac) (A:Bw) (U:Aa Ko) (s:Ai) (H:Hp) (E:XK),mF K x Y->be cm k (A.deeper (Hg x (qK st) s.heap.objs.size f Y)) ->
   QB (mw cm P w K mg base N x (qK st) f Y A U s H E) cw g):rZ P w K mg base cm (k+1) x O (qL N.length g):=
 BF h S λf Y A U s H E B C=>G▸(J f Y A U s H E B C).1
end
structure ut (X:Cx)(ifs:Aa Cc)(t:DT):Prop where
 get:qv X ifs t
section
variable {X:Cx}{e:Cc}{es:Aa Cc}{aq p:Ez}{t u:DT}{fa:DA}{x:Aw}{cm:As}{k n:Ag}{F:DF}
theorem TC:ut X [] zQ:=⟨BQ⟩
theorem K8 (h1:QT X e t)(h2:ut X es u):ut X (e::es) (wG t u):=⟨UG h1.1 h2.1⟩
theorem _X (G:tw X.prog X.w X.K X.mg X.base cm k x n F)(O:be cm k X.A)(B:Gl X x)(U:QA X (e::es) fa)(J:(x == ("__debug__" : Aw))=false)(C:Bu (e::es) X.env=(false,eval e X.env)::Bu es X.env:=by rfl)(Y:(Hc aq (Bu es X.env)).any (·.1)=false:=by rfl) :
  QE X (.Call (.Name x p) (e::es) [] aq) (qH n (rq F) fa):=⟨dcO G O B U.1 J C Y⟩
end
def nu (o:Am (Ag × MO))(S:ao):Prop:=match o with
 |none=>Re
 |some p=>S[p.1]? = Ab p.2
open Classical in
def tF (o:Am (Ag × MO))(S:ao):As:=decide (nu o S)
theorem wC:tF o S=true↔nu o S:=by simp[tF]
structure lc (K:Aj)(J:It)(P:Hp)(α : Aa Af)(o:Am (Ag × MO))(ds:Aa D):Prop where
 go:∀ i H P1 α1 S,i<ds.length->bi K H P1 α1 S->nu o S->qE P P1->α<+:α1->J.go i H
 yld:∀ i H x H' P1 α1 S,i<ds.length->bi K H P1 α1 S->nu o S->qE P P1->α<+:α1->J.yld i H x H'->∃ P2 d,ds[i]? = Ab d/\bi K H' P2 α1 S/\qE P1 P2/\av K P2 α1 d x
 stop:∀ i H P1 α1 S,ds.length<=i->bi K H P1 α1 S->nu o S->qE P P1->α<+:α1->J.stop i H
theorem w_.two {K:Aj}{P:Hp}(h:w_ K J P α ds):lc K J P α none ds:=
 ⟨λi H U Y S a b _ c d=>h.go i H U Y S a b c d,λi H x G U Y S a b _ c d e=>h.yld i H x G U Y S a b c d e,λi H U Y S a b _ c d=>h.stop i H U Y S a b c d⟩
abbrev m_:=qB->ao->az (Am (Ag × MO) × Aa D)
inductive ml (X:Cx)(f:m_)(σ : _L.St)(H:Hp)(R:It->Hp->Prop):Prop
 |mk (P:Hp) (α : Aa Af) (env:qB) (S:ao) (r:bi X.K H P α S) (re:zI X.K P α σ env) (af:qI X P α (f env S) (λp S'=>∀ J H' P' α',bi X.K H' P' α' S'->qE P P'->α<+:α'->lc X.K J P' α' p.1 p.2->R J H')):ml X f σ H R
def xM (f:DI):m_:=λak S=>(f ak S).bind λds Y=>.ok (none,ds) Y
section
variable {X:Cx}{K:Aj}{tg e:Cc}{fa:DE}
theorem BI (h:PI X tg e (wn X f)):PI X tg e (ml X (xM f)):=PI.weak h λσ H R ⟨P,α,ak,S,r,G,Y⟩=>by
 refine⟨P,α,ak,S,r,G,?_⟩;unfold xM at Y;cases q:f ak S with
 |bad=>rw[q] at Y;exact Y
 |ex c x I=>rw[q] at Y;exact Y
 |ok ds E =>
  rw[q] at Y;exact λJ L B U O T C it=>Y J L B U O T C it.two
theorem FE {P:Hp}{a:Af}{n:Ag}(Y:α[n]? = Ab a):lc K (U_ K a) P α (Ab (n,.lst ds)) ds where
 go:=λi H O G S J r st e U=>by
  obtain⟨vs,z,t⟩:=r.at' n a _ (fN U Y) st;exact⟨vs,vs[i]'(by rw[<- t.length];exact J),.of z,by simp⟩
 yld:=λi H x T O G S J r st e U y=>by
  obtain⟨rfl,y⟩:=y;obtain⟨vs,z,t⟩:=r.at' n a _ (fN U Y) st;have L:=y vs (.of z);obtain⟨v,C,B⟩:=t.get (Ap J);rw[L] at C;cases C;exact⟨O,_,Ap J,r,qE.refl _,B⟩
 stop:=λi H O G S J r st e U=>by
  obtain⟨vs,z,t⟩:=r.at' n a _ (fN U Y) st;exact⟨vs,.of z,by rw[<- t.length];exact J⟩
noncomputable def lh (d:D)(S:ao):az (Am (Ag × MO) × Aa D):=match d with
 |.tup xs=>.ok (none,xs) S
 |.lst xs=>.ok (none,xs) S
 |.loc n=>match S[n]? with
  |some (.lst xs)=>.ok (Ab (n,.lst xs),xs) S
  |_=>.bad
 |_=>.bad
def j_ (f:DE):m_:=λak S=>(f ak S).bind λd Y=>lh d Y
theorem I8 (T:PE X e (tD X fa)):PI X tg e (ml X (j_ fa)):=by
 intro x s σ H R I h;obtain⟨P,α,ak,S,r,k,y⟩:=h;refine bn (zT T I r k y) λM C ⟨v,u,g,E,d,A,Y,U⟩=>?_;have B:∀ ds,xB d=Ab ds->(∀ J L O G,bi X.K L O G A->qE P O->α<+:G->lc X.K J O G none ds->R J L)->b6 X (Rz M) (xn X x σ tg R) X.xe C:=λds e1 q =>
  c8 Y.inv Y.rel Y.val Y.rep e1 λJ L O G l c j it=>q J L O G l (Y.same.trans c) (Y.pre.trans j) it.two
 cases d with
 |tup xs=>exact B xs rfl U
 |lst xs=>exact B xs rfl U
 |loc n =>
  obtain⟨xs,i,U⟩:=jN (X:=X) (f:=λxs=>az.ok (Ab (n,MO.lst xs),xs) A) U;have w:=Y.rep;simp only[av] at w;obtain⟨a,rfl,T⟩:=w;cases (show M=De a from Y.val)
  obtain⟨vs,z,t⟩:=Y.rel.at' n a _ T i;obtain⟨ap,rv,p,hz⟩:=Y.inv.list (kf.of z);refine Ip p.isList ?_;refine⟨C.heap.objs.size,[C.heap.objs.size],_,_,u,rfl,Y.inv.kept (t':=C.toks) λb o e=>Ak _ e,r0 a _,⟨_,Bi _ rfl,rfl,rfl⟩,λb hb=>?_,U _ _ g E Y.rel Y.same Y.pre (FE T)⟩;have e:b=C.heap.objs.size:=by simpa using hb
  subst e;exact Y.inv.fpOk (Ax _) (Y.inv.hok.fresh (Ax _))
 |_=>exact Aq U
end
def wN (o:Am (Ag × MO))(g:DG)(f:DS):Aa D->qB->ao->jd
 |[],ak,S=>if tF o S then .nx ak S else .bad
 |d::ds,ak,S=>if tF o S then (g d ak S).toS ak λJ G=>match f J G with
  |.nx Y U=>wN o g f ds Y U
  |.ct Y U=>wN o g f ds Y U
  |.bk Y U=>.nx Y U
  |o=>o
  else .bad
def nY (fi:m_)(g:DG)(f:DS):DS:=λak S=>(fi ak S).toS ak λp Y=>wN p.1 g f p.2 ak Y
inductive pf (X:Cx)(P1:Hp)(α1:ag)(o:Am (Ag × MO))(g:DG)(f:DS)(ds:Aa D)(D:Ends)(i m:Ag)(σ : _L.St)(H:Hp):Prop
 |mk (hi:i<=ds.length) (hm:m=ds.length-i) (P2:Hp) (α2:ag) (env2:qB) (S2:ao) (r:bi X.K H P2 α2 S2) (re:zI X.K P2 α2 σ env2) (e1:qE P1 P2) (e2:α1<+:α2) (af:qY X P2 α2 (wN o g f (ds.drop i) env2 S2) D):pf X P1 α1 o g f ds D i m σ H
section
variable {X:Cx}{tg:Cc}{aq:Ez}
theorem BN (hp:Rm (Av X.prog X.w) X.A X.env X.xe)(hc:X.calm=true)(hi:PI X tg ay (ml X fi))(hg:PG X tg (nr X g))(hb:jm X cw (ji X f))
  (hs:∀ x,Dx ay X.env x=pure x:=by intro _;rfl):PS X (.For tg ay cw [] aq) (ji X (nY fi g f)):=xw (YH hp hc hi hg hb hs) λD σ H ⟨P,α,ak,S,r,re,af⟩=>by
 refine⟨P,α,ak,S,r,re,?_⟩;have C:=xI af;cases q:fi ak S with
 |bad=>rw[q] at C;exact C
 |ex c x S'=>rw[q] at C;exact C
 |ok p S1 =>
  obtain⟨o,ds⟩:=p;rw[q] at C;have zh:qY X P α (wN o g f ds ak S1) D:=C;intro J H1 P1 I r1 e1 e2 it;have it:lc X.K J P1 I o ds:=it;refine⟨pf X P1 I o g f ds D,
   ⟨ds.length,Fk _,rfl,P1,I,ak,S1,r1,re.mono e1 e2,qE.refl _,Bg _,qY.base e1 e2 zh⟩,?_⟩
  rintro i m zs h ⟨hi,rfl,P2,T,A,v,r2,n,b,t,Y⟩;by_cases E:tF o v=true
  .have j:=wC.mp E
   by_cases B:i<ds.length
   .refine .inr ⟨it.go i h P2 T v B r2 j b t,pf X P1 I o g f ds D (i+1) (ds.length-(i+1)),λzx H' w=>⟨_,?_,w⟩,λx H3 y=>?_⟩
    .omega
    .obtain⟨P3,d,hd,r3,a,rp⟩:=it.yld i h x H3 P2 T v B r2 j b t y
     have O:ds.drop i=d::ds.drop (i+1):=by
      rw[Gq B];rw[Ap B] at hd;rw[Dm hd]
     rw[O] at Y;unfold wN at Y;rw[Be E] at Y;have L:=xI (qY.base a (Bg _) Y);refine⟨P3,T,A,v,d,r3,n.mono a (Bg _),rp,?_⟩;cases q2:g d A v with
     |bad=>rw[q2] at L;exact L
     |ex c x S'=>rw[q2] at L;exact L
     |ok M S3 =>
      rw[q2] at L;intro zv H4 P4 zb r4 zc e6 e7;refine⟨P4,zb,M,S3,r4,zc,?_⟩;have U:=qY.base e6 e7 L;cases l:f M S3 with
      |bad=>simp only[l] at U;exact U
      |ex c x G u=>simp only[l] at U;exact U
      |rt d4 u=>simp only[l] at U;exact U
      |bk G u=>simp only[l] at U;exact U
      |nx G u =>
       simp only[l] at U;exact λzl H5 P5 k r5 z s e=>⟨B,rfl,P5,k,G,u,r5,z,((b.trans a).trans e6).trans s,(t.trans e7).trans e,qY.base s e U⟩
      |ct G u =>
       simp only[l] at U;exact λzl H5 P5 k r5 z s e=>⟨B,rfl,P5,k,G,u,r5,z,((b.trans a).trans e6).trans s,(t.trans e7).trans e,qY.base s e U⟩
   .have O:ds.drop i=[]:=Pz om
    rw[O] at Y;unfold wN at Y;rw[Be E] at Y;exact .inl ⟨it.stop i h P2 T v om r2 j b t,Y zs h P2 T r2 n (qE.refl _) (Bg _)⟩
  .cases O:ds.drop i with
   |nil=>rw[O] at Y;unfold wN at Y;rw[Bc E] at Y;exact Aq Y
   |cons d r=>rw[O] at Y;unfold wN at Y;rw[Bc E] at Y;exact Aq Y
end
noncomputable def zi (m:As)(Y:Cc)(au:Ac)(ak:Ko):Kv Vx:=match m with
 |false=>do let _ <- call (.builtin "list.append") [au,<- eval Y ak]
 |true=>do let v <- eval Y ak;T0 Y.pos;let _ <- call (.builtin "set.add") [au,v]
def zP (m:As)(J:Cc)(U:Aa Do)(am:Eu)(G:Ez)(k:Ag)(au:Ac)(ak:Ko):Kv Vx:=
 match U[k+1]? with
 |some Y=>do
  let x <- eval Y.iter ak
  T0 Y.iter.pos
  let x <- Dx Y.iter ak x
  let it <- holding [x] (Rz x)
  let _ <- runOwn (.compStart (xW m J U am G) (k+1) it au ak) ak
 |none=>zi m J au ak
theorem KR (m:As)(U Y O:Cc)(C:Aa Cc)(J:Aa Do)(am:Eu)(G:Ez)(it au:Ac)(ak:Ko)(k:Ag)(T:J[k]? = Ab ⟨Y,O,C,0⟩)(E:∀ g',J[k+1]? = Ab g'->g'.is_async=0) :
  AbH (xW m U J am G) k it au ak=(do
   T0 O.pos
   match <- Nk it with
   |none=>pure (.done .next)
   |some v =>
    Lv Y it v
    assign Y ak v
    let mut ok:=true
    for c in C do
     if ok then ok <- isTrue c ak (eval c ak)
    if ok then zP m U J am G k au ak
    again (.compLoop (xW m U J am G) k it au ak)):=by
 cases m <;>
 .unfold AbH zP xW zi
  simp only[T];cases q:J[k+1]? with
  |none=>rfl
  |some g' =>
   have L:=E g' q;have B:(g'.is_async != 0)=false:=by rw[L];rfl
   simp only[B,Bl,Dq,bind_assoc,pure_bind];rfl
abbrev DK:=qB->ao->Aa D->az (qB × Aa D)
def iq (o:Am (Ag × MO))(g:DG)(t:DT)(k:DK):Aa D->DK
 |[],ak,S,J=>if tF o S then .ok (ak,J) S else .bad
 |d::ds,ak,S,J=>if tF o S then (g d ak S).bind λY G=>(t Y G).bind λb U =>
   if b then (k Y U J).bind λp O=>iq o g t k ds p.1 O p.2 else iq o g t k ds Y U J
  else .bad
def zN (fe:DE):DK:=λak S Y=>(fe ak S).bind λx J=>if Y.length<br then .ok (ak,Y++[x]) J else .bad
def kIn (fi:m_)(g:DG)(t:DT)(k:DK):DK:=λak S Y=>(fi ak S).bind λp J=>iq p.1 g t k p.2 ak J Y
def Q0 (B:Acc)(Y:Cx)(aj:aa)(P1:Hp)(J:ag)(au:Af)(ak:qB)(S:ao)(ds:Aa D)(s:Ai):Prop:=
 ∃ σ H P α o,fu B Y aj P1 J [] au ak S ds s σ H P α o
def PK (B:Acc)(Y:Cx)(step:Ac->Kv Vx)(k:DK):Prop:=
 ∀ (C:aa) (L:Hp) (G:ag) (U:Af) (ak J:qB) (S T:ao) (ds O:Aa D) (s:Ai),(∀ H:Hp,H U=none->xH Y C H U)->Q0 B Y C L G U ak S ds s->k ak S ds=.ok (J,O) T ->
  Ar (Av Y.prog Y.w) Y.A (step (.ref U)) (λ_ E=>Q0 B Y C L G U J T O E) (λ_ _=>Ex) s
section
variable {B:Acc}{Y:Cx}{bu tg ay:Cc}{cf:Aa Cc}{bf:Aa Do}{am:Eu}{aq:Ez}{k:Ag}{g:DG}{t:DT}{fe:DE}{it au:Af}{fp:ag}{J:It}{tn:Ag->By->Prop}{items:Aa D}{P1:Hp}{α1:ag}{aj:aa}
theorem W8 {X:Cx}{b:Af}(f:xH X aj H b)(G:b ∉ fp):xH X (aj++vN fp h) H b:=by
 obtain⟨O,C,E,L,I,U⟩:=f;refine⟨O,C,E,L,I,λp T=>?_⟩;rcases Bp.mp T with z|z
 .exact U p (Cs _ z)
 .rcases Bp.mp z with z|z
  .exact U p (Bx _ z)
  .rintro rfl
   exact G (sQ z).1
theorem az.bind_inv {β γ:Type}{r:az β}{f:β->ao->az γ}{x:γ}(h:r.bind f=.ok x S):∃ b S1,r=.ok b S1/\f b S1=.ok x S:=by
 cases r with
 |ok b S1=>exact⟨b,S1,rfl,h⟩
 |_=>cases h
inductive Y_ (o:Am (Ag × MO))(g:DG)(t:DT)(k:DK)(d:D)(ds acc:Aa D)(env:qB)(S SF:ao)(x:qB × Aa D):Prop
 |no (env1:qB) (S1 S2:ao) (z:nu o S) (q1:g d env S=.ok env1 S1) (q2:t env1 S1=.ok false S2) (r:iq o g t k ds env1 S2 acc=.ok x SF):Y_ o g t k d ds acc env S SF x
 |yes (env1:qB) (S1 S2:ao) (env5:qB) (ds5:Aa D) (S5:ao) (z:nu o S) (q1:g d env S=.ok env1 S1) (q2:t env1 S1=.ok true S2) (q3:k env1 S2 acc=.ok (env5,ds5) S5) (r:iq o g t k ds env5 S5 ds5=.ok x SF):Y_ o g t k d ds acc env S SF x
set_option tactic.hygienic true in
theorem UQ {k:DK}{d:D}{au:Aa D}(h:iq o g t k (d::ds) ak S au=.ok x SF):Y_ o g t k d ds au ak S SF x:=by
 simp only[iq] at h
 split at h
 .rename_i z
  obtain⟨U,L,T,h⟩:=az.bind_inv h;obtain⟨b,C,E,h⟩:=az.bind_inv h;cases b with
  |false=>exact .no U L C (wC.mp z) T E h
  |true =>
   obtain⟨⟨G,O⟩,I,H,h⟩:=az.bind_inv h;exact .yes U L C G O I (wC.mp z) T E H h
 .cases h
set_option tactic.hygienic true in
theorem F1 {k:DK}{au:Aa D}(h:iq o g t k [] ak S au=.ok (fx,ul) SF):nu o S/\ak=fx/\au=ul/\S=SF:=by
 simp only[iq] at h
 split at h
 .rename_i z
  cases h;exact⟨wC.mp z,rfl,rfl,rfl⟩
 .cases h
inductive S_ (B:Acc)(Y:Cx)(pins:aa)(P1:Hp)(α1:ag)(fp:ag)(acc:Af)(tn:Ag->By->Prop)(G:Aa D->DK)(items:Aa D)(x:qB × Aa D)(SF:ao)(n:Ag)(s:Ai):Prop
 |mk (i:Ag) (σ : _L.St) (H P:Hp) (α : Aa Af) (o:Dc) (env:qB) (S:ao) (ds:Aa D) (hn:n=items.length-i) (hi:i<=items.length) (st:fu B Y pins P1 α1 fp acc env S ds s σ H P α o) (st1:tn i s.heap) (run:G (items.drop i) env S ds=.ok x SF):S_ B Y pins P1 α1 fp acc tn G items x SF n s
theorem N8 {m:As}{M:Pn}{A:Bw}{Q:Fin->Ai->Prop}{E:ae}{s:Ai}{it au:Ac}{U:Ko}(G:bf[k]? = Ab ⟨tg,ay,cf,0⟩)(has:∀ g',bf[k+1]? = Ab g'->g'.is_async=0)
  (I:∀ s,Qa s->Q (.again (.compLoop (xW m bu bf am aq) k it au U)) s) (u:∀ s,Qd s->Q (.done .next) s)
  (h:Ar M A (Nk it) (λr O=>(r=none->Qd O)/\∀ v,r=Ab v->Ar M A (Lv tg it v) (λ_ L=>Ar M A (assign tg U v) (λ_ H=>Ar M A (jS cf U) (λb s4=>(b=false->Qa s4)/\(b=true->Ar M A (zP m bu bf am aq k au U) (λ_ T=>Qa T) E s4)) E H) E L) E O) E s) :
  Ar M A (AbH (xW m bu bf am aq) k it au U) Q E s:=by
 rw[KR m bu tg ay cf bf am aq it au U k G has];refine Ad (Lu (Ad (bn h λr O ⟨j,z⟩=>?_)));cases r with
 |none=>exact An (u _ (j rfl))
 |some v =>
  refine Ad (bn (z v rfl) λ_ L w=>Ad (bn w λ_ H y=>Ad (bn y λb s4 C=>?_)));cases b with
  |false=>exact An (I _ (C.1 rfl))
  |true=>exact Ad (bn (C.2 rfl) λ_ T q=>An (I _ q))
theorem BX (U:∀ H:Hp,(∀ b∈fp,H b=none)->∀ b∈fp,xH Y aj H b)(G:au ∉ fp)(o:Dc)(O:Hp)(T:∀ b∈fp,O b=none):∀ b∈fp,xH Y (aj++[(au,o)]) O b:=λb C=>by
 obtain⟨E,I,w,A,j,L⟩:=U O T b C;refine⟨E,I,w,A,j,λp M=>?_⟩;rcases Bp.mp M with z|z
 .exact L p (Cs _ z)
 .rcases Bp.mp z with z|z
  .exact L p (Bx _ z)
  .rw[Cz.mp z]
   rintro rfl;exact G C
theorem k9 {i:Ag}(T:nk Y.prog Y.w Y.K tg J fp it tn)(G:tn (i+1) h)(pl:∀ b∈fp,∃ o,h.get? b=Ab o/\∀ v,o.data≠.cell v){L:Ai}{O:_L.St}{E:Hp}(C:Inv Y (aj++vN fp h) O E L):tn (i+1) L.heap/\(∀ b∈fp,E b=none):=by
 refine⟨T.keep _ _ _ G λb U o' e=>(C.pin (b,o') (Bx _ (Bx _ (uV U e)))).1,λb U=>?_⟩;obtain⟨o',e,I⟩:=pl b U;exact(C.pin (b,o') (Bx _ (Bx _ (uV U e)))).2.1
theorem QP {kk:DK}{E:ae}{s:Ai}{σ:_L.St}{H P:Hp}{o:Dc}{i:Ag}(hc:Y.calm=true)(hx:Y.xe=λ_ _=>Ex)
  (T:nk Y.prog Y.w Y.K tg J fp it tn) (n:lc Y.K J P1 α1 o' items) (hg:PG Y tg (nr Y g)) (ht:qv Y cf t) (he:PK B Y (λau=>zP B.m bu bf am aq k au Y.env) kk) (l:∀ H:Hp,H au=none->xH Y aj H au) (z4:∀ H:Hp,(∀ b∈fp,H b=none)->∀ b∈fp,xH Y aj H b) (zv:au ∉ fp)
  (hi:i<=items.length) (st:fu B Y aj P1 α1 fp au ak S ds s σ H P α o) (zy:tn i s.heap) (run:iq o' g t kk (items.drop i) ak S ds=.ok (fx,ul) SF)
  (hA:∀ s' e H' P' zb o1 U S' zs,i<items.length->fu B Y aj P1 α1 fp au U S' zs s' e H' P' zb o1->tn (i+1) s'.heap->iq o' g t kk (items.drop (i+1)) U S' zs=.ok (fx,ul) SF->Qa s')
  (hD:∀ s' e H' P' zb o',fu B Y aj P1 α1 fp au fx SF ul s' e H' P' zb o'->Qd s') :
  Ar (Av Y.prog Y.w) Y.A (Nk (.ref it)) (λr s1=>(r=none->Qd s1)/\∀ v,r=Ab v->Ar (Av Y.prog Y.w) Y.A (Lv tg (.ref it) v) (λ_ s2=>Ar (Av Y.prog Y.w) Y.A (assign tg Y.env v) (λ_ s3=>Ar (Av Y.prog Y.w) Y.A (jS cf Y.env) (λb s4=>(b=false->Qa s4)/\(b=true->Ar (Av Y.prog Y.w) Y.A (zP B.m bu bf am aq k (.ref au) Y.env) (λ_ h=>Qa h) E s4)) E s3) E s2) E s1) E s:=by
 have I1:=_D.Inv.pin1 st.inv (l H st.acn) st.at' (B.cell st.acc);have f:=BX z4 zv o;by_cases L:i<items.length
 .have z1:items.drop i=items[i]::items.drop (i+1):=Gq L
  rw[z1] at run;have run:=UQ run;have zl:nu o' S:=by cases run with|no _ _ _ z=>exact z|yes _ _ _ _ _ _ z=>exact z
  refine kI (T.item Y rfl rfl rfl hc i _ s σ H (λ_ _=>Ex) I1 (f H st.fpn) zy (n.go i H P α S L st.rel zl st.same st.pre)) λr s1 ⟨u,hr,h1⟩=>⟨λz=>(by rw[hr] at z;cases z),λv hv=>?_⟩
  obtain rfl:v=u:=Dm (hv.symm.trans hr);refine kI h1 λ_ s2 ⟨x,H2,I2,rx,y,I,z5⟩=>?_;obtain⟨P2,d,hd,r2,e2,rp⟩:=n.yld i H x H2 P α S L st.rel zl st.same st.pre y;cases (Ap L).symm.trans hd;have pl:=T.obj _ _ I;have z2:=I2.pinned (f _ z5) pl;have two:∀ U c b j,g items[i] ak S=.ok U c->t U c=.ok b j->(∀ s4 O M P4 C (I4:Inv Y (aj++vN fp s2.heap) O M s4),fu B Y aj P1 α1 fp au U j ds s4 O M P4 C o->tn (i+1) s4.heap->(b=false->Qa s4)/\(b=true->Ar (Av Y.prog Y.w) Y.A (zP B.m bu bf am aq k (.ref au) Y.env) (λ_ h=>Qa h) E s4))->Ar (Av Y.prog Y.w) Y.A (assign tg Y.env v) (λ_ s3=>Ar (Av Y.prog Y.w) Y.A (jS cf Y.env) (λb s4=>(b=false->Qa s4)/\(b=true->Ar (Av Y.prog Y.w) Y.A (zP B.m bu bf am aq k (.ref au) Y.env) (λ_ h=>Qa h) E s4)) E s3) E s2:=by
   intro U c b j q1 q2 next;refine kI (hx▸qBe hg z2 r2 (st.env.mono e2 (Bg _)) rx rp q1) λ_ s3 ⟨O,H3,P3,z8,I3,r3,z6,e3,zx⟩=>?_;refine kI (hx▸OY ht I3 r3 z6 q2) λb' s4 ⟨hb,M,P4,C,I4,r4,z0,e4,zh⟩=>?_;have w:Inv Y (aj++vN fp s2.heap) O M s4:=I4.pins_of λp hp=>I4.pin p (Bx _ ((Bp.mp hp).elim (λz=>Cs _ (Cs _ z)) λz=>Bx _ z));have a4:=I4.pin (au,o) (Bx _ (Cs _ (Bx _ (Cz.mpr rfl))));rw[hb];exact next s4 O M P4 C w ⟨w.unpinned,r4,z0,((st.same.trans e2).trans e3).trans e4,(st.pre.trans zx).trans zh,(k9 T I pl w).2,a4.2.1,a4.1,B.mono ((e2.trans e3).trans e4) (zx.trans zh) st.acc⟩ (k9 T I pl w).1
  cases run with
  |no U c j _ q1 q2 run=>exact two U c false j q1 q2 λs4 O M P4 C I4 G zc=>⟨λ_=>hA s4 O M P4 C o U j ds L G zc run,λz=>(by cases z)⟩
  |yes U c j q zz S5 _ q1 q2 q3 run =>
   refine two U c true j q1 q2 λs4 O M P4 C I4 G zc=>⟨λz=>(by cases z),λ_=>?_⟩
   refine kI (he (aj++vN fp s2.heap) P1 α1 au U q j S5 ds zz s4 (λH hn=>W8 (l H hn) zv) ⟨O,M,P4,C,o,I4,G.rel,G.env,G.same,G.pre,λb hb=>(by cases hb),G.acn,G.at',G.acc⟩ q3) λ_ h ⟨z3,H5,P5,z7,o5,A⟩=>?_
   exact hA h z3 H5 P5 z7 o5 q S5 zz L ⟨A.inv.unpinned,A.rel,A.env,A.same,A.pre,(k9 T I pl A.inv).2,A.acn,A.at',A.acc⟩ (k9 T I pl A.inv).1 run
 .rw[Pz li] at run
  obtain⟨z,rfl,rfl,rfl⟩:=F1 run;refine kI (T.done Y rfl rfl rfl hc i _ s σ H (λ_ _=>Ex) I1 (f H st.fpn) zy (n.stop i H P α _ li st.rel z st.same st.pre)) λr s1 ⟨hr,I2⟩=>⟨λ_=>?_,λv hv=>(by rw[hr] at hv;cases hv)⟩
  have a:=_D.Inv.pinned1 I2;exact hD s1 σ H P α o ⟨I2.unpinned,st.rel,st.env,st.same,st.pre,st.fpn,a.2,a.1,st.acc⟩
theorem J8 (P:Bh)(w:Ce)(m:As)(bu:Cc)(bf:Aa Do)(am:Eu)(aq:Ez)(k:Ag)(it au:Ac)(ak:Ko):(Av P w).den (.compLoop (xW m bu bf am aq) k it au ak)=(AbH (xW m bu bf am aq) k it au ak).onRaise (λx=>do noteFrame x ak;theTreesLotGoes x):=by cases m <;> rfl
theorem J9 (A:Bw)(m:As)(bu:Cc)(bf:Aa Do)(am:Eu)(aq:Ez)(k:Ag)(it au:Ac)(ak:Ko):A.under (.compLoop (xW m bu bf am aq) k it au ak)=A:=by cases m <;> rfl
theorem tQ {kk:DK}{R:Result->Ai->Prop}{s:Ai}{σ:_L.St}{H P:Hp}{G:Aa D}{o:Dc}(hc:Y.calm=true)(r:Y.xe=λ_ _=>Ex)(A:bf[k]? = Ab ⟨tg,ay,cf,0⟩)(has:∀ g',bf[k+1]? = Ab g'->g'.is_async=0)
  (T:nk Y.prog Y.w Y.K tg J fp it tn) (y:lc Y.K J P1 α1 o' items) (x:PG Y tg (nr Y g)) (ht:qv Y cf t) (a:PK B Y (λau=>zP B.m bu bf am aq k au Y.env) kk) (I:∀ H:Hp,H au=none->xH Y aj H au) (M:∀ H:Hp,(∀ b∈fp,H b=none)->∀ b∈fp,xH Y aj H b) (q:au ∉ fp)
  (st:fu B Y aj P1 α1 fp au ak S G s σ H P α o) (c:tn 0 s.heap) (run:iq o' g t kk items ak S G=.ok (fx,ul) SF)
  (hR:∀ s' U l z O o',fu B Y aj P1 α1 fp au fx SF ul s' U l z O o'->R (.ok .next) s') :
  Kg (Av Y.prog Y.w) Y.A (.compLoop (xW B.m bu bf am aq) k (.ref it) (.ref au) Y.env) R s:=by
 refine codeAny_loop rfl (S_ B Y aj P1 α1 fp au tn (iq o' g t kk) items (fx,ul) SF) (λn s e=>?_) items.length ⟨0,σ,H,P,α,o,ak,S,G,rfl,Fk _,st,c,run⟩;obtain⟨i,σ,H,P,α,o,ak,S,ds,d,v,st,w,run⟩:=e;subst d;rw[J8,J9];refine wpAny_noted (N8 (m:=B.m) A has (Qa:=λs'=>∃ m,m<items.length-i/\S_ B Y aj P1 α1 fp au tn (iq o' g t kk) items (fx,ul) SF m s') (Qd:=R (.ok .next)) (λ_ h=>⟨rfl,h⟩) (λ_ h=>h) ?_);exact QP hc r T y x ht a I M q v st w run (λs' U l z O f L S' u C j p E=>⟨_,Nat.sub_succ_lt_self _ _ C,i+1,U,l,z,O,f,L,S',u,rfl,C,j,p,E⟩) hR
set_option tactic.hygienic true in
theorem MJ (hx:Y.xe=λ_ _=>Ex)(C:bf[k+1]? = none)(he:PE Y bu (tD Y fe)):PK kz Y (λau=>zP false bu bf am aq k au Y.env) (zN fe):=by
 intro aj P1 α1 au ak f S S' ds h s O ⟨σ,H,P,α,o,st⟩ run;show Ar _ _ (zP false bu bf am aq k (.ref au) Y.env) _ _ s;unfold zP;rw[C];dsimp only[zi];unfold zN at run;cases M:fe ak S with
 |bad=>rw[M] at run;cases run
 |ex c z S'=>rw[M] at run;cases run
 |ok d5 S5 =>
  rw[M,az.bind_ok] at run
  split at run
  .rename_i l
   cases run;have a:=O H st.acn;have I1:=_D.Inv.pin1 st.inv a st.at' (kz.cell st.acc);refine Ad (kI (hx▸EI he I1 st.rel st.env M) λI A ⟨v5,d,x,j,U⟩=>?_);have J:=_D.Inv.pinned1 U.inv;have n:=U.inv.unpinned;obtain⟨w,p⟩:=J;obtain⟨v,n5,vs,ho,L,T,hz⟩:=st.acc;subst ho;have y:vs.length=ds.length:=T.length.symm;have i:=L.length;refine Ad (call_meets Zy ⟨_,w,rfl⟩ Yy (Yd _ _) (Aa8 au v.toArray n5 I (by rw[Bm];rw[<- xQ];lia)) ⟨w,?_⟩)
   have q:=AaL w (·.push I)
   have G:=O d p;have E:∀ b o,b≠au->A.heap.get? b=Ab o->(A.heap.update au (Fc (·.push I))).get? b=Ab o:=λb o u e=>(Dt A.heap _ (Fv u)).trans e
   have r:=n.turned (t':=A.toks) E p G.2.1 G.2.2.2.1 G.2.2.2.2.1 G.2.2.2.2.2;refine An ⟨σ,d,x,j,_,r,U.rel,U.env,st.same.trans U.same,st.pre.trans U.pre,λb u=>(by simp at u),p,q,?_⟩
   refine⟨v++[I],_,vs++[v5],by simp <;> rfl,L.append (.cons U.val .nil),?_,by simp;lia⟩
   exact(qD.mono U.same U.pre _ _ T).append (.cons U.rep .nil)
  .cases run
end
theorem pV {prog:Bh}{w:Ce}{A:Bw}{R:Result->Ai->Prop}{s:Ai}{G:Cc}{Y:Aa Do}{am:Eu}{J:Ez}{k:Ag}{it au:Ac}{ak:Ko}{m:As}(B:Y[k]? = Ab g)(T:g.is_async=0)
  (h0:Kg (Av prog w) A (.compLoop (xW m G Y am J) k it au ak) R s)
  (h:Ar (Av prog w) A (Rz it) (λU s'=>Kg (Av prog w) A (.compLoop (xW m G Y am J) k U au ak) R s') (notedBy (Av prog w) A ak λx s'=>R (.error x) s') s) :
  Kg (Av prog w) A (.compStart (xW m G Y am J) k it au ak) R s:=by
 refine Wi ?_;have E:(Av prog w).den (.compStart (xW m G Y am J) k it au ak)=(compStart (xW m G Y am J) k it au ak).onRaise (λx=>do noteFrame x ak;T0 theWindowsPlace):=by cases m <;> rfl
 have L:A.under (.compStart (xW m G Y am J) k it au ak)=A:=by cases m <;> rfl
 have C:(Ac5 (xW m G Y am J) k it au ak).quiet=true/\∀ U,(Ac5 (xW m G Y am J) k U au ak).quiet=true:=by cases m <;> exact⟨rfl,λ_=>rfl⟩
 rw[E,L];refine wpAny_notedAt ?_;have O:clausesOf (xW m G Y am J)=Y:=by cases m <;> rfl
 have I:(g.is_async != 0)=false:=by rw[T];rfl
 unfold compStart;simp only[O,B,Option.elim,I,Bl,Dq];refine Ad (Jj (wpAny_ite ?_))
 split
 .exact An (And.intro C.1 h0)
 .refine Ad (He ?_)
  exact Ad (Lu (Ad (Ht h (λU s' h'=>An (And.intro (C.2 _) h')) λ_ _ x=>x)))
section
variable {B:Acc}{Y:Cx}{bu tg ay:Cc}{cf:Aa Cc}{bf:Aa Do}{am:Eu}{aq:Ez}{k:Ag}{g:DG}{t:DT}{fi:m_}{kk:DK}
theorem W7 {X:Cx}{aj pl:aa}{b:Af}(f:xH X (aj++pl) H b):xH X aj H b:=by
 obtain⟨J,U,C,G,L,T⟩:=f;refine⟨J,U,C,G,L,λp O=>T p ?_⟩;rcases Bp.mp O with z|z
 .exact Cs _ z
 .exact Bx _ (Cs _ z)
theorem OX (hc:Y.calm=true)(hx:Y.xe=λ_ _=>Ex)(E:bf[k+1]? = Ab ⟨tg,ay,cf,0⟩)(has:∀ g',bf[k+1+1]? = Ab g'->g'.is_async=0)(hi:PI Y tg ay (ml Y fi))(hg:PG Y tg (nr Y g))(ht:qv Y cf t)
  (he:PK B Y (λau=>zP B.m bu bf am aq (k+1) au Y.env) kk) (hs:∀ x,Dx ay Y.env x=pure x):PK B Y (λau=>zP B.m bu bf am aq k au Y.env) (kIn fi g t kk):=by
 intro aj P1 α1 au ak M S S' ds n s L ⟨σ,H,P,α,o,st⟩ run;show Ar _ _ (zP B.m bu bf am aq k (.ref au) Y.env) _ _ s;unfold zP;rw[E];dsimp only;unfold kIn at run;cases q:fi ak S with
 |bad=>rw[q] at run;cases run
 |ex c z S'=>rw[q] at run;cases run
 |ok p S1 =>
  rw[q,az.bind_ok] at run;have fA:=L H st.acn;have I1:=_D.Inv.pin1 st.inv fA st.at' (B.cell st.acc);have A:=hi (aj++[(au,o)]) s σ H (λJ H1=>∃ O U,bi Y.K H1 O U S1/\qE P O/\α<+:U/\lc Y.K J O U p.1 p.2) I1 ⟨P,α,ak,S,st.rel,st.env,by rw[q];exact λJ H' O U r' y w it=>⟨O,U,r',y,w,it⟩⟩
  rw[hx] at A;refine Ad (kI A λv s1 h1=>Ad (Lu ?_));rw[hs];refine Ad (An (Ad (EQ (kI h1 λzb s2 h2=>?_))));obtain⟨it,fp,tn,J,H2,rfl,I2,T,j,l,O,U,r2,y,w,d⟩:=h2;have a2:=_D.Inv.pinned1 I2;have i:au ∉ fp:=λhm=>(l au hm).2.2.2.2.2 (au,o) (Bx _ (Bx _ ba)) rfl
  have C:Kg (Av Y.prog Y.w) Y.A (.compLoop (xW B.m bu bf am aq) (k+1) (.ref it) (.ref au) Y.env) (λr u=>match r with
    |.ok f=>Q0 B Y aj P1 α1 au M S' n u
    |.error _=>Ex) s2:=by
   refine tQ (aj:=aj) (fp:=fp) (P1:=O) (α1:=U) (σ:=σ) (H:=H2) (P:=O) (α:=U) (o:=o) hc hx E has T d hg ht he L (λH hn b I=>?_) i
    ⟨I2.unpinned,r2,st.env.mono y w,qE.refl _,Bg _,λb I=>(l b I).1,a2.2,a2.1,B.mono y w st.acc⟩ j run λu e H' Pf a o' G=>?_
   .obtain⟨_,g1,g2,g3,g4,g5⟩:=W7 (l b I)
    exact⟨hn b I,g1,g2,g3,g4,g5⟩
   .exact⟨e,H',Pf,a,o',G.inv,G.rel,G.env,(st.same.trans y).trans G.same,(st.pre.trans w).trans G.pre,λb I=>(by simp at I),G.acn,G.at',G.acc⟩
  refine Ad (wpAny_runOwn (Nd (pV E rfl C (T.self Y.A 0 _ _ _ j C)) λr u h=>?_));cases r with
  |error x=>exact Aq h
  |ok f=>exact An h
end
noncomputable def wp (m:As)(r:az (qB × Aa D)):az D:=match r with
 |.ok p Y=>if m then .ok (.loc Y.length) (Y++[.lst p.2]) else .ok (.lst p.2) Y
 |_=>.bad
def zC (m:As)(bw:Aa (Am Ag))(fi:m_)(g:DG)(t:DT)(k:DK):DE:=λak S=>(fi ak S).bind λp Y=>wp m (iq p.1 g t k p.2 (xE bw ak) Y [])
section
variable {X:Cx}{bu tg ay:Cc}{cf:Aa Cc}{am:Eu}{aq:Ez}{N':Aa Aw}{bw:Aa (Am Ag)}{fi:m_}{g:DG}{t:DT}{kk:DK}{qC:Aa Do}{mm:As}
theorem WW {P:Hp}{Ok:D->ao->Prop}(h:qI X P α (wp mm r) Ok):∃ fx ds SF,r=.ok (fx,ds) SF/\(if mm then Ok (.loc SF.length) (SF++[.lst ds]) else Ok (.lst ds) SF):=by
 cases r with
 |ok p S =>
  obtain⟨fx,ds⟩:=p;refine⟨fx,ds,S,rfl,?_⟩;cases mm <;> exact h
 |ex c x S=>exact Aq h
 |bad=>exact Aq h
theorem UI {σ:_L.St}{Q:VK}(c:kJ X aj σ P1 Y ds SF au C s)(ok:if mm then jn X P1 Y Q (.loc SF.length) (SF++[.lst ds]) else jn X P1 Y Q (.lst ds) SF):EP X aj σ Q (.ref au) s:=by
 cases mm with
 |false=>exact BU c ok
 |true =>
  obtain⟨j,z,E,vs,I,r,U,A,O,w,_⟩:=c;exact⟨.ref au,_,I,rfl,fG r U w λv H M J B G T L=>ok v H M J B (A.trans G) (O.trans T) L⟩
theorem W3 {M:Pn}{A:Bw}{E:ae}{s:Ai}{J:Af}{Y:Aa (Aw × Af)}{O:Aw}{ak:Ko}{Q:Ko->Ai->Prop}
  (B:Q (newEnv am s.heap.objs.size J (Hz (s.heap.objs.size+1) am.names Y) O none .none (Ab ak) Sd) { s with heap:=AaC (s.heap.push { cls:=.type "dict",data:=.dict #[] }) am.names }) :
  Ar M A (Xt am J Y [] O none .none (Ab ak)) Q E s:=by
 simp only[Xt,Zz,Ds];refine Ad (AaV ?_);refine Ad (wpAny_layCells _ (λC U L=>by cases G:U == Qo <;> simp[G]) _ _ _ _ ?_)
 rw[show ({ s with heap:=s.heap.push { cls:=.type "dict",data:=.dict #[] } } : Ai).heap.objs.size=s.heap.objs.size+1 from Fg ..]
 refine Ad ?_;rw[Pk];exact An (An B)
theorem kE {B:Acc}{o0:Dc}{aj:aa}{σ:_L.St}{q P1:Hp}{α1:ag}{U:Ai}{S1:ao}{items:Aa D}{it:Af}{fp:ag}{tn:Ag->By->Prop}{J:It}{E:ae}{RR:Ac->Af->Result->Ai->Prop}
  (hc:X.calm=true) (S:dj X.env.scope X.N am N' bw) (has:∀ g',(⟨tg,ay,cf,0⟩::qC:Aa Do)[0+1]? = Ab g'->g'.is_async=0)
  (hg:∀ y C f G O,PG (qO X N' am y C f G O) tg (nr (qO X N' am y C f G O) g))
  (ht:∀ y C f G O,qv (qO X N' am y C f G O) cf t) (he:∀ y C f G O,PK B (qO X N' am y C f G O) (λau=>zP B.m bu (⟨tg,ay,cf,0⟩::qC) am aq 0 au (qO X N' am y C f G O).env) kk)
  (a:Inv X aj σ q U) (r:bi X.K q P1 α1 S1) (re:zI X.K P1 α1 σ ak) (T:nk X.prog X.w X.K tg J fp it tn) (i:tn 0 U.heap) (hf:∀ b∈fp,xH X aj q b) (zz:lc X.K J P1 α1 o' items) (run:iq o' g t kk items (xE bw ak) S1 [] = .ok (fx,ds) SF)
  (h0:B.O X.K P1 α1 [] o0) (zy:o0.isFreed=false) (z0:∀ au C s',U.heap.objs.size<=au->(∃ m,s'.heap.Ns C m)->U.heap.objs.size<=C->au≠C->(∃ y zs H' P' zv o',fu B (qO X N' am y C fp U q) [] P1 α1 fp au fx SF ds s' zs H' P' zv o')->RR (.ref au) C (.ok .next) s') :
  b6 X (Xt am X.env.globals (vF X.env.cells am.names []) [] X.env.qual none .none (Ab X.env)) (λd zb =>
   Kg (Av X.prog X.w) X.A (.compStart (xW B.m bu (⟨tg,ay,cf,0⟩::qC) am aq) 0 (.ref it) (.ref U.heap.objs.size) { d with scope:=relabel am X.env }) (RR (.ref U.heap.objs.size) d.locals) zb) E { U with heap:=U.heap.push o0 }:=by
 have u:∀ b∈fp,b<U.heap.objs.size:=λb w=>by
  obtain⟨o,e,_⟩:=T.obj 0 _ i b w;exact Bf e
 refine W3 ?_;dsimp only;generalize s:U.heap.push o0=L;have zc:L.objs.size=U.heap.objs.size+1:=by rw[<- s,Fg]
 have hC:U.heap.objs.size<=L.objs.size:=by rw[zc];exact Tk _
 have zl:U.heap.objs.size≠L.objs.size:=by rw[zc];exact Cu (Ji _)
 have kp:∀ b o,L.get? b=Ab o->(AaC (L.push { cls:=.type "dict",data:=.dict #[] }) am.names).get? b=Ab o:=λb o e=>pushCells_keeps _ _ b o (Ak _ e);have A:(AaC (L.push { cls:=.type "dict",data:=.dict #[] }) am.names).Ns L.objs.size (λ_=>none):=(Heap.Ns.new L (.type "dict")).keeps (pushCells_keeps _ _);have co:=cellsFrom_ok am.names (L.push { cls:=.type "dict",data:=.dict #[] }) (L.objs.size+1) [] ⟨λ_ _ j=>(nomatch j),Mr⟩ (by rw[Fg];exact Ax _)
 rw[Fg] at co;generalize z1:AaC (L.push { cls:=.type "dict",data:=.dict #[] }) am.names=I at kp A co ⊢;have M:∀ b o,U.heap.get? b=Ab o->I.get? b=Ab o:=λb o e=>kp b o (s▸Ak _ e);have zx:I.get? U.heap.objs.size=Ab o0:=kp _ _ (s▸Bi _ zy);have I4:∀ n,Inv (qO X N' am (gG X am L.objs.size) L.objs.size fp U q) [] (vT bw σ) q { U with heap:=I,toks:=n }:=λn =>
  VX (s4:={ U with heap:=I,toks:=n }) S a hf u hC A rfl rfl M co
 have l:∀ n,Kg (Av X.prog X.w) X.A (.compLoop (xW B.m bu (⟨tg,ay,cf,0⟩::qC) am aq) 0 (.ref it) (.ref U.heap.objs.size) (compEnvC am (gG X am L.objs.size) L.objs.size X.env)) (RR (.ref U.heap.objs.size) L.objs.size) { U with heap:=I,toks:=n }:=λn=>by
  refine tQ (B:=B) (kk:=kk) (o':=o') (Y:=qO X N' am (gG X am L.objs.size) L.objs.size fp U q) (aj:=[]) (fp:=fp) (au:=U.heap.objs.size) (P1:=P1) (α1:=α1) (σ:=vT bw σ) (H:=q) (P:=P1) (α:=α1) (o:=o0) hc rfl rfl has T zz
   (hg _ _ _ _ _) (ht _ _ _ _ _) (he _ _ _ _ _) (λH hn=>?_) (λH hn b w=>?_) (λj=>Ey _ (u _ j)) ⟨I4 n,r,YO re bw,qE.refl _,Bg _,λb w=>(hf b w).1,a.hok.fresh (Ax _),zx,h0⟩ (T.keep _ _ _ i λb w o e=>M b o e) run λs' zs H' P' zv o' st=>?_
  .refine⟨hn,zl,λj=>?_,.inr (Ax _),λx c h z=>?_,λp hp=>absurd (show p∈([]:aa) from hp) ba⟩
   .obtain⟨_,o,ho,_⟩:=a.stack.mem j
    exact Ey _ (Bf ho)
   .rcases xR S a.ok h with⟨m,_⟩|⟨m,_⟩
    .exact Ey _ (Lm hC (z▸(co.empty x c m).2))
    .obtain⟨v,ob,zh,_⟩:=a.cell x c m
     rw[z] at zh;exact Ey _ (Bf zh)
  .obtain⟨_,h1,h2,h3,h4,h5⟩:=hf b w
   refine⟨hn b w,Cu (Bk (u b w) hC),λj=>?_,.inl w,λx c h=>(by
    rcases xR S a.ok h with⟨m,_⟩|⟨m,_⟩
    .exact Fv (Cu (Hx (Bk (u b w) hC) (co.empty x c m).2))
    .exact h4 x c m),λp hp=>absurd (show p∈([]:aa) from hp) ba⟩
   rcases Az.mp (a.stkSub b j) with z|z
   .exact h1 z
   .exact h2 z
  .obtain⟨m,j,_⟩:=st.inv.loc
   exact z0 _ _ s' (Ax _) ⟨m,j⟩ hC zl ⟨_,_,_,_,_,_,st⟩
 exact pV (k:=0) rfl rfl (l _) (T.self X.A 0 _ _ _ (T.keep _ _ _ i λb w o e=>M b o e) (l _))
theorem U6 (hc:X.calm=true)(S:dj X.env.scope X.N am N' bw)(hi:PI X tg ay (ml X fi))
  (hg:∀ L C ex Y U,PG (qO X N' am L C ex Y U) tg (nr (qO X N' am L C ex Y U) g))
  (ht:∀ L C ex Y U,qv (qO X N' am L C ex Y U) cf t) (has:∀ g',(⟨tg,ay,cf,0⟩::qC:Aa Do)[0+1]? = Ab g'->g'.is_async=0) (he:∀ L C ex Y U,PK kz (qO X N' am L C ex Y U) (λau=>zP false bu (⟨tg,ay,cf,0⟩::qC) am aq 0 au (qO X N' am L C ex Y U).env) kk)
  (hs:∀ x,Dx ay X.env x=pure x:=by intro _;rfl):PE X (.ListComp bu (⟨tg,ay,cf,0⟩::qC) am aq) (tD X (zC mm bw fi g t kk)):=by
 intro a s σ H Q I h;obtain⟨P,α,ak,S0,r,re,af⟩:=h;rw[eval_ListComp];have O:qI X P α ((fi ak S0).bind λp E=>wp mm (iq p.1 g t kk p.2 (xE bw ak) E [])) (jn X P α Q):=af;refine Oq (use:=none) rfl hs (lF S I.ok) S.kind S.names ?_;refine bn (hi a s σ H (λJ H1=>∃ (M:Hp) (G:ag) (p:Am (Ag × MO) × Aa _D.D) (E:ao),bi X.K H1 M G E/\qE P M/\α<+:G/\lc X.K J M G p.1 p.2/\qI X P α (wp mm (iq p.1 g t kk p.2 (xE bw ak) E [])) (jn X P α Q)) I ⟨P,α,ak,S0,r,re,?_⟩) λxv s1 h1=>bn h1 λzh s2 h2=>?_
 .cases q:fi ak S0 with
  |bad=>rw[q] at O;exact O
  |ex c x S'=>rw[q] at O;exact O
  |ok p E=>rw[q] at O;exact λJ H1 M G r1 z w it=>⟨M,G,p,E,r1,z,w,it,O⟩
 obtain⟨it,fp,tn,J,H2,rfl,I2,T,b,hf,M,G,p,E,r1,z,w,o,u⟩:=h2;obtain⟨fx,ds,SF,run,ok⟩:=WW u;refine Dw (kE (B:=kz) (o0:={ cls:=.type "list",dict:=none,data:=.seq ([] : Aa Ac).toArray }) (RR:=λau C=>compPost (Av X.prog X.w) X.A X.xe none (EP X a σ Q) au C) hc S has hg ht he I2 r1 (re.mono z w) T b hf o run ⟨[],0,[],rfl,.nil,.nil,Fk _⟩ rfl ?_);intro au C s' hA ⟨m,hm⟩ hC f ⟨L,zb,Hf,Pf,zc,of,k⟩;have e:∀ h',Gg C s'.heap h'->kJ X a σ M G ds SF au C { s' with heap:=h' }:=λh' l=>eM I2 hf rfl hC hA f k l
 refine⟨m,hm,λh' l=>UI (mm:=mm) (e h' l) ?_⟩;cases mm with
 |false=>exact λv j P3 A y i n d=>ok v j P3 A y (z.trans i) (w.trans n) d
 |true=>exact λv j P3 A y i n d=>ok v j P3 A y (z.trans i) (w.trans n) d
theorem UD {i:Ag}{y:Aw}{py j:Ez}(hc:X.calm=true)(hN:X.N.Nodup)(S:dj X.env.scope X.N am N' bw)(hi:PI X tg ay (ml X fi))
  (hg:∀ M C ex Y U,PG (qO X N' am M C ex Y U) tg (nr (qO X N' am M C ex Y U) g))
  (ht:∀ M C ex Y U,qv (qO X N' am M C ex Y U) cf t) (has:∀ g',(⟨tg,ay,cf,0⟩::qC:Aa Do)[0+1]? = Ab g'->g'.is_async=0) (he:∀ M C ex Y U,PK kz (qO X N' am M C ex Y U) (λau=>zP false bu (⟨tg,ay,cf,0⟩::qC) am aq 0 au (qO X N' am M C ex Y U).env) kk)
  (hy:X.N[i]? = Ab y:=by rfl) (zs:Loc X.env.scope y:=by first|exact AaN rfl|exact Zr rfl) (hf:X.fn y=true\/X.env.scope.names.lookup y=Ab .local:=by first|exact .inl rfl|exact .inr rfl|assumption)
  (hsw:Po (.ListComp bu (⟨tg,ay,cf,0⟩::qC) am aq) (Ab (.Name y py)) j.line X.env=pure true:=by rfl)
  (hs:∀ x,Dx ay X.env x=pure x:=by intro _;rfl):PS X (.Assign [.Name y py] (.ListComp bu (⟨tg,ay,cf,0⟩::qC) am aq) j) (ji X (qQ (zC mm bw fi g t kk) (bj i))):=by
 intro aj s σ H D I h;obtain⟨P,α,ak,S0,r,re,af⟩:=h;have zy:=xI af;have O:qI X P α ((fi ak S0).bind λp k=>wp mm (iq p.1 g t kk p.2 (xE bw ak) k [])) (λd S=>qY X P α (.nx (ak.set i (Ab d)) S) D):=zy;rw[exec_Assign_Name_used _ _ _ _ hsw];refine Ad (Lu (Ad ?_));show Ar _ X.A (do let _ <- comprehension (.ListComp bu (⟨tg,ay,cf,0⟩::qC) am aq) am X.env _ (newList []) false (eval ay X.env) (Ab (assign (.Name y py) X.env))) _ _ s
 refine Ad (Ht (Oq (use:=Ab (assign (.Name y py) X.env)) (Q:=λ_ E=>SP X aj D .next E) rfl hs (lF S I.ok) S.kind S.names ?_) (λ_ E hq=>An (An hq)) λ_ _ e=>e);refine bn (hi aj s σ H (λJ H1=>∃ (u:Hp) (G:ag) (p:Am (Ag × MO) × Aa _D.D) (k:ao),bi X.K H1 u G k/\qE P u/\α<+:G/\lc X.K J u G p.1 p.2/\qI X P α (wp mm (iq p.1 g t kk p.2 (xE bw ak) k [])) (λd S=>qY X P α (.nx (ak.set i (Ab d)) S) D)) I ⟨P,α,ak,S0,r,re,?_⟩) λxv s1 h1=>bn h1 λz5 s2 h2=>?_
 .cases q:fi ak S0 with
  |bad=>rw[q] at O;exact O
  |ex c x S'=>rw[q] at O;exact O
  |ok p k=>rw[q] at O;exact λJ H1 u G r1 v l it=>⟨u,G,p,k,r1,v,l,it,O⟩
 obtain⟨it,fp,tn,J,H2,rfl,I2,T,z1,zc,u,G,p,k,r1,v,l,zx,zv⟩:=h2;obtain⟨fx,ds,SF,run,ok⟩:=WW zv;refine Dw (kE (B:=kz) (o0:={ cls:=.type "list",dict:=none,data:=.seq ([] : Aa Ac).toArray }) (RR:=λau C=>compPost (Av X.prog X.w) X.A X.xe (Ab (assign (.Name y py) X.env)) (λ_ E=>SP X aj D .next E) au C) hc S has hg ht he I2 r1 (re.mono v l) T z1 zc zx run ⟨[],0,[],rfl,.nil,.nil,Fk _⟩ rfl ?_);intro au C E hA ⟨m,hm⟩ hC n ⟨M,z3,Hf,Pf,z4,of,zl⟩;have zz:∀ h',Gg C E.heap h'->kJ X aj σ u G ds SF au C { E with heap:=h' }:=λh' sb=>eM I2 zc rfl hC hA n zl sb
 show Ar _ X.A (assign (.Name y py) X.env (.ref au)) _ _ E;obtain⟨H3,P3,A,vs,I3,r3,zb,q1,q2,rp,zh⟩:=zz E.heap (AaD _ _);obtain⟨r4,e4⟩:=r3.pure (o:=.lst vs) zb;have w:(c_ H3 au (.lst vs)) C=none:=by rw[qR (Fv n)];exact zh
 have f:=I2.fpOk hC w;refine wpAny_assign_Name (sX I3 hN hy zs (show qF (V.ref au) (De au) from rfl) (λs5 I5 ⟨a,sb,ha⟩=>?_) hf)
 have z2:C≠a:=by
  rcases ha with rfl|ha
  .exact f.2.1
  .exact λz=>f.2.2.2.2.1 _ _ ha z.symm
 refine⟨m,hm.sameBut sb z2,λh' z0=>?_⟩;have I6:Inv X aj (σ.set i (Ab (V.ref au))) (c_ H3 au (.lst vs)) { s5 with heap:=h' }:=I5.turned (t':=s5.toks) (λb o hb e=>(z0.2 b hb).trans e) w f.2.1 f.2.2.2.1 f.2.2.2.2.1 f.2.2.2.2.2
 cases mm with
 |false =>
  refine⟨_,_,I6,ok _ _ (c_ P3 au (.lst vs)) A r4 ?_ ((v.trans q1).trans e4) (l.trans q2)⟩;exact((re.mono v l).mono (q1.trans e4) q2).set i (gB (.inl (.inl zE)) (qD.mono e4 (Bg _) _ _ rp))
 |true =>
  have L:A<+:A++[au]:=Et _ _;have r5:=r3.new (o:=.lst vs) (m:=.lst ds) zb ⟨vs,zE,qD.mono (qE.refl _) L _ _ rp⟩;refine⟨_,_,I6,ok _ _ P3 (A++[au]) r5 ?_ (v.trans q1) ((l.trans q2).trans L)⟩;refine((re.mono v l).mono q1 (q2.trans L)).set i ?_;simp only[av];exact⟨au,rfl,by rw[<- r3.len];simp⟩
end
section
variable {X:Cx}
theorem Sq.obj {σ:_L.St}{a:Af}{xs:Aa V}(I:Inv X aj σ H s)(q:Sq tp X.K H a xs):∃ ap:Aa Ac,qJ xs ap/\∃ n G sl,s.heap.get? a=Ab { cls:=.type (if tp then "tuple" else "list"),dict:=G,data:=.seq ap.toArray n,slots:=sl }:=by
 obtain⟨ap,O,h⟩:=q.at I;refine⟨ap,O,?_⟩;cases tp with
 |true =>
  obtain⟨o,U,J,n,Y⟩:=h;obtain⟨c,d,dt,sl⟩:=o;dsimp only at J Y;subst J;subst Y;exact⟨n,_,_,U⟩
 |false =>
  obtain⟨o,U,J,n,Y⟩:=h;obtain⟨c,d,dt,sl⟩:=o;dsimp only at J Y;subst J;subst Y;exact⟨n,_,_,U⟩
end
section
def qB3:D->Aa D->ao->az D:=λa ds S=>match a,ds with
 |.loc n,[i,x]=>match S[n]? with
  |some (.dct Y)=>match yZ i with
   |some k=>match xK Y k with
    |some d=>.ok d S
    |none=>if Y.length<br then .ok x (S.set n (.dct (vO Y k x))) else .bad
   |none=>.bad
  |_=>.bad
 |_,_=>.bad
theorem fW (a b c:Ac):AaW "dict.setdefault" ⟨[a,b,c],[]⟩:=by unfold AaW;kernel_rfl
noncomputable def wR:Aa D->Am (Aa Ah)
 |[]=>Ab []
 |.int i::r=>(wR r).map (i::·)
 |_::_=>none
theorem b8 (Y:Aa Ah):wR (Y.map D.int)=Ab Y:=by
 induction Y with
 |nil=>rfl
 |cons n r J=>exact congrArg (Option.map (n::·)) J
theorem jH:∀ {ds:Aa D} {Y:Aa Ah},wR ds=Ab Y->ds=Y.map D.int
 |[],Y,h=>by cases h;rfl
 |d::r,Y,h=>by
  cases d with
  |int i =>
   obtain⟨m,J,rfl⟩:=Fx.mp (show (wR r).map (i::·)=Ab Y from h)
   rw[jH J];rfl
  |_=>exact nn h
theorem yE {K:Aj}{P:Hp}:∀ {Y:Aa Ah} {vs:Aa V},qD K P α (Y.map D.int) vs->vs=Y.map V.int
 |[],vs,r=>by rw[r.nil_inv];rfl
 |n::Y,vs,r=>by
  obtain⟨w,J,rfl,p,t⟩:=r.cons_inv;simp only[av] at p;rw[p,yE t];rfl
def lP:G2:=λa b S=>match a,b with
 |.tup xs,.tup ys=>match wR xs,wR ys with
  |some J,Ab Y=>.ok (.bl (_H.lexLt J Y)) S
  |_,_=>.bad
 |_,_=>mi a b S
end
section
variable {X:Cx}
theorem aK {σ:_L.St}{H P:Hp}{xs:Aa D}(I:Inv X aj σ H s)(r:bi X.K H P α S)(O:qF v U)(p:av X.K P α (.tup xs) v)(h:wR xs=Ab J) :
  ∃ a ap,U=.ref a/\Vh s.heap a (List.toArray ap)/\Lx ap J:=by
 have:=jH h;subst this;obtain⟨a,vs,ap,rfl,B,C,Y,G,L,_⟩:=vU I r p;have:=yE C;subst this;exact⟨a,ap,O,G,by simpa using tZ Y⟩
set_option tactic.hygienic true in
theorem E0 (L:X.A.units<Ed):gj X (Df .Lt) lP:=by
 intro z σ H s P α S v u E uu a b Q I r U G O C Y;unfold lP at Y
 split at Y
 .rename_i xs ys
  split at Y
  .rename_i j y T B
   obtain⟨a,k,rfl,w,A⟩:=aK I r U O T;obtain⟨b,J,rfl,M,i2⟩:=aK I r G C B;exact _H.oz w M (by simpa using A) (by simpa using i2) L ⟨.bl _,H,I,rfl,xr Y r (by simp only[av])⟩
  .exact Aq Y
 .exact PH z σ H s P α S v u E uu a b Q I r U G O C Y
end
def qCI (f:DE):DI:=λak S=>(f ak S).bind λd J=>match d with
 |.loc n=>match J[n]? with
  |some (.dct Y)=>.ok (Y.map (·.2)) (J.set n .dead)
  |_=>.bad
 |_=>.bad
section
theorem CV {n:Ag}(h:S[n]? = Ab (.dct kvs)):ng (.loc n) S=Ab "dict":=by
 show (match S[n]? with|some (.lst _)=>Ab "list" | some (.dct _)=>Ab "dict" | _=>none)=_
 rw[h]
end
section
theorem VM:Gf "set" = Ab (.type "set"):=by decide +kernel
end
structure uv (X:Cx)(tg it:Cc)(f:m_):Prop where
 get:PI X tg it (ml X f)
structure QK (B:Acc)(Y:Cx)(step:Ac->Kv Vx)(k:DK):Prop where
 get:PK B Y step k
section
variable {B:Acc}{X Y:Cx}{tg it e bu ay:Cc}{cf:Aa Cc}{fa fe:DE}{fI:DI}{f2:m_}{g:DG}{t:DT}{kk:DK}{aq:Ez}{k:Ag}{x:Aw}{cm:As}{f:DS}{bf dn:Aa Do}{am:Eu}{N':Aa Aw}{bw:Aa (Am Ag)}{mm:As}
theorem HP (h:QI X tg it fI):uv X tg it (xM fI):=⟨BI h.1⟩
theorem HN (h:QE X e fa):uv X tg e (j_ fa):=⟨I8 h.1⟩
theorem TB (hp:oj X)(U:X.calm=true)(hi:uv X tg ay f2)(G:QG X tg g)(J:QB X cw f)(hs:∀ x,Dx ay X.env x=pure x:=by intro _;rfl):QS X (.For tg ay cw [] aq) (nY f2 g f):=⟨BN hp.1 U hi.1 G.1 J.1 hs⟩
theorem T4 (U:Y.xe=λ_ _=>Ex)(J:bf[k+1]? = none)(G:QE Y bu fe):QK kz Y (λau=>zP false bu bf am aq k au Y.env) (zN fe):=⟨MJ U J G.1⟩
theorem qAF (G:Y.calm=true)(U:Y.xe=λ_ _=>Ex)(J:bf[k+1]? = Ab ⟨tg,ay,cf,0⟩)(has:∀ g',bf[k+1+1]? = Ab g'->g'.is_async=0)(hi:uv Y tg ay f2)(L:QG Y tg g)(O:ut Y cf t)(C:QK B Y (λau=>zP B.m bu bf am aq (k+1) au Y.env) kk)(hs:∀ x,Dx ay Y.env x=pure x) :
  QK B Y (λau=>zP B.m bu bf am aq k au Y.env) (kIn f2 g t kk):=⟨OX G U J has hi.1 L.1 O.1 C.1 hs⟩
theorem JY (T:X.calm=true)(S:dj X.env.scope X.N am N' bw)(hi:uv X tg ay f2)(L:∀ O C G U J,QG (qO X N' am O C G U J) tg g)(E:∀ O C G U J,ut (qO X N' am O C G U J) cf t)
  (has:∀ g',(⟨tg,ay,cf,0⟩::dn:Aa Do)[0+1]? = Ab g'->g'.is_async=0)
  (I:∀ O C G U J,QK kz (qO X N' am O C G U J) (λau=>zP false bu (⟨tg,ay,cf,0⟩::dn) am aq 0 au (qO X N' am O C G U J).env) kk) (hs:∀ x,Dx ay X.env x=pure x) :
  QE X (.ListComp bu (⟨tg,ay,cf,0⟩::dn) am aq) (zC mm bw f2 g t kk):=
 ⟨U6 T S hi.1 (λO C G s H=>(L O C G s H).1) (λO C G s H=>(E O C G s H).1) has (λO C G s H=>(I O C G s H).1) hs⟩
theorem K4 {y:Aw}{L:Ez}(z:X.calm=true)(w:X.N.Nodup)(S:dj X.env.scope X.N am N' bw)(hi:uv X tg ay f2)(A:∀ O C G U J,QG (qO X N' am O C G U J) tg g)(j:∀ O C G U J,ut (qO X N' am O C G U J) cf t)
  (has:∀ g',(⟨tg,ay,cf,0⟩::dn:Aa Do)[0+1]? = Ab g'->g'.is_async=0)
  (I:∀ O C G U J,QK kz (qO X N' am O C G U J) (λau=>zP false bu (⟨tg,ay,cf,0⟩::dn) am aq 0 au (qO X N' am O C G U J).env) kk) (M:X.N[m]? = Ab y) (T:Loc X.env.scope y) (E:X.fn y=true\/X.env.scope.names.lookup y=Ab .local)
  (hsw:Po (.ListComp bu (⟨tg,ay,cf,0⟩::dn) am aq) (Ab (.Name y py)) L.line X.env=pure true) (hs:∀ x,Dx ay X.env x=pure x):QS X (.Assign [.Name y py] (.ListComp bu (⟨tg,ay,cf,0⟩::dn) am aq) L) (qQ (zC mm bw f2 g t kk) (bj m)):=
 ⟨UD z w S hi.1 (λO C G s H=>(A O C G s H).1) (λO C G s H=>(j O C G s H).1) has (λO C G s H=>(I O C G s H).1) M T E hsw hs⟩
theorem qAu (J:be cm k X.A):jj X (Df .Lt) lP:=⟨E0 (by have:=vy J;fin2)⟩
end
def y7 (H:Hp):Aa (Af × HO)->Hp
 |[]=>H
 |p::Y=>y7 (c_ H p.1 p.2) Y
theorem fT {b:Af}:∀ {L:Aa (Af × HO)} {H:Hp},b ∉ L.map (·.1)->y7 H L b=H b
 |[],_,_=>rfl
 |p::Y,H,h=>by
  simp only[Cg,Az,not_or] at h;show y7 (c_ H p.1 p.2) Y b=H b;rw[fT h.2,qR h.1]
theorem tH {a:Af}{o:HO}:∀ {L:Aa (Af × HO)} {H:Hp},(L.map (·.1)).Nodup->(a,o)∈L->y7 H L a=Ab o
 |p::J,H,Y,h=>by
  simp only[Cg,Ea] at Y;show y7 (c_ H p.1 p.2) J a=Ab o;rcases Az.mp h with rfl|h
  .rw[fT Y.1,zE]
  .exact tH Y.2 h
theorem aP {b:Af}:∀ {L:Aa (Af × HO)} {H:Hp},y7 H L b=Ab u->(b,u)∈L\/H b=Ab u
 |[],_,h=>.inr h
 |p::J,H,h=>by
  rcases aP (L:=J) (H:=c_ H p.1 p.2) h with h|h
  .exact .inl (AT _ h)
  .by_cases Y:b=p.1
   .subst Y
    rw[zE] at h;cases h;exact .inl (Cf ..)
   .rw[qR Y] at h
    exact .inr h
section
variable {K:Aj}
theorem bi.pureL:∀ {L:Aa (Af × HO)} {H P:Hp},(∀ p∈L,H p.1=none)->(L.map (·.1)).Nodup->bi K H P α S->bi K (y7 H L) (y7 P L) α S/\qE P (y7 P L)
 |[],_,_,_,_,r=>⟨r,qE.refl _⟩
 |p::B,H,P,J,Y,r=>by
  simp only[Cg,Ea] at Y;obtain⟨T,C⟩:=r.pure (o:=p.2) (J p (Cf ..));obtain⟨O,G⟩:=bi.pureL (L:=B) (λq U=>by
   have:q.1≠p.1:=λe=>Y.1 (e▸Au.mpr ⟨q,U,rfl⟩);rw[qR this];exact J q (AT _ U)) Y.2 T
  exact⟨O,C.trans G⟩
end
section
variable {X:Cx}{aj:aa}{σ: _L.St}{H:Hp}{s:Ai}
theorem Inv.laidL {L:Aa (Af × HO)}{t':Ag}(I:Inv X aj σ H s)(k:∀ b u,s.heap.get? b=Ab u->h'.get? b=Ab u)(hp:∀ p∈L,s.heap.objs.size<=p.1)(O:∀ p∈L,zK X.prog X.w (y7 H L) h' p.1 p.2) :
  Inv X aj σ (y7 H L) { s with heap:=h',toks:=t' }:=by
 have Y:∀ b u,H b=Ab u->y7 H L b=Ab u:=λb u e=>by
  rw[fT (L:=L)]
  .exact e
  .intro hb
   obtain⟨p,J,rfl⟩:=Au.mp hb;rw[I.hok.fresh (hp p J)] at e;cases e
 have G:∀ b,b<s.heap.objs.size->y7 H L b=H b:=λb hb=>fT λU=>by
  obtain⟨p,J,rfl⟩:=Au.mp U;exact absurd (Bk hb (hp p J)) (Ey _)
 refine I.un ⟨λb u q _ _ _=>k b u q,λb u q _ _ _=>⟨u.slots,k b u q⟩,λb u q n _=>by rw[G b (Bf q)];exact n,λb u q _=>⟨u,k b u q⟩,λb xs q=>Y b _ q,λb o xs q=>Y b _ q,λb C q=>⟨#[],by rw[Y b _ q];simp⟩⟩ λb u e=>?_
 rcases aP e with U|hb
 .exact O (b,u) U
 .exact(I.hok b u hb).stay (λc v _ q=>k c v q) (λc q=>Y c _ q) λc xs q=>Y c _ q
end
def kD:bq->D
 |.inl i=>.int i
 |.inr x=>.str x
theorem SV {K:Aj}{P:Hp}(k:bq):av K P α (kD k) (kV k):=by
 cases k <;> simp only[kD,kV,av]
theorem IS {k:bq}(h:gT k u=true):qF (kV k) u:=by
 rcases xC h with⟨i,t,rfl,rfl⟩|⟨x,t,rfl,rfl⟩
 .exact⟨t,rfl⟩
 .exact⟨t,rfl⟩
def kT (f:DE):DE:=λak S=>(f ak S).bind λd J=>match d with
 |.loc n=>match J[n]? with
  |some (.dct Y)=>.ok (.lst (Y.map λp=>.tup [kD p.1,p.2])) J
  |_=>.bad
 |_=>.bad
theorem dS:Gf "list" = Ab (.type "list"):=by decide +kernel
def aH (as:ag)(vs:Aa (bq × V)):Aa (Af × HO):=List.zipWith (λa p=>(a,HO.tup [kV p.1,p.2])) as vs
theorem aI:∀ (as:ag) (vs:Aa (bq × V)),as.length=vs.length->(aH as vs).map (·.1)=as
 |[],vs,h=>rfl
 |a::as,vs,h=>by
  cases vs with
  |nil=>exact Nat.noConfusion h
  |cons v vs=>exact congrArg (a::·) (aI as vs (Nat.succ.inj h))
theorem aJ:∀ {as:ag} {vs:Aa (bq × V)} {p:Af × HO},p∈aH as vs->∃ (j:Ag) (q:bq × V),as[j]? = Ab p.1/\vs[j]? = Ab q/\p.2=HO.tup [kV q.1,q.2]
 |a::as,v::vs,p,h=>by
  rcases Az.mp (show p∈(a,HO.tup [kV v.1,v.2])::aH as vs from h) with rfl|h
  .exact⟨0,v,rfl,rfl,rfl⟩
  .obtain⟨j,q,U,Y,J⟩:=aJ h
   exact⟨j+1,q,by simpa using U,by simpa using Y,J⟩
theorem sZ {K:Aj}{P:Hp}:∀ {as:ag} {kvs:Aa (bq × D)} {vs:Aa (bq × V)},ol K P α kvs vs->as.length=vs.length->(∀ p∈aH as vs,P p.1=Ab p.2)->qD K P α (kvs.map λp=>D.tup [kD p.1,p.2]) (as.map V.ref)
 |[],[],_,.nil,_,_=>.nil
 |a::as,_,_,.cons (a:=x) (b:=y) (l₁:=xs) (l₂:=ys) z t,Y,h=>by
  refine .cons ?_ (sZ t (by simpa using Y) λp U=>h p (AT _ U))
  have J:=h (a,HO.tup [kV y.1,y.2]) (Cf ..);simp only[av];refine⟨a,[kV y.1,y.2],rfl,.inl (.inl J),.cons ?_ (.cons z.2 .nil)⟩;rw[z.1];exact SV _
 |[],_::_,_,.cons _ _,Y,_=>by simp at Y
theorem WL {κ:Type}:∀ {vs:Aa (κ × V)} {us:Aa (κ × Ac)},KV vs us->∀ {j:Ag} {q:κ × V},vs[j]? = Ab q->∃ u,us[j]? = Ab (q.1,u)/\qF q.2 u
 |_,_,.nil,j,q,h=>by simp at h
 |_,_,.cons (a:=x) (b:=y) z t,j,q,h=>by
  cases j with
  |zero =>
   simp at h;subst h;exact⟨y.2,by simp;exact Hj z.1.symm rfl,z.2⟩
  |succ j =>
   obtain⟨u,J,Y⟩:=WL t (j:=j) (q:=q) (by simpa using h)
   exact⟨u,by simpa using J,Y⟩
theorem V5 (as:ag):qJ (as.map V.ref) (as.map De):=by
 induction as with
 |nil=>exact .nil
 |cons a as Y=>exact .cons rfl Y
section
variable {X:Cx}{o:Cc}{fo:DE}{cq ci aq p2:Ez}
set_option tactic.hygienic true in
theorem XZ (hc:X.calm=true)(hg:Gl X "list")(hm:X.mg "list" = none)(ho:PE X o (tD X fo))(A:Ia o "items" X.env (eval o X.env)=eval o X.env:=by rfl)(B:(cq.endLine == ci.line)=true:=by rfl)
  (he:Bu [.Call (.Attribute o "items" cq) [] [] ci] X.env=(false,eval (.Call (.Attribute o "items" cq) [] [] ci) X.env)::Bu [] X.env:=by rfl) :
  PE X (.Call (.Name "list" p2) [.Call (.Attribute o "items" cq) [] [] ci] [] aq) (tD X (kT fo)):=by
 intro aj s σ H Q I h;obtain⟨P,α,ak,S,r,re,af⟩:=h;refine Call_ (yT I hg hm dS (Gd ?_ he rfl));rw[he];refine Jn (Pc A B (bn (zT ho I r re af) λvv G ⟨v,H1,P1,zh,d,S1,C,Y⟩=>?_));cases d with
 |loc n =>
  simp only at Y
  split at Y
  .rename_i kvs hS
   have rp:=C.rep;have i:=C.inv;have r1:=C.rel;have ht:ng (.loc n) S1=Ab "dict":=CV hS;obtain⟨h1,h2⟩:=aL i C.val (aM r1 rp ht ba)
   simp only[av] at rp;obtain⟨a,rfl,ha⟩:=rp;cases (show vv=De a from C.val)
   obtain⟨vs,z,t⟩:=r1.at' n a _ ha hS;obtain⟨hz,hd,us,T,dd⟩:=GM i.hok z;refine⟨"dict","dict.items",IN,Vm,PySem.F.type_dict_items,h1,h2,Jh rfl (Sf ?_)⟩;refine Sa Vm dd.typeIs PySem.F.entry_dict_items (PySem.F.args_dict_items_1 _) (meets_dict_items (x9 X.prog X.w) a hd) ⟨⟨us,dd⟩,?_⟩;obtain⟨ep,oa,es,zs,qC⟩:=dd.dictAt;refine Ke ?_;have zx:us.length<=sizeLine:=by rw[<- T.length];exact hz
   refine PySem.W.kdx_call (s:={ G with heap:=G.heap.push { cls:=.type "dict_items",data:=.fields #[.ref a] } }) (knd:=x9 X.prog X.w) (d:=a) (kvs:=us) (ep:=ep) (i.ok.hd hc) ⟨_,Bi _ rfl,rfl,rfl⟩ ⟨oa,es,Ak _ zs,qC⟩ zx λh' tk au c J hk hL M g l=>?_
   have I2:=i.kept (t':=G.toks) (h':=G.heap.push { cls:=.type "dict_items",data:=.fields #[.ref a] }) λb u e=>Ak _ e;have E:J.length=vs.length:=by rw[M,T.length]
   let U:Af:=(G.heap.push { cls:=.type "dict_items",data:=.fields #[.ref a] }).objs.size
   let L:Aa (Af × HO):=aH J vs++[(U,HO.lst (J.map V.ref))]
   have O:L.map (·.1)=J++[U]:=by simp[L,aI J vs E]
   have nd:(L.map (·.1)).Nodup:=by
    rw[O,Ho];refine⟨g.rise.imp λzb=>Cu zb,by simp,λx hx y hy e=>?_⟩
    have zl:y=U:=by simpa using hy
    rw[e,zl] at hx;exact absurd (g.above U hx) (Ey _)
   have w:∀ p∈L,(G.heap.push { cls:=.type "dict_items",data:=.fields #[.ref a] }).objs.size<=p.1:=λp hp=>by
    have:p.1∈J++[U]:=by rw[<- O];exact Au.mpr ⟨p,hp,rfl⟩
    rcases Bp.mp this with h|h
    .exact Ec (g.above _ h)
    .have:p.1=U:=by simpa using h
     rw[this];exact Ax _
   have I3:Inv X aj σ (y7 H1 L) { G with heap:=h',toks:=tk }:=Inv.laidL (s:={ G with heap:=G.heap.push { cls:=.type "dict_items",data:=.fields #[.ref a] } }) (L:=L) (t':=tk) I2 hk w λp hp=>by
    rcases Bp.mp hp with hp|hp
    .obtain⟨j,q,e1,e2,f⟩:=aJ hp
     obtain⟨u,e4,e5⟩:=WL T e2;obtain⟨zc,k,x,f1,f2,f3⟩:=g.pairs j p.1 e1;rw[e4] at f1;cases f1;rw[f];exact⟨(by decide:2<=sizeLine),[zc,u],.cons (IS f2) (.cons e5 .nil),_,f3,rfl,_,rfl⟩
    .have:p=(U,HO.lst (J.map V.ref)):=by simpa using hp
     subst this;refine⟨by rw[Ao,E];exact hz,J.map De,c,V5 J,?_⟩
     rw[hL,<- l]
   obtain⟨r3,f⟩:=r1.pureL (L:=L) (λp hp=>I2.hok.fresh (w p hp)) nd;refine⟨.ref U,_,I3,rfl,Y _ _ _ zh r3 (C.same.trans f) C.pre ?_⟩;have zv:y7 P1 L U=Ab (HO.lst (J.map V.ref)):=tH nd (by simp[L])
   refine gB (.inl (.inl zv)) ?_;exact sZ (ol.mono f (Bg _) t) E λp hp=>tH nd (Cs _ hp)
  .exact Aq Y
 |_=>exact Aq Y
end
def hZ:G2:=λa b S=>match a,b with
 |.bl x,.bl y=>.ok (.bl (x == y)) S
 |_,_=>.bad
section
variable {X:Cx}{o:Cc}{fo:DE}{p aq cq ci:Ez}
theorem RZ:gj X (Df .Is) hZ:=by
 intro B σ H s P α S v u G uu a b Q I r O C J U Y;cases a with
 |bl x =>
  cases b with
  |bl y =>
   simp only[av] at J U;subst J U;cases (show G=Jw x from O)
   cases (show uu=Jw y from C)
   have h:EP X B σ Q (.bool (x == y)) s:=⟨.bl _,H,I,rfl,xr Y r (by simp only[av])⟩
   cases x <;> cases y <;> exact An h
  |_=>exact Aq Y
 |_=>exact Aq Y
theorem qAr:jj X (Df .Is) hZ:=⟨RZ⟩
theorem YL (G:X.calm=true)(C:Gl X "list")(hm:X.mg "list" = none)(O:QE X o fo)(J:Ia o "items" X.env (eval o X.env)=eval o X.env:=by rfl)(Y:(cq.endLine == ci.line)=true:=by rfl)
  (U:Bu [.Call (.Attribute o "items" cq) [] [] ci] X.env=(false,eval (.Call (.Attribute o "items" cq) [] [] ci) X.env)::Bu [] X.env:=by rfl) :
  QE X (.Call (.Name "list" p) [.Call (.Attribute o "items" cq) [] [] ci] [] aq) (kT fo):=⟨XZ G C hm O.1 J Y U⟩
end
end _D
namespace _S
variable {mask:Ag}{xs:Ay Ag}
def Rs (xs:Ay Ag):Prop:=xs.toList.Pairwise (· < ·)
theorem Rs.lt (h:Rs xs){a b:Ag}{x y:Ag}(Q:a<b)(U:xs[a]? = Ab x)(O:xs[b]? = Ab y):x<y:=by
 obtain⟨G,N⟩:=Eb.mp U;obtain⟨Y,J⟩:=Eb.mp O;have:=Ki.mp h a b (by simpa using G) (by simpa using Y) Q
 rw[<- N,<- J];simpa using this
theorem qo {i x d:Ag}(h:xs[i]? = Ab x):xs.getD i d=x:=by
 obtain⟨Q,Y⟩:=Eb.mp h;simp[Gs,Q,Y]
structure _O (xs:Ay Ag)(j p:Ag):Prop where
 le:p<=xs.size
 lo:∀ i x,i<p->xs[i]? = Ab x->x<j
 hi:∀ i x,p<=i->xs[i]? = Ab x->j<=x
set_option tactic.hygienic true in
theorem mK (h:Rs xs)(j:Ag):∀ (fuel lo hi:Ag),hi-lo<=fuel->lo<=hi->hi<=xs.size ->
  (∀ i x,i<lo->xs[i]? = Ab x->x<j)->(∀ i x,hi<=i->xs[i]? = Ab x->j<=x)->_O xs j (AaE xs j fuel lo hi)
 |0,lo,hi,B,C,U,J,G=>by
  have:lo=hi:=by lia
  subst this;exact⟨U,J,G⟩
 |fuel+1,lo,hi,B,C,U,J,G=>by
  unfold AaE;by_cases Y:lo<hi
  .rw[Be Y]
   have L:(lo+hi)/2<xs.size:=by lia
   have e:xs[(lo+hi)/2]? = Ab xs[(lo+hi)/2]:=Du L;simp only[qo e]
   split
   .rename_i O
    refine mK h j fuel _ hi ab ab U (λi x N Q=>?_) G
    by_cases q:i=(lo+hi)/2
    .subst q;rw[e] at Q;cases Q;exact O
    .exact Hx (h.lt ab Q e) O
   .rename_i O
    refine mK h j fuel lo _ ab ab ab J (λi x N Q=>?_)
    by_cases q:i=(lo+hi)/2
    .subst q;rw[e] at Q;cases Q;lia
    .have:=h.lt (show (lo+hi)/2<i by lia) e Q
     lia
  .rw[Bc Y]
   have:lo=hi:=by lia
   subst this;exact⟨U,J,G⟩
theorem jE (h:Rs xs)(j:Ag):_O xs j (Cp xs j):=
 mK h j _ _ _ ab ab (Ax _) (λi x Q=>by lia) λi x Q Y=>by
  have:=(Eb.mp Y).1
  lia
theorem mJ (h:Rs xs){i j:Ag}(e:xs[i]? = Ab j):Cp xs j=i:=by
 have b:=jE h j;have U:=(Eb.mp e).1;by_cases J:Cp xs j<i
 .have Q:xs[Cp xs j]? = Ab xs[Cp xs j]:=Du ab
  have:=h.lt J Q e;have:=b.hi _ _ (Ax _) Q
  lia
 .by_cases Y:i<Cp xs j
  .have:=b.lo _ _ Y e
   lia
  .lia
theorem QJ (h:Rs xs){i j:Ag}(e:xs[i]? = Ab j):Cp xs (j+1)=i+1:=by
 have b:=jE h (j+1);have U:=(Eb.mp e).1;have G:i<Cp xs (j+1):=by
  apply Fy;intro q;have:=b.hi _ _ ab e
  lia
 by_cases J:i+1<Cp xs (j+1)
 .have Y:i+1<xs.size:=by have:=b.le;lia
  have Q:xs[i+1]? = Ab xs[i+1]:=Du Y;have:=b.lo _ _ J Q;have:=h.lt (Ji i) e Q
  lia
 .lia
theorem QL (h:Rs xs):Cp xs 0=0:=by
 have b:=jE h 0;apply Fy;intro q;have Y:0<xs.size:=by have:=b.le;lia
 have Q:xs[0]? = Ab xs[0]:=Du Y;have:=b.lo _ _ ab Q
 lia
structure Tb (t:Fh):Prop where
 rs:Rs t.place
 dm:t.dummies=#[]
theorem iM (j:Ag):wT #[] j=false:=by simp[wT]
theorem sU {t:Fh}(T:Tb t){i j:Ag}(e:t.place[i]? = Ab j):t.slot j=.live i:=by
 unfold Ac6;simp only[mJ T.rs e,e];simp
theorem ZW {t:Fh}(T:Tb t)(j:Ag):(∃ i,t.slot j=.live i/\t.place[i]? = Ab j)\/(t.slot j=.empty/\j ∉ t.place.toList):=by
 by_cases h:j∈t.place.toList
 .obtain⟨i,Y,e⟩:=Co.mp h
  have Q:t.place[i]? = Ab j:=by rw[<- Br,Ap Y,e]
  exact .inl ⟨i,sU T Q,Q⟩
 .refine .inr ⟨?_,h⟩
  unfold Ac6;simp only[T.dm,iM];rw[Bc,Bc ba]
  intro q;apply h;have:t.place[Cp t.place j]? = Ab j:=by simpa using q
  obtain⟨U,J⟩:=Eb.mp this;rw[<- J];simp
theorem YS (h:Rs xs){j:Ag}(O:j ∉ xs.toList):Rs (Eh xs (Cp xs j) j):=by
 have b:=jE h j;unfold Rs;rw[Uq];have Y:∀ (i:Ag) (x:Ag),xs.toList[i]? = Ab x->(i<Cp xs j->x<j)/\(Cp xs j<=i->j<x):=λi x e=>by
  have N:xs[i]? = Ab x:=by rw[<- Br];exact e
  refine⟨λq=>b.lo _ _ q N,λq=>?_⟩;have C:=b.hi _ _ q N;have:x≠j:=by
   rintro rfl;exact O (Ct e)
  lia
 have U:∀ x∈xs.toList.take (Cp xs j),x<j:=λx Q=>by
  obtain⟨i,J,e⟩:=Co.mp Q;rw[Hi] at J;rw[Ua] at e;exact(Y i x (by rw[Ap ab,e])).1 ab
 have G:∀ x∈xs.toList.drop (Cp xs j),j<x:=λx Q=>by
  obtain⟨i,J,e⟩:=Co.mp Q;rw[Kz] at J;rw[Ub] at e;exact(Y (Cp xs j+i) x (by rw[Ap ab,e])).2 ab
 rw[Di,Ei];refine⟨List.Pairwise.take h,⟨G,List.Pairwise.drop h⟩,λx Q y hy=>?_⟩;rcases Az.mp hy with rfl|hy
 .exact U x Q
 .exact Hx (U x Q) (G y hy)
theorem tY {α:Type}(xs:Ay α){p:Ag}(hp:p<=xs.size)(x:α)(i:Ag):(Eh xs p x)[i]? = if i<p then xs[i]? else if i=p then Ab x else xs[i-1]?:=by
 rw[<- Br,Uq];have U:(xs.toList.take p).length=p:=by simp;lia
 by_cases Q:i<p
 .rw[Be Q,Bn ab,Oo Q,Br]
 .rw[Bc Q,Dk ab,U]
  by_cases Y:i=p
  .subst Y;simp
  .rw[Bc Y]
   obtain⟨k,J⟩:∃ k,i-p=k+1:=⟨i-p-1,by lia⟩
   rw[J,Pd,f8,Br]
   congr 1;lia
theorem kH {α:Type}(xs:Ay α)(p:Ag)(x:α):(Eh xs p x).size=xs.size+1:=by
 have:=(Mb xs p x).length_eq;simpa using this
theorem EY {t:Fh}(T:Tb t){j:Ag}(Q:j ∉ t.place.toList):Tb (t.put j).1:=by
 refine⟨YS T.rs Q,?_⟩;show (if wT t.dummies j then _ else t.dummies)=#[]
 rw[T.dm,iM];rfl
open PySem.SetTable (Probe leap runEnd turns bits)
noncomputable def qd (mask:Ag)(p:Pp):Pp:=if p.more>0 then { p with j:=p.j+1,more:=p.more-1 } else { p with j:=(leap mask p.i p.perturb).1,more:=Hw mask (leap mask p.i p.perturb).1-(leap mask p.i p.perturb).1,i:=(leap mask p.i p.perturb).1,perturb:=(leap mask p.i p.perturb).2 }
theorem L3 (t:Fh)(p:Pp):t.advance p=qd t.mask p:=rfl
def it (mask:Ag):Ag->Pp->Pp
 |0,p=>p
 |n+1,p=>it mask n (qd mask p)
theorem f7 (mask:Ag):∀ (n:Ag) (p:Pp),it mask (n+1) p=qd mask (it mask n p)
 |0,p=>rfl
 |n+1,p=>f7 mask n (qd mask p)
theorem nB (mask:Ag):∀ (m n:Ag) (p:Pp),it mask (m+n) p=it mask n (it mask m p)
 |0,n,p=>by rw[Gy];rfl
 |m+1,n,p=>by rw[Sy];exact nB mask m n (qd mask p)
noncomputable def rs (mask i Q:Ag):Pp:={ j:=i,more:=Hw mask i-i,i,perturb:=Q,dummy:=none }
def st (mask:Ag)(h:Ah):Pp:=rs mask (bits h % (mask+1)) (bits h)
theorem b9 (mask i Q:Ag):∀ k,k<=Hw mask i-i->it mask k (rs mask i Q)={ j:=i+k,more:=Hw mask i-i-k,i,perturb:=Q,dummy:=none }
 |0,_=>rfl
 |k+1,Y=>by
  rw[f7,b9 mask i Q k ab]
  unfold qd;rw[Be (by show Hw mask i-i-k>0;lia)]
  simp only[Probe.mk.injEq,and_true,true_and]
  lia
theorem iQ (mask i Q:Ag):it mask (Hw mask i-i+1) (rs mask i Q)=rs mask (leap mask i Q).1 (leap mask i Q).2:=by
 rw[f7,b9 mask i Q _ (Ax _)];unfold qd;rw[Bc (by show ¬ (Hw mask i-i-(Hw mask i-i)>0);lia)]
 rfl
theorem CB (mask i:Ag):Hw mask i-i+1<=10:=by
 unfold Hw
 split <;> lia
def lp (mask:Ag):Ag->Ag × Ag->Ag × Ag
 |0,q=>q
 |n+1,q=>lp mask n (leap mask q.1 q.2)
theorem WR (mask:Ag):∀ (m n:Ag) (q:Ag × Ag),lp mask (m+n) q=lp mask n (lp mask m q)
 |0,n,p=>by rw[Gy];rfl
 |m+1,n,p=>by rw[Sy];exact WR mask m n _
theorem GV (mask:Ag):∀ (n i Q:Ag),∃ k,k<=10*n/\it mask k (rs mask i Q)=rs mask (lp mask n (i,Q)).1 (lp mask n (i,Q)).2
 |0,i,Q=>⟨0,by lia,rfl⟩
 |n+1,i,Q=>by
  obtain⟨k,Y,e⟩:=GV mask n (leap mask i Q).1 (leap mask i Q).2;refine⟨(Hw mask i-i+1)+k,by have:=CB mask i;lia,?_⟩
  rw[nB,iQ,e];rfl
theorem iX (mask:Ag):∀ (n i Q:Ag),(lp mask n (i,Q)).2=Q/32 ^ n
 |0,i,Q=>by simp[lp]
 |n+1,i,Q=>by
  show (lp mask n ((leap mask i Q).1,Q/32)).2=_;rw[iX mask n _ (Q/32),Nat.div_div_eq_div_mul,<- Nat.pow_succ']
theorem lV (mask i Q:Ag):(leap mask i Q).1<=mask:=Mt (Qc _ (Sb _))
theorem GY (mask:Ag):∀ (n i Q:Ag),i<=mask->(lp mask n (i,Q)).1<=mask
 |0,i,Q,h=>h
 |n+1,i,Q,h=>GY mask n _ _ (lV mask i Q)
theorem iD (h:Ah):bits h<2 ^ 64:=by
 unfold bits;have Y:(0:Ah)<=h % 2 ^ 64:=Mc _ bb
 have Q:h % 2 ^ 64<(2 ^ 64:Ah):=Jr _ bb
 lia
def td (mask:Ag):Ag->Ag->Ag
 |0,i=>i
 |n+1,i=>td mask n ((i*5+1) % (mask+1))
theorem bW (mask:Ag):∀ (m n i:Ag),td mask (m+n) i=td mask n (td mask m i)
 |0,n,p=>by rw[Gy];rfl
 |m+1,n,p=>by rw[Sy];exact bW mask m n _
theorem WS (mask:Ag):∀ (n i:Ag),(lp mask n (i,0)).1=td mask n i
 |0,i=>rfl
 |n+1,i=>by
  show (lp mask n (leap mask i 0)).1=_;have:leap mask i 0=((i*5+1) % (mask+1),0):=by simp[leap]
  rw[this,WS mask n];rfl
def sj (mask:Ag):Prop:=mask=7\/mask=31\/mask=127\/mask=511\/mask=2047
noncomputable def xx (mask:Ag):Ag->Ag->Ag->Ag
 |0,_,Q=>Q
 |n+1,i,Q=>xx mask n ((i*5+1) % (mask+1)) (Q ||| 1 <<< i)
def XO (mask:Ag):As:=xx mask (mask+1) 0 0 == 2 ^ (mask+1)-1&&td mask (mask+1) 0 == 0
theorem XQ (h:sj mask):XO mask=true:=by
 rcases h with rfl|rfl|rfl|rfl|rfl <;> decide +kernel
theorem o8 (mask e:Ag):∀ (n i au:Ag),(xx mask n i au).testBit e=true->au.testBit e=true\/∃ m,m<n/\td mask m i=e
 |0,i,au,h=>.inl h
 |n+1,i,au,h=>by
  rcases o8 mask e n _ _ h with q|⟨m,Q,q⟩
  .rw[Nat.testBit_or,Rp] at q
   rcases q with q|q
   .exact .inl q
   .rw[Nat.one_shiftLeft,Nat.testBit_two_pow,Bq] at q
    exact .inr ⟨0,by lia,q⟩
  .exact .inr ⟨m+1,by lia,q⟩
theorem U1 (h:sj mask){i e:Ag}(hi:i<=mask)(J:e<=mask):∃ n,n<=mask/\td mask n i=e:=by
 have a:=XQ h;unfold XO at a;rw[Bj] at a;obtain⟨Q,G⟩:=a;have Q:xx mask (mask+1) 0 0=2 ^ (mask+1)-1:=by simpa using Q
 have g:∀ e,e<=mask->∃ n,n<=mask/\td mask n 0=e:=λe J=>by
  have q:(xx mask (mask+1) 0 0).testBit e=true:=by rw[Q,Nat.testBit_two_pow_sub_one];simp;lia
  rcases o8 mask e _ _ _ q with q|⟨n,U,q⟩
  .simp at q
  .exact⟨n,by lia,q⟩
 have N:td mask (mask+1) 0=0:=by simpa using G
 obtain⟨m,O,em⟩:=g i hi;obtain⟨n,U,Y⟩:=g e J;by_cases q:m<=n
 .refine⟨n-m,by lia,?_⟩
  rw[<- em,<- bW,show m+(n-m)=n by lia]
  exact Y
 .refine⟨n+(mask+1)-m,by lia,?_⟩
  rw[<- em,<- bW,show m+(n+(mask+1)-m)=(mask+1)+n by lia,bW,N]
  exact Y
theorem cG (h:sj mask){i Q e:Ag}(hi:i<=mask)(hp:Q<2 ^ 64)(Y:e<=mask):∃ n,n<=mask+13/\(lp mask n (i,Q)).1=e:=by
 have J:(lp mask 13 (i,Q)).2=0:=by
  rw[iX];apply Nat.div_eq_of_lt;exact Hx hp bb
 obtain⟨n,U,q⟩:=U1 h (GY mask 13 i Q hi) Y;refine⟨13+n,by lia,?_⟩
 rw[WR];have:lp mask 13 (i,Q)=((lp mask 13 (i,Q)).1,0):=by rw[<- J]
 rw[this,WS];exact q
theorem UU (h:sj mask)(hs:Ah){e:Ag}(Q:e<=mask):∃ n,n<10*turns mask/\(it mask n (st mask hs)).j=e:=by
 obtain⟨n,J,q⟩:=cG h (i:=bits hs % (mask+1)) (Mt (Qc _ (Sb _))) (iD hs) Q;obtain⟨k,U,Y⟩:=GV mask n (bits hs % (mask+1)) (bits hs);refine⟨k,by unfold turns;lia,?_⟩
 show (it mask k (rs mask _ _)).j=e;rw[Y];exact q
theorem mY (mask:Ag):∀ (n:Ag) (p:Pp),(it mask n p).dummy=p.dummy
 |0,p=>rfl
 |n+1,p=>by
  show (it mask n (qd mask p)).dummy=_;rw[mY mask n];unfold qd
  split <;> rfl
def rj (t:Fh)(p:Pp)(n:Ag):Prop:=∀ m,m<n->(it t.mask m p).j∈t.place.toList
inductive Meets (t:Fh)(hashAt:Ag->Ah)(h:Ah)(p:Pp)(fuel:Ag):Am SetTable.Met->Prop
 |emp (n:Ag) (hn:n<fuel) (w:rj t p n) (e:(it t.mask n p).j ∉ t.place.toList) (q:∀ m i,m<n->t.place[i]? = Ab (it t.mask m p).j->hashAt i≠h):Meets t hashAt h p fuel (Ab (.empty (it t.mask n p).j none))
 |cand (n i:Ag) (hn:n<fuel) (w:rj t p n) (e:t.place[i]? = Ab (it t.mask n p).j) (hh:hashAt i=h) (q:∀ m i,m<n->t.place[i]? = Ab (it t.mask m p).j->hashAt i≠h):Meets t hashAt h p fuel (Ab (.candidate (it t.mask n p).j i (it t.mask (n+1) p)))
theorem YR (h:Rs xs){a b x:Ag}(Q:xs[a]? = Ab x)(Y:xs[b]? = Ab x):a=b:=by rw[<- mJ h Q,mJ h Y]
set_option tactic.hygienic true in
theorem mW {t:Fh}(T:Tb t)(hashAt:Ag->Ah)(h:Ah):∀ (fuel:Ag) (p:Pp),p.dummy=none->(∃ n,n<fuel/\(it t.mask n p).j ∉ t.place.toList)->Meets t hashAt h p fuel (Pq t hashAt h fuel p)
 |0,p,_,⟨n,z,_⟩=>by lia
 |fuel+1,p,A,⟨n,z,J⟩=>by
  unfold Pq;rcases ZW T p.j with⟨i,e,G⟩|⟨e,q⟩
  .rw[e]
   simp only
   split
   .rename_i L
    exact Meets.cand 0 i ab (λm Y=>by lia) G (by simpa using L) λm i Y=>by lia
   .rename_i L
    have C:hashAt i≠h:=by simpa using L
    have u:n≠0:=by
     rintro rfl;exact J (Ct (by rw[Br];exact G))
    obtain⟨N,rfl⟩:∃ N,n=N+1:=⟨n-1,by lia⟩
    have M:=mW T hashAt h fuel (qd t.mask p) (by rw[<- A];exact mY t.mask 1 p) ⟨N,by lia,J⟩
    rw[L3];have Q:p.j∈t.place.toList:=Ct (by rw[Br];exact G)
    have up:∀ {k:Ag},rj t (qd t.mask p) k->rj t p (k+1):=λ{k} w m Y=>by
     cases m with
     |zero=>exact Q
     |succ m=>exact w m ab
    have U:∀ {k:Ag},(∀ m i,m<k->t.place[i]? = Ab (it t.mask m (qd t.mask p)).j->hashAt i≠h)->∀ m i,m<k+1->t.place[i]? = Ab (it t.mask m p).j->hashAt i≠h:=λ{k} q m B Y H=>by
     cases m with
     |zero=>rw[YR T.rs H G];exact C
     |succ m=>exact q m B ab H
    generalize o:Pq t hashAt h fuel (qd t.mask p)=r at M;cases M with
    |emp k y w I O=>exact Meets.emp (p:=p) (k+1) ab (up w) I (U O)
    |cand k B y w I E O=>exact Meets.cand (p:=p) (k+1) B ab (up w) I E (U O)
  .rw[e]
   simp only[A];exact Meets.emp (p:=p) 0 ab (λm Y=>by lia) q λm i Y=>by lia
end _S
namespace _S
open PySem.SetTable (Probe leap runEnd turns bits)
variable {us:Aa Ag}{mask:Ag}{owner:Ay (Am Ag)}
structure uz (mask:Ag)(owner:Ay (Am Ag))(us:Aa Ag):Prop where
 size:owner.size=mask+1
 nd:us.Nodup
 le:∀ u∈us,u<=mask
 at':∀ j k,j<=mask->(owner.getD j (Ab 0)=Ab k↔us[k]? = Ab j)
theorem dE {i:Ag}(hi:i<=mask):Hw mask i<=mask:=by
 unfold Hw
 split <;> lia
theorem dF (mask i:Ag):i<=Hw mask i:=by
 unfold Hw
 split <;> lia
theorem uz.none (O:uz mask owner us){j:Ag}(Q:j<=mask):(owner.getD j (Ab 0)).isNone=true↔j ∉ us:=by
 constructor
 .intro h J
  obtain⟨k,Y,e⟩:=Co.mp J;have:=(O.at' j k Q).mpr (by rw[Ap Y,e])
  rw[this] at h;cases h
 .intro h
  cases q:owner.getD j (Ab 0) with
  |none=>rfl
  |some k=>exact absurd (Ct ((O.at' j k Q).mp q)) h
theorem sF (O:uz mask owner us):∀ (fuel i Q:Ag),i<=mask->(∃ L,L<fuel/\(lp mask L (i,Q)).1 ∉ us) ->
  ∃ n,Jk mask owner fuel i Q=Ab (it mask n (rs mask i Q)).j/\(it mask n (rs mask i Q)).j<=mask/\(it mask n (rs mask i Q)).j ∉ us/\∀ m,m<n->(it mask m (rs mask i Q)).j∈us
 |0,i,Q,C,⟨L,w,_⟩=>by lia
 |fuel+1,i,Q,C,⟨L,w,J⟩=>by
  unfold Jk;have g:=dE C;have z:=dF mask i;cases T:(Cj (Hw mask i+1-i)).find? λk=>(owner.getD (i+k) (Ab 0)).isNone with
  |some k =>
   obtain⟨y,I,u⟩:=List.find?_range_eq_some.mp T;have B:k<Hw mask i+1-i:=Dn.mp I;have G:(it mask k (rs mask i Q)).j=i+k:=by rw[b9 mask i Q k ab]
   refine⟨k,?_,?_,?_,λm E=>?_⟩
   .rw[G]
   .rw[G];lia
   .rw[G];exact(O.none ab).mp y
   .rw[b9 mask i Q m ab]
    have:=u m E;apply Fy;intro q;rw[(O.none (show i+m<=mask by lia)).mpr q] at this
    cases this
  |none =>
   have Y:∀ k,k<Hw mask i+1-i->i+k∈us:=λk B=>by
    have:=Ow.mp T k (Dn.mpr B);apply Fy;intro q;exact this ((O.none (show i+k<=mask by lia)).mpr q)
   have l:L≠0:=by
    rintro rfl;exact J (Y 0 ab)
   obtain⟨N,rfl⟩:∃ N,L=N+1:=⟨L-1,by lia⟩
   obtain⟨n,A,p,o,H⟩:=sF O fuel (leap mask i Q).1 (leap mask i Q).2 (lV mask i Q) ⟨N,by lia,J⟩
   have e:∀ m,it mask (Hw mask i-i+1+m) (rs mask i Q)=it mask m (rs mask (leap mask i Q).1 (leap mask i Q).2):=λm=>by rw[nB,iQ]
   refine⟨Hw mask i-i+1+n,?_,?_,?_,λm E=>?_⟩
   .rw[e];exact A
   .rw[e];exact p
   .rw[e];exact o
   .by_cases M:m<Hw mask i-i+1
    .rw[b9 mask i Q m ab]
     exact Y m ab
    .obtain⟨U,rfl⟩:∃ U,m=Hw mask i-i+1+U:=⟨m-(Hw mask i-i+1),by lia⟩
     rw[e];exact H U ab
theorem gap (h:us.length<=mask):∃ e,e<=mask/\e ∉ us:=by
 apply Fy;intro q;have:Cj (mask+1) ⊆ us:=λe Q=>by
  apply Fy;intro r;exact q ⟨e,by have:=Dn.mp Q;lia,r⟩
 have:=List.Nodup.length_le_of_subset Vb this;rw[Pr] at this
 lia
theorem MC (mask:Ag):uz mask (Array.replicate (mask+1) none) []:=by
 refine⟨by simp,Pl,λu Q=>by simp at Q,λj k Y=>?_⟩
 have:j<mask+1:=by lia
 simp[Gs,this]
theorem JN (O:uz mask owner us){j:Ag}(H:j<=mask)(N:j ∉ us):uz mask (owner.setIfInBounds j (Ab us.length)) (us++[j]):=by
 refine⟨by simp[O.size],?_,λu E=>?_,λi k L=>?_⟩
 .rw[Ho]
  refine⟨O.nd,by simp,λa I b C=>?_⟩
  simp at C;rintro rfl;subst C;exact N I
 .rcases Bp.mp E with h|h
  .exact O.le u h
  .simp at h;lia
 .have B:=O.size
  have Y:i<owner.size:=by lia
  have T:∀ {k},us[k]? = Ab i->k<us.length:=λq=>(Ba.mp q).1;by_cases Q:j=i
  .subst Q
   have G:(owner.setIfInBounds j (Ab us.length)).getD j (Ab 0)=Ab us.length:=by simp[Gs,Y]
   rw[G];constructor
   .intro q;cases q;simp
   .intro q
    by_cases U:k<us.length
    .rw[Bn U] at q
     exact absurd (Ct q) N
    .rw[Dk ab] at q
     have:k-us.length=0:=by
      cases J:k-us.length with
      |zero=>rfl
      |succ z=>rw[J] at q;simp at q
     congr 1;lia
  .have G:(owner.setIfInBounds j (Ab us.length)).getD i (Ab 0)=owner.getD i (Ab 0):=by
    simp[Gs,Y,Array.getElem_setIfInBounds,Q]
   rw[G,O.at' i k L];constructor
   .intro q;rw[Bn (T q)];exact q
   .intro q
    by_cases U:k<us.length
    .rw[Bn U] at q;exact q
    .rw[Dk ab] at q
     cases J:k-us.length with
     |zero=>rw[J] at q;simp at q;exact absurd q Q
     |succ z=>rw[J] at q;simp at q
def Q5 (mask:Ag)(us:Aa Ag)(hs:Aa Ah):Prop:=∀ (k:Ag) (h:Ah),hs[k]? = Ab h->∃ n,us[k]? = Ab (it mask n (st mask h)).j/\∀ m,m<n->(it mask m (st mask h)).j∈us
theorem sE (H:sj mask):∀ (hs done:Aa Ah) (owner:Ay (Am Ag)) (us:Aa Ag),uz mask owner us->us.length=done.length->done.length+hs.length<=mask->Q5 mask us done ->
  ∃ Q Y,hs.foldl (λau h=>do
   let (owner,k) <- au
   let j <- Jk mask owner (turns mask) (bits h % (mask+1)) (bits h)
   pure (owner.setIfInBounds j (Ab k),k+1)) (Ab (owner,us.length))=Ab (Q,Y.length)/\uz mask Q Y/\Y.length=done.length+hs.length/\Q5 mask Y (done++hs)
 |[],done,owner,us,O,G,_,N=>⟨owner,us,rfl,O,by simpa using G,by simpa using N⟩
 |h::hs,done,owner,us,O,G,U,N=>by
  rw[Cb] at U;obtain⟨e,f,E⟩:=gap (mask:=mask) (us:=us) ab
  obtain⟨L,r,T⟩:=cG H (i:=bits h % (mask+1)) (Mt (Qc _ (Sb _))) (iD h) f;obtain⟨n,q,t,v,w⟩:=sF O (turns mask) (bits h % (mask+1)) (bits h) (Mt (Qc _ (Sb _))) ⟨L,by unfold turns;lia,by rw[T];exact E⟩
  have d:=JN O t v;have I:Q5 mask (us++[(it mask n (rs mask (bits h % (mask+1)) (bits h))).j]) (done++[h]):=λk p J=>by
   by_cases y:k<done.length
   .rw[Bn y] at J
    obtain⟨u,M,c⟩:=N k p J;exact⟨u,by rw[Bn ab];exact M,λm B=>Cs _ (c m B)⟩
   .rw[Dk ab] at J
    cases C:k-done.length with
    |succ z=>rw[C] at J;simp at J
    |zero =>
     rw[C] at J;simp at J;subst J;refine⟨n,?_,λm B=>Cs _ (w m B)⟩;rw[Dk ab,G,C]
     rfl
  obtain⟨Q,Y,A,g,o,s⟩:=sE H hs (done++[h]) _ _ d (by simp[G]) (by simp;lia) I
  refine⟨Q,Y,?_,g,by simpa [Ny,Vn 1] using o,by simpa using s⟩
  rw[AbI];rw[Ca] at A;have l:(do
   let (owner,k) <- Ab (owner,us.length)
   let j <- Jk mask owner (turns mask) (bits h % (mask+1)) (bits h)
   pure (owner.setIfInBounds j (Ab k),k+1))=Ab (owner.setIfInBounds (it mask n (rs mask (bits h % (mask+1)) (bits h))).j (Ab us.length),us.length+1):=by
   show (Jk mask owner (turns mask) (bits h % (mask+1)) (bits h)).bind _=_;rw[q];rfl
  rw[l];exact A
theorem r9 (N:sj mask)(hs:Ay Ah)(Y:hs.size<=mask):∃ owner us,AaF mask hs=Ab owner/\uz mask owner us/\us.length=hs.size/\Q5 mask us hs.toList:=by
 obtain⟨Q,J,U,C,G,O⟩:=sE N hs.toList [] _ [] (MC mask) rfl (by simpa using Y) (λk h e=>by simp at e)
 refine⟨Q,J,?_,C,by simpa using G,by simpa using O⟩
 unfold AaF;rw[<- Array.foldl_toList];have:(([]:Aa Ag).length)=0:=rfl;rw[this] at U
 erw [U]
 rfl
structure Laid (mask:Ag)(hs:Ay Ah)(t:Fh)(qU:Ay Ag):Prop where
 msk:t.mask=mask
 tb:Tb t
 size:t.place.size=hs.size
 le:∀ x∈t.place.toList,x<=mask
 perm:qU.toList.Perm (Cj hs.size)
 way:∀ (i k:Ag) (h:Ah),qU[i]? = Ab k->hs[k]? = Ab h->∃ n,t.place[i]? = Ab (it mask n (st mask h)).j/\rj t (st mask h) n
theorem WM (r:sj mask)(hs:Ay Ah)(B:hs.size<=mask)(finger moves:Ag)(led plain:As) :
  ∃ t qU,Zf mask finger moves led plain hs=Ab (t,qU)/\t.led=led/\t.plain=plain/\Laid mask hs t qU:=by
 obtain⟨owner,us,e,O,hl,hL⟩:=r9 r hs B;have y:∀ j,j<=mask->owner.getD j none=owner.getD j (Ab 0):=λj H=>by
  have:j<owner.size:=by rw[O.size];lia
  simp[Gs,this]
 generalize N:((Cj (mask+1)).filterMap λj=>(owner.getD j none).map (j,·))=live
 have mem:∀ (j k:Ag),(j,k)∈live↔us[k]? = Ab j:=λj k=>by
  rw[<- N,Ot];constructor
  .rintro⟨L,M,q⟩
   have J:L<=mask:=by have:=Dn.mp M;lia
   rw[y L J] at q;cases Y:owner.getD L (Ab 0) with
   |none=>rw[Y] at q;cases q
   |some z =>
    rw[Y] at q;simp at q;obtain⟨rfl,rfl⟩:=q;exact(O.at' _ _ J).mp Y
  .intro q
   have H:j<=mask:=O.le j (Ct q);refine⟨j,Dn.mpr ab,?_⟩
   rw[y j H,(O.at' j k H).mpr q];rfl
 have C:live.map (·.1)=(Cj (mask+1)).filter λj=>(owner.getD j none).isSome:=by
  rw[<- N,List.map_filterMap];generalize owner.getD=f
  induction Cj (mask+1) with
  |nil=>rfl
  |cons a l g =>
   rw[Jd,AaX];cases Y:f a none with
   |none=>simpa using g
   |some k=>simpa using g
 have o:(live.map (·.1)).Pairwise (· < ·):=by
  rw[C];exact Ng _ List.pairwise_lt_range
 have I:(live.map (·.2)).Nodup:=by
  unfold Vc;rw[Dj];have G:=Dj.mp o;refine Os (λ{a b} ha s zb=>?_) G;intro q;have d:=(mem a.1 a.2).mp ha;have w:=(mem b.1 b.2).mp s;rw[<- q,d] at w;simp at w
  lia
 have u:(live.map (·.2)).Perm (Cj hs.size):=by
  rw[Nn I Vb];intro k;rw[Au,Dn,<- hl];constructor
  .rintro⟨⟨j,z⟩,G,rfl⟩
   exact(Ba.mp ((mem j z).mp G)).1
  .intro E
   exact⟨(us[k],k),(mem _ _).mpr (Ap E),rfl⟩
 have U:∀ j,j∈live.map (·.1)↔j∈us:=λj=>by
  rw[Au];constructor
  .rintro⟨⟨L,k⟩,G,rfl⟩
   exact Ct ((mem _ _).mp G)
  .intro G
   obtain⟨k,E,e⟩:=Co.mp G;exact⟨(j,k),(mem _ _).mpr (by rw[Ap E,e]),rfl⟩
 refine⟨{ mask,place:=(live.map (·.1)).toArray,dummies:=#[],finger,led,moves,plain },(live.map (·.2)).toArray,?_,rfl,rfl,rfl,⟨?_,rfl⟩,?_,λx hx=>?_,?_,λi k h e1 c=>?_⟩
 .unfold Zf
  rw[e,<- N];rfl
 .exact o
 .have:=u.length_eq
  simp at this ⊢;exact this
 .exact O.le x ((U x).mp hx)
 .exact u
 .have Q:(live.map (·.2))[i]? = Ab k:=by simpa using e1
  rw[Ee] at Q;cases Y:live[i]? with
  |none=>rw[Y] at Q;cases Q
  |some p =>
   rw[Y] at Q;simp at Q;have A:=Ct Y;have hu:=(mem p.1 p.2).mp A;obtain⟨n,T,w2⟩:=hL k h (by rw[Br];exact c)
   rw[<- Q] at T;rw[hu] at T;refine⟨n,?_,λm v=>?_⟩
   .rw[<- T]
    simp[Y]
   .have:=(U _).mpr (w2 m v)
    simpa using this
theorem TY {t:Fh}:SetTable.relaid t hs w=Zf (Fd w-1) t.finger (t.movedTo (Fd w-1)) t.led t.plain hs:=rfl
end _S
namespace _S
open PySem.SetTable (Probe leap runEnd turns bits)
structure gq {K:Type}(is:K->Ac->Prop)(hash:K->Ah)(es:Ay (Ah × Ac))(seen:Aa K):Prop where
 good:∀ e∈es.toList,∃ k,e.1=hash k/\is k e.2
 nd:es.toList.Pairwise λa b=>∀ k,is k a.2->¬ is k b.2
 mem:∀ k,k∈seen↔∃ e∈es.toList,is k e.2
section
variable {K:Type}{is:K->Ac->Prop}{aw:K->Ah}{es lm:Ay (Ah × Ac)}{seen:Aa K}
theorem gq.perm (Z:gq is aw es seen)(p:lm.toList.Perm es.toList):gq is aw lm seen:=
 ⟨λe Q=>Z.good e (p.mem_iff.mp Q),(p.pairwise_iff λ{x y} h k Y J=>h k J Y).mpr Z.nd,λk=>(Z.mem k).trans ⟨λ⟨e,Q,q⟩=>⟨e,p.mem_iff.mpr Q,q⟩,λ⟨e,Q,q⟩=>⟨e,p.mem_iff.mp Q,q⟩⟩⟩
theorem gq.nil:gq is aw #[] []:=⟨λe Q=>by simp at Q,by simp,λk=>by simp⟩
theorem gq.push (Z:gq is aw es seen)(Q:∀ {k Y:K} {v:Ac},is k v->is Y v->k=Y){k:K}{x:Ac}(J:is k x)(G:k ∉ seen)(p:lm.toList.Perm (es.toList++[(aw k,x)])):gq is aw lm (k::seen):=by
 refine gq.perm (es:=es.push (aw k,x)) ⟨λe he=>?_,?_,λY=>?_⟩ (by simpa using p)
 .rw[Fb] at he
  rcases Bp.mp he with he|he
  .exact Z.good e he
  .simp at he;subst he;exact⟨k,rfl,J⟩
 .rw[Fb,Di]
  refine⟨Z.nd,by simp,λa C b U Y O N=>?_⟩
  simp at U;subst U;have:=Q J N;subst this;exact G ((Z.mem k).mpr ⟨a,C,O⟩)
 .rw[Az,Z.mem,Fb]
  constructor
  .rintro (rfl|⟨e,he,q⟩)
   .exact⟨(aw Y,x),by simp,J⟩
   .exact⟨e,Cs _ he,q⟩
  .rintro⟨e,he,q⟩
   rcases Bp.mp he with he|he
   .exact .inr ⟨e,he,q⟩
   .simp at he;subst he;exact .inl (Q q J)
theorem gq.again (Z:gq is aw es seen){k:K}(Q:k∈seen):gq is aw es (k::seen):=
 ⟨Z.good,Z.nd,λY=>by rw[Az,Z.mem];exact⟨λh=>h.elim (λe=>by subst e;exact(Z.mem _).mp Q) id,.inr⟩⟩
end
section
open Classical in
theorem t4 {K:Type}{is:K->Ac->Prop}:∀ (L:Aa (Ah × Ac)) (U:Aa K),L.Pairwise (λa b=>∀ k,is k a.2->¬ is k b.2)->(∀ e∈L,∃ k∈U,is k e.2)->L.length<=U.length
 |[],U,_,_=>Fk _
 |e::L,U,G,h=>by
  rw[Ei] at G;obtain⟨J,Q,C⟩:=h e ba
  have B:=t4 L (U.erase J) G.2 λN Y=>by
   obtain⟨k,O,q⟩:=h N (by simp[Y])
   have:k≠J:=λz=>G.1 N Y J C (z▸q);exact⟨k,(Yf this).mpr O,q⟩
  rw[Ur Q] at B;have:0<U.length:=Wj Q;rw[Cb]
  lia
open Classical in
theorem gq.few {K:Type}{is:K->Ac->Prop}{B:K->Ah}{seen U:Aa K}{k:K}(Z:gq is B es seen)(C:∀ Q∈seen,Q∈U)(G:k∈U)(O:k ∉ seen):es.size<U.length:=by
 have:=t4 es.toList (U.erase k) Z.nd λe N=>by
  obtain⟨Q,_,q⟩:=Z.good e N;have J:=(Z.mem Q).mpr ⟨e,N,q⟩;have Y:Q≠k:=λz=>O (z▸J);exact⟨Q,(Yf Y).mpr (C Q J),q⟩
 rw[Ur G,Bt] at this;have:0<U.length:=Wj G
 lia
end
structure iu (t:Fh)(es:Ay (Ah × Ac)):Prop where
 tb:Tb t
 msk:sj t.mask
 size:t.place.size=es.size
 le:∀ x∈t.place.toList,x<=t.mask
 few:es.size*5<t.mask*3
 way:∀ (i:Ag) (e:Ah × Ac),es[i]? = Ab e->∃ n,t.place[i]? = Ab (it t.mask n (st t.mask e.1)).j/\rj t (st t.mask e.1) n
 plain:t.plain=true
theorem iu.fits {t:Fh}(T:iu t es):t.fits es.size=true:=by
 have Q:=T.size;have Y:=T.few;have J:t.fill=es.size:=by unfold Uc;rw[T.tb.dm,Q];rfl
 unfold Ac7;rw[J,Q];rcases T.msk with h|h|h|h|h <;> rw[h] at Y ⊢ <;> simp <;> lia
theorem iu.gap {t:Fh}(T:iu t es):∃ e,e<=t.mask/\e ∉ t.place.toList:=by
 apply _S.gap;rw[Bt,T.size];have Q:=T.few;rcases T.msk with h|h|h|h|h <;> rw[h] at Q ⊢ <;> lia
theorem iu.odd {t:Fh}(T:iu t es):t.gaveWay=false:=by
 unfold SetTable.gaveWay;rcases T.msk with h|h|h|h|h <;> rw[h] <;> rfl
theorem iu.put {t:Fh}(T:iu t es){h:Ah}{x:Ac}{n:Ag}(w:rj t (st t.mask h) n)(L:(it t.mask n (st t.mask h)).j ∉ t.place.toList)(G:(it t.mask n (st t.mask h)).j<=t.mask) :
  let lm:=Eh es (t.put (it t.mask n (st t.mask h)).j).2 (h,x)
  Tb (t.put (it t.mask n (st t.mask h)).j).1/\(t.put (it t.mask n (st t.mask h)).j).1.place.size=lm.size/\(∀ y∈(t.put (it t.mask n (st t.mask h)).j).1.place.toList,y<=t.mask) /\
  (∀ (i:Ag) (e:Ah × Ac),lm[i]? = Ab e->∃ m,(t.put (it t.mask n (st t.mask h)).j).1.place[i]? = Ab (it t.mask m (st t.mask e.1)).j/\rj (t.put (it t.mask n (st t.mask h)).j).1 (st t.mask e.1) m):=by
 generalize E:(it t.mask n (st t.mask h)).j=j at *;have C:∀ y,y∈(t.put j).1.place.toList↔y=j\/y∈t.place.toList:=λy=>by
  show y∈(Eh t.place (Cp t.place j) j).toList↔_;rw[(Mb _ _ _).mem_iff];simp[or_comm]
 have B:Cp t.place j<=t.place.size:=(jE T.tb.rs j).le;have J:∀ {p:Pp} {m:Ag},rj t p m->rj (t.put j).1 p m:=λ{p m} w q I=>(C _).mpr (.inr (w q I));refine⟨EY T.tb L,?_,λy hy=>?_,λi e H=>?_⟩
 .show (Eh t.place _ j).size=(Eh es _ (h,x)).size
  rw[kH,kH,T.size]
 .rcases (C y).mp hy with rfl|hy
  .exact G
  .exact T.le y hy
 .have Q:(if i<Cp t.place j then es[i]? else if i=Cp t.place j then Ab (h,x) else es[i-1]?)=Ab e:=by
   rw[<- tY es (by rw[<- T.size];exact B)]
   exact H
  have pl:(t.put j).1.place[i]? = if i<Cp t.place j then t.place[i]? else if i=Cp t.place j then Ab j else t.place[i-1]?:=tY t.place B j i
  rw[pl];by_cases O:i<Cp t.place j
  .rw[Be O] at Q ⊢
   obtain⟨m,Y,U⟩:=T.way i e Q;exact⟨m,Y,J U⟩
  .rw[Bc O] at Q ⊢
   by_cases N:i=Cp t.place j
   .rw[Be N] at Q ⊢
    cases Q;exact⟨n,by rw[E],J w⟩
   .rw[Bc N] at Q ⊢
    obtain⟨m,Y,U⟩:=T.way _ e Q;exact⟨m,Y,J U⟩
theorem GU {mask:Ag}(p:Pp)(hp:p.j+p.more<=mask):∀ n,(it mask n p).j+(it mask n p).more<=mask
 |0=>hp
 |n+1=>by
  rw[f7];have Q:=GU p hp n;unfold qd
  split
  .show (it mask n p).j+1+((it mask n p).more-1)<=mask
   lia
  .show (leap mask _ _).1+(Hw mask (leap mask _ _).1-(leap mask _ _).1)<=mask
   have J:=dE (lV mask (it mask n p).i (it mask n p).perturb);have Y:=dF mask (leap mask (it mask n p).i (it mask n p).perturb).1
   lia
theorem qAW (mask:Ag)(h:Ah)(n:Ag):(it mask n (st mask h)).j<=mask:=by
 have Q:bits h % (mask+1)<=mask:=Mt (Qc _ (Sb _));have:=GU (mask:=mask) (st mask h) (by
  show bits h % (mask+1)+(Hw mask (bits h % (mask+1))-bits h % (mask+1))<=mask;have J:=dE Q;have Y:=dF mask (bits h % (mask+1))
  lia) n
 lia
theorem i6 {t:Fh}{es:Ay (Ah × Ac)}(g:sj t.mask)(hp:t.plain=true)(h1:t.place.size=es.size)(h2:es.size<=1001)(H:t.tooFull=true)(d:t.dummies=#[])(h3:(es.size-1)*5<t.mask*3)(m:0<es.size) :
  Fd (Ih es.size)<=2048/\∃ t' qU,t.relaid (es.map (·.1)) (Ih es.size)=Ab (t',qU)/\t'.led=t.led/\(qU.filterMap (es[·]?)).toList.Perm es.toList/\iu t' (qU.filterMap (es[·]?))/\qU.toList.Perm (Cj es.size):=by
 have N:t.fill=es.size:=by unfold Uc;rw[d,h1];rfl
 have B:t.mask*3<=es.size*5:=by
  unfold AaY at H;rw[N] at H;simpa using H
 have Q:(es.size=5/\Fd (Ih es.size)=32)\/(es.size=19/\Fd (Ih es.size)=128)\/(es.size=77/\Fd (Ih es.size)=512)\/(es.size=307/\Fd (Ih es.size)=2048):=by
  rcases g with h|h|h|h|h <;> rw[h] at B h3
  .have:es.size=5:=by lia
   exact .inl ⟨this,by rw[this];decide⟩
  .have:es.size=19:=by lia
   exact .inr (.inl ⟨this,by rw[this];decide⟩)
  .have:es.size=77:=by lia
   exact .inr (.inr (.inl ⟨this,by rw[this];decide⟩))
  .have:es.size=307:=by lia
   exact .inr (.inr (.inr ⟨this,by rw[this];decide⟩))
  .lia
 have T:sj (Fd (Ih es.size)-1):=by
  rcases Q with⟨_,h⟩|⟨_,h⟩|⟨_,h⟩|⟨_,h⟩ <;> rw[h]
  .exact .inr (.inl rfl)
  .exact .inr (.inr (.inl rfl))
  .exact .inr (.inr (.inr (.inl rfl)))
  .exact .inr (.inr (.inr (.inr rfl)))
 have A:(es.map (·.1)).size<=Fd (Ih es.size)-1:=by
  rw[Xu];rcases Q with⟨U,h⟩|⟨U,h⟩|⟨U,h⟩|⟨U,h⟩ <;> rw[h,U] <;> lia
 obtain⟨t',qU,e,p,u,L⟩:=WM T (es.map (·.1)) A t.finger (t.movedTo (Fd (Ih es.size)-1)) t.led t.plain
 have j:qU.size=es.size:=by
  have:=L.perm.length_eq;simpa using this
 have G:∀ i k,qU[i]? = Ab k->k<es.size:=λi k q=>by
  have:k∈Cj (es.map (·.1)).size:=L.perm.mem_iff.mp (Ct (by rw[Br];exact q))
  simpa using this
 have E:(qU.filterMap (es[·]?)).toList=qU.toList.map λk=>es.toList.getD k (0,.none):=by
  rw[Array.toList_filterMap];have:∀ l:Aa Ag,(∀ k∈l,k<es.size)->l.filterMap (es[·]?)=l.map λk=>es.toList.getD k (0,.none):=by
   intro l
   induction l with
   |nil=>intro _;rfl
   |cons a l f =>
    intro M;have z:=M a ba
    rw[Jd,Cg,f λk O=>M k (by simp[O])]
    rw[Du z];simp[z]
  refine this _ λk O=>?_;obtain⟨i,y,q⟩:=Co.mp O;exact G i k (by rw[<- Br,Ap y,q])
 have Y:(qU.filterMap (es[·]?)).toList.Perm es.toList:=by
  rw[E];have v:=L.perm.map λk=>es.toList.getD k (0,Dg);refine v.trans ?_;have o:(Cj (es.map (·.1)).size).map (λk=>es.toList.getD k (0,Dg))=es.toList:=by
   apply Qs
   .simp
   .intro i n c
    have r:i<es.size:=by simpa using c
    simp[r]
  rw[o]
 have C:(qU.filterMap (es[·]?)).size=es.size:=by rw[<- Bt,Y.length_eq,Bt]
 have J:∀ i,(qU.filterMap (es[·]?))[i]? = (qU[i]?).map λk=>es.toList.getD k (0,.none):=λi=>by
  rw[<- Br,E,Ee,Br]
 refine⟨by rcases Q with⟨_,h⟩|⟨_,h⟩|⟨_,h⟩|⟨_,h⟩ <;> rw[h] <;> decide,t',qU,by rw[TY];exact e,p,Y,⟨L.tb,by rw[L.msk];exact T,by rw[L.size,C,Xu],by rw[L.msk];exact L.le,?_,λi w q=>?_,by rw[u];exact hp⟩,by have:=L.perm;rwa [Xu] at this⟩
 .rw[C,L.msk]
  rcases Q with⟨U,h⟩|⟨U,h⟩|⟨U,h⟩|⟨U,h⟩ <;> rw[h,U] <;> lia
 .rw[J] at q
  cases I:qU[i]? with
  |none=>rw[I] at q;cases q
  |some k =>
   rw[I] at q;simp only[AbJ,Option.some.injEq] at q;have O:=G i k I;have:(es.map (·.1))[k]? = Ab w.1:=by
    rw[Array.getElem?_map,Du O];rw[<- q];simp[O]
   rw[L.msk];exact L.way i k w.1 I this
end _S
namespace _S
open PySem.SetTable (Probe leap runEnd turns bits)
variable {Q:As->Ai->Prop}
def me (h0 h:By):Prop:=∀ b o,h0.get? b=Ab o->h.get? b=Ab o
def ip (prog:Bh)(w:Ce)(h0:By)(ks:Aa Ah)(v:Ac):Prop:=∃ a,v=.ref a/\Sh (Dy prog w) h0 ks a
section
variable {prog:Bh}{w:Ce}{h0:By}
theorem ip.inj (J:ip prog w h0 x v)(G:ip prog w h0 y v):x=y:=by
 obtain⟨a,rfl,U⟩:=J;obtain⟨b,e,Y⟩:=G;cases e;exact U.inj Y
theorem uH {a:Af}(J:me h0 h)(U:Sh (Dy prog w) h0 ks a):Sh (Dy prog w) h ks a:=by
 obtain⟨o,Y,n,G,r⟩:=U;exact⟨o,Y,n,J _ _ G,r⟩
variable {A:Bw}{E:ae}{s:Ai}
theorem Z5 {k:Aa Ah}{Q:Ah->Ai->Prop}(U:A.units<Ed)(J:me h0 s.heap)(Y:ip prog w h0 k v)(h:Q (Lh (Dy prog w) k) { s with toks:=s.toks+(k.length+1) }) : Ar (Av prog w) A (pyHash v) Q E s:=by
 obtain⟨a,rfl,Y⟩:=Y;exact wpAny_pyHash_tuple U (uH J Y) h
theorem eqT {k G:Aa Ah}(O:A.units<Ed)(U:me h0 s.heap)(J:ip prog w h0 k v)(Y:ip prog w h0 G N)(h:Q (decide (k=G)) s):Ar (Av prog w) A (eqBool v N) Q E s:=by
 obtain⟨a,rfl,J⟩:=J;obtain⟨b,rfl,Y⟩:=Y;exact wpAny_eqBool_tuple O (uH U J) (uH U Y) h
theorem nD:∀ {ks:Aa Ah} {vs:ah},ItemsAre (Dy prog w) ks vs->∀ v∈vs,∃ i t,v=.int i t:=by
 intro ks vs h
 induction h with
 |nil=>intro v hv;simp at hv
 |@cons k U ks vs Y _ J =>
  intro v hv;rcases Az.mp hv with rfl|hv
  .cases v <;> first|exact⟨_,_,rfl⟩|exact absurd Y (by rintro⟨⟩)
  .exact J v hv
theorem qBD {k:Aa Ah}(C:me h0 s.heap)(U:ip prog w h0 k v)(h:Q true s):Ar (Av prog w) A (Tl 8 v) Q E s:=by
 obtain⟨a,rfl,U⟩:=U;have U:=uH C U;have I:=U.typeIs;obtain⟨o,J,n,T,_,L,B⟩:=U;unfold Tl;refine Ad (We I F.slot_tuple_hash.lookup ?_);show Ar _ _ (seqItems? (.ref a) >>= _) Q E s;refine Ad (Gx T L ?_);refine Ad ?_;show Ar _ _ (forIn J _ _) _ _ s;rw[<- Sz];refine Ky _ (λqC r N=>r.1=none/\N=s/\∀ v∈qC,∃ i t,v=.int i t) _ ?_ ?_ _ _ ⟨rfl,rfl,nD B⟩
 .rintro v qC r N ⟨O,rfl,Y⟩
  obtain⟨i,t,rfl⟩:=Y v Cf;show Ar _ _ (Tl 7 (.int i t) >>= _) _ _ _;rw[show Tl 7 (.int i t)=pure true from rfl]
  refine Ad (An ?_);simp only[Kj,Bl,Dq];exact An ⟨rfl,rfl,λu G=>Y u (AT _ G)⟩
 .rintro⟨H,M⟩ N ⟨O,rfl,_⟩
  simp only at O;subst O;exact An h
theorem LI {k:Aa Ah}(C:me h0 s.heap)(U:ip prog w h0 k v)(h:Q false s):Ar (Av prog w) A (Hq 8 v) Q E s:=by
 obtain⟨a,rfl,U⟩:=U;have U:=uH C U;have I:=U.typeIs;obtain⟨o,J,n,T,_,L,B⟩:=U;unfold Hq;refine Ad (Nc I ?_);dsimp only;refine Ad (An ?_);simp only[Kj,Bl,Dq];refine Ad (Gx T L ?_);refine Ad ?_;show Ar _ _ (forIn J _ _) _ _ s;rw[<- Sz];refine Ky _ (λqC r N=>r.1=none/\N=s/\∀ v∈qC,∃ i t,v=.int i t) _ ?_ ?_ _ _ ⟨rfl,rfl,nD B⟩
 .rintro v qC r N ⟨O,rfl,Y⟩
  obtain⟨i,t,rfl⟩:=Y v Cf;show Ar _ _ (Hq 7 (.int i t) >>= _) _ _ _;rw[show Hq 7 (.int i t)=pure false from rfl]
  refine Ad (An ?_);simp only[Bl,Dq];exact An ⟨rfl,rfl,λu G=>Y u (AT _ G)⟩
 .rintro⟨H,M⟩ N ⟨O,rfl,_⟩
  simp only at O;subst O;exact An h
theorem C8 {k:Aa Ah}(J:me h0 s.heap)(Y:ip prog w h0 k v)(h:Q true s):Ar (Av prog w) A (eqIsQuiet 8 v) Q E s:=by
 obtain⟨a,rfl,Y⟩:=Y;exact wpAny_eqIsQuiet_tuple (uH J Y) h
theorem UX {α:Type}{c:Prop}[Hy c]{M:Pn}{t u:Kv α}{Q:α->Ai->Prop}(h1:c->Ar M A t Q E s)(h2:¬ c->Ar M A u Q E s):Ar M A (if c then t else u) Q E s:=by
 by_cases h:c
 .rw[Be h];exact h1 h
 .rw[Bc h];exact h2 h
structure yj (prog:Bh)(w:Ce){K:Type}[Qi K](is:K->Ac->Prop)(hash:K->Ah)(h0:By):Prop where
 inj:∀ {k k':K} {v:Ac},is k v->is k' v->k=k'
 ref:∀ {k:K} {v:Ac},is k v->∃ a,v=.ref a
 hsh:∀ {A:Bw} {E:ae} {s:Ai} {k:K} {v:Ac} {Q:Ah->Ai->Prop},A.units+8<Ed->me h0 s.heap->is k v->(∀ tk,s.toks<=tk->Q (hash k) { s with toks:=tk }) -> Ar (Av prog w) A (pyHash v) Q E s
 eq:∀ {A:Bw} {E:ae} {s:Ai} {k k':K} {v v':Ac} {Q:As->Ai->Prop},A.units+8<Ed->me h0 s.heap->is k v->is k' v'->Q (decide (k=k')) s->Ar (Av prog w) A (eqBool v v') Q E s
 byV:∀ {A:Bw} {E:ae} {s:Ai} {k:K} {v:Ac} {Q:As->Ai->Prop},me h0 s.heap->is k v->Q true s->Ar (Av prog w) A (Tl 8 v) Q E s
 cls:∀ {A:Bw} {E:ae} {s:Ai} {k:K} {v:Ac} {Q:As->Ai->Prop},me h0 s.heap->is k v->Q false s->Ar (Av prog w) A (Hq 8 v) Q E s
 quiet:∀ {A:Bw} {E:ae} {s:Ai} {k:K} {v:Ac} {Q:As->Ai->Prop},me h0 s.heap->is k v->Q true s->Ar (Av prog w) A (eqIsQuiet 8 v) Q E s
theorem qBU:yj prog w (ip prog w h0) (Lh (Dy prog w)) h0:=⟨ip.inj,λ⟨a,e,_⟩=>⟨a,e⟩,λU Y J h=>Z5 om Y J (h _ (Nm _ _)),λU Y J G h=>eqT om Y J G h,qBD,LI,C8⟩
variable {K:Type}[Qi K]{is:K->Ac->Prop}{aw:K->Ah}
theorem qAP (M:yj prog w is aw h0){k:K}{x:Ac}{L:ah}{Q:As->Ai->Prop}(G:me h0 s.heap)(B:is k x)(T:∀ y∈L,∃ U,is U y)(h:Q false s):Ar (Av prog w) A (searchCouldBeSeen x L) Q E s:=by
 unfold searchCouldBeSeen;refine Ad ?_;refine Ky _ (λqC r O=>r.1=none/\O=s/\∀ v∈qC,∃ U,is U v) _ ?_ ?_ _ _ ⟨rfl,rfl,T⟩
 .rintro v qC r O ⟨C,rfl,J⟩
  obtain⟨U,hv⟩:=J v Cf;have Y:∀ u∈qC,∃ U,is U u:=λu N=>J u (AT _ N);dsimp only;refine UX (λ_=>An ⟨rfl,rfl,Y⟩) λ_=>?_
  .refine Ad (M.quiet G B ?_)
   simp only[Kj,Bl,Dq];refine Ad (M.quiet G hv ?_);simp only[Kj,Bl,Dq];refine Ad (M.cls G B ?_);simp only[Bl,Dq];refine Ad (M.cls G hv ?_);simp only[Bl,Dq];exact An ⟨rfl,rfl,Y⟩
 .rintro⟨H,I⟩ O ⟨C,rfl,_⟩
  simp only at C;subst C;exact An h
theorem qAO (M:yj prog w is aw h0){k:K}{v:Ac}{Q:As->Ai->Prop}(Y:is k v)(h:Q true s):Ar (Av prog w) A (isSame v v) Q E s:=by
 obtain⟨a,rfl⟩:=M.ref Y;unfold isSame;simp only[Gm,Ds];exact An h
theorem GQ (M:yj prog w is aw h0){k:K}{x:Ac}{S:Af}{o:Dc}{es:Ay (Ah × Ac)}{ep:Ag}{t:Fh}{seen:Aa K}(hu:A.units+8<Ed)(hS:me h0 s.heap)(ho:s.heap.get? S=Ab o)(hd:o.data=.set es ep t)
  (T:iu t es) (Z:gq is aw es seen) (hx:is k x) (N:Ag) (d:rj t (st t.mask (aw k)) N)
  (U:(it t.mask N (st t.mask (aw k))).j ∉ t.place.toList) (zb:N<10*turns t.mask) {Q:SetFound->Ai->Prop}
  (h1:k∈seen->Q (.there none) s) (h2:k ∉ seen->Q (.free (it t.mask N (st t.mask (aw k))).j false) s) :
  ∀ (fuel n:Ag) (J:Am Pp),J.getD (t.probeStart (aw k))=it t.mask n (st t.mask (aw k))->n<=N->N-n<fuel ->
   (∀ (m i:Ag) (e:Ah × Ac),m<n->t.place[i]? = Ab (it t.mask m (st t.mask (aw k))).j->es[i]? = Ab e->¬ is k e.2) ->
   Ar (Av prog w) A (Ud S x (aw k) true fuel J) Q E s
 |0,n,J,_,_,hf,_=>by lia
 |fuel+1,n,J,zl,hn,hf,hq=>by
  unfold Ud;refine Ad (Gu ho hd T.fits ?_);dsimp only;rw[T.odd];simp only[Bl,Dq];rw[zl];generalize hg:t.probe _ (aw k) (it t.mask n (st t.mask (aw k)))=r;obtain⟨H,hH,hg⟩:∃ H:Ag->Ah,(∀ i,H i=(es[i]?.map (·.1)).getD 0)/\t.probe H (aw k) (it t.mask n (st t.mask (aw k)))=r:=⟨_,λi=>rfl,hg⟩
  have Y:∀ m,it t.mask m (it t.mask n (st t.mask (aw k)))=it t.mask (n+m) (st t.mask (aw k)):=λm=>(nB _ _ _ _).symm;have gm:Meets t H (aw k) (it t.mask n (st t.mask (aw k))) (10*turns t.mask) r:=by
   rw[<- hg];refine mW T.tb H _ _ _ (by rw[mY];rfl) ⟨N-n,by lia,?_⟩
   rw[Y,show n+(N-n)=N by lia]
   exact U
  have B:∀ j:Ag,(∀ m i:Ag,m<j->t.place[i]? = Ab (it t.mask m (it t.mask n (st t.mask (aw k)))).j->H i≠aw k) ->
    ∀ (m i:Ag) (e:Ah × Ac),m<n+j->t.place[i]? = Ab (it t.mask m (st t.mask (aw k))).j->es[i]? = Ab e->¬ is k e.2:=λj qj m i e hm C u I=>by
   by_cases zh:m<n
   .exact hq m i e zh C u I
   .refine qj (m-n) i ab (by rw[Y,show n+(m-n)=m by lia];exact C) ?_
    rw[hH,u];obtain⟨a,e1,e2⟩:=Z.good e (Ct (by rw[Br];exact u))
    rw[M.inj I e2];simpa using e1
  cases gm with
  |emp j hj w' O q =>
   rw[Y] at O;have v:n+j=N:=by
    rcases Mu (n+j) N with h|h|h
    .exact absurd (d _ h) O
    .exact h
    .have:=w' (N-n) ab
     rw[Y,show n+(N-n)=N by lia] at this
     exact absurd this U
   dsimp only;rw[Y,v];refine An (h2 λI=>?_);obtain⟨e,b,c⟩:=(Z.mem k).mp I;obtain⟨i,hi,C⟩:=Co.mp b;have G:es[i]? = Ab e:=by rw[<- Br,Ap hi,C]
   obtain⟨m,w1,w2⟩:=T.way i e G;obtain⟨a,g1,l⟩:=Z.good e b;have:=M.inj c l;subst this;rw[g1] at w1 w2;have f:m<N:=by
    apply Fy;intro hc;by_cases f:m=N
    .subst f
     exact U (Ct (by rw[Br];exact w1))
    .exact U (w2 N ab)
   exact B j q m i e ab w1 G c
  |cand j i hj w' O hh q =>
   rw[Y] at O;have hi:i<es.size:=by
    rw[<- T.size];exact(Eb.mp O).1
   have C:es[i]? = Ab es[i]:=Du hi;have v:n+j<N:=by
    rcases Mu (n+j) N with h|h|h
    .exact h
    .rw[h] at O
     exact absurd (Ct (by rw[Br];exact O)) U
    .have:=w' (N-n) ab
     rw[Y,show n+(N-n)=N by lia] at this
     exact absurd this U
   obtain⟨a,g1,l⟩:=Z.good es[i] ba
   dsimp only;have L:Ar (Av prog w) A (do
     let Ab (_,y):=es[i]?|unsupported "internal:set-entry"
     let equal <- holding [y] (eqBool y x)
     let (lm,_,t') <- Zs S
     if true&&equal then return .there none
     let Ab same:=t'.sameMemory t.moves t.mask|unsupported "set.changed-during-lookup:is-the-new-block-at-the-old-address"
     let still <- match (if same then t'.slot (it t.mask j (it t.mask n (st t.mask (aw k)))).j else .empty) with
      |.live p=>match lm[p]? with
       |some (_,y')=>do pure (if <- isSame y' y then Ab p else none)
       |none=>pure none
      |_=>pure none
     match still with
     |none=>rule "set.search.anew";Ud S x (aw k) true fuel none
     |some p=>if equal then return .there (Ab p) else Ud S x (aw k) true fuel (Ab (it t.mask (j+1) (it t.mask n (st t.mask (aw k)))))) Q E s:=by
    rw[C];dsimp only;refine Ad (EQ (M.eq hu hS l hx ?_));refine Ad (Gu ho hd T.fits ?_);by_cases z:a=k
    .subst z
     simp only[Ju,Bool.and_self,Ds];exact An (h1 ((Z.mem a).mpr ⟨es[i],by simp,l⟩))
    .simp only[z,Jz,Xv,Bl,Dq]
     have hm:t.sameMemory t.moves t.mask=Ab true:=by simp[SetTable.sameMemory]
     rw[hm];dsimp only;rw[Y,sU T.tb O];simp only[Ds,C];refine Ad (qAO M l ?_);simp only[Ds];refine Ad (An ?_);dsimp only;refine GQ M hu hS ho hd T Z hx N d U zb h1 h2 fuel (n+j+1) _ ?_ ab ab λm p e hm G u I=>?_
     .rw[Uz,Y]
      rfl
     .by_cases zc:m<n+j
      .exact B j q m p e zc G u I
      .have:m=n+j:=by lia
       subst this;have:=YR T.tb.rs G O;subst this;rw[C] at u;cases u;exact z (M.inj l I)
   refine UX (λ_=>?_) λ_=>?_
   .refine Ad (qAP M hS hx (λy hy=>?_) ?_)
    .obtain⟨e,b,rfl⟩:=Au.mp hy
     have:e∈es.toList:=by
      have:=(Rg.mp b);exact Rg.mpr (Array.mem_filter.mp this).1
     obtain⟨k2,_,g⟩:=Z.good e this;exact⟨k2,g⟩
    .simp only[Bl,Dq]
     exact L
   .exact L
end
end _S
namespace _S
open PySem.SetTable (Probe leap runEnd turns bits)
@[reducible] noncomputable def ir (es:Ay (Ah × Ac))(ep:Ag)(t:Fh):Dc:={ cls:=.type "set",dict:=none,data:=.set es ep t }
theorem oE {h:By}{S:Af}{t t':Fh}(Q:h.get? S=Ab (ir es ep t)):(h.update S (Obj.putSet lm t')).get? S=Ab (ir lm (ep+1) t'):=Ev _ Q rfl
structure kg {K:Type}(is:K->Ac->Prop)(hash:K->Ah)(S:Af)(led:As)(V:ah)(seen:Aa K)(h:By):Prop where
 ex:∃ es ep t,h.get? S=Ab (ir es ep t)/\gq is hash es seen/\iu t es/\t.led=led/\∀ e∈es.toList,e.2∈V
section
variable {prog:Bh}{w:Ce}{h0:By}{A:Bw}{E:ae}{s:Ai}{S:Af}{led:As}{V:ah}
theorem KD (a:Af)(Q:Ag):setRelay a Q=(do
  let (es,_,t) <- Zs a
  if Fd Q>sizeLine then unsupported "set:memory"
  let (es,t) <- (do
   let Ab (t,qU):=t.relaid (es.map (·.1)) Q|unsupported "internal:set-table-without-room"
   let lm:=qU.filterMap (es[·]?)
   if lm.size != es.size then unsupported "internal:set-table-lost-an-element"
   pure (lm,t))
  storeSet a es t):=rfl
theorem qA9 {K:Type}[Qi K]{is:K->Ac->Prop}{J:K->Ah}(M:yj prog w is J h0){seen:Aa K}{k:K}{x:Ac}{Q:As->Ai->Prop}(hu:A.units+8<Ed)(hS:me h0 s.heap)(Z:kg is J S led V seen s.heap)(v:is k x)(hV:x∈V){U:Aa K}(hU:U.length<=1000)(zs:∀ k'∈seen,k'∈U)(zx:k∈U)
  (h:∀ (b:As) (h':By) (C:Ag),s.toks<=C->Gg S s.heap h'->kg is J S led V (k::seen) h'->Q b { s with heap:=h',toks:=C }) : Ar (Av prog w) A (setAdd S x) Q E s:=by
 obtain⟨G,ep,t,y,Z,T,hl,hm⟩:=Z;unfold setAdd;refine EQ (Ad (M.hsh hu hS v λC I=>?_));unfold setAddHashed setAddHashedIn;refine EQ (Ad (Gu (s:={ s with toks:=C }) y rfl T.fits ?_))
 dsimp only;have zl:byScan x G=false:=by
  obtain⟨a,rfl⟩:=M.ref v;rfl
 rw[zl];simp only[Bl,Dq];obtain⟨e,u,zy⟩:=T.gap;have first:∃ N,rj t (st t.mask (J k)) N/\(it t.mask N (st t.mask (J k))).j ∉ t.place.toList/\N<10*turns t.mask:=by
  obtain⟨N,hN,eN⟩:=UU T.msk (J k) u;have gm:=mW T.tb (λ_=>J k+1) (J k) (10*turns t.mask) (st t.mask (J k)) rfl ⟨N,hN,by rw[eN];exact zy⟩
  generalize Pq t _ _ _ _=r at gm;cases gm with
  |emp j hj w' e' q=>exact⟨j,w',e',hj⟩
  |cand j i hj w' e' hh q=>exact absurd hh ab
 obtain⟨N,o,f,zh⟩:=first
 have z0:N<100000:=by
  have:turns t.mask<=2200:=by
   unfold turns;rcases T.msk with h|h|h|h|h <;> rw[h] <;> lia
  lia
 refine Ad (GQ M (s:={ s with toks:=C }) hu hS y rfl T Z v N o f zh (λhk=>?_) (λhk=>?_) 100000 0 none rfl ab ab λm i e hm=>by lia)
 .exact An (h _ s.heap _ I (AaD _ _) ⟨G,ep,t,y,Z.again hk,T,hl,hm⟩)
 .have z1:G.size<1000:=Bk (Z.few zs zx hk) hU
  dsimp only;refine Ad (Gu (s:={ s with toks:=C }) y rfl T.fits ?_)
  obtain⟨n,z,p3,p4⟩:=T.put (h:=J k) (x:=x) o f (qAW _ _ _);generalize hj:(it t.mask N (st t.mask (J k))).j=j at *;have H:(t.put j).1.mask=t.mask:=rfl;have m2:(t.put j).1.plain=true:=T.plain;have m3:(t.put j).1.led=led:=hl;generalize hp:t.put j=tp at *;obtain⟨L,p⟩:=tp;dsimp only at n z p3 p4 H m2 m3 ⊢;rw[m2];simp only[Ds];refine Ad (M.byV (s:={ s with toks:=C }) hS v ?_)
  simp only[Ds,Xw,Ac8];have Y:(Eh G p (J k,x)).size=G.size+1:=kH _ _ _;have O:G.size+1<=sizeLine:=by rw[Fu];lia
  refine Ad (wpAny_storeSet_of (s:={ s with toks:=C }) y rfl ?_ (by rw[Y];exact O))
  have Z1:gq is J (Eh G p (J k,x)) (k::seen):=by
   refine Z.push (λa b=>M.inj a b) v hk ?_;have:=Mb G p (J k,x);rw[Fb] at this;exact this
  have c:∀ e∈(Eh G p (J k,x)).toList,e.2∈V:=λe u=>by
   have:=(Mb G p (J k,x)).mem_iff.mp u;rw[Fb] at this;rcases Bp.mp this with h1|h1
   .exact hm e h1
   .simp at h1;subst h1;exact hV
  have B:=oE (lm:=Eh G p (J k,x)) (t':=L) y;have zb:=Fl s.heap S (Obj.putSet (Eh G p (J k,x)) L);have l:L.fits (Eh G p (J k,x)).size=true:=by
   have d:L.fill=G.size+1:=by unfold Uc;rw[n.dm,z,Y];rfl
   have h2:=T.few;unfold Ac7;rw[d,z,Y,H];rcases T.msk with h|h|h|h|h <;> rw[h] at h2 ⊢ <;> simp <;> lia
  refine UX (λg=>?_) λg=>?_
  .have zz:sj L.mask:=by rw[H];exact T.msk
   have d:((Eh G p (J k,x)).size-1)*5<L.mask*3:=by rw[Y,H];exact T.few
   obtain⟨q1,t2,qU,q2,q3,q4,q5,_⟩:=i6 zz m2 z (by rw[Y];lia) (by simpa using g) n.dm d (by rw[Y];lia)
   rw[Y] at q1 q2;rw[KD];refine Ad ?_;refine Ad (Gu (s:={ s with heap:=_,toks:=C }) B rfl l ?_)
   dsimp only;rw[Bc (by rw[Fu];lia)]
   refine Ad ?_;rw[q2];dsimp only;have zc:(qU.filterMap λzv=>(Eh G p (J k,x))[zv]?).size=G.size+1:=by rw[<- Bt,q4.length_eq,Bt,Y]
   rw[Bc (by rw[zc,Y];simp)]
   refine An ?_;refine wpAny_storeSet_of (s:={ s with heap:=_,toks:=C }) B rfl ?_ (by rw[zc];exact O)
   refine An (h _ _ _ I (zb.trans (Fl _ S _)) ⟨_,_,t2,oE B,Z1.perm q4,q5,by rw[q3];exact m3,λe u=>c e (q4.mem_iff.mp u)⟩)
  .refine An (h _ _ _ I zb ⟨_,_,L,B,Z1,⟨n,by rw[H];exact T.msk,z,by rw[H];exact p3,?_,by rw[H];exact p4,m2⟩,m3,c⟩)
   have d:L.fill=G.size+1:=by unfold Uc;rw[n.dm,z,Y];rfl
   unfold AaY at g;rw[d] at g;rw[Y];simpa using g
end
end _S
namespace _S
open PySem.SetTable (Probe leap runEnd turns bits)
def L_ (prog:Bh)(w:Ce)(k:Ah)(v:Ac):Prop:=(Dy prog w).is k v=true
section
variable {prog:Bh}{w:Ce}
set_option tactic.hygienic true in
theorem uZ {k:Ah}(h:L_ prog w k v):∃ t,v=.int k t:=by
 cases v <;> first|(exact absurd h (by rintro⟨⟩)) | skip
 rename_i i t;refine⟨t,?_⟩;have:i=k:=(Dy prog w).inj (.int i t) i k (intKind_is _ _ _ _) h;rw[this]
end
end _S
namespace _S
variable {Q:ae}{i:Ag}
structure su (prog:Bh)(w:Ce){K:Type}(is:K->Ac->Prop)(hash:K->Ah)(h0:By):Prop where
 add:∀ {A:Bw} {E:ae} {s:Ai} {S:Af} {led:As} {V:ah} {seen U:Aa K} {k:K} {x:Ac} {Q:As->Ai->Prop},A.units+8<Ed->me h0 s.heap->kg is hash S led V seen s.heap->is k x->x∈V->U.length<=1000->(∀ k'∈seen,k'∈U)->k∈U ->
  (∀ (b:As) (h':By) (tk:Ag),s.toks<=tk->Gg S s.heap h'->kg is hash S led V (k::seen) h'->Q b { s with heap:=h',toks:=tk }) -> Ar (Av prog w) A (setAdd S x) Q E s
theorem XA (h0:By):su prog w (ip prog w h0) (Lh (Dy prog w)) h0:=⟨λY J Z C O G U N h=>qA9 qBU Y J Z C O G U N h⟩
noncomputable def uA {K:Type}(Y:Ag->K):Ag->Aa K
 |0=>[]
 |i+1=>Y i::uA Y i
theorem jY {K:Type}{Y:Ag->K}{k:K}:∀ {n:Ag},k∈uA Y n↔∃ i,i<n/\Y i=k
 |0=>by simp[uA]
 |n+1=>by
  rw[uA,Az,jY];constructor
  .rintro (rfl|⟨i,h,e⟩)
   .exact⟨n,by lia,rfl⟩
   .exact⟨i,by lia,e⟩
  .rintro⟨i,h,e⟩
   by_cases J:i=n
   .subst J;exact .inl e.symm
   .exact .inr ⟨i,by lia,e⟩
section
variable {prog:Bh}{w:Ce}{A:Bw}{R:Result->Ai->Prop}{I:Af}{fp wr:ag}{G:Ay AbA->Ay AbA->Prop}{n:Ag}{P:Ag->Ac->Prop}{St:Ag->Ai->Prop}
variable {K:Type}{is:K->Ac->Prop}{aw:K->Ah}{h0:By}{led:As}{V:ah}{U:Aa K}
theorem kg.sup {S:Af}{seen:Aa K}{h h':By}(Z:kg is aw S led V seen h)(e:∀ o,h.get? S=Ab o->h'.get? S=Ab o):kg is aw S led V seen h':=by
 obtain⟨Y,J,t,N,r⟩:=Z;exact⟨Y,J,t,e _ N,r⟩
theorem TX (a:su prog w is aw h0)(W:WalksS prog w A.in1 I fp wr G n P St)(S:Af)(H:S ∉ fp)(hu:A.in1.units+8<Ed)(Y:Ag->K)(T:∀ i v,P i v->is (Y i) v/\v∈V)(hU:U.length<=1000)(z:∀ i,i<n->Y i∈U)
  (l:h0.get? S=none) (c:∀ b∈wr,h0.get? b=none):∀ (k i:Ag) (s:Ai),n-i=k->i<=n->St i s->me h0 s.heap->kg is aw S led V (uA Y i) s.heap ->
   (∀ s',Moved (S::wr) G s s'->kg is aw S led V (uA Y n) s'.heap->R (.ok (.ret .none)) s')->Kg (Av prog w) A (.builtin "set.update.loop" ⟨[.ref S,.ref I],[]⟩) R s:=by
 have E:S ∉ wr:=λh=>H (W.sub _ h);have J:∀ b∈wr,b∈S::wr:=λb O=>AT _ O;intro k
 induction k with
 |zero =>
  intro i s m hi B t Z r;have d:i=n:=by lia
  subst d;refine Md Og ?_;rw[Kl Jl _];show Ar _ A.in1 (Nk (.ref I) >>= _) _ _ s;refine Ad (W.done s _ _ B λs' L=>?_);exact An (r s' (L.mono J) (Z.sup λo e=>L.heap S _ E e))
 |succ k ih =>
  intro i s m hi B t Z r;have N:i<n:=by lia
  refine Md Og ?_;rw[Kl Jl _];show Ar _ A.in1 (Nk (.ref I) >>= _) _ _ s;refine Ad (W.item i s _ _ N B λv s' hP u L=>?_);obtain⟨x,q2⟩:=T i v hP;have y:me h0 s'.heap:=λb o e=>L.heap b o (λO=>by rw[c b O] at e;cases e) (t b o e)
  show Ar _ A.in1 (holding [v] (setAdd S v) >>= _) _ _ s';refine Ad (EQ (a.add hu y (Z.sup λo e=>L.heap S _ E e) x q2 hU (λk' f=>?_) (z i N) λb h' tk M C Z'=>?_))
  .obtain⟨j,hj,e⟩:=jY.mp f
   exact e▸z j ab
  .refine An ⟨Ue Jl _,ih (i+1) _ ab N (W.frame _ s' _ _ u M λb O o e=>?_) (λb o e=>?_) Z' λg q p=>?_⟩
   .rw[C.2 b (λh:b=S=>H (by rw[<- h];exact O))];exact e
   .rw[C.2 b (λh:b=S=>by rw[h,l] at e;cases e)];exact y b o e
   .refine r g (Moved.trans W.gtrans ((L.mono J).then_heap M λb o O e=>?_) q) p
    rw[C.2 b (λh:b=S=>O (by rw[h];exact Cf))];exact e
end
section
variable {prog:Bh}{w:Ce}{A:Bw}{E:ae}{s:Ai}
noncomputable def wW (w:Ce):As:=!w.params.followText "set-order"
@[reducible] def kw (w:Ce):Dc:=ir #[] 0 (.fresh 0 0 (wW w))
theorem i3 (a:Ac){Q₁:ae}(h:Q₁ (.ref s.heap.objs.size) { s with heap:=s.heap.push (kw w) }) : Kg (Av prog w) A (.call (.builtin "set.__new__") ⟨[.type "set",a],[]⟩) (wants Q₁ E) s:=by
 refine Wi ?_;show Ar _ A.in1 (do checkBuiltinCall "set.__new__" ⟨[.type "set",a],[]⟩;again (.builtin "set.__new__" ⟨[.type "set",a],[]⟩)) _ _ s
 refine Ad (Xa (PySem.F.newCall_set_1 a) (An ⟨Ue Xc _,Md PySem.F.entry_set_new ?_⟩));rw[Kl Xc _];unfold Il.«set.__new__» Ac0;have Y:=PySem.sub_set_self;obtain⟨U,g,d,J,os⟩:=s;dsimp only
 wp_walk
 refine Jj (An ?_);dsimp only;simp only[newObj];exact Ad (AaV (An (An h)))
theorem sY (w:Ce):iu (.fresh 0 0 (wW w)) #[]:=⟨⟨by unfold Rs;exact Mr,rfl⟩,.inl rfl,rfl,λx Y=>(by cases Y),(show 0*5<7*3 by decide),λi e h=>(by simp at h),rfl⟩
variable {K:Type}{is:K->Ac->Prop}{aw:K->Ah}{U:Aa K}
theorem QM (a:su prog w is aw s.heap){l:Af}{items:Ay Ac}{Q:ae}(hh:A.handled=none)(hu:A.units+16<Ed)(hl:s.heap.IsList l items\/s.heap.IsTuple l items)(J:Ag->K)(u:∀ i v,items[i]? = Ab v->is (J i) v)(hU:U.length<=1000)(zh:∀ i,i<items.size->J i∈U)
  (h:∀ (h':By) (t:Ag),kg is aw s.heap.objs.size (wW w) items.toList (uA J items.size) h'->(∀ b o,s.heap.get? b=Ab o->h'.get? b=Ab o)->Q (.ref s.heap.objs.size) { s with heap:=h',toks:=t }) :
  Ar (Av prog w) A (call (.type "set") [.ref l]) Q E s:=by
 obtain⟨c,tl,zx⟩:=Hb.mro;have n:=Hb.made;have zy:=Hb.sub;refine wpAny_call (Wi ?_);show Ar _ _ (callAny (.type "set") _) _ _ _;refine An ⟨Code.quiet_builtin _ (by decide +kernel),Md PySem.F.entry_type_call ?_⟩
 rw[Around.under_plain (weight_type_call_type "set" [.ref l] []) rfl];have h1:=Hb.notType;have h2:=Hb.canCreate;have z1:=PySem.F.typeCall_set_1 (.ref l)
 repeat (any_goals (first|assumption|wp_step))
 refine Nd (i3 (.ref l) (E:=E) (Q₁:=λf C=>f=.ref s.heap.objs.size/\C={ s with heap:=s.heap.push (kw w) }) ⟨rfl,rfl⟩) λr C hr=>?_
 cases r with
 |error e=>exact hr
 |ok fl =>
  cases fl with
  |ret f =>
   obtain⟨rfl,rfl⟩:=hr;have hS:(s.heap.push (kw w)).get? s.heap.objs.size=Ab (kw w):=Bi _ rfl;have hT:Zg { s with heap:=s.heap.push (kw w) } (.ref s.heap.objs.size) "set":=⟨_,hS,rfl⟩
   have zz:=Hb.init.lookup;have z0:=Hb.init.bind (.ref s.heap.objs.size)
   repeat (any_goals (first|assumption|wp_step))
   refine Nd (codeAny_call_builtin (R:=wants (λr B=>r=.none/\∃ h' t,B={ s with heap:=h',toks:=t } /\ kg is aw s.heap.objs.size (wW w) items.toList (uA J items.size) h'/\∀ b o,s.heap.get? b=Ab o->h'.get? b=Ab o) E) Hb.init.plain PySem.F.entry_set_init (check_set_init_1 hT ?_)) λq B Y=>?_
   .have k:l<s.heap.objs.size:=by rcases hl with⟨_,e,_⟩|⟨_,e,_⟩ <;> exact Bf e
    have L:l≠(s.heap.push (kw w)).objs.size:=by
     rw[Fg];exact Cu (Ps k)
    have nS:s.heap.get? s.heap.objs.size=none:=Rf (Ax _);have nI:s.heap.get? (s.heap.push (kw w)).objs.size=none:=Rf (by rw[Fg];exact Tk _)
    rcases hl with⟨⟨g,M,I,G⟩,y,T,x,z⟩|⟨⟨g,M,I,G⟩,y,T,x,z⟩
    all_goals
     simp only at T z;subst T;subst z;have O:=Ak (kw w) y
    case' inl =>
     have p:=PySem.F.sub_list_set;have d:=PySem.F.sub_list_frozenset;have zv:(Jx "list" == Jx "dict")=false:=by decide
     have N:(s.heap.push (kw w)).IsList l items:=⟨_,O,rfl,x,rfl⟩
    case' inr =>
     have p:=PySem.F.sub_tuple_set;have d:=PySem.F.sub_tuple_frozenset;have zv:(Jx "tuple" == Jx "dict")=false:=by decide
     have N:(s.heap.push (kw w)).IsTuple l items:=⟨_,O,rfl,x,rfl⟩
    all_goals
     unfold Il.«set.__init__» noKeywords AbP;generalize zb:Rz=PI
     wp_walk
     subst zb
     first
      |(refine Ip N ?_;have W:=(Walks.list (prog:=prog) (w:=w) (A:=A.in1.in1.in1) (by simp[hh]) _ l L items).toS)
      |(refine Jo N ?_;have W:=(Walks.tuple (prog:=prog) (w:=w) (A:=A.in1.in1.in1) (by simp[hh]) _ l L items).toS)
     refine Ad (wpAny_runValue ?_);refine TX (led:=wW w) (V:=items.toList) a W s.heap.objs.size ?_ (by show A.units+3+8<Ed;lia) J (λi v hv=>⟨u i v hv,?_⟩) hU zh nS (λb hb=>?_) (items.size-0) 0 _ ab (Fk _)
      ⟨⟨_,Bi _ rfl,rfl,rfl⟩,N.push _⟩ (λb o e=>Ak _ (Ak _ e)) ?_ λs' m j=>?_
     .rw[Fg];simp only[Az,Cz,En,Kc,not_or]
      exact⟨Cu (Ji _),Jy k⟩
     .exact Ct (by rw[Br];exact hv)
     .rw[Cz.mp hb];exact nI
     .exact⟨#[],0,_,Ak _ hS,gq.nil,sY w,rfl,λe he=>by simp at he⟩
     .obtain⟨h',g',d',zl,zs⟩:=s'
      have eg:g'=s.gens:=m.gens;have ed:d'=s.drawn:=m.drawn;have eo:zs=s.os:=m.os;subst eg;subst ed;subst eo;refine An (An ⟨rfl,h',zl,rfl,j,λb o e=>?_⟩);refine m.heap b o (λhb=>?_) (Ak _ (Ak _ e));rcases Az.mp hb with rfl|hb
      .rw[nS] at e;cases e
      .rw[Cz.mp hb,nI] at e;cases e
   .cases q with
    |error e=>exact Y
    |ok H =>
     cases H with
     |ret r =>
      obtain⟨rfl,h',t,rfl,j,zc⟩:=Y
      repeat (any_goals (first|assumption|wp_step))
      exact h _ _ j zc
     |_=>exact Y.elim
  |_=>exact hr.elim
end
theorem vI {α:Type}:∀ {l:Aa α} {i:Ag} (h:i<l.length),(l[i]::l.eraseIdx i).Perm l
 |a::l,0,h=>by simp
 |a::l,i+1,h=>by
  rw[List.eraseIdx_cons_succ,List.getElem_cons_succ];exact(Xx _ _ _).trans ((vI (l:=l) (i:=i) (by simpa using h)).cons a)
theorem sR {α:Type}(next:Ag->Ag):∀ (fuel k:Ag) (left:Aa α) (Y:Ay α),left.length=fuel->(xL next fuel k left Y).toList.Perm (Y.toList++left)
 |0,k,left,Y,h=>by
  have:left=[]:=Rr h;subst this;unfold xL;simp
 |fuel+1,k,left,Y,h=>by
  unfold xL;have J:next k % left.length<left.length:=Qc _ om
  rw[Ap J];dsimp only;refine(sR next fuel (k+1) _ _ (by rw[Yg,Be J];fin2)).trans ?_
  rw[Fb,Ch];refine Ib _ ?_;exact vI J
theorem d8 {α:Type}(next:Ag->Ag)(xs:Ay α) : (Ru next xs).toList.Perm xs.toList:=by
 have:=sR next xs.size 0 xs.toList #[] ba
 simpa [Ru] using this
theorem vC:Slot "set_iterator" "__next__" "set_iterator.__next__":=
 .of (owner:="set_iterator") (n:="__next__") (by rw[typeLookup_type,Xd];kernel_rfl) (by decide +kernel) (by decide +kernel) (by decide +kernel) (.inl (by decide +kernel)) (by rw[Xy];kernel_rfl)
theorem tX:entryFor table "set_iterator.__next__" = Ab Il.«set_iterator.__next__»:=entryFor_of_fast (by kernel_rfl)
theorem dN (a:Ac):AaW "set_iterator.__next__" ⟨[a],[]⟩:=by unfold AaW;kernel_rfl
theorem sV:Slot "set_iterator" "__iter__" "set_iterator.__iter__":=
 .of (owner:="set_iterator") (n:="__iter__") (by rw[typeLookup_type,Xd];kernel_rfl) (by decide +kernel) (by decide +kernel) (by decide +kernel) (.inl (by decide +kernel)) (by rw[Xy];kernel_rfl)
theorem QZ:entryFor table "set_iterator.__iter__" = Ab Il.«dict_keyiterator.__iter__»:=entryFor_alias (id':="dict_keyiterator.__iter__") (by kernel_rfl) rfl (by decide +kernel) (by kernel_rfl)
theorem XB (a:Ac):AaW "set_iterator.__iter__" ⟨[a],[]⟩:=by unfold AaW;kernel_rfl
theorem QY:entryFor table "set.__iter__" = Ab Il.«frozenset.__iter__»:=entryFor_alias (id':="frozenset.__iter__") (by kernel_rfl) rfl (by decide +kernel) (by kernel_rfl)
theorem FX (a:Af)(slot given Y:Ag):setNext a slot given Y=(do
  let (es,epoch,t) <- Zs a
  if <- Zh then
   if epoch != Y then unsupported "set_iterator.__next__:elements-changed"
   return ((<- setWalk a)[given]?).map λe=>(e.2,slot)
  if !t.plain&&es.size>1 then unsupported "set_iterator.__next__:the-table-is-plain-no-more"
  (do if !t.led&&!es.isEmpty then unsupported "set:maker-not-led")
  return match es[Cp t.place slot]?,t.place[Cp t.place slot]? with
   |some (_,x),Ab j=>Ab (x,j+1)
   |_,_=>none):=rfl
theorem NF (a:Af):setWalk a=(do
  let (es,epoch,t) <- Zs a
  if <- Zh then return Ru ((<- ask).params.setOrder a epoch) es
  if !t.plain&&es.size>1 then return (<- drawOrder es.size es.toList).toArray
  (do if !t.led&&es.size>1 then unsupported "set:maker-not-led")
  return es):=rfl
theorem UC (a:Af):setDrawn a=(do
  let (es,_,t) <- Zs a
  let byText <- Zh
  return !byText&&(!t.plain&&es.size>1)):=rfl
structure mf (w:Ce)(S:Af)(es:Ay (Ah × Ac))(ep:Ag)(t:Fh):Prop where
 tab:iu t es
 led:t.led=wW w
def qU (w:Ce)(S:Af)(ep:Ag)(es:Ay (Ah × Ac)):Ay (Ah × Ac):=if w.params.followText "set-order" = true then Ru (w.params.setOrder S ep) es else es
theorem nR (w:Ce)(S:Af)(ep:Ag)(es:Ay (Ah × Ac)):(qU w S ep es).toList.Perm es.toList:=by
 unfold qU
 split
 .exact d8 _ _
 .exact Nb _
theorem uX (w:Ce)(S:Af)(ep:Ag)(es:Ay (Ah × Ac)):(qU w S ep es).size=es.size:=by
 rw[<- Bt,(nR w S ep es).length_eq,Bt]
noncomputable def vw (slot i:Ag)(S:Af)(n ep:Ag):Dc:={ cls:=.type "set_iterator",data:=.fields #[.int slot 0,.int i 0,.ref S,.int n 0,.int ep 0] }
def At (w:Ce)(I S:Af)(es:Ay (Ah × Ac))(ep:Ag)(t:Fh)(i:Ag)(h:By):Prop:=
 ∃ slot,h.get? I=Ab (vw slot i S es.size ep)/\h.get? S=Ab (ir es ep t)/\(w.params.followText "set-order" = true\/Cp t.place slot=i)
section
variable {prog:Bh}{w:Ce}{A:Bw}{E:ae}{s:Ai}{S I:Af}{es:Ay (Ah × Ac)}{ep:Ag}{t:Fh}
theorem ZV {slot:Ag}{Q:Am (Ac × Ag)->Ai->Prop}(Z:mf w S es ep t)(O:s.heap.get? S=Ab (ir es ep t))(hs:w.params.followText "set-order" = true\/Cp t.place slot=i)
  (h1:∀ e Y,(qU w S ep es)[i]? = Ab e->(w.params.followText "set-order" = true\/Cp t.place Y=i+1)->Q (Ab (e.2,Y)) s) (h2:(qU w S ep es)[i]? = none->Q none s):Ar (Av prog w) A (setNext S slot i ep) Q E s:=by
 rw[FX];refine Ad (Gu O rfl Z.tab.fits ?_);dsimp only;refine Ad (Ad (Jj (An ?_)));cases J:w.params.followText "set-order" with
 |true =>
  show Ar _ _ (if (w.params.followText "set-order")=true then _ else _) _ _ _
  rw[Be J];have N:(ep != ep)=false:=by simp
  rw[N];simp only[Bl,Dq];refine Ad ?_;rw[NF];refine Ad (Gu O rfl Z.tab.fits ?_);dsimp only;refine Ad (Ad (Jj (An ?_)));show Ar _ _ (if (w.params.followText "set-order")=true then _ else _) _ _ _
  rw[Be J];refine Ad (Jj (An (An ?_)));show Q (((Ru (w.params.setOrder S ep) es)[i]?).map λe=>(e.2,slot)) s;have U:qU w S ep es=Ru (w.params.setOrder S ep) es:=by unfold qU;rw[Be J]
  rw[U] at h1 h2;cases G:(Ru (w.params.setOrder S ep) es)[i]? with
  |none=>exact h2 G
  |some e=>exact h1 e slot G (.inl J)
 |false =>
  show Ar _ _ (if (w.params.followText "set-order")=true then _ else _) _ _ _
  rw[Bc (by rw[J];decide),Z.tab.plain,Z.led]
  unfold wW;rw[J];simp only[Kj,Xq,Bl,Dq,Xw];have N:Cp t.place slot=i:=by
   rcases hs with h|h
   .rw[J] at h;cases h
   .exact h
  rw[N];have U:qU w S ep es=es:=by unfold qU;rw[Bc (by rw[J];decide)]
  rw[U] at h1 h2;refine An ?_;cases G:es[i]? with
  |none=>exact h2 G
  |some e =>
   have B:i<t.place.size:=by rw[Z.tab.size];exact(Eb.mp G).1
   have C:t.place[i]? = Ab t.place[i]:=Du B;rw[C];exact h1 e _ G (.inr (QJ Z.tab.tb.rs C))
theorem At.type (h:At w I S es ep t i s.heap):s.TypeIs (.ref I) "set_iterator":=by
 obtain⟨slot,h,_⟩:=h;exact⟨_,h,rfl⟩
theorem sO (Z:mf w S es ep t)(B:At w I S es ep t i s.heap)
  (h1:∀ e Y slot,(qU w S ep es)[i]? = Ab e->s.heap.get? I=Ab (vw slot i S es.size ep)->s.heap.get? S=Ab (ir es ep t)->(w.params.followText "set-order" = true\/Cp t.place Y=i+1) ->
   Q e.2 { s with heap:=(s.heap.update I (Nz (·.setIfInBounds 0 (Oc Y)))).update I (Nz (·.setIfInBounds 1 (Oc ((i:Ah)+1)))) })
  (h2:(qU w S ep es)[i]? = none->Ar (Av prog w) A (do setField (.ref I) 2 .none;AbF (<- AaR (.type "StopIteration") [])) (λ(fin:PySem.Fin) s'=>∃ r,fin=.done (.ret r)/\Q r s') E s) :
  Ar (Av prog w) A (Il.«set_iterator.__next__» ⟨[.ref I],[]⟩) (λfin s'=>∃ r,fin=.done (.ret r)/\Q r s') E s:=by
 obtain⟨slot,J,U,L⟩:=B;show Ar _ _ (fieldsOf (.ref I) >>= _) _ _ s;refine Ad (Xz J rfl ?_);show Ar _ _ (setEntries S >>= _) _ _ s;refine Ad (Zi U rfl Z.tab.fits ?_);have G:(((es.size:Ag):Ah) != ((es.size:Ag):Ah))=false:=by simp
 rw[G];simp only[Bl,Dq];show Ar _ _ (setNext S (slot:Ah).toNat (i:Ah).toNat (ep:Ah).toNat >>= _) _ _ s;rw[Fa,Fa,Fa];refine Ad (ZV Z U L (λe Y N C=>?_) λN=>?_)
 .dsimp only
  refine Ad (Ku J rfl (by show 0<5;decide) ?_)
  have O:=Ev (Nz (·.setIfInBounds 0 (Oc Y))) J rfl
  refine Ad (Ku O rfl (by show 1<5;decide) ?_)
  exact An ⟨_,rfl,h1 e Y slot N J U C⟩
 .exact h2 N
theorem ND (M:A.handled=none)(N:S≠I)(Z:mf w S es ep t):Walks prog w A I [I,S] [I] es.size (λi v=>∃ e,(qU w S ep es)[i]? = Ab e/\e.2=v) (λi h=>At w I S es ep t i h) where
 sub:=λb Y=>by simp at Y;simp[Y]
 frame:=λi h k ⟨slot,H,L,j⟩ B=>⟨slot,B I ba _ H,B S ba _ L,j⟩
 item:=λi s Q E y st G=>by
  unfold Nk;refine Ad (Ma (Em (name:=Ix "__next__") st.type vC (Ef vC st.type tX (sO Z st (λe J slot U O C Y=>?_) λU=>?_) (dN _))))
  .refine An (G e.2 _ s.toks ⟨e,U,rfl⟩ ⟨J,?_,?_,Y⟩ λb o Y e=>?_)
   .exact Ev _ (Ev _ O rfl) rfl
   .rw[Dt _ _ N.symm,Dt _ _ N.symm];exact C
   .have Y:I≠b:=λz=>Y (by simp[z])
    rw[Dt _ _ Y,Dt _ _ Y];exact e
  .have:=Tn.mp U
   rw[uX] at this;fin2
 done:=λs Q E st G=>by
  unfold Nk;refine Ad (Ma (Em (name:=Ix "__next__") st.type vC (Ef vC st.type tX (sO Z st (λe J slot U O C Y=>?_) λU=>?_) (dN _))))
  .have:=(Eb.mp U).1
   rw[uX] at this;fin2
  .obtain⟨slot,O,C,Y⟩:=st
   refine Ad (Ku O rfl (by show 2<5;decide) ?_)
   refine Ad ?_;simp only[AaR,newTuple];refine Ad (Dw ?_ (by size_fits))
   refine Ad (m:=Na _ _) (Xa (a:=Dg) (by first|rfl|(simp only[Na];rfl)) ?_)
   refine Dw ?_ (by size_fits)
   simp only[AbF];refine Ad (Ze ?_);rw[show A.in1.handled=none from M]
   refine Ad (An (AaS ?_));refine Ad (Qr (T:="StopIteration") (b:=true) ⟨_,Bi _ rfl,rfl⟩ Xs ?_);refine An (G _ s.toks λb o Y e=>?_);exact(((Fl ..).extBut.push _).push _) b o (λz=>Y (by simp[z])) e
 self:=λi s Q E st G=>by
  refine Uf st.type sV (Ef sV st.type QZ ?_ (XB _));show Ar _ _ (ret (.ref I)) _ _ s;exact An ⟨_,rfl,"set_iterator",_,st.type,vC.lookup,G⟩
theorem UY (Z:mf w S es ep t)(Y:s.heap.get? S=Ab (ir es ep t))(h:Q (.ref s.heap.objs.size) { s with heap:=s.heap.push (vw 0 0 S es.size ep) }) : Ar (Av prog w) A (Rz (.ref S)) Q E s:=by
 have J:s.TypeIs (.ref S) "set":=⟨_,Y,rfl⟩;refine Uf J Xe (Ef Xe J QY ?_ (PySem.F.args_set_iter_1 _));show Ar _ _ (Us S >>= _) _ _ s;unfold Us;refine Ad (Ad (Zi Y rfl Z.tab.fits (An ?_)));refine Ad ?_;rw[UC];refine Ad (Gu Y rfl Z.tab.fits ?_);dsimp only;refine Ad (Ad (Jj (An (An ?_))));rw[Z.tab.plain];simp only[Kj,Xq,Xv,Bl,Dq];refine Ad (An ?_);unfold setEpoch;refine Ad (Ad (Gu Y rfl Z.tab.fits (An ?_)));refine Ad (Dw (An ⟨_,rfl,"set_iterator",_,⟨_,Bi _ rfl,rfl⟩,vC.lookup,h⟩))
theorem B0 (Z:mf w S es ep t)(Y:s.heap.get? S=Ab (ir es ep t)):At w s.heap.objs.size S es ep t 0 (s.heap.push (vw 0 0 S es.size ep)):=
 ⟨0,Bi _ rfl,Ak _ Y,.inr (QL Z.tab.tb.rs)⟩
end
end _S
namespace _S
open PySem.W
variable {vs:ah}{n lo:Ag}{arr m:Ay Bo}
structure Ord {K:Type}(lt:K->K->As):Prop where
 irr:∀ a,lt a a=false
 tr:∀ {a b c},lt a b=true->lt b c=true->lt a c=true
 tri:∀ {a b},lt a b=false->a=b\/lt b a=true
def r_ (a b:Ah):As:=decide (a<b)
theorem JL:Ord r_:=⟨λa=>by simp[r_],λ{a b c} Y Q=>by simp only[r_,Bq] at *;fin2,λ{a b} h=>by simp only[r_,Bq,Ja] at *;fin2⟩
theorem iV:∀ a:Aa Ah,_H.lexLt a a=false
 |[]=>rfl
 |x::Q=>by rw[_H.a_,Be rfl];exact iV Q
theorem WO:∀ {a b c:Aa Ah},_H.lexLt a b=true->_H.lexLt b c=true->_H.lexLt a c=true
 |_,[],[],_,h=>by cases h
 |_,_::_,[],_,h=>by cases h
 |[],_,_::_,_,_=>rfl
 |_::_,[],_::_,h,_=>by cases h
 |x::G,y::O,z::N,Y,Q=>by
  rw[_H.a_] at Y Q ⊢;by_cases U:x=y
  .subst U
   rw[Be rfl] at Y;by_cases J:x=z
   .rw[Be J] at Q ⊢;exact WO Y Q
   .rw[Bc J] at Q ⊢;exact Q
  .rw[Bc U] at Y
   have Y:=Bz Y;by_cases J:y=z
   .subst J;rw[Bc U];exact Cn Y
   .rw[Bc J] at Q
    have Q:=Bz Q;rw[Bc om]
    exact Cn om
theorem iW:∀ {a b:Aa Ah},_H.lexLt a b=false->a=b\/_H.lexLt b a=true
 |[],[],_=>.inl rfl
 |[],_::_,h=>by cases h
 |_::_,[],_=>.inr rfl
 |x::Q,y::Y,h=>by
  rw[_H.a_] at h ⊢;by_cases e:x=y
  .subst e
   rw[Be rfl] at h ⊢;rcases iW h with h|h
   .exact .inl (by rw[h])
   .exact .inr h
  .rw[Bc e] at h
   have h:=Lp h;rw[Bc (Fv e)];exact .inr (Cn om)
theorem xD:Ord _H.lexLt:=⟨iV,WO,iW⟩
theorem s9 {α:Type}{p q:α->As}:∀ {l:Aa α},(∀ x∈l,p x=true->q x=true)->(∃ x∈l,q x=true/\p x=false)->l.countP p<l.countP q
 |[],_,⟨x,h,_⟩=>by simp at h
 |a::l,h,⟨x,hx,J,Y⟩=>by
  have N:l.countP p<=l.countP q:=Qt λy Q=>h y (by simp[Q])
  rw[AaZ,AaZ];rcases Az.mp hx with rfl|hx
  .rw[Bc (by rw[Y];decide),Be J];fin2
  .have G:=s9 (l:=l) (λy Q=>h y (by simp[Q])) ⟨x,hx,J,Y⟩
   have:=h a ba
   cases U:p a with
   |false=>rw[Bc bb];split <;> fin2
   |true=>rw[Be rfl,Be (this U)];fin2
section
variable {K:Type}{lt':K->K->As}
def pA (lt':K->K->As)(ks:Aa K)(x:K):Ah:=(ks.countP (λk=>lt' k x):Ag)
theorem cY (O:Ord lt'){ks:Aa K}{x y:K}(Y:x∈ks):lt' x y=decide (pA lt' ks x<pA lt' ks y):=by
 unfold pA;cases h:lt' x y with
 |true =>
  refine(Cn ?_).symm;have:=s9 (l:=ks) (p:=λk=>lt' k x) (q:=λk=>lt' k y) (λz _ Q=>O.tr Q h) ⟨x,Y,h,O.irr x⟩;fin2
 |false =>
  refine(Cq ?_).symm;have:ks.countP (λk=>lt' k y)<=ks.countP (λk=>lt' k x):=by
   rcases O.tri h with e|h'
   .rw[e];exact Ax _
   .exact Qt λz _ Q=>O.tr Q h'
  fin2
def mH (lt':K->K->As)(ks:Aa K)(d:K)(i j:Ag):As:=lt' (ks.getD i d) (ks.getD j d)
def Nf (lt':K->K->As)(l:Aa K):Prop:=l.Pairwise λa b=>lt' b a=false
theorem g6 (O:Ord lt'):∀ {a b:Aa K},Nf lt' a->Nf lt' b->a.Perm b->a=b
 |[],b,_,_,p=>(List.nil_perm.mp p).symm
 |x::a,b,Y,Q,p=>by
  cases b with
  |nil=>exact absurd p.symm ba
  |cons y b =>
   unfold Nf at Y Q;rw[Ei] at Y Q;have e:x=y:=by
    rcases Az.mp (p.mem_iff.mp (.head _)) with e|e
    .exact e
    .rcases Az.mp (p.mem_iff.mpr (.head _)) with e'|e'
     .exact e'.symm
     .have U:=Y.1 y e'
      have J:=Q.1 x e;rcases O.tri U with e|h
      .exact e.symm
      .rw[J] at h;cases h
   subst e;rw[g6 O Y.2 Q.2 (List.Perm.cons_inv p)]
theorem Y3 (O:Ord lt'){l:Aa K}(h:Nf lt' l)(nd:l.Nodup):l.Pairwise λa b=>lt' a b=true:=by
 refine List.Pairwise.imp₂ (λ{a b} Y Q=>?_) h nd;exact(O.tri Y).elim (λe=>absurd e.symm Q) id
noncomputable def wZ (lt':K->K->As)(l:Aa K):Aa K:=l.mergeSort λa b=>!lt' b a
theorem yH (l:Aa K):(wZ lt' l).Perm l:=List.mergeSort_perm _ _
theorem gC (O:Ord lt')(l:Aa K):Nf lt' (wZ lt' l):=by
 have:=Vo (le:=λa b=>!lt' b a) (λa b c Y Q=>?_) (λa b=>?_) l
 .exact this.imp λh=>by simpa using h
 .have Y:lt' b a=false:=by simpa using Y
  have Q:lt' c b=false:=by simpa using Q
  cases J:lt' c a with
  |false=>rfl
  |true =>
   rcases O.tri Y with e|h
   .rw[<- e] at J;rw[J] at Q;cases Q
   .have:=O.tr J h;rw[Q] at this;cases this
 .cases h:lt' b a with
  |false=>rfl
  |true =>
   cases U:lt' a b with
   |false=>rfl
   |true=>have:=O.tr h U;rw[O.irr] at this;cases this
noncomputable def jG (lt':K->K->As)(x:K):Aa K->Aa K
 |[]=>[x]
 |y::l=>if lt' x y then x::y::l else if lt' y x then y::jG lt' x l else y::l
def gz (lt':K->K->As):Aa K->Aa K
 |[]=>[]
 |x::Q=>jG lt' x (gz lt' Q)
set_option tactic.hygienic true in
theorem mX (O:Ord lt')(x y:K):∀ l:Aa K,y∈jG lt' x l↔y=x\/y∈l
 |[]=>by simp[jG]
 |z::l=>by
  unfold jG
  split
  .simp
  .rename_i Y
   split
   .rw[Az,mX O x y l,Az]
    exact⟨λh=>by rcases h with h|h|h <;> simp[h],λh=>by rcases h with h|h|h <;> simp[h]⟩
   .rename_i Q
    have:x=z:=(O.tri (by simpa using Y)).elim id λh=>absurd h Q
    subst this;simp
set_option tactic.hygienic true in
theorem iN (O:Ord lt')(x:K):∀ l:Aa K,l.Pairwise (λa b=>lt' a b=true)->(jG lt' x l).Pairwise (λa b=>lt' a b=true)
 |[],_=>by simp[jG]
 |z::l,h=>by
  rw[Ei] at h;unfold jG
  split
  .rename_i Q
   refine Ei.mpr ⟨λy hy=>?_,Ei.mpr h⟩;rcases Az.mp hy with rfl|hy
   .exact Q
   .exact O.tr Q (h.1 y hy)
  .split
   .rename_i Y
    refine Ei.mpr ⟨λy hy=>?_,iN O x l h.2⟩;rcases (mX O x y l).mp hy with rfl|hy
    .exact Y
    .exact h.1 y hy
   .exact Ei.mpr h
theorem xF (O:Ord lt')(y:K):∀ l:Aa K,y∈gz lt' l↔y∈l
 |[]=>by simp[gz]
 |x::l=>by rw[gz,mX O,xF O y l,Az]
theorem yW (O:Ord lt'):∀ l:Aa K,(gz lt' l).Pairwise (λa b=>lt' a b=true)
 |[]=>by simp[gz]
 |x::l=>iN O x _ (yW O l)
theorem j6 (O:Ord lt'):∀ {a b:Aa K},a.Pairwise (λa b=>lt' a b=true)->b.Pairwise (λa b=>lt' a b=true)->(∀ x,x∈a↔x∈b)->a=b
 |[],[],_,_,_=>rfl
 |[],y::b,_,_,h=>by have:=(h y).mpr ba;simp at this
 |x::a,[],_,_,h=>by have:=(h x).mp ba;simp at this
 |x::a,y::b,J,U,h=>by
  rw[Ei] at J U;have Y:∀ {u v},lt' u v=true->lt' v u=true->Ex:=λp q=>by have:=O.tr p q;rw[O.irr] at this;cases this
  have e:x=y:=by
   rcases Az.mp ((h x).mp ba) with e|e
   .exact e
   .rcases Az.mp ((h y).mpr ba) with e'|e'
    .exact e'.symm
    .exact(Y (U.1 x e) (J.1 y e')).elim
  subst e;have G:∀ {z:K} {l:Aa K},(∀ y∈l,lt' x y=true)->z∈l->z≠x:=λh Q e=>by subst e;have:=h _ Q;rw[O.irr] at this;cases this
  rw[j6 O J.2 U.2 λz=>⟨λQ=>?_,λQ=>?_⟩]
  .exact(Az.mp ((h z).mp (by simp[Q]))).elim (λe=>absurd e (G J.1 Q)) id
  .exact(Az.mp ((h z).mpr (by simp[Q]))).elim (λe=>absurd e (G U.1 Q)) id
theorem RH (O:Ord lt'){l xs:Aa K}(h:Nf lt' l)(nd:l.Nodup)(m:∀ x,x∈l↔x∈xs):l=gz lt' xs:=
 j6 O (Y3 O h nd) (yW O xs) λx=>by rw[m,xF O]
end
theorem FR:typeLookup (.type "set") "__len__" = pure (Ab (.builtin "set.__len__")):=PySem.F.slot_set_len.lookup
section
variable {prog:Bh}{w:Ce}{A:Bw}{E:ae}{s:Ai}{S:Af}{es:Ay (Ah × Ac)}{ep:Ag}{t:Fh}
theorem UT (hT:s.TypeIs (.ref r) "set"){Q:As->Ai->Prop}(h:Q false s):Ar (Av prog w) A (Sr (.ref r)) Q E s:=by
 unfold Sr;refine Ad (We hT FR ?_);generalize J:("set.__len__" : Ep)=id0
 wp_delta
 rw[show splitId id0=Ab ("set","__len__") from by subst J;decide +kernel]
 subst J;refine Ad (Qr (T:="set") (b:=true) hT (by rw[Xy];kernel_rfl) ?_)
 refine Wk (λY=>absurd Y bb) (λ_=>?_)
 refine Wk (λ_=>?_) (λY=>absurd (by decide +kernel) Y)
 exact Ad (Nc hT (An h))
theorem aU {Q:Aa Ac->Ai->Prop}(hh:A.handled=none)(Z:mf w S es ep t)(v:s.heap.get? S=Ab (ir es ep t))(hn:es.size<=1000)
  (h:∀ h' f,(∀ b o,s.heap.get? b=Ab o->h'.get? b=Ab o)->s.heap.objs.size<h'.objs.size->Q ((qU w S ep es).toList.map (·.2)) { s with heap:=h',toks:=f }) : Ar (Av prog w) A (collect (.ref S)) Q E s:=by
 have M:S<s.heap.objs.size:=Bf v;unfold collect;refine Ad (wpAny_runValue (Md PySem.F.entry_proto_collect ?_));rw[Kl PySem.F.plain_proto_collect _];show Ar _ A.in1 (newList [] >>= λl=>again (.builtin "list.__iadd__" ⟨[l,.ref S],[]⟩)) _ _ s;refine Ad (Dw (An ⟨Ue Vp _,Md PySem.F.entry_list_iadd ?_⟩));rw[Kl Vp _];have hD:(s.heap.push { cls:=.type "list",data:=.seq ([] : Aa Ac).toArray }).get? s.heap.objs.size=Ab { cls:=.type "list",data:=.seq #[] }:=Bi _ rfl;have J:(s.heap.push { cls:=.type "list",data:=.seq ([] : Aa Ac).toArray }).get? S=Ab (ir es ep t):=Ak _ v;show Ar _ A.in1 (Ss (.ref s.heap.objs.size) (.ref S) (.ref s.heap.objs.size)) _ _ _;unfold Ss;have j:Zg { s with heap:=s.heap.push { cls:=.type "list",data:=.seq ([] : Aa Ac).toArray } } (.ref S) "set":=⟨_,J,rfl⟩
 refine Ad (Nc j ?_);have h1:Ut (.ref s.heap.objs.size) (.ref S)=false:=by simp[Ut];exact Jy M
 rw[Bc (by rw[h1];decide)]
 refine Ad (UY (s:={ s with heap:=s.heap.push { cls:=.type "list",data:=.seq ([] : Aa Ac).toArray } }) Z J ?_)
 have N:=Ak (vw 0 0 S es.size ep) hD;have y:Zg { s with heap:=(s.heap.push { cls:=.type "list",data:=.seq ([] : Aa Ac).toArray }).push (vw 0 0 S es.size ep) } (.ref S) "set":=⟨_,Ak _ J,rfl⟩
 refine Ad (EQ (UT y ?_));refine Wk (λ_=>?_) (λg=>absurd bb g)
 refine Ad (He (Ad ?_));show Ar _ _ (updateSeq s.heap.objs.size (·.push .none) >>= λ_=>updateSeq s.heap.objs.size (·.pop)) _ _ _
 refine Ad (wpAny_updateSeq N rfl ?_);have C:=Ev (Fc (·.push Dg)) N rfl
 refine wpAny_updateSeq (hz:=by seq_fits) C rfl ?_
 have z:=Ev (Fc (·.pop)) C rfl
 have L:(s.heap.push { cls:=.type "list",data:=.seq ([] : Aa Ac).toArray }).objs.size=s.heap.objs.size+1:=Fg ..;have U:∀ {b:Af} {o:Dc},b≠s.heap.objs.size->((s.heap.push { cls:=.type "list",data:=.seq ([] : Aa Ac).toArray }).push (vw 0 0 S es.size ep)).get? b=Ab o ->
   ((((s.heap.push { cls:=.type "list",data:=.seq ([] : Aa Ac).toArray }).push (vw 0 0 S es.size ep)).update s.heap.objs.size (Fc (·.push Dg))).update s.heap.objs.size (Fc (·.pop))).get? b=Ab o:=
  λG e=>(Dt _ _ (Fv G)).trans ((Dt _ _ (Fv G)).trans e)
 have k:=B0 (w:=w) (s:={ s with heap:=s.heap.push { cls:=.type "list",data:=.seq ([] : Aa Ac).toArray } }) Z J
 refine An ⟨Ue PySem.F.plain_extend_loop _,?_⟩;refine codeAny_extend_loopS ((ND (prog:=prog) (A:=A.in1) (I:=(s.heap.push { cls:=.type "list",data:=.seq ([] : Aa Ac).toArray }).objs.size) hh (by rw[L];exact Cu (Ps M)) Z).toS) (by rw[Fu];lia) s.heap.objs.size ?_ _ es.size 0 _ #[] _ rfl (Fk _) ?_ z (ItemsOf.nil _) λd T c H O Y=>?_
 .rw[L]
  simp only[Az,En,Kc,not_or];exact⟨Cu (Ji _),Jy M⟩
 .obtain⟨slot,a1,a2,a3⟩:=k
  exact⟨slot,U (by rw[L];exact Jy (Ji _)) a1,U (Cu M) a2,a3⟩
 .show Ar _ A (load s.heap.objs.size >>= _) _ _ d
  refine Ad (wpAny_load O ?_);obtain⟨h',g',d',u,p⟩:=d;have eg:g'=s.gens:=H.gens;have r:d'=s.drawn:=H.drawn;have a:p=s.os:=H.os;subst eg;subst r;subst a;have e:T.toList=(qU w S ep es).toList.map (·.2):=by
   refine Ug λi=>?_;rw[Br,Ee,Br];by_cases hi:i<es.size
   .have B:i<T.size:=by rw[Y.1];exact hi
    obtain⟨e,x,q⟩:=Y.2 i T[i] (Du B);rw[Du B,x,AbJ,q]
   .rw[Qe (by rw[Y.1];lia),Qe (by rw[uX];lia)]
    rfl
  refine An ?_;show Q T.toList _;rw[e];refine h h' u (λb o q=>?_) (Bf O);have G:b<s.heap.objs.size:=Bf q;refine H.heap b o (λhx=>?_) (U (Cu G) (Ak _ (Ak _ q)));simp only[Az,En,Kc] at hx;rcases hx with hx|hx
  .exact absurd G (by rw[hx];exact Ey _)
  .exact absurd G (by rw[hx,L];exact Qb.mpr (Tk _))
end
def lS:As->Bo->Ay Bo->Ag->Ag->Ag->No Fm Kv (Am Ag):=sortPriv% PySem.Builtin.gallop
def JD:Ay Bo->Ay Bo->No Fm Kv (Ay Bo):=sortPriv% PySem.Builtin.mergeLo
def JC:Ay Bo->Ay Bo->No Fm Kv (Ay Bo):=sortPriv% PySem.Builtin.mergeHi
def nv:Bo:=(Dg,Dg)
section
variable {M:Pn}{A:Bw}{E:ae}{s:Ai}{κ: Oh}{U:Bo->Prop}{r:Bo->Ah}
structure Cm (M:Pn)(A:Bw)(s:Ai)(κ : Oh)(U:Bo->Prop)(r:Bo->Ah):Prop where
 lt:∀ {x y:Bo},U x->U y->∀ {E:ae} {Q:Am As->Fm->Prop} {st:Fm},kindOf st=κ->Q (Ab (decide (r x<r y))) st->wpS M A E s (lt' x y) Q st
theorem zF {i:Ag}{Q:Bo->Fm->Prop}{st:Fm}(h:i<arr.size)(q:Q (arr.getD i nv) st):wpS M A E s (elem' arr i) Q st:=by
 rw[elem'_eq,getElem?_pos arr i h];have e:arr.getD i nv=arr[i]:=by simp[Gs,h]
 rw[e] at q;exact Bv q
theorem X7 (C:Cm M A s κ U r){left:As}{Y:Bo}{arr:Ay Bo}{i:Ag}{Q:Am As->Fm->Prop}{st:Fm}(G:kindOf st=κ)(hi:i<arr.size)(N:U (arr.getD i nv))(J:U Y)
  (q:Q (Ab (if left then decide (r (arr.getD i nv)<r Y) else !decide (r Y<r (arr.getD i nv)))) st) :
  wpS M A E s (do let x <- elem' arr i;if left then lt' x Y else (do let a <- lt' Y x;pure (a.map (λb=>!b)))) Q st:=by
 refine Bb (zF hi ?_);cases left with
 |true=>exact C.lt N J G q
 |false=>exact Bb (C.lt J N G (Bv q))
theorem lB (C:Cm M A s κ U r){left:As}{N:Bo}{arr:Ay Bo}{base n Y G:Ag}{Q:Am Ag->Fm->Prop}{st:Fm}(l:kindOf st=κ)(hh:Y<n)(hb:base+n<=arr.size)(t:∀ i,i<n->U (arr.getD (base+i) nv))(j:U N)(hc:G<=n)
  (hB:∀ i,i<n->(if left then decide (r (arr.getD (base+i) nv)<r N) else !decide (r N<r (arr.getD (base+i) nv)))=decide (i<G)) (h:Q (Ab G) st):wpS M A E s (lS left N arr base n Y) Q st:=by
 have B:∀ {i:Ag} {E:ae} {Q:Am As->Fm->Prop},i<n->Q (Ab (decide (i<G))) st->wpS M A E s (do let x <- elem' arr (base+i);if left then lt' x N else (do let a <- lt' N x;pure (a.map (λb=>!b)))) Q st:=by
  intro i E Q hi q;exact X7 C l ab (t i hi) j (by rw[hB i hi];exact q)
 have M_:∀ {lo hi:Ag} {f:Ag->Am (Am Ag) × Ag × Ag->No Fm Kv (ForInStep (Am (Am Ag) × Ag × Ag))},lo<=G->G<=hi->hi<=n ->
   (∀ x a b,f x (none,a,b)=if a>=b then pure (.done (none,a,b)) else ((do let x <- elem' arr (base+(a+(b-a)/2));if left then lt' x N else (do let a <- lt' N x;pure (a.map (λb=>!b)))) >>= λo=>match o with
    |some H=>if H then pure (.yield (none,a+(b-a)/2+1,b)) else pure (.yield (none,a,a+(b-a)/2))
    |_=>pure (.done (Ab none,a,b))))->wpS M A E s (forIn [0:n] (none,lo,hi) f) (λc J=>J=st/\∃ a,c=(none,a,G)) st:=by
  intro lo hi f v u h3 d;refine Fo (I:=λx c J=>J=st/\∃ a b,c=(none,a,b)/\a<=G/\G<=b/\b<=n/\b+x<=n+a) ?_ ?_ ⟨rfl,lo,hi,rfl,v,u,h3,by lia⟩
  .rintro x c J _ y ⟨rfl,a,b,rfl,O,L,T,p⟩
   rw[d];by_cases g:a>=b
   .rw[Be g];exact Bv ⟨rfl,a,by rw[show b=G by lia]⟩
   .rw[Bc g]
    have e:a<=a+(b-a)/2/\a+(b-a)/2<b:=by lia
    generalize a+(b-a)/2=m at e;refine Bb (B ab ?_)
    by_cases z:m<G
    .simp only[z,Ju,Ds]
     exact Bv ⟨rfl,_,_,rfl,by lia,L,T,by lia⟩
    .simp only[z,Jz,Bl,Dq]
     exact Bv ⟨rfl,_,_,rfl,O,by lia,by lia,by lia⟩
  .rintro c J ⟨rfl,a,b,rfl,O,L,T,p⟩
   exact⟨rfl,a,by rw[show b=G by lia]⟩
 refine Bb (B hh ?_);dsimp only;by_cases w:Y<G
 .simp only[w,Ju,Ds]
  refine Bb (Hv (Fo (I:=λx c J=>J=st/\∃ a b,c=(none,a,b)/\Y+a<G/\a<b/\x<b)
   (Q:=λc J=>J=st/\∃ a b,c=(none,a,b)/\Y+a<G/\G<=Y+min b (n-Y)) ?_ ?_ ⟨rfl,0,1,rfl,w,by lia,by lia⟩) ?_)
  .rintro x c J _ y ⟨rfl,a,b,rfl,O,L,T⟩
   dsimp only;by_cases g:b>=n-Y
   .rw[Be g];exact Bv ⟨rfl,a,b,rfl,O,by lia⟩
   .rw[Bc g]
    refine Bb (B ab ?_)
    by_cases z:Y+b<G
    .simp only[z,Ju,Kj,Bl,Dq]
     exact Bv ⟨rfl,_,_,rfl,z,by lia,by lia⟩
    .simp only[z,Jz,Xw,Ds]
     exact Bv ⟨rfl,a,b,rfl,O,by lia⟩
  .rintro c J ⟨rfl,a,b,rfl,O,L,T⟩
   exact⟨rfl,a,b,rfl,O,by lia⟩
  .rintro c J ⟨rfl,a,b,rfl,O,L⟩
   dsimp only;refine Bb (Hv (M_ (lo:=Y+a+1) (hi:=Y+min b (n-Y)) ab L ab λ_ _ _=>rfl) ?_)
   rintro c J ⟨rfl,k,rfl⟩;exact Bv h
 .simp only[w,Jz,Bl,Dq]
  refine Bb (Hv (Fo (I:=λx c J=>J=st/\∃ a b,c=(none,a,b)/\G+a<=Y/\a<b/\x<b)
   (Q:=λc J=>J=st/\∃ a b,c=(none,a,b)/\G+a<=Y/\Y+1<=G+min b (Y+1)) ?_ ?_ ⟨rfl,0,1,rfl,by lia,by lia,by lia⟩) ?_)
  .rintro x c J _ y ⟨rfl,a,b,rfl,O,L,T⟩
   dsimp only;by_cases g:b>=Y+1
   .rw[Be g];exact Bv ⟨rfl,a,b,rfl,O,by lia⟩
   .rw[Bc g]
    refine Bb (B ab ?_)
    by_cases z:Y-b<G
    .simp only[z,Ju,Ds]
     exact Bv ⟨rfl,a,b,rfl,O,by lia⟩
    .simp only[z,Jz,Bl,Dq]
     exact Bv ⟨rfl,_,_,rfl,by lia,by lia,by lia⟩
  .rintro c J ⟨rfl,a,b,rfl,O,L,T⟩
   exact⟨rfl,a,b,rfl,O,by lia⟩
  .rintro c J ⟨rfl,a,b,rfl,O,L⟩
   dsimp only;refine Bb (Hv (M_ (lo:=Y+1-min b (Y+1)) (hi:=Y-a) ab ab ab λ_ _ _=>rfl) ?_)
   rintro c J ⟨rfl,k,rfl⟩;exact Bv h
end
def Le (r:Bo->Ah)(x y:Bo):Prop:=r x<=r y
structure Mg (r:Bo->Ah)(o A B T:Aa Bo):Prop where
 p1:(o++A).Pairwise (Le r)
 p2:(o++B).Pairwise (Le r)
 pm:(o++A++B).Perm T
structure Mh (r:Bo->Ah)(A B o T:Aa Bo):Prop where
 p1:(A++o).Pairwise (Le r)
 p2:(B++o).Pairwise (Le r)
 pm:(A++B++o).Perm T
section
variable {r:Bo->Ah}{o A B A1 A2 B1 B2 T:Aa Bo}
theorem Mg.b (h:Mg r o A (B1++B2) T)(l:∀ x∈B1,∀ y∈A,Le r x y):Mg r (o++B1) A B2 T:=by
 obtain⟨Q,Y,U⟩:=h;refine⟨?_,by rw[Ch];exact Y,?_⟩
 .rw[Ch]
  rw[Di] at Q Y ⊢;refine⟨Q.1,?_,λx J y hy=>?_⟩
  .rw[Di]
   exact⟨(Di.mp Y.2.1).1,Q.2.1,l⟩
  .rcases Bp.mp hy with hy|hy
   .exact Y.2.2 x J y (Cs _ hy)
   .exact Q.2.2 x J y hy
 .refine Rv ?_ U
  simp only[Ch];refine Ib _ ?_;simp only[<- Ch];exact Me _ Mv
theorem Mg.a (h:Mg r o (A1++A2) B T)(l:∀ x∈A1,∀ y∈B,Le r x y):Mg r (o++A1) A2 B T:=by
 obtain⟨Q,Y,U⟩:=h;refine⟨by rw[Ch];exact Q,?_,by simpa only [Ch] using U⟩
 rw[Ch];rw[Di] at Q Y ⊢;refine⟨Y.1,?_,λx J y hy=>?_⟩
 .rw[Di]
  exact⟨(Di.mp Q.2.1).1,Y.2.1,l⟩
 .rcases Bp.mp hy with hy|hy
  .exact Q.2.2 x J y (Cs _ hy)
  .exact Y.2.2 x J y hy
theorem Mh.a (h:Mh r (A1++A2) B o T)(l:∀ x∈B,∀ y∈A2,Le r x y):Mh r A1 B (A2++o) T:=by
 obtain⟨Q,Y,U⟩:=h;refine⟨by rw[<- Ch];exact Q,?_,?_⟩
 .rw[Ch] at Q
  rw[Di] at Q Y ⊢;refine⟨Y.1,Q.2.1,λx J y hy=>?_⟩;rcases Bp.mp hy with hy|hy
  .exact l x J y hy
  .exact Y.2.2 x J y hy
 .refine Rv ?_ U
  simp only[Ch];refine Ib _ ?_;simp only[<- Ch];exact Me _ Mv
theorem Mh.b (h:Mh r A (B1++B2) o T)(l:∀ x∈A,∀ y∈B2,Le r x y):Mh r A B1 (B2++o) T:=by
 obtain⟨Y,Q,U⟩:=h;refine⟨?_,by rw[<- Ch];exact Q,by simpa only [Ch] using U⟩
 rw[Ch] at Q;rw[Di] at Y Q ⊢;refine⟨Y.1,Q.2.1,λx J y hy=>?_⟩;rcases Bp.mp hy with hy|hy
 .exact l x J y hy
 .exact Y.2.2 x J y hy
end
structure Mo (r:Bo->Ah)(T:Aa Bo)(m:Ay Bo):Prop where
 pm:m.toList.Perm T
 up:m.toList.Pairwise (Le r)
abbrev aD (st:Fm)(g:Ag):Fm:=Dl (kindOf st) (arrOf st) (pendingOf st) g (failedOf st)
theorem lJ {a:Ay Bo}{i:Ag}(h:i<a.size):a.toList.drop i=a.getD i nv::a.toList.drop (i+1):=by
 rw[Gq (by simpa using h)]
 congr 1
 simp[Gs,h]
theorem zV {a:Ay Bo}{i:Ag}(h:i<a.size):a.getD i nv∈a.toList:=by
 have e:a.getD i nv=a[i]:=by simp[Gs,h]
 rw[e];exact Array.getElem_mem_toList h
theorem yJ {r:Bo->Ah}{a:Ay Bo}(s:a.toList.Pairwise (Le r)){i j:Ag}(h:i<=j)(Q:j<a.size):r (a.getD i nv)<=r (a.getD j nv):=by
 rcases Fp i j with l|l
 .have e:=Ki.mp s i j (by simpa using Hx l Q) (by simpa using Q) l
  have Y:i<a.size:=Hx l Q;simpa [Gs,Y,Q,Le] using e
 .rw[Rw h l];exact Qu _
theorem gU {a:Ay Bo}{x:Bo}(h:x∈a.toList.drop i):∃ j,i<=j/\j<a.size/\x=a.getD j nv:=by
 obtain⟨k,Y,e⟩:=Co.mp h;rw[Ub] at e;have Q:k<a.size-i:=by simpa using Y
 refine⟨i+k,by lia,by lia,?_⟩
 have:i+k<a.size:=by lia
 simp[Gs,this,<- e]
theorem gV {a:Ay Bo}{x:Bo}(h:x∈a.toList.take n):∃ j,j<n/\j<a.size/\x=a.getD j nv:=by
 obtain⟨k,Y,e⟩:=Co.mp h;rw[Ua] at e;have Q:k<n/\k<a.size:=by rw[Hi,Bt] at Y;lia
 refine⟨k,Q.1,Q.2,?_⟩;simp[Gs,Q.2,<- e]
theorem mS {a:Ay Bo}{i k:Ag}:(a.extract i (i+k)).toList++a.toList.drop (i+k)=a.toList.drop i:=by
 rw[Km,Ic,Gi,<- List.drop_drop];exact Qv _ _
theorem bX {a:Ay Bo}:(a.extract i a.size).toList=a.toList.drop i:=by
 rw[Km,Ic];exact Mf ba
theorem kZ {a:Ay Bo}{i k:Ag}{x:Bo}(h:x∈(a.extract i (i+k)).toList):∃ j,i<=j/\j<i+k/\j<a.size/\x=a.getD j nv:=by
 rw[Km,Ic,Gi] at h;obtain⟨m,Y,e⟩:=Co.mp h;rw[Ua,Ub] at e;have Q:m<k/\i+m<a.size:=by rw[Hi,Kz,Bt] at Y;lia
 refine⟨i+m,by lia,by lia,Q.2,?_⟩
 simp[Gs,Q.2,<- e]
def GL (r:Bo->Ah)(a b o:Ay Bo)(i j:Ag):Prop:=Mg r o.toList (a.toList.drop i) (b.toList.drop j) (a.toList++b.toList)
section
variable {r:Bo->Ah}{a b o:Ay Bo}{i j k:Ag}
theorem GL.pb (Q:a.toList.Pairwise (Le r))(h:GL r a b o i j)(G:j<b.size)(l:i<a.size->r (b.getD j nv)<=r (a.getD i nv)):GL r a b (o.push (b.getD j nv)) i (j+1):=by
 have N:Mg r o.toList (a.toList.drop i) ([b.getD j nv]++b.toList.drop (j+1)) (a.toList++b.toList):=by rw[Xf,<- lJ G];exact h
 have:=N.b λx O y U=>by
  cases Cz.mp O;obtain⟨m,J,Y,rfl⟩:=gU U;exact Gb (l ab) (yJ Q J Y)
 unfold GL;rw[Fb];exact this
theorem GL.pa (N:b.toList.Pairwise (Le r))(h:GL r a b o i j)(hi:i<a.size)(l:j<b.size->r (a.getD i nv)<=r (b.getD j nv)):GL r a b (o.push (a.getD i nv)) (i+1) j:=by
 have U:Mg r o.toList ([a.getD i nv]++a.toList.drop (i+1)) (b.toList.drop j) (a.toList++b.toList):=by rw[Xf,<- lJ hi];exact h
 have:=U.a λx G y J=>by
  cases Cz.mp G;obtain⟨m,Y,Q,rfl⟩:=gU J;exact Gb (l ab) (yJ N Y Q)
 unfold GL;rw[Fb];exact this
theorem GL.ea (N:b.toList.Pairwise (Le r))(h:GL r a b o i j)(T:j<b.size)(l:∀ m,m<k->r (a.getD (i+m) nv)<=r (b.getD j nv)):GL r a b (o++a.extract i (i+k)) (i+k) j:=by
 have J:Mg r o.toList ((a.extract i (i+k)).toList++a.toList.drop (i+k)) (b.toList.drop j) (a.toList++b.toList):=by rw[mS];exact h
 have:=J.a λx G y Y=>by
  obtain⟨m,C,O,B,rfl⟩:=kZ G;obtain⟨L,Q,U,rfl⟩:=gU Y;have:=l (m-i) ab
  rw[show i+(m-i)=m by lia] at this
  exact Gb this (yJ N Q U)
 unfold GL;rw[Ej];exact this
theorem GL.eb (Q:a.toList.Pairwise (Le r))(h:GL r a b o i j)(hi:i<a.size)(l:∀ m,m<k->r (b.getD (j+m) nv)<=r (a.getD i nv)):GL r a b (o++b.extract j (j+k)) i (j+k):=by
 have U:Mg r o.toList (a.toList.drop i) ((b.extract j (j+k)).toList++b.toList.drop (j+k)) (a.toList++b.toList):=by rw[mS];exact h
 have:=U.b λx N y Y=>by
  obtain⟨m,C,O,B,rfl⟩:=kZ N;obtain⟨L,J,G,rfl⟩:=gU Y;have:=l (m-j) ab
  rw[show j+(m-j)=m by lia] at this
  exact Gb this (yJ Q J G)
 unfold GL;rw[Ej];exact this
theorem GL.fin (h:GL r a b o i j)(e:i=a.size\/j=b.size):Mo r (a.toList++b.toList) (o++a.extract i a.size++b.extract j b.size):=by
 refine⟨?_,?_⟩ <;> rw[Ej,Ej,bX,bX]
 .exact h.pm
 .rcases e with rfl|rfl
  .rw[Qf ba,Hu];exact h.p2
  .rw[Qf (l:=b.toList) ba,Hu];exact h.p1
theorem GL.last (h:GL r a b o i j)(e:i+1=a.size)(l:∀ x∈b.toList,Le r x (a.getD (a.size-1) nv)):Mo r (a.toList++b.toList) (o++b.extract j b.size++a.extract i a.size):=by
 have U:i<a.size:=by lia
 have J:a.toList.drop i=[a.getD i nv]:=by rw[lJ U,Qf (by simp;lia)]
 refine⟨?_,?_⟩ <;> rw[Ej,Ej,bX,bX]
 .refine Rv ?_ h.pm
  rw[Ch,Ch];exact Ib _ Mv
 .have Q:=h.p1
  rw[J] at Q ⊢;rw[Di] at Q ⊢;refine⟨h.p2,Li _ _,λx hx y Y=>?_⟩;rcases Bp.mp hx with hx|hx
  .exact Q.2.2 x hx y Y
  .cases Cz.mp Y
   have:=l x (List.mem_of_mem_drop hx);rw[show a.size-1=i by lia] at this
   exact this
end
theorem eP {p:Ag->As}:∀ (n:Ag),(∀ i j,i<=j->j<n->p j=true->p i=true)->∃ c,c<=n/\∀ i,i<n->p i=decide (i<c)
 |0,_=>⟨0,Ax _,λi h=>by lia⟩
 |n+1,h=>by
  obtain⟨c,Y,e⟩:=eP n λi j a b=>h i j a ab
  by_cases q:p n=true
  .refine⟨n+1,Ax _,λi Q=>?_⟩
   rw[h i n ab ab q]
   simp[Q]
  .refine⟨c,by lia,λi Q=>?_⟩
   rcases Fp i n with l|l
   .exact e i l
   .have:i=n:=by lia
    subst this;have:¬ i<c:=by lia
    simp[this,q]
section
variable {M:Pn}{A:Bw}{E:ae}{s:Ai}{κ: Oh}{U:Bo->Prop}{r:Bo->Ah}
theorem qP {σ α:Type}{c:Prop}[Hy c]{x y:No σ Kv α}{Q:α->σ->Prop}{st:σ}(h1:c->wpS M A E s x Q st)(h2:¬ c->wpS M A E s y Q st):wpS M A E s (if c then x else y) Q st:=by
 by_cases h:c
 .rw[Be h];exact h1 h
 .rw[Bc h];exact h2 h
theorem UO (C:Cm M A s κ U r){Y:Bo}{arr:Ay Bo}{base n J:Ag}{Q:Am Ag->Fm->Prop}{st:Fm}(L:kindOf st=κ)(H:J<n)(w:base+n<=arr.size)(I:∀ i,i<n->U (arr.getD (base+i) nv))(N:U Y)
  (T:∀ i j,i<=j->j<n->r (arr.getD (base+i) nv)<=r (arr.getD (base+j) nv)) (h:∀ c,c<=n->(∀ i,i<c->r (arr.getD (base+i) nv)<=r Y)->(∀ i,c<=i->i<n->r Y<r (arr.getD (base+i) nv))->Q (Ab c) st):wpS M A E s (lS false Y arr base n J) Q st:=by
 obtain⟨c,O,e⟩:=eP (p:=λi=>!decide (r Y<r (arr.getD (base+i) nv))) n λi j a b q=>by
  have:=T i j a b;simp only[Pu,Ja] at q ⊢
  lia
 refine lB C L H w I N O (λi G=>by simpa using e i G) (h c O (λi G=>?_) λi G B=>?_)
 .have:=e i ab
  simp only[G,Ju,Pu,Ja] at this
  lia
 .have:=e i B
  simp only[show ¬ i<c by lia,Jz,Bool.not_eq_false',Bq] at this
  exact this
theorem UP (C:Cm M A s κ U r){Y:Bo}{arr:Ay Bo}{base n J:Ag}{Q:Am Ag->Fm->Prop}{st:Fm}(L:kindOf st=κ)(H:J<n)(w:base+n<=arr.size)(I:∀ i,i<n->U (arr.getD (base+i) nv))(N:U Y)
  (T:∀ i j,i<=j->j<n->r (arr.getD (base+i) nv)<=r (arr.getD (base+j) nv)) (h:∀ c,c<=n->(∀ i,i<c->r (arr.getD (base+i) nv)<r Y)->(∀ i,c<=i->i<n->r Y<=r (arr.getD (base+i) nv))->Q (Ab c) st):wpS M A E s (lS true Y arr base n J) Q st:=by
 obtain⟨c,O,e⟩:=eP (p:=λi=>decide (r (arr.getD (base+i) nv)<r Y)) n λi j a b q=>by
  have:=T i j a b;simp only[Bq] at q ⊢
  lia
 refine lB C L H w I N O (λi G=>by simpa using e i G) (h c O (λi G=>?_) λi G B=>?_)
 .have:=e i ab
  simp only[G,Ju,Bq] at this;exact this
 .have:=e i B
  simp only[show ¬ i<c by lia,Jz,Ja] at this
  lia
end
section
variable {M:Pn}{A:Bw}{E:ae}{s:Ai}{σ α γ δ:Type}{Q:α->σ->Prop}{st:σ}{c c' c2:Prop}[Hy c][Hy c'][Hy c2]
theorem oY {K:γ->No σ Kv α}(h:∀ z,wpS M A E s (K z) Q st):wpS M A E s (if c then K x else K y) Q st:=qP (λ_=>h x) λ_=>h y
theorem V7 {K:γ->δ->No σ Kv α}(P:γ->δ->Prop)(hK:∀ z w,P z w->wpS M A E s (K z w) Q st)(h1:c->c'->wpS M A E s u Q st)(h2:c->¬ c'->P x w)(h3:¬ c->P y v):wpS M A E s (if c then (if c' then u else K x w) else K y v) Q st:=qP (λe=>qP (h1 e) λY=>hK _ _ (h2 e Y)) λe=>hK _ _ (h3 e)
theorem V8 {K:γ->δ->No σ Kv α}(P:γ->δ->Prop)(hK:∀ z w,P z w->wpS M A E s (K z w) Q st)(h1:c->c'->wpS M A E s u Q st)(h1':c->¬ c'->c2->wpS M A E s J Q st)(h2:c->¬ c'->¬ c2->P x w)(h3:¬ c->P y v):wpS M A E s (if c then (if c' then u else if c2 then J else K x w) else K y v) Q st:=qP (λe=>qP (h1 e) λY=>qP (h1' e Y) λU=>hK _ _ (h2 e Y U)) λe=>hK _ _ (h3 e)
end
inductive MI {ρ γ:Type}(f:Ay Bo->Ag->Ag->ρ->γ)(P:Ay Bo->Ag->Ag->Prop)(st:Fm)(c:Am (Ay Bo) × γ)(st':Fm):Prop
 |mk (g:Ag) (o:Ay Bo) (i j:Ag) (q:ρ) (hs:st'=aD st g) (hc:c=(none,f o i j q)) (h:P o i j):MI f P st c st'
inductive MQ {ρ γ:Type}(f:Ay Bo->Ag->Ag->ρ->γ)(F:Ay Bo->Prop)(P:Ay Bo->Ag->Ag->Prop)(st:Fm)(c:Am (Ay Bo) × γ)(st':Fm):Prop
 |fin (g:Ag) (m:Ay Bo) (hs:st'=aD st g) (hc:c.1=Ab m) (hm:F m):MQ f F P st c st'
 |on (g:Ag) (o:Ay Bo) (i j:Ag) (q:ρ) (hs:st'=aD st g) (hc:c=(none,f o i j q)) (h:P o i j):MQ f F P st c st'
structure ML (r:Bo->Ah)(a b:Ay Bo)(Z:Ag->Ag->Prop)(o:Ay Bo)(i j:Ag):Prop where
 G:GL r a b o i j
 hi:i+1<a.size
 hj:j<b.size
 z:Z i j
section
variable {prog:Bh}{w:Ce}{A:Bw}{E:ae}{s:Ai}{κ: Oh}{U:Bo->Prop}{r:Bo->Ah}
theorem iA (C:Cm (Av prog w) A s κ U r){a b:Ay Bo}{Q:Ay Bo->Fm->Prop}{st:Fm}(hk:kindOf st=κ)(ua:∀ x∈a.toList,U x)(ub:∀ x∈b.toList,U x)(sa:a.toList.Pairwise (Le r))(sb:b.toList.Pairwise (Le r))
  (h:∀ m g,Mo r (a.toList++b.toList) m->Q m (aD st g)) (ha:0<a.size) (hb:0<b.size) (h0:r (b.getD 0 nv)<=r (a.getD 0 nv)) (h1:∀ x∈b.toList,Le r x (a.getD (a.size-1) nv)):wpS (Av prog w) A E s (JD a b) Q st:=by
 have G0:GL r a b #[] 0 0:=⟨by simpa using sa,by simpa using sb,by simp⟩
 have G1:=G0.pb sa hb λ_=>h0;refine Bb (Ts (He ⟨rfl,?_⟩));refine Bb (zF hb ?_);dsimp only;refine qP (λe=>Bv (h _ (Wl st) (G1.fin (.inr (by simpa using e))))) λe1=>?_
 refine qP (λe=>Bv (h _ (Wl st) (G1.last (by simpa using e) h1))) λe2=>?_
 have e1:1<b.size:=by
  have:¬ 1=b.size:=by simpa using e1
  lia
 have e2:0+1<a.size:=by
  have:¬ 0+1=a.size:=by simpa using e2
  lia
 refine Bb (Pe ?_);refine Bb (Hv (Fo (I:=λx=>MI (λo i j q=>(o,i,j,q)) (ML r a b λi j=>x<i+j) st)
  (Q:=MQ (λo i j q=>(o,i,j,q)) (Mo r (a.toList++b.toList)) (λ_ _ _=>Ex) st) ?_ ?_ ⟨Wl st,_,0,1,_,rfl,rfl,G1,e2,e1,by lia⟩) ?_)
 .rintro x c B _ hx ⟨g,o,i,j,mg,rfl,rfl,G,N,Y,hp⟩
  dsimp only;refine Bb (Hv (Fo (I:=λy=>MI (λo i j q=>(o,i,j,q)) (ML r a b λJ O=>i+j+y<=J+O) st)
   (Q:=MQ (λo i j q=>(o,i,j,q)) (Mo r (a.toList++b.toList)) (ML r a b λJ O=>x+1<J+O) st) ?_ ?_ ⟨g,o,i,j,(0,0),rfl,rfl,G,N,Y,by lia⟩) ?_)
  .rintro y c B _ hy ⟨g,o,J,O,⟨p,q⟩,rfl,rfl,G,N,Y,H⟩
   dsimp only;refine Bb (zF Y (Bb (zF (i:=J) ab (Bb (C.lt (ub _ (zV Y)) (ua _ (zV (i:=J) ab)) hk ?_)))))
   dsimp only;refine qP (λl=>?_) λl=>?_
   .have l:r (b.getD O nv)<r (a.getD J nv):=by simpa using l
    have G2:=G.pb sa Y λ_=>Hk l;refine Bb (zF Y ?_);refine qP (λe=>?_) λe=>?_
    .exact Bv (.fin _ _ rfl rfl (G2.fin (.inr (by simpa using e))))
    .have e:¬ O+1=b.size:=by simpa using e
     refine qP (λ_=>?_) λ_=>?_
     .exact Bv (.on _ _ _ _ (_,_) rfl rfl ⟨G2,N,by lia,by lia⟩)
     .exact Bv ⟨_,_,_,_,(_,_),rfl,rfl,G2,N,by lia,by lia⟩
   .have l:¬ r (b.getD O nv)<r (a.getD J nv):=by simpa using l
    have G2:=G.pa sb ab λ_=>AbQ.mp l
    refine Bb (zF (i:=J) ab ?_)
    refine qP (λe=>?_) λe=>?_
    .exact Bv (.fin _ _ rfl rfl (G2.last (by simpa using e) h1))
    .have e:¬ J+1+1=a.size:=by simpa using e
     refine qP (λ_=>?_) λ_=>?_
     .exact Bv (.on _ _ _ _ (_,_) rfl rfl ⟨G2,by lia,Y,by lia⟩)
     .exact Bv ⟨_,_,_,_,(_,_),rfl,rfl,G2,by lia,Y,by lia⟩
  .rintro c B ⟨g,o,J,O,q,rfl,rfl,G,N,Y,H⟩
   exact .on g _ _ _ _ rfl rfl ⟨G,N,Y,by lia⟩
  .rintro c B (⟨g,m,rfl,d,hm⟩|⟨g,o,J,O,⟨p,q⟩,rfl,rfl,G,N,Y,H⟩)
   .obtain⟨c0,c1⟩:=c
    cases d;exact Bv (.fin _ m rfl rfl hm)
   dsimp only;refine Bb (Ts (He ⟨rfl,?_⟩));refine Bb (Hv (Fo (I:=λy=>MI (λo i j q=>(o,i,j,q)) (ML r a b λJ O=>x+1<J+O) st)
    (Q:=MQ (λo i j q=>(o,i,j,q)) (Mo r (a.toList++b.toList)) (ML r a b λJ O=>x+1<J+O) st) ?_ ?_ ⟨g,o,J,O,(_,_,_),rfl,rfl,G,N,Y,H⟩) ?_)
   .rintro y c B _ hy ⟨g,o,i,j,⟨p,q,t⟩,rfl,rfl,G,N,Y,H⟩
    dsimp only;generalize p-1=p1;apply oY (x:=p1) (y:=p);intro mg;have u:i<a.size:=Uh N;refine Bb (Ka ?_);refine Bb (zF Y ?_);refine Bb (UO C hk (Ui u) (x0 (Zj (Ec u))) (λJ zl=>ua _ (zV (Mw zl))) (ub _ (zV Y)) (λJ O h1 h2=>yJ sa (Je h1 _) (Mw h2)) λk k1 k2 k3=>?_);dsimp only;have G2:=G.ea sb Y k2;have k4:i+k<=a.size:=Xg (Ec u) k1;have k5:i+k<a.size->r (b.getD j nv)<r (a.getD (i+k) nv):=λh=>k3 k (Ax _) (Yh (by rw[Vn];exact h))
    have k6:x+1<i+k+j:=Bk H (Yi (Nm _ _) _);have k7:k=0->i=i+k:=λh=>by rw[h];rfl
    generalize i+k=i1 at G2 k4 k5 k6 k7 ⊢;generalize o++a.extract i i1=o1 at G2 ⊢;apply V8 (x:=o1) (w:=i1) (y:=o) (v:=i) (P:=λL T=>GL r a b L T j/\T+1<a.size/\x+1<T+j/\r (b.getD j nv)<r (a.getD T nv))
    case h1=>exact λ_ e=>Bv (.fin _ _ rfl rfl (G2.last (by simpa using e) h1))
    case h1'=>exact λ_ _ e=>Bv (.fin _ _ rfl rfl (G2.fin (.inl (by simpa using e))))
    case h2 =>
     intro _ e3 e4;have e3:¬ i1+1=a.size:=by simpa using e3
     have e4:¬ i1=a.size:=by simpa using e4
     have e5:i1<a.size:=Ie k4 e4;exact⟨G2,Ie e5 e3,k6,k5 e5⟩
    case h3 =>
     intro e;have e:=k7 (Mi e);exact⟨G,N,H,by rw[e];exact k5 (by rw[<- e];exact u)⟩
    case hK =>
     rintro L T ⟨G2,hl,H,d⟩;have M:T<a.size:=Uh hl;refine Bb (zF Y ?_);have G3:=G2.pb sa Y λ_=>Hk d;refine qP (λe=>Bv (.fin _ _ rfl rfl (G3.fin (.inr (by simpa using e))))) λe5=>?_
     have e5:¬ j+1=b.size:=by simpa using e5
     have f:j+1<b.size:=Ie Y e5;refine Bb (zF M ?_);refine Bb (UP C hk (Ui f) (x0 (Zj Y)) (λi N=>ub _ (zV (Mw N))) (ua _ (zV M)) (λi j h1 h2=>yJ sb (Je h1 _) (Mw h2)) λm m1 m2 m3=>?_);dsimp only;have G4:=G3.eb sa M λi N=>Hk (m2 i N);have m4:j+1+m<=b.size:=Xg Y m1;have m5:j+1+m<b.size->r (a.getD T nv)<=r (b.getD (j+1+m) nv):=λh=>m3 m (Ax _) (Yh (by rw[Vn];exact h))
     have m6:j+1<=j+1+m:=Nm _ _;have m7:m=0->j+1=j+1+m:=λh=>by rw[h]
     generalize j+1+m=j1 at G4 m4 m5 m6 m7 ⊢;generalize L.push (b.getD j nv)++b.extract (j+1) j1=o2 at G4 ⊢;apply V7 (x:=o2) (w:=j1) (y:=L.push (b.getD j nv)) (v:=j+1) (P:=λL ib=>GL r a b L T ib/\ib<b.size/\j+1<=ib/\r (a.getD T nv)<=r (b.getD ib nv))
     case h1=>exact λ_ e=>Bv (.fin _ _ rfl rfl (G4.fin (.inr (by simpa using e))))
     case h2 =>
      intro _ e6;have e6:¬ j1=b.size:=by simpa using e6
      have e7:=Ie m4 e6;exact⟨G4,e7,m6,m5 e7⟩
     case h3 =>
      intro e;have e:=m7 (Mi e);exact⟨G3,f,Ax _,by rw[e];exact m5 (by rw[<- e];exact f)⟩
     case hK =>
      rintro L ib ⟨G4,zb,zh,zc⟩;refine Bb (zF M ?_);have G5:=G4.pa sb M λ_=>zc;refine qP (λe=>Bv (.fin _ _ rfl rfl (G5.last (by simpa using e) h1))) λe7=>?_
      have e7:¬ T+1+1=a.size:=by simpa using e7
      have e8:T+1+1<a.size:=Ie hl e7;have e9:x+1<T+1+ib:=Bk H (AbV (Tk _) (Nat.le_of_succ_le zh));exact qP (λ_=>Bv (.on _ _ _ _ (_,_,_) rfl rfl ⟨G5,e8,zb,e9⟩)) λ_=>Bv ⟨_,_,_,_,(_,_,_),rfl,rfl,G5,e8,zb,e9⟩
   .rintro c B ⟨g,o,J,O,q,rfl,rfl,G,N,Y,H⟩
    exact .on g _ _ _ _ rfl rfl ⟨G,N,Y,by lia⟩
   .rintro c B (⟨g,m,rfl,d,hm⟩|⟨g,o,J,O,⟨p,q,t⟩,rfl,rfl,G,N,Y,H⟩)
    .obtain⟨c0,c1⟩:=c
     cases d;exact Bv (.fin _ m rfl rfl hm)
    dsimp only;refine Bb (Ka ?_);exact Bv ⟨_,_,_,_,_,rfl,rfl,G,N,Y,by lia⟩
 .rintro c B ⟨g,o,J,O,p,rfl,rfl,G,N,Y,H⟩
  exfalso
  lia
 .rintro c B (⟨g,m,rfl,d,hm⟩|⟨_,_,_,_,_,_,_,z⟩);rotate_left;exact z.elim
  obtain⟨c0,c1⟩:=c;cases d;exact Bv (h m g hm)
end
theorem dI {a:Ay Bo}(h:0<n)(Y:n<=a.size):a.toList.take n=a.toList.take (n-1)++[a.getD (n-1) nv]:=by
 obtain⟨m,rfl⟩:∃ m,n=m+1:=⟨n-1,by lia⟩
 rw[Ig,List.take_add_one];have Q:m<a.size:=by lia
 simp[Gs,Q]
theorem eX {a:Ay Bo}{i:Ag}(h:i<=n):a.toList.take i++(a.extract i n).toList=a.toList.take n:=by
 rw[Km,Ic]
 conv=>rhs;rw[show n=i+(n-i) by lia,List.take_add]
theorem gL {a:Ay Bo}:(a.extract 0 n).toList=a.toList.take n:=by
 rw[Km,Ic];simp
theorem cI {a:Ay Bo}{i:Ag}{x:Bo}(Q:i<=n)(h:x∈(a.extract i n).toList):∃ j,i<=j/\j<n/\j<a.size/\x=a.getD j nv:=by
 obtain⟨k,rfl⟩:∃ k,n=i+k:=⟨n-i,by lia⟩
 exact kZ h
def GH (r:Bo->Ah)(a b o:Ay Bo)(i j:Ag):Prop:=Mh r (a.toList.take i) (b.toList.take j) o.toList.reverse (a.toList++b.toList)
section
variable {r:Bo->Ah}{a b o:Ay Bo}{i j k:Ag}
theorem GH.pa (Y:b.toList.Pairwise (Le r))(h:GH r a b o i j)(h1:0<i)(h2:i<=a.size)(G:j<=b.size)(l:0<j->r (b.getD (j-1) nv)<=r (a.getD (i-1) nv)):GH r a b (o.push (a.getD (i-1) nv)) (i-1) j:=by
 have U:Mh r (a.toList.take (i-1)++[a.getD (i-1) nv]) (b.toList.take j) o.toList.reverse (a.toList++b.toList):=by rw[<- dI h1 h2];exact h
 have:=U.a λx Q y J=>by
  cases Cz.mp J;obtain⟨m,N,O,rfl⟩:=gV Q;exact Gb (yJ Y ab ab) (l ab)
 unfold GH;rw[Fb,NE];exact this
theorem GH.pb (Y:a.toList.Pairwise (Le r))(h:GH r a b o i j)(h1:0<j)(h2:j<=b.size)(hi:i<=a.size)(l:0<i->r (a.getD (i-1) nv)<=r (b.getD (j-1) nv)):GH r a b (o.push (b.getD (j-1) nv)) i (j-1):=by
 have U:Mh r (a.toList.take i) (b.toList.take (j-1)++[b.getD (j-1) nv]) o.toList.reverse (a.toList++b.toList):=by rw[<- dI h1 h2];exact h
 have:=U.b λx Q y J=>by
  cases Cz.mp J;obtain⟨m,G,N,rfl⟩:=gV Q;exact Gb (yJ Y ab ab) (l ab)
 unfold GH;rw[Fb,NE];exact this
theorem GH.ea (G:b.toList.Pairwise (Le r))(h:GH r a b o i j)(Q:k<=i)(L:j<=b.size)(l:0<j->∀ m,k<=m->m<i->m<a.size->r (b.getD (j-1) nv)<=r (a.getD m nv)):GH r a b (o++(a.extract k i).reverse) k j:=by
 have B:Mh r (a.toList.take k++(a.extract k i).toList) (b.toList.take j) o.toList.reverse (a.toList++b.toList):=by rw[eX Q];exact h
 have:=B.a λx U y C=>by
  obtain⟨m,T,E,rfl⟩:=gV U;obtain⟨O,N,Y,J,rfl⟩:=cI Q C;exact Gb (yJ G ab ab) (l ab O N Y J)
 unfold GH;rw[Ej,Nh,NE,Yj];exact this
theorem GH.eb (N:a.toList.Pairwise (Le r))(h:GH r a b o i j)(Q:k<=j)(hi:i<=a.size)(l:0<i->∀ m,k<=m->m<j->m<b.size->r (a.getD (i-1) nv)<=r (b.getD m nv)):GH r a b (o++(b.extract k j).reverse) i k:=by
 have B:Mh r (a.toList.take i) (b.toList.take k++(b.extract k j).toList) o.toList.reverse (a.toList++b.toList):=by rw[eX Q];exact h
 have:=B.b λx U y C=>by
  obtain⟨m,L,T,rfl⟩:=gV U;obtain⟨O,G,Y,J,rfl⟩:=cI Q C;exact Gb (yJ N ab ab) (l ab O G Y J)
 unfold GH;rw[Ej,Nh,NE,Yj];exact this
theorem GH.fin (h:GH r a b o i j)(e:i=0\/j=0):Mo r (a.toList++b.toList) (a.extract 0 i++b.extract 0 j++o.reverse):=by
 refine⟨?_,?_⟩ <;> rw[Ej,Ej,gL,gL,Nh]
 .exact h.pm
 .rcases e with rfl|rfl
  .rw[AbW,Iq];exact h.p2
  .rw[AbW,Hu];exact h.p1
theorem GH.first (h:GH r a b o i j)(e:j=1)(U:0<b.size)(l:∀ x∈a.toList,Le r (b.getD 0 nv) x):Mo r (a.toList++b.toList) (b.extract 0 j++a.extract 0 i++o.reverse):=by
 subst e;have J:b.toList.take 1=[b.getD 0 nv]:=by rw[dI ab ab];rfl
 refine⟨?_,?_⟩ <;> rw[Ej,Ej,gL,gL,Nh]
 .refine Rv ?_ h.pm
  exact Me _ Mv
 .have Q:=h.p2
  rw[J] at Q ⊢;rw[Ch];rw[Di] at Q ⊢;refine⟨Q.1,h.p1,λx Y y hy=>?_⟩;rcases Bp.mp hy with hy|hy
  .cases Cz.mp Y
   exact l y (Ri hy)
  .exact Q.2.2 x Y y hy
end
structure MH (r:Bo->Ah)(a b:Ay Bo)(Z:Ag->Ag->Prop)(o:Ay Bo)(i j:Ag):Prop where
 G:GH r a b o i j
 hi:0<i
 hi2:i<=a.size
 hj:1<j
 hj2:j<=b.size
 z:Z i j
section
variable {prog:Bh}{w:Ce}{A:Bw}{E:ae}{s:Ai}{κ: Oh}{U:Bo->Prop}{r:Bo->Ah}
theorem i9 (C:Cm (Av prog w) A s κ U r){a b:Ay Bo}{Q:Ay Bo->Fm->Prop}{st:Fm}(hk:kindOf st=κ)(ua:∀ x∈a.toList,U x)(ub:∀ x∈b.toList,U x)(sa:a.toList.Pairwise (Le r))(sb:b.toList.Pairwise (Le r))
  (h:∀ m g,Mo r (a.toList++b.toList) m->Q m (aD st g)) (ha:0<a.size) (hb:0<b.size) (h0:∀ x∈a.toList,Le r (b.getD 0 nv) x) (h1:r (b.getD (b.size-1) nv)<=r (a.getD (a.size-1) nv)):wpS (Av prog w) A E s (JC a b) Q st:=by
 have G0:GH r a b #[] a.size b.size:=by
  unfold GH;rw[Mf ba,Mf ba]
  exact⟨by simpa using sa,by simpa using sb,by simp⟩
 have G1:=G0.pa sb ha (Ax _) (Ax _) λ_=>h1;refine Bb (Ts (He ⟨rfl,?_⟩));refine Bb (zF (i:=a.size-1) ab ?_)
 dsimp only;refine qP (λe=>Bv (h _ (Wl st) (G1.fin (.inl (by simpa using e))))) λe1=>?_
 refine qP (λe=>Bv (h _ (Wl st) (G1.first (by simpa using e) hb h0))) λe2=>?_
 have e1:¬ a.size-1=0:=by simpa using e1
 have e2:¬ b.size=1:=by simpa using e2
 refine Bb (Pe ?_);refine Bb (Hv (Fo (I:=λx=>MI (λo i j q=>(i,j,o,q)) (MH r a b λi j=>x+i+j<a.size+b.size) st)
  (Q:=MQ (λo i j q=>(i,j,o,q)) (Mo r (a.toList++b.toList)) (λ_ _ _=>Ex) st) ?_ ?_ ⟨Wl st,_,a.size-1,b.size,_,rfl,rfl,G1,by lia,by lia,by lia,by lia,by lia⟩) ?_)
 .rintro x c L _ hx ⟨g,o,i,j,mg,rfl,rfl,G,B,Y,T,J,hp⟩
  dsimp only;refine Bb (Hv (Fo (I:=λy=>MI (λo i j q=>(i,j,o,q)) (MH r a b λN O=>N+O+y<=i+j) st)
   (Q:=MQ (λo i j q=>(i,j,o,q)) (Mo r (a.toList++b.toList)) (MH r a b λN O=>x+1+N+O<a.size+b.size) st) ?_ ?_ ⟨g,o,i,j,(0,0),rfl,rfl,G,B,Y,T,J,by lia⟩) ?_)
  .rintro y c L _ hy ⟨g,o,N,O,⟨p,q⟩,rfl,rfl,G,B,Y,T,J,u⟩
   dsimp only;refine Bb (zF (i:=O-1) ab (Bb (zF (i:=N-1) ab (Bb (C.lt (ub _ (zV (i:=O-1) ab)) (ua _ (zV (i:=N-1) ab)) hk ?_)))))
   dsimp only;refine qP (λl=>?_) λl=>?_
   .have l:r (b.getD (O-1) nv)<r (a.getD (N-1) nv):=by simpa using l
    have G2:=G.pa sb B Y J λ_=>Hk l;refine Bb (zF (i:=N-1) ab ?_)
    refine qP (λe=>Bv (.fin _ _ rfl rfl (G2.fin (.inl (by simpa using e))))) λe=>?_
    have e:¬ N-1=0:=by simpa using e
    exact qP (λ_=>Bv (.on _ _ _ _ (_,_) rfl rfl ⟨G2,by lia,by lia,T,J,by lia⟩)) λ_=>Bv ⟨_,_,_,_,(_,_),rfl,rfl,G2,by lia,by lia,T,J,by lia⟩
   .have l:¬ r (b.getD (O-1) nv)<r (a.getD (N-1) nv):=by simpa using l
    have G2:=G.pb sa ab J Y λ_=>AbQ.mp l
    refine Bb (zF (i:=O-1) ab ?_)
    refine qP (λe=>Bv (.fin _ _ rfl rfl (G2.first (by simpa using e) hb h0))) λe=>?_
    have e:¬ O-1=1:=by simpa using e
    exact qP (λ_=>Bv (.on _ _ _ _ (_,_) rfl rfl ⟨G2,B,Y,by lia,by lia,by lia⟩)) λ_=>Bv ⟨_,_,_,_,(_,_),rfl,rfl,G2,B,Y,by lia,by lia,by lia⟩
  .rintro c L ⟨g,o,N,O,q,rfl,rfl,G,B,Y,T,J,u⟩
   exact .on g _ _ _ _ rfl rfl ⟨G,B,Y,T,J,by lia⟩
  .rintro c L (⟨g,m,rfl,hc,hm⟩|⟨g,o,N,O,⟨p,q⟩,rfl,rfl,G,B,Y,T,J,u⟩)
   .obtain⟨c0,c1⟩:=c
    cases hc;exact Bv (.fin _ m rfl rfl hm)
   dsimp only;refine Bb (Ts (He ⟨rfl,?_⟩));refine Bb (Hv (Fo (I:=λy=>MI (λo i j q=>(i,j,o,q)) (MH r a b λN O=>x+1+N+O<a.size+b.size) st)
    (Q:=MQ (λo i j q=>(i,j,o,q)) (Mo r (a.toList++b.toList)) (MH r a b λN O=>x+1+N+O<a.size+b.size) st) ?_ ?_ ⟨g,o,N,O,(_,_,_),rfl,rfl,G,B,Y,T,J,u⟩) ?_)
   .rintro y c L _ hy ⟨g,o,i,j,⟨p,q,t⟩,rfl,rfl,G,B,Y,T,J,u⟩
    dsimp only;generalize p-1=p1;apply oY (x:=p1) (y:=p);intro mg;refine Bb (Ka ?_);have j0:0<j:=Uh T;have jb:j-1<b.size:=Bk (Oa j0 Mx) J;refine Bb (zF jb ?_);refine Bb (UO C hk (Oa B Mx) (by rw[Gy];exact Y) (λN zh=>ua _ (zV (by rw[Gy];exact Bk zh Y))) (ub _ (zV jb)) (λN O h1 h2=>yJ sa (Je h1 0) (by rw[Gy];exact Bk h2 Y)) λk k1 k2 k3=>?_)
    simp only[Gy] at k2 k3;dsimp only;have G2:=G.ea sb k1 J λ_ m q1 q2 _=>Hk (k3 m q1 q2);have kc:i-k=0->k=i:=λh=>Rw k1 (Xh h);generalize i-k=ac at kc ⊢;generalize o++(a.extract k i).reverse=o1 at G2 ⊢;apply V7 (x:=k) (w:=o1) (y:=i) (v:=o) (P:=λM H=>GH r a b H M j/\0<M/\M<=a.size/\x+1+M+j<a.size+b.size/\r (a.getD (M-1) nv)<=r (b.getD (j-1) nv))
    case h1=>exact λ_ e=>Bv (.fin _ _ rfl rfl (G2.fin (.inl (by simpa using e))))
    case hK =>
     rintro M H ⟨G2,hl,f,u,hc⟩;have d:M-1<a.size:=Bk (Oa hl Mx) f;refine Bb (zF jb ?_);have G3:=G2.pb sa j0 J f λ_=>hc;refine qP (λe=>Bv (.fin _ _ rfl rfl (G3.first (by simpa using e) hb h0))) λe5=>?_
     have e5:¬ j-1=1:=by simpa using e5
     have j1:0<j-1:=Ui T;refine Bb (zF d ?_);refine Bb (UP C hk (Oa j1 Mx) (by rw[Gy];exact Ec jb) (λi B=>ub _ (zV (by rw[Gy];exact Hx B jb))) (ua _ (zV d)) (λi j h1 h2=>yJ sb (Je h1 0) (by rw[Gy];exact Hx h2 jb)) λm m1 m2 m3=>?_)
     simp only[Gy] at m2 m3;dsimp only;have G4:=G3.eb sa m1 f λ_ m q1 q2 _=>m3 m q1 q2;have mc:j-1-m=0->m=j-1:=λh=>Rw m1 (Xh h);generalize j-1-m=bc at mc ⊢;generalize H.push (b.getD (j-1) nv)++(b.extract m (j-1)).reverse=o2 at G4 ⊢;apply V8 (x:=m) (w:=o2) (y:=j-1) (v:=H.push (b.getD (j-1) nv)) (P:=λnb H=>GH r a b H M nb/\1<nb/\nb<=j-1/\r (b.getD (nb-1) nv)<=r (a.getD (M-1) nv))
     case h1=>exact λ_ e=>Bv (.fin _ _ rfl rfl (G4.first (by simpa using e) hb h0))
     case h1'=>exact λ_ _ e=>Bv (.fin _ _ rfl rfl (G4.fin (.inr (by simpa using e))))
     case hK =>
      rintro nb H ⟨G4,h4,h5,zc⟩;have h6:nb<=b.size:=Cw h5 (Ec jb);have zb:x+1+(M-1)+nb<a.size+b.size:=Lm (AbV (Je (Nat.sub_le _ _) _) (Cw h5 (Nat.sub_le _ _))) u;refine Bb (zF d ?_);have G5:=G4.pa sb hl f h6 λ_=>zc;refine qP (λe=>Bv (.fin _ _ rfl rfl (G5.fin (.inl (by simpa using e))))) λe7=>?_
      have e7:0<M-1:=Lq (by simpa using e7)
      exact qP (λ_=>Bv (.on _ _ _ _ (_,_,_) rfl rfl ⟨G5,e7,Ec d,h4,h6,zb⟩)) λ_=>Bv ⟨_,_,_,_,(_,_,_),rfl,rfl,G5,e7,Ec d,h4,h6,zb⟩
     case h2 =>
      intro _ e6 e7;have e6:¬ m=1:=by simpa using e6
      have e7:¬ m=0:=by simpa using e7
      exact⟨G4,Ie (Lq e7) (Fv e6),m1,Hk (m2 (m-1) (Oa (Lq e7) Mx))⟩
     case h3 =>
      intro e;cases mc (Mi e);exact⟨G3,Ie j1 (Fv e5),Ax _,Hk (m2 (j-1-1) (Oa j1 Mx))⟩
    case h2 =>
     intro _ e;have e3:0<k:=Lq (by simpa using e)
     exact⟨G2,e3,Cw k1 Y,Lm (Yi (Je k1 _) _) u,k2 (k-1) (Oa e3 Mx)⟩
    case h3 =>
     intro e;have e:=kc (Mi e);exact⟨G,B,Y,u,k2 (i-1) (by rw[e];exact Oa B Mx)⟩
   .rintro c L ⟨g,o,N,O,q,rfl,rfl,G,B,Y,T,J,u⟩
    exact .on g _ _ _ _ rfl rfl ⟨G,B,Y,T,J,by lia⟩
   .rintro c L (⟨g,m,rfl,hc,hm⟩|⟨g,o,N,O,⟨p,q,t⟩,rfl,rfl,G,B,Y,T,J,u⟩)
    .obtain⟨c0,c1⟩:=c
     cases hc;exact Bv (.fin _ m rfl rfl hm)
    dsimp only;refine Bb (Ka ?_);exact Bv ⟨_,_,_,_,_,rfl,rfl,G,B,Y,T,J,by lia⟩
 .rintro c L ⟨g,o,N,O,p,rfl,rfl,G,B,Y,T,J,u⟩
  exfalso
  lia
 .rintro c L (⟨g,m,rfl,hc,hm⟩|⟨_,_,_,_,_,_,_,z⟩);rotate_left;exact z.elim
  obtain⟨c0,c1⟩:=c;cases hc;exact Bv (h m g hm)
end
theorem X5:∀ (l:Aa Bo) (arr:Ay Bo) (o d:Ag),o+d+l.length<=arr.size->∀ k,((l.zipIdx d).foldl (λa p=>a.setIfInBounds (o+p.2) p.1) arr)[k]? = if o+d<=k/\k<o+d+l.length then l[k-(o+d)]? else arr[k]?
 |[],arr,o,d,h,k=>by
  rw[Bc (by simp only[Io];lia)];rfl
 |x::l,arr,o,d,h,k=>by
  rw[Cb] at h;rw[Va,AbI,X5 l _ o (d+1) (by rw[Array.size_setIfInBounds];lia) k,Cb]
  by_cases Y:k=o+d
  .subst Y
   rw[Bc ab,Be ab,Aa0,Array.getElem?_setIfInBounds_self_of_lt ab]
   rfl
  .by_cases Q:o+(d+1)<=k/\k<o+(d+1)+l.length
   .rw[Be Q,Be ab,show k-(o+d)=(k-(o+(d+1)))+1 by lia,Pd]
   .rw[Bc Q,Bc ab,Array.getElem?_setIfInBounds_ne ab]
def wb (arr:Ay Bo)(o:Ag)(m:Ay Bo):Ay Bo:=m.toList.zipIdx.foldl (λa p=>a.setIfInBounds (o+p.2) p.1) arr
theorem oX {o:Ag}(h:o+m.size<=arr.size)(k:Ag):(wb arr o m).getD k nv=if o<=k/\k<o+m.size then m.getD (k-o) nv else arr.getD k nv:=by
 have e:=X5 m.toList arr o 0 (by simpa using h) k
 simp only[Nat.add_zero,Bt,Br] at e;rw[Fi,Fi,Fi];unfold wb;rw[e]
 split <;> rfl
theorem X6 {o d:Ag}(h:o+m.size<=arr.size)(Q:d<m.size):(wb arr o m).getD (o+d) nv=m.getD d nv:=by
 rw[oX h,Be ⟨Nm _ _,Nat.add_lt_add_left Q _⟩,Gi]
theorem jT {o k:Ag}(h:o+m.size<=arr.size)(Q:k<o\/o+m.size<=k):(wb arr o m).getD k nv=arr.getD k nv:=by
 rw[oX h,Bc ab]
theorem GP {a:Ay Bo}{i:Ag}(h:i+n<=a.size):(a.extract i (i+n)).size=n:=by rw[Lr];lia
theorem NI {o:Ag}(h:o+m.size<=arr.size):(wb arr o m).toList=arr.toList.take o++(m.toList++arr.toList.drop (o+m.size)):=by
 apply Ug;intro k;have e:=X5 m.toList arr o 0 (by simpa using h) k
 simp only[Nat.add_zero,Bt,Br] at e;unfold wb;rw[Br,e];have Y:(arr.toList.take o).length=o:=by rw[Hi,Bt];lia
 by_cases Q:k<o
 .rw[Bc ab,Bn ab,Oo Q,Br]
 .rw[Dk ab,Y]
  by_cases J:k<o+m.size
  .rw[Be ab,Bn (by rw[Bt];lia),Br]
  .rw[Bc ab,Dk (by rw[Bt];lia),f8,Bt,Br]
   congr 1
   lia
theorem NJ {o:Ag}(h:o+n<=arr.size)(p:m.toList.Perm (arr.extract o (o+n)).toList):(wb arr o m).toList.Perm arr.toList:=by
 have Q:m.size=n:=by
  have:=p.length_eq;rw[Bt,Bt,Lr] at this
  lia
 rw[NI ab,Q]
 have e:arr.toList=arr.toList.take o++((arr.extract o (o+n)).toList++arr.toList.drop (o+n)):=by rw[mS,Qv]
 conv=>rhs;rw[e]
 exact Ib _ (Me _ p)
def Seg (r:Bo->Ah)(a:Ay Bo)(lo n:Ag):Prop:=∀ i j,lo<=i->i<=j->j<lo+n->r (a.getD i nv)<=r (a.getD j nv)
theorem oM {r:Bo->Ah}{a:Ay Bo}(h:Seg r a lo n){i k:Ag}(h1:lo<=i)(h2:i+k<=lo+n)(h3:i+k<=a.size):(a.extract i (i+k)).toList.Pairwise (Le r):=by
 rw[Ki];intro x y Y N l;have G:x<k:=by rw[Bt,Lr] at Y;lia
 have Q:y<k:=by rw[Bt,Lr] at N;lia
 have e:=h (i+x) (i+y) ab ab ab
 have J:i+x<a.size:=by lia
 have U:i+y<a.size:=by lia
 simpa [Gs,J,U,Le] using e
theorem eV {a:Ay Bo}{i k m:Ag}(h:m<k)(h3:i+k<=a.size):(a.extract i (i+k)).getD m nv=a.getD (i+m) nv:=by
 have Y:i+m<a.size:=by lia
 have J:m<(a.extract i (i+k)).size:=by rw[Lr];lia
 have Q:m<min (i+k) a.size-i:=by lia
 simp[Gs,Y,Q]
theorem UL {a:Ay Bo}{i j k:Ag}(h1:i<=j)(h2:j<=k):(a.extract i j).toList++(a.extract j k).toList=(a.extract i k).toList:=by
 rw[<- Ej,Array.extract_append_extract]
 congr 2 <;> lia
section
variable {prog:Bh}{w:Ce}{A:Bw}{E:ae}{s:Ai}{κ: Oh}{U:Bo->Prop}{r:Bo->Ah}
theorem NK {σ:Type}{Q:PUnit->σ->Prop}{st Y:σ}(h:Q ⟨⟩ Y):wpS M A E s (set Y:No σ Kv PUnit) Q st:=by
 unfold wpS;rw[StateT.run_set];exact An ⟨rfl,h⟩
theorem i8 (C:Cm (Av prog w) A s κ U r){i Y B pw L pz:Ag}{Q:As->Fm->Prop}{arr:Ay Bo}{pd:Ay (Ag × Ag × Ag)}{g:Ag}(ua:∀ x∈arr.toList,U x)(e1:pd[i]? = Ab (Y,B,pw))(e2:pd[i+1]? = Ab (Y+B,L,pz))(p1:0<B)(p2:0<L)(hz:Y+B+L<=arr.size)
  (f:Seg r arr Y B) (I:Seg r arr (Y+B) L)
  (h:∀ N g,N.toList.Perm arr.toList->(∀ k,k<Y\/Y+B+L<=k->N.getD k nv=arr.getD k nv)->Seg r N Y (B+L)->Q true (Dl κ N ((pd.setIfInBounds i (Y,B+L,pw)).eraseIdxIfInBounds (i+1)) g none)) :
  wpS (Av prog w) A E s (mergeAt' i) Q (Dl κ arr pd g none):=by
 refine Bb (Pe ?_);dsimp only;rw[e1,e2];dsimp only;refine Bb (NK ?_);refine Bb (zF (i:=Y+B) ab ?_)
 refine Bb (UO C rfl ab ab (λi hi=>ua _ (zV ab)) (ua _ (zV ab)) (λi j a b=>f _ _ ab ab ab) λk k1 k2 k3=>?_)
 obtain⟨t,rfl⟩:=Fq k1;clear k1 p1 e1 e2;simp only[Gi,<- Ny] at *;refine qP (λe=>Bv (h arr g (Nb _) (λ_ _=>rfl) λi j a b c=>?_)) λe=>?_
 .have e:t=0:=by simpa using e
  subst e;by_cases q1:j<Y+k
  .exact f i j a b q1
  .by_cases q2:Y+k<=i
   .exact I i j q2 b ab
   .have:=k2 (i-Y) ab
    rw[show Y+(i-Y)=i by lia] at this
    exact Gb this (I _ _ (Ax _) ab ab)
 have e:t≠0:=by simpa using e
 obtain⟨u,rfl⟩:∃ u,t=u+1:=⟨t-1,by lia⟩
 clear e;rw[show Y+k+(u+1)-1=Y+k+u from rfl]
 refine Bb (zF (i:=Y+k+u) ab ?_)
 refine Bb (UP C rfl ab ab (λi hi=>ua _ (zV ab)) (ua _ (zV ab)) (λi j a b=>I _ _ ab ab ab) λm m1 m2 m3=>?_)
 dsimp only;have hk:=k3 k (Ax _) ab
 have hq:=f (Y+k) (Y+k+u) ab ab ab
 refine qP (λe=>?_) λe=>?_
 .have e:m=0:=by simpa using e
  subst e;exact absurd (Ta hk (Gb hq (m3 0 (Ax _) p2))) (Int.lt_irrefl _)
 have e:m≠0:=by simpa using e
 have zx:=GP (a:=arr) (i:=Y+k) (n:=u+1) ab
 have zy:=GP (a:=arr) (i:=Y+k+(u+1)) (n:=m) ab
 have px:=oM f (i:=Y+k) (k:=u+1) ab ab ab
 have py:=oM I (Ax _) (k:=m) ab ab
 have o:∀ x∈(arr.extract (Y+k) (Y+k+(u+1))).toList,U x/\r (arr.getD (Y+k+(u+1)) nv)<=r x/\r x<=r (arr.getD (Y+k+u) nv):=λx O=>by
  obtain⟨j,q1,q2,q3,rfl⟩:=kZ O;exact⟨ua _ (zV q3),Hk (Ta hk (f (Y+k) j ab q1 ab)),f j _ ab ab ab⟩
 have H:∀ x∈(arr.extract (Y+k+(u+1)) (Y+k+(u+1)+m)).toList,U x/\r (arr.getD (Y+k+(u+1)) nv)<=r x/\r x<=r (arr.getD (Y+k+u) nv):=λx O=>by
  obtain⟨j,q1,q2,q3,rfl⟩:=kZ O;obtain⟨d,rfl⟩:=Fq q1;exact⟨ua _ (zV q3),I _ _ (Ax _) q1 ab,Hk (m2 d ab)⟩
 have zb:∀ G l,Mo r ((arr.extract (Y+k) (Y+k+(u+1))).toList++(arr.extract (Y+k+(u+1)) (Y+k+(u+1)+m)).toList) G->Q true (Dl κ (wb arr (Y+k) G) ((pd.setIfInBounds i (Y,k+(u+1)+L,pw)).eraseIdxIfInBounds (i+1)) l none):=by
  intro G l M;have hm:G.size=u+1+m:=by
   have:=M.pm.length_eq;rw[Ca,Bt,Bt,Bt,zx,zy] at this;exact this
  have J:Y+k+G.size<=arr.size:=by lia
  have bd:∀ d,d<G.size->r (arr.getD (Y+k+(u+1)) nv)<=r (G.getD d nv)/\r (G.getD d nv)<=r (arr.getD (Y+k+u) nv):=λd hd=>(Bp.mp (M.pm.mem_iff.mp (zV hd))).elim (λq=>(o _ q).2) λq=>(H _ q).2;refine h _ l (NJ (n:=u+1+m) ab ?_) (λj hj=>jT J ab) λi j a b c=>?_
  .rw[<- Ny (Y+k),<- UL (j:=Y+k+(u+1)) ab ab]
   exact M.pm
  rcases Fp i (Y+k) with i1|i1
  .obtain⟨x,rfl⟩:=Fq a
   have v:=k2 x ab
   rw[jT J (.inl i1)];rcases Fp j (Y+k) with j1|j1
   .rw[jT J (.inl j1)];exact f _ j a b ab
   obtain⟨y,rfl⟩:=Fq j1;refine Gb v ?_;rcases Fp y G.size with j2|j2
   .rw[X6 J j2];exact(bd y j2).1
   .rw[jT J (.inr ab)];exact I _ _ (Ax _) ab ab
  obtain⟨x,rfl⟩:=Fq i1;obtain⟨y,rfl⟩:=Fq (Cw i1 b);rcases Fp x G.size with i2|i2
  .rw[X6 J i2]
   rcases Fp y G.size with j2|j2
   .rw[X6 J j2];exact yJ M.up ab j2
   .rw[jT J (.inr ab)]
    obtain⟨z,rfl⟩:∃ z,y=u+1+z:=⟨y-(u+1),by lia⟩
    have v:=m3 z ab ab
    rw[Ny (Y+k)] at v;exact Gb (bd x i2).2 v
  .rw[jT J (.inr ab),jT J (.inr ab)]
   exact I _ _ ab b ab
 have y0:(arr.extract (Y+k+(u+1)) (Y+k+(u+1)+m)).getD 0 nv=arr.getD (Y+k+(u+1)) nv:=eV ab ab
 have xl:(arr.extract (Y+k) (Y+k+(u+1))).getD ((arr.extract (Y+k) (Y+k+(u+1))).size-1) nv=arr.getD (Y+k+u) nv:=by rw[zx];exact eV ab ab
 have ux:=λx O=>(o x O).1;have uy:=λx O=>(H x O).1;have nx:0<(arr.extract (Y+k) (Y+k+(u+1))).size:=by lia
 have ny:0<(arr.extract (Y+k+(u+1)) (Y+k+(u+1)+m)).size:=by lia
 have T:∀ x∈(arr.extract (Y+k) (Y+k+(u+1))).toList,r (arr.getD (Y+k+(u+1)) nv)<=r x:=λx O=>(o x O).2.1;have p:∀ x∈(arr.extract (Y+k+(u+1)) (Y+k+(u+1)+m)).toList,r x<=r (arr.getD (Y+k+u) nv):=λx O=>(H x O).2.2;rw[<- y0] at T;rw[<- xl] at p;refine qP (λ_=>Bb (iA C rfl ux uy px py (λG l M=>Bb (Ka (Bb (Pe (Bv (zb G l M)))))) nx ny (T _ (zV nx)) p)) λ_=>Bb (i9 C rfl ux uy px py (λG l M=>Bb (Ka (Bb (Pe (Bv (zb G l M)))))) nx ny T (p _ (zV ab)))
end
def mir (a:Ay Bo)(i j:Ag):Ay Bo:=mirror a i j ((j-i)/2)
theorem yG {a:Ay Bo}{i j:Ag}(Q:j<=a.size)(k:Ag):(mir a i j).getD k nv=if i<=k/\k<j then a.getD (i+j-1-k) nv else a.getD k nv:=by
 rw[Fi,Fi,Fi];unfold mir;rw[getElem?_mirror_all Q]
 split <;> rfl
structure Cr (a b:Ay Bo)(lo n:Ag):Prop where
 pm:b.toList.Perm a.toList
 out:∀ k,k<lo\/lo+n<=k->b.getD k nv=a.getD k nv
theorem Cr.z {a b:Ay Bo}(h:Cr a b lo n):b.size=a.size:=by
 have:=h.pm.length_eq;simpa using this
theorem Cr.rfl' {a:Ay Bo}:Cr a a lo n:=⟨Nb _,λ_ _=>rfl⟩
theorem Cr.mir {a b:Ay Bo}{i j:Ag}(h:Cr a b lo n)(h1:lo<=i)(h2:j<=lo+n)(h3:j<=a.size):Cr a (mir b i j) lo n:=
 ⟨(To.mp (mirror_perm _ _ _ _)).trans h.pm,λk Q=>by rw[yG (by rw[h.z];exact h3),Bc ab];exact h.out k Q⟩
def wl (r:Bo->Ah)(a:Ay Bo)(lo n:Ag):Prop:=∀ i j,lo<=i->i<=j->j<lo+n->r (a.getD j nv)<=r (a.getD i nv)
theorem KF {r:Bo->Ah}{a:Ay Bo}(h:Seg r a lo n)(h1:1<=n)(l:r (a.getD (lo+n-1) nv)<=r (a.getD (lo+n) nv)):Seg r a lo (n+1):=λi j Q Y U=>by
 by_cases q:j<lo+n
 .exact h i j Q Y q
 .have:j=lo+n:=by lia
  subst this;by_cases J:i=lo+n
  .subst J;exact Qu _
  .exact Gb (h i (lo+n-1) Q ab ab) l
theorem gJ {r:Bo->Ah}{a:Ay Bo}(h:wl r a lo n)(h1:1<=n)(l:r (a.getD (lo+n) nv)<=r (a.getD (lo+n-1) nv)):wl r a lo (n+1):=λi j Q Y U=>by
 by_cases q:j<lo+n
 .exact h i j Q Y q
 .have:j=lo+n:=by lia
  subst this;by_cases J:i=lo+n
  .subst J;exact Qu _
  .exact Gb l (h i (lo+n-1) Q ab ab)
theorem oN {r:Bo->Ah}{a:Ay Bo}:Seg r a lo 1:=λi j Y J Q=>by
 have:i=j:=by lia
 subst this;exact Qu _
theorem BP {r:Bo->Ah}{a:Ay Bo}:wl r a lo 1:=λi j Y J Q=>by
 have:i=j:=by lia
 subst this;exact Qu _
def Q4 (r:Bo->Ah)(a:Ay Bo)(lo n q:Ag):Prop:=q+1<=n/\∀ k,lo+n-(q+1)<=k->k<lo+n->r (a.getD k nv)=r (a.getD (lo+n-1) nv)
set_option tactic.hygienic true in
theorem gK {r:Bo->Ah}{a:Ay Bo}(Q:lo+n<=a.size)(h:Q4 r a lo n q)(k:Ag):r ((mir a (lo+n-(q+1)) (lo+n)).getD k nv)=r (a.getD k nv):=by
 rw[yG Q];have:=h.1
 split
 .rename_i c
  rw[h.2 k ab c.2,h.2 _ ab ab]
 .rfl
theorem BO {r:Bo->Ah}{a:Ay Bo}(Q:lo+n<=a.size)(h:wl r a lo n):Seg r (mir a lo (lo+n)) lo n:=λi j J U Y=>by
 rw[yG Q,yG Q,Be ab,Be ab]
 exact h _ _ ab ab ab
section
variable {prog:Bh}{w:Ce}{A:Bw}{E:ae}{s:Ai}{κ: Oh}{U:Bo->Prop}{r:Bo->Ah}
theorem gD (C:Cm (Av prog w) A s κ U r){i j:Ag}{arr:Ay Bo}{Y:Ay (Ag × Ag × Ag)}{g:Ag}{Q:Am As->Fm->Prop}(G:∀ x∈arr.toList,U x)(hi:i<arr.size)(J:j<arr.size)
  (q:Q (Ab (decide (r (arr.getD i nv)<r (arr.getD j nv)))) (Dl κ arr Y g none)):wpS (Av prog w) A E s (ltAt' i j) Q (Dl κ arr Y g none):=by
 refine Bb (Pe ?_);exact Bb (zF hi (Bb (zF J (C.lt (G _ (zV hi)) (G _ (zV J)) rfl q))))
theorem fV {Q:PUnit->Fm->Prop}(q:Q ⟨⟩ (Dl κ (mir arr i j) Y g none)):wpS (Av prog w) A E s (reverseSlice' i j) Q (Dl κ arr Y g none):=Ka q
theorem A6 {σ α:Type}{c:Prop}[Hy c]{Q:α->σ->Prop}{st:σ}{y:Ag}{K:Ag->No σ Kv α}{u:No σ Kv α}(P:Ag->σ->Prop)(hK:∀ z st,P z st->wpS (Av prog w) A E s (K z) Q st)(h1:c->(∀ z st,P z st->wpS (Av prog w) A E s (K z) Q st)->wpS (Av prog w) A E s u Q st)(h2:¬ c->P y st):wpS (Av prog w) A E s (if c then u else K y) Q st:=qP (λe=>h1 e hK) λe=>hK _ _ (h2 e)
theorem V9 {σ α:Type}{c:Prop}[Hy c]{Q:α->σ->Prop}{st:σ}{K u:No σ Kv α}(P:σ->Prop)(hK:∀ st,P st->wpS (Av prog w) A E s K Q st)(h1:c->(∀ st,P st->wpS (Av prog w) A E s K Q st)->wpS (Av prog w) A E s u Q st)(h2:¬ c->P st):wpS (Av prog w) A E s (if c then u else K) Q st:=qP (λe=>h1 e hK) λe=>hK _ (h2 e)
theorem rC (C:Cm (Av prog w) A s κ U r){lo N:Ag}{arr:Ay Bo}{B:Ay (Ag × Ag × Ag)}{g:Ag}{Q:Am Ag->Fm->Prop}(ua:∀ x∈arr.toList,U x)(h1:1<=N)(hz:lo+N<=arr.size)
  (h:∀ n b,1<=n->n<=N->Cr arr b lo N->Seg r b lo n->Q (Ab n) (Dl κ b B g none)):wpS (Av prog w) A E s (countRun' lo N) Q (Dl κ arr B g none):=by
 have y:∀ {b:Ay Bo},Cr arr b lo N->∀ x∈b.toList,U x:=λh x v=>ua x (h.pm.mem_iff.mp v);have L:∀ {b:Ay Bo} {n:Ag} {f:Ag->Am (Am Ag) × Ag->No Fm Kv (ForInStep (Am (Am Ag) × Ag))},Cr arr b lo N->1<=n->n<=N->Seg r b lo n ->
   (∀ x m,f x (none,m)=(ltAt' (lo+m) (lo+m-1) >>= λo=>match o with
    |some z=>if z then pure (.done (none,m)) else pure (.yield (none,m+1))
    |_=>pure (.done (Ab none,m))))->wpS (Av prog w) A E s (forIn [n:N] (none,n) f) (λc Y=>Y=Dl κ b B g none/\∃ m,c=(none,m)/\n<=m/\m<=N/\Seg r b lo m/\(m=N\/r (b.getD (lo+m) nv)<r (b.getD (lo+m-1) nv))) (Dl κ b B g none):=by
  intro b n f J hn hN sg hf;have zb:=J.z;refine Fo (I:=λx c Y=>Y=Dl κ b B g none/\c=(none,x)/\n<=x/\Seg r b lo x) ?_ ?_ ⟨rfl,rfl,Ax _,sg⟩
  .rintro x c Y T v ⟨rfl,rfl,M,sg⟩
   rw[hf];refine Bb (gD C (y J) ab ab ?_)
   by_cases l:r (b.getD (lo+x) nv)<r (b.getD (lo+x-1) nv)
   .simp only[l,Ju,Ds]
    exact Bv ⟨rfl,x,rfl,T,by lia,sg,.inr l⟩
   .simp only[l,Jz,Bl,Dq]
    exact Bv ⟨rfl,rfl,by lia,KF sg ab ab⟩
  .rintro c Y ⟨rfl,rfl,M,sg⟩
   rw[show max n N=N by lia] at sg ⊢
   exact⟨rfl,N,rfl,hN,Ax _,sg,.inl rfl⟩
 refine Bb (Hv (L Cr.rfl' (Ax 1) h1 oN λ_ _=>rfl) ?_);rintro c Y ⟨rfl,n,rfl,p,n2,sg,nd⟩;dsimp only;refine qP (λe=>Bv (h n arr p n2 Cr.rfl' sg)) λe=>?_;have e:¬ n=N:=by simpa using e
 have nd:r (arr.getD (lo+n) nv)<r (arr.getD (lo+n-1) nv):=by lia
 refine V9 (λst=>∃ b,st=Dl κ b B g none/\Cr arr b lo N/\wl r b lo (n+1)) ?_ (λnp H=>?_) λnp=>⟨arr,rfl,Cr.rfl',?_⟩
 .rintro _ ⟨b,rfl,J,O⟩
  refine Bb (Ts (He ⟨rfl,?_⟩));refine Bb (Hv (Fo (I:=λx c Y=>∃ b q,Y=Dl κ b B g none/\c=(none,x,q)/\Cr arr b lo N/\wl r b lo x/\Q4 r b lo x q)
   (Q:=λc Y=>∃ b m q,Y=Dl κ b B g none/\c=(none,m,q)/\1<=m/\m<=N/\Cr arr b lo N/\wl r b lo m/\Q4 r b lo m q) ?_ ?_ ⟨_,0,rfl,rfl,J,O,by lia,λk a b=>by rw[show k=lo+(n+1)-1 by lia]⟩) ?_)
  .rintro x c Y T v ⟨b,q,rfl,rfl,J,O,G⟩
   dsimp only;have zb:=J.z;refine Bb (gD C (y J) ab ab ?_)
   dsimp only;refine qP (λl=>?_) λl=>?_
   .have l:r (b.getD (lo+x) nv)<r (b.getD (lo+x-1) nv):=by simpa using l
    have d2:=gJ O ab (Hk l)
    have e2:∀ b:Ay Bo,Q4 r b lo (x+1) 0:=λb=>⟨by lia,λk a b=>by rw[show k=lo+(x+1)-1 by lia]⟩
    refine qP (λt=>Bb (fV (Bv ⟨_,0,rfl,rfl,J.mir (by have:=G.1;lia) ab ab,λi j a c d=>?_,e2 _⟩))) λt=>Bv ⟨_,0,rfl,rfl,J,d2,e2 _⟩
    rw[gK ab G,gK ab G]
    exact d2 i j a c d
   .have l:¬ r (b.getD (lo+x) nv)<r (b.getD (lo+x-1) nv):=by simpa using l
    refine Bb (gD C (y J) ab ab ?_)
    dsimp only;refine qP (λu=>Bv ⟨b,x,q,rfl,rfl,by lia,by lia,J,O,G⟩) λu=>?_
    have u:¬ r (b.getD (lo+x-1) nv)<r (b.getD (lo+x) nv):=by simpa using u
    have ee:r (b.getD (lo+x) nv)=r (b.getD (lo+x-1) nv):=by lia
    refine Bv ⟨b,q+1,rfl,rfl,J,gJ O ab ab,by have:=G.1;lia,λk a c=>?_⟩
    rw[show lo+(x+1)-1=lo+x by lia]
    by_cases kx:k=lo+x
    .rw[kx]
    .rw[ee];exact G.2 k ab ab
  .rintro c Y ⟨b,q,rfl,rfl,J,O,G⟩
   rw[show max (n+1) N=N by lia] at O G ⊢
   exact⟨b,N,q,rfl,rfl,h1,Ax _,J,O,G⟩
  .rintro c Y ⟨b,m,q,rfl,rfl,m1,m2,J,O,G⟩
   dsimp only;have zb:=J.z;refine V9 (λst=>∃ b,st=Dl κ b B g none/\Cr arr b lo N/\wl r b lo m) ?_ (λt H=>?_) λt=>⟨b,rfl,J,O⟩
   .rintro _ ⟨b,rfl,J,O⟩
    have z2:=J.z;refine Bb (fV ?_);refine Bb (Hv (L (J.mir (Ax _) ab ab) m1 m2 (BO ab O) λ_ _=>rfl) ?_)
    rintro c Y ⟨rfl,n',rfl,q1,q2,q3,_⟩;exact Bv (h n' _ ab q2 (J.mir (Ax _) ab ab) q3)
   .refine Bb (fV (H _ ⟨_,rfl,J.mir (by have:=G.1;lia) ab ab,λi j a c d=>?_⟩))
    rw[gK ab G,gK ab G]
    exact O i j a c d
 .refine Bb (gD C ua ab ab ?_)
  dsimp only;refine qP (λe=>Bv (h n arr p n2 Cr.rfl' sg)) λl=>?_;have l:¬ r (arr.getD lo nv)<r (arr.getD (lo+n-1) nv):=by simpa using l
  refine Bb (fV (H _ ⟨_,rfl,Cr.rfl'.mir (Ax _) ab ab,gJ (λi j a b c=>?_) p ?_⟩))
  .rw[yG ab,yG ab,Be ab,Be ab]
   exact sg _ _ ab ab ab
  .rw[yG ab,yG ab,Bc ab,Be ab,show lo+(lo+n)-1-(lo+n-1)=lo by lia]
   lia
 .have:n=1:=by lia
  subst this;exact gJ BP (Ax _) (Hk nd)
end
theorem mL {a:Ay Bo}{Q d:Ag}(hs:Q<a.size)(Y:d<=Q)(k:Ag):(bubble a Q d).getD k nv=if k=Q-d then a.getD Q nv else if Q-d<k/\k<=Q then a.getD (k-1) nv else a.getD k nv:=by
 simp only[Fi];rw[getElem?_bubble hs d Y]
 repeat' split
 all_goals rfl
theorem eE {a:Ay Bo}{s d k:Ag}(hs:s+d<a.size)(h:k<s\/s+d<k):(bubble a (s+d) d).getD k nv=a.getD k nv:=by
 rw[mL hs (Wm _ _),Ig,Bc ab,Bc ab]
theorem eD {a:Ay Bo}{s d:Ag}(hs:s+d<a.size):(bubble a (s+d) d).getD s nv=a.getD (s+d) nv:=by
 rw[mL hs (Wm _ _),Ig,Be rfl]
theorem tN {a:Ay Bo}{s d z:Ag}(hs:s+d<a.size)(h:s<=z)(h2:z<s+d):(bubble a (s+d) d).getD (z+1) nv=a.getD z nv:=by
 rw[mL hs (Wm _ _),Ig,Bc ab,Be ⟨by lia,h2⟩]
 rfl
section
variable {prog:Bh}{w:Ce}{A:Bw}{E:ae}{s:Ai}{κ: Oh}{U:Bo->Prop}{r:Bo->Ah}
theorem aR (C:Cm (Av prog w) A s κ U r){lo n ok:Ag}{arr:Ay Bo}{B:Ay (Ag × Ag × Ag)}{g:Ag}{Q:As->Fm->Prop}(f:∀ x∈arr.toList,U x)(h1:ok<=n)(hz:lo+n<=arr.size)(sg:Seg r arr lo ok)
  (h:∀ b,Cr arr b lo n->Seg r b lo n->Q true (Dl κ b B g none)):wpS (Av prog w) A E s (binarySort' lo n ok) Q (Dl κ arr B g none):=by
 have p:∀ {b:Ay Bo},Cr arr b lo n->∀ x∈b.toList,U x:=λh x H=>f x (h.pm.mem_iff.mp H);have T:Seg r arr lo (max ok 1):=by
  by_cases q:ok=0
  .rw[q];exact oN
  .rw[show max ok 1=ok by lia];exact sg
 refine Bb (Hv (Fo (I:=λk c Y=>c=(none,())/\∃ b,Y=Dl κ b B g none/\Cr arr b lo n/\Seg r b lo k)
  (Q:=λc Y=>c=(none,())/\∃ b,Y=Dl κ b B g none/\Cr arr b lo n/\Seg r b lo n) ?_ ?_ ⟨rfl,arr,rfl,Cr.rfl',T⟩) ?_)
 .rintro k c Y M o ⟨rfl,b,rfl,G,sg⟩
  have zb:=G.z;dsimp only;refine Bb (Hv (Fo (I:=λx c Y=>Y=Dl κ b B g none/\∃ l u,c=(none,l,u)/\l<=u/\u<=k/\u+x<=k+l/\(∀ i,i<l->r (b.getD (lo+i) nv)<=r (b.getD (lo+k) nv))/\∀ i,u<=i->i<k->r (b.getD (lo+k) nv)<r (b.getD (lo+i) nv))
   (Q:=λc Y=>Y=Dl κ b B g none/\∃ l u,c=(none,l,u)/\l<=k/\(∀ i,i<l->r (b.getD (lo+i) nv)<=r (b.getD (lo+k) nv))/\∀ i,l<=i->i<k->r (b.getD (lo+k) nv)<r (b.getD (lo+i) nv)) ?_ ?_
   ⟨rfl,0,k,rfl,Fk _,Ax _,Ax _,λi v=>absurd v (Nat.not_lt_zero _),λi a b=>absurd a (Nat.not_le.mpr b)⟩) ?_)
  .rintro x c Y _ H ⟨rfl,l,u,rfl,L,q2,t,N,O⟩
   dsimp only;refine qP (λe=>Bv ⟨rfl,l,u,rfl,by lia,N,λi a b=>O i ab b⟩) λe=>?_
   refine Bb (gD C (p G) ab ab ?_)
   dsimp only;refine qP (λz=>?_) λz=>?_
   .have z:r (b.getD (lo+k) nv)<r (b.getD (lo+(l+u)/2) nv):=by simpa using z
    exact Bv ⟨rfl,_,_,rfl,by lia,by lia,by lia,N,λi a c=>Ta z (sg _ _ ab ab ab)⟩
   .have z:¬ r (b.getD (lo+k) nv)<r (b.getD (lo+(l+u)/2) nv):=by simpa using z
    exact Bv ⟨rfl,_,_,rfl,by lia,by lia,by lia,λi a=>Gb (sg _ _ ab ab ab) (AbQ.mp z),O⟩
  .rintro c Y ⟨rfl,l,u,rfl,L,q2,t,N,O⟩
   exact⟨rfl,l,u,rfl,by lia,N,λi a b=>O i ab b⟩
  .rintro c Y ⟨rfl,l,u,rfl,L,N,O⟩
   obtain⟨m,rfl⟩:=Fq L;clear L M;dsimp only;simp only[<- Ny] at N O ⊢;have J:lo+l+m<b.size:=by lia
   have em:lo+l+m-(lo+l)=m:=Gi ..;refine Bb (Ka (Bv ⟨rfl,_,rfl,⟨(To.mp (bubble_perm _ _ _)).trans G.pm,λj y=>?_⟩,?_⟩))
   .show (bubble b (lo+l+m) (lo+l+m-(lo+l))).getD j nv=_
    rw[em,eE J ab]
    exact G.out j y
   .intro i j a c d
    show r ((bubble b (lo+l+m) (lo+l+m-(lo+l))).getD i nv)<=r ((bubble b (lo+l+m) (lo+l+m-(lo+l))).getD j nv);rw[em];rcases Mu i (lo+l) with i1|rfl|i1
    .rw[eE J (.inl i1)]
     rcases Mu j (lo+l) with j1|rfl|j1
     .rw[eE J (.inl j1)];exact sg _ j a c ab
     .obtain⟨x,rfl⟩:=Fq a
      rw[eD J];exact N x ab
     .obtain⟨z,rfl⟩:∃ z,j=z+1:=⟨j-1,by lia⟩
      rw[tN J ab ab];exact sg _ _ a ab ab
    .rw[eD J]
     rcases Nat.eq_or_lt_of_le c with rfl|j1
     .rw[eD J];exact Qu _
     .obtain⟨z,rfl⟩:∃ z,j=lo+z+1:=⟨j-1-lo,by lia⟩
      rw[tN J ab ab];exact Hk (O z ab ab)
    .obtain⟨x,rfl⟩:∃ x,i=x+1:=⟨i-1,by lia⟩
     obtain⟨z,rfl⟩:∃ z,j=z+1:=⟨j-1,by lia⟩
     rw[tN J ab ab,tN J ab ab];exact sg _ _ ab ab ab
 .rintro c Y ⟨rfl,b,rfl,G,sg⟩
  refine⟨rfl,b,rfl,G,?_⟩;intro i j a c d;exact sg i j a c ab
 .rintro c Y ⟨rfl,b,rfl,G,sg⟩
  exact Bv (h b G sg)
end
def Rn (r:Bo->Ah)(a:Ay Bo):Aa (Ag × Ag × Ag)->Ag->Ag->Prop
 |[],x,y=>x=y
 |(s,n,_)::t,x,y=>s=x/\0<n/\Seg r a s n/\Rn r a t (x+n) y
section
variable {r:Bo->Ah}{a b:Ay Bo}
theorem Rn.app:∀ {O Q:Aa (Ag × Ag × Ag)} {x y:Ag},Rn r a (O++Q) x y↔∃ m,Rn r a O x m/\Rn r a Q m y
 |[],Q,x,y=>⟨λh=>⟨x,rfl,h⟩,λ⟨m,J,Y⟩=>by cases J;exact Y⟩
 |(s,n,p)::t,Q,x,y=>by
  show s=x/\0<n/\Seg r a s n/\Rn r a (t++Q) (x+n) y↔∃ m,(s=x/\0<n/\Seg r a s n/\Rn r a t (x+n) m)/\Rn r a Q m y;rw[Rn.app];exact⟨λ⟨J,Y,G,m,U,N⟩=>⟨m,⟨J,Y,G,U⟩,N⟩,λ⟨m,⟨J,Y,G,U⟩,N⟩=>⟨J,Y,G,m,U,N⟩⟩
theorem Rn.le:∀ {L:Aa (Ag × Ag × Ag)} {x y:Ag},Rn r a L x y->x+L.length<=y
 |[],x,y,h=>by cases h;simp
 |(s,n,p)::t,x,y,h=>by have:=Rn.le h.2.2.2;have:=h.2.1;simp only[Cb];lia
theorem Rn.congr:∀ {L:Aa (Ag × Ag × Ag)} {x y:Ag},Rn r a L x y->(∀ k,x<=k->k<y->b.getD k nv=a.getD k nv)->Rn r b L x y
 |[],x,y,h,_=>h
 |(s,n,p)::t,x,y,h,e=>by
  obtain⟨rfl,Q,J,Y⟩:=h;have l:=Rn.le Y;refine⟨rfl,Q,λi j a c d=>?_,Rn.congr Y λk U Q=>e k ab Q⟩
  rw[e i ab ab,e j ab ab]
  exact J i j a c d
theorem Rn.mod {f:Ag × Ag × Ag->Ag × Ag × Ag}(Y:∀ u v p,∃ Q,f (u,v,p)=(u,v,Q)):∀ {L:Aa (Ag × Ag × Ag)} {i x y:Ag},Rn r a L x y->Rn r a (L.modify i f) x y
 |[],i,x,y,h=>by simpa using h
 |(s,n,p)::t,0,x,y,h=>by
  obtain⟨Q,e⟩:=Y s n p;rw[List.modify_zero_cons,e];exact h
 |(s,n,p)::t,i+1,x,y,h=>by
  rw[List.modify_succ_cons];exact⟨h.1,h.2.1,h.2.2.1,Rn.mod Y h.2.2.2⟩
end
theorem CU {α:Type}{l:Aa α}{i:Ag}(h:i+1<l.length):∃ Q x y Y,l=Q++x::y::Y/\Q.length=i:=by
 refine⟨l.take i,l[i],l[i+1],l.drop (i+2),?_,by rw[Hi];lia⟩
 rw[<- Gq h,<- Gq ab,Qv]
section
variable {prog:Bh}{w:Ce}{A:Bw}{E:ae}{s:Ai}{κ: Oh}{U:Bo->Prop}{r:Bo->Ah}
theorem nH (C:Cm (Av prog w) A s κ U r){i e:Ag}{Q:As->Fm->Prop}{arr:Ay Bo}{Y:Ay (Ag × Ag × Ag)}{g:Ag}(p:∀ x∈arr.toList,U x)(hi:i+1<Y.size)(R:Rn r arr Y.toList 0 e)(a:e<=arr.size)
  (h:∀ b G g,b.toList.Perm arr.toList->(∀ k,e<=k->b.getD k nv=arr.getD k nv)->Rn r b G.toList 0 e->G.size+1=Y.size->Q true (Dl κ b G g none)):wpS (Av prog w) A E s (mergeAt' i) Q (Dl κ arr Y g none):=by
 obtain⟨j,⟨N,B,L⟩,⟨sb,T,u⟩,o,O,I⟩:=CU (l:=Y.toList) (i:=i) (by simpa using hi)
 rw[O] at R;obtain⟨m,R1,rfl,f,c,rfl,d,y,R2⟩:=Rn.app.mp R;have l2:=Rn.le R2;have t:Y[i]? = Ab (N,B,L):=by
  rw[<- Br,O,<- I,Dk (Ax _),Aa0];rfl
 have z:Y[i+1]? = Ab (N+B,T,u):=by
  rw[<- Br,O,<- I,Dk ab,Gi];rfl
 refine i8 C p t z f d ab c y λb g v J sg=>?_
 have M:((Y.setIfInBounds i (N,B+T,L)).eraseIdxIfInBounds (i+1)).toList=j++(N,B+T,L)::o:=by
  rw[Array.toList_eraseIdxIfInBounds,Array.toList_setIfInBounds,O,<- I,List.set_append_right _ _ (Ax _),Aa0,Ls,List.eraseIdx_append_of_length_le ab,Gi]
  rfl
 refine h b _ g v (λk H=>J k ab) ?_ ?_
 .rw[M]
  refine Rn.app.mpr ⟨N,R1.congr λk _ H=>J k ab,rfl,by lia,sg,?_⟩
  rw[<- Ny];exact R2.congr λk H _=>J k ab
 .have:=congrArg Qm M
  have q:=congrArg Qm O;simp only[Bt,Ca,Cb] at this q
  lia
theorem rD (C:Cm (Av prog w) A s κ U r){Q:Vx->Fm->Prop}{arr:Ay Bo}{g:Ag}(ua:∀ x∈arr.toList,U x)(h2:0<arr.size)
  (h:∀ b Y g,b.toList.Perm arr.toList->b.toList.Pairwise (Le r)->Q () (Dl κ b Y g none)):wpS (Av prog w) A E s sortRuns' Q (Dl κ arr #[] g none):=by
 have o:∀ {b:Ay Bo},b.toList.Perm arr.toList->∀ x∈b.toList,U x:=λh x hx=>ua x (h.mem_iff.mp hx);have M:∀ {b:Ay Bo},b.toList.Perm arr.toList->b.size=arr.size:=λh=>by simpa using h.length_eq
 refine Bb (Pe ?_);dsimp only;refine Bb (Hv (Fo (I:=λx c J=>∃ b Y g lo,J=Dl κ b Y g none/\c=(none,lo)/\b.toList.Perm arr.toList/\lo<=arr.size/\min x arr.size<=lo/\Rn r b Y.toList 0 lo)
  (Q:=λc J=>∃ b Y g,J=Dl κ b Y g none/\c=(none,arr.size)/\b.toList.Perm arr.toList/\Rn r b Y.toList 0 arr.size) ?_ ?_ ⟨arr,#[],g,0,rfl,rfl,Nb _,by lia,by lia,rfl⟩) ?_)
 .rintro x c J _ hx ⟨b,Y,g,lo,rfl,rfl,G,lo1,p,R⟩
  have zb:=M G;dsimp only;refine qP (λe=>Bv ⟨b,Y,g,rfl,by rw[show lo=arr.size by lia],G,by rw[show arr.size=lo by lia];exact R⟩) λe=>?_
  refine Bb (rC C (o G) ab ab λn b2 n1 n2 cr sg=>?_)
  have R2:Rn r b2 Y.toList 0 lo:=R.congr λk _ T=>cr.out k (.inl T);have N:=cr.pm.trans G;have z2:=M N;dsimp only;apply A6 (y:=n) (P:=λn st=>∃ b,st=Dl κ b Y g none/\b.toList.Perm arr.toList/\Rn r b Y.toList 0 lo/\Seg r b lo n/\lo+n<=arr.size/\0<n/\min (x+1) arr.size<=lo+n)
  .rintro n _ ⟨b,rfl,G,R,sg,n3,n4,n5⟩
   refine Bb (Pe ?_);dsimp only;rcases hb:Y.back? with _|⟨s1,l1,p1⟩
   .dsimp only
    refine Bb (Ka (Bv ⟨_,_,_,_,rfl,rfl,G,n3,n5,?_⟩));show Rn r _ (Y.push _).toList 0 _;rw[Fb];exact Rn.app.mpr ⟨lo,R,rfl,n4,sg,rfl⟩
   .dsimp only
    refine Bb (Hv (Fo (I:=λ_ c J=>c=(none,())/\∃ b Y g,J=Dl κ b Y g none/\b.toList.Perm arr.toList/\Rn r b Y.toList 0 lo/\Seg r b lo n)
     (Q:=λc J=>c=(none,())/\∃ b Y g,J=Dl κ b Y g none/\b.toList.Perm arr.toList/\Rn r b Y.toList 0 lo/\Seg r b lo n) ?_ (λ_ _ z=>z) ⟨rfl,_,Y,g,rfl,G,R,sg⟩) ?_)
    .rintro y c J _ hy ⟨rfl,b,Y,g,rfl,G,R,sg⟩
     have zb:=M G;refine Bb (Pe ?_);dsimp only;by_cases hp:Y.size>1
     .rw[Be hp]
      rcases hq:Y[Y.size-2]? with _|⟨u,v,zv⟩
      .exact Bv ⟨rfl,b,Y,g,rfl,G,R,sg⟩
      .dsimp only
       refine qP (λ_=>Bv ⟨rfl,b,Y,g,rfl,G,R,sg⟩) λ_=>?_;refine Bb (nH C (o G) ab R ab λb' L g' f B R' _=>?_)
       refine qP (λe=>by simp at e) λ_=>Bv ⟨rfl,b',L,g',rfl,f.trans G,R',λi j a c d=>?_⟩
       rw[B i a,B j ab]
       exact sg i j a c d
     .rw[Bc hp]
      exact Bv ⟨rfl,b,Y,g,rfl,G,R,sg⟩
    .rintro c J ⟨rfl,b,Y,g,rfl,G,R,sg⟩
     dsimp only;refine Bb (Ka (Bb (Ka (Bv ⟨_,_,_,_,rfl,rfl,G,n3,n5,?_⟩))));show Rn r b ((Y.modify (Y.size-1) _).push _).toList 0 _;rw[Fb,Array.toList_modify];exact Rn.app.mpr ⟨lo,Rn.mod (λ_ _ _=>⟨_,rfl⟩) R,rfl,n4,sg,rfl⟩
  .intro lt T
   refine Bb (Ts (He ⟨rfl,?_⟩));refine Bb (aR C (o N) ab ab sg λb3 H zh=>?_)
   exact qP (λe=>by simp at e) λ_=>T _ _ ⟨b3,rfl,H.pm.trans N,R2.congr λk _ T=>H.out k (.inl T),zh,by lia,by lia,by lia⟩
  .exact λlt=>⟨b2,rfl,N,R2,sg,by lia,n1,by lia⟩
 .rintro c J ⟨b,Y,g,lo,rfl,rfl,G,lo1,p,R⟩
  have:lo=arr.size:=by lia
  subst this;exact⟨b,Y,g,rfl,rfl,G,R⟩
 .rintro c J ⟨b,Y,g,rfl,rfl,G,R⟩
  dsimp only;have hl:=R.le;rw[Bt] at hl;refine Bb (Hv (Fo (I:=λx c J=>c=(none,())/\∃ b Y g,J=Dl κ b Y g none/\b.toList.Perm arr.toList/\Rn r b Y.toList 0 arr.size/\(Y.size<=1\/Y.size+x<=arr.size))
   (Q:=λc J=>c=(none,())/\∃ b Y g,J=Dl κ b Y g none/\b.toList.Perm arr.toList/\Rn r b Y.toList 0 arr.size/\Y.size<=1) ?_ ?_ ⟨rfl,b,Y,g,rfl,G,R,by lia⟩) ?_)
  .rintro x c J _ hx ⟨rfl,b,Y,g,rfl,G,R,O⟩
   have zb:=M G;refine Bb (Pe ?_);dsimp only;refine qP (λe=>Bv ⟨rfl,b,Y,g,rfl,G,R,e⟩) λe=>?_;refine Bb (nH C (o G) ?_ R ab λb' L g' f B R' z'=>?_)
   .have e:¬ Y.size<=1:=e
    have q:∀ (c:Prop) [Hy c],(if c then Y.size-2-1 else Y.size-2)+1<Y.size:=λc _=>by split <;> lia
    exact q _
   exact qP (λe=>by simp at e) λ_=>Bv ⟨rfl,b',L,g',rfl,f.trans G,R',by lia⟩
  .rintro c J ⟨rfl,b,Y,g,rfl,G,R,O⟩
   exact⟨rfl,b,Y,g,rfl,G,R,by lia⟩
  .rintro c J ⟨rfl,b,Y,g,rfl,G,R,O⟩
   have zb:=M G;refine Bv (h b Y g G ?_);have O:Y.toList.length<=1:=by simpa using O
   revert R O
   cases Y.toList with
   |nil=>intro R;have:0=arr.size:=R;lia
   |cons q t =>
    obtain⟨s0,n0,p0⟩:=q;intro R O;have:t=[]:=by cases t with|nil=>rfl|cons _ _=>simp at O
    subst this;obtain⟨rfl,_,sg,e⟩:=R;have e:n0=arr.size:=by have:0+n0=arr.size:=e;lia
    subst e;rw[Ki];intro i j hi hj l;have zl:i<b.size:=by simpa using hi
    have zs:j<b.size:=by simpa using hj
    have:=sg i j ab ab ab
    simpa [Gs,zl,zs,Le] using this
end
structure sr (prog:Bh)(w:Ce)(h0:By)(vs:ah)(f:Ag->Ag->As):Prop where
 ex:∃ κ,∀ (A:Bw),A.units+8<Ed->∀ (s:Ai),me h0 s.heap->(∀ (Q:Oh->Ai->Prop) (E:ae),Q κ s->Ar (Av prog w) A (keyKind' vs.toArray) Q E s)/\∀ i j (C:As->Ai->Prop),i<vs.length->j<vs.length->C (f i j) s->kas_ask prog w A κ vs i j C s
open Classical in
def kV {K:Type}(is:K->Ac->Prop)(d:K)(v:Ac):K:=if h:∃ k,is k v then choose h else d
open Classical in
theorem gS {K:Type}{is:K->Ac->Prop}{d:K}(h:∃ k,is k v):is (kV is d v) v:=by
 unfold kV;rw[dif_pos h];exact choose_spec h
section
variable {prog:Bh}{w:Ce}{A:Bw}{E:ae}{s:Ai}
theorem GZ {K:Type}{is:K->Ac->Prop}{lt':K->K->As}{d:K}(O:Ord lt')(zc:∀ {k k':K} {v:Ac},is k v->is k' v->k=k'){a:Af}{vs:ah}{ks:Aa K}{n:Ag}{h0:By}{P:PySem.Fin->Ai->Prop}(J:vs.length=ks.length)(zl:∀ i v,vs[i]? = Ab v->is (ks.getD i d) v)(t:s.heap.get? a=Ab (Er "list" vs.toArray n))(hu:A.units+8<Ed)(hz:vs.length<=100000)(c:2<=vs.length->sr prog w h0 vs (mH lt' ks d))(hS:me h0 s.heap)(ha:h0.get? a=none)
  (h:∀ B:Aa (K × Ac),B.Perm (ks.zip vs)->Nf lt' (B.map (·.1))->P (.done (.ret .none)) { s with heap:=sortedHeap s.heap a vs (B.map (·.2)).toArray }) : Ar (Av prog w) A (Il.«list.sort» ⟨[.ref a],[]⟩) P E s:=by
 rw[list_sort_plain];have hb:a<s.heap.objs.size:=Bf t;have zb:vs.toArray.size=vs.length:=by simp
 refine Ad (listItems_at t rfl (Ad (listUpdate_at t rfl ?_ (by rw[zb,Fu];lia) (Fk _))))
 obtain⟨e1,I⟩:∃ e1,(s.heap.update a (Fc λ_=>#[])).get? a=Ab (Er "list" #[] e1):=⟨_,Ol t (λ_=>#[])⟩;refine Ad (seqEpoch_at I rfl (Ad (wpAny_newTuple (Ad (Zk (EQ ?_) (Fk _))) (by show vs.length<=_;rw[Fu];lia))))
 have M:(((s.heap.update a (Fc λ_=>#[])).push (Er "tuple" vs.toArray 0)).push (Er "list" #[] 0)).get? a=Ab (Er "list" #[] e1):=
  Ak _ (Ak _ I)
 have S6:me h0 (((s.heap.update a (Fc λ_=>#[])).push (Er "tuple" vs.toArray 0)).push (Er "list" #[] 0)):=λb o e =>
  Ak _ (Ak _ ((Dt _ _ (λz:a=b=>by rw[<- z,ha] at e;cases e)).trans (hS b o e)))
 show Ar (Av prog w) A _ P E { s with heap:=((s.heap.update a (Fc λ_=>#[])).push (Er "tuple" vs.toArray 0)).push (Er "list" #[] 0) }
 dsimp only;have H:∀ (Y:Fm) (B:Aa (K × Ac)),(arrOf Y).map (·.2)=(B.map (·.2)).toArray->failedOf Y=none->B.Perm (ks.zip vs)->Nf lt' (B.map (·.1))->Ar (Av prog w) A (do
   let G:=(<- seqEpoch a) != e1
   Builtin.List.listUpdate (.ref a) λ_=>(arrOf Y).map (·.2)
   if let Ab e:=failedOf Y then rule "list.sort.comparison-raised";throw e
   if G then rule "list.sort.modified";raiseError "ValueError" "list modified during sort"
   ret .none) P E { s with heap:=((s.heap.update a (Fc λ_=>#[])).push (Er "tuple" vs.toArray 0)).push (Er "list" #[] 0) }:=by
  intro Y B h1 U r h4;have hl:(B.map (·.2)).length=vs.length:=by rw[Ao,r.length_eq,Wn,J,Vl]
  refine Ad (seqEpoch_at M rfl ?_);rw[h1];refine Ad (listUpdate_at M rfl ?_ (Fk _) (by show (B.map (·.2)).toArray.size<=_;rw[Bm,hl,Fu];lia))
  rw[U];simp only[Pv,Bl,Dq];exact An (h B r h4)
 by_cases U:vs.toArray.size<2
 .rw[Be U,Be U]
  refine Ad (An ?_);rw[StateT.run_pure];refine Ad (An ?_);refine H (Dl general' (vs.toArray.zip vs.toArray) #[] 7 none) (ks.zip vs) ?_ rfl (Nb _) ?_
  .show (vs.toArray.zip vs.toArray).map (·.2)=_
   apply Ab0.mp;simp[List.map_snd_zip,J]
  .rw[Vd ab]
   match ks,J with
   |[],_=>exact Mr
   |[_],_=>exact Li _ _
   |_::_::_,e=>simp at e U;lia
 .rw[Bc U,Bc U]
  have zh:2<=vs.length:=by lia
  obtain⟨κ,C⟩:=c zh;obtain⟨k1,k2⟩:=C A hu { s with heap:=((s.heap.update a (Fc λ_=>#[])).push (Er "tuple" vs.toArray 0)).push (Er "list" #[] 0) } S6
  have l:∀ i,i<vs.length->kV is d (vs.getD i Dg)=ks.getD i d:=λi N=>by
   have q:=zl i (vs.getD i Dg) (by rw[Tp,Ap N];rfl)
   exact zc (gS ⟨_,q⟩) q
  have km:∀ i,i<vs.length->ks.getD i d∈ks:=λi N=>by
   have:i<ks.length:=by lia
   simp[Gr,this]
  have cm:Cm (Av prog w) A { s with heap:=((s.heap.update a (Fc λ_=>#[])).push (Er "tuple" vs.toArray 0)).push (Er "list" #[] 0) } κ (λx=>∃ i,i<vs.length/\x=(vs.getD i Dg,vs.getD i Dg)) (λx=>pA lt' ks (kV is d x.1)):=by
   refine⟨?_⟩;rintro x y ⟨i,N,rfl⟩ ⟨j,L,rfl⟩ E Q st hk q;rw[lt'_eq];refine Bb (Pe ?_);rw[hk];rw[l i N,l j L,<- cY O (km i N)] at q;refine Bb (Ts (Ma (Ht (k2 i j (λb s'=>s'=_/\b=mH lt' ks d i j) N L ⟨rfl,rfl⟩) ?_ λ_ _ e=>e.elim)));rintro b s' ⟨rfl,rfl⟩;exact⟨rfl,Bv q⟩
  have pl:(vs.toArray.zip vs.toArray).toList=(Cj vs.length).map λi=>(vs.getD i Dg,vs.getD i Dg):=by
   apply Qs
   .simp
   .intro i h1 U
    have:i<vs.length:=by simpa using U
    simp[this]
  refine Ad (k1 _ _ ?_);refine Ad (Ht (rD (E:=E) (Q:=λ_ Y=>∃ b u g,Y=Dl κ b u g none/\b.toList.Perm (vs.toArray.zip vs.toArray).toList/\b.toList.Pairwise (Le λx=>pA lt' ks (kV is d x.1))) cm (arr:=vs.toArray.zip vs.toArray) (g:=7) ?_ ?_ λb u g p q=>⟨b,u,g,rfl,p,q⟩) ?_ λ_ _ e=>e)
  .intro x T
   rw[pl] at T;obtain⟨i,N,rfl⟩:=Au.mp T;exact⟨i,Dn.mp N,rfl⟩
  .simp;lia
  .rintro⟨⟨⟩,Y⟩ s' ⟨rfl,b,u,g,rfl,pm,up⟩
   refine H _ (b.toList.map λx=>(kV is d x.1,x.2)) ?_ rfl ?_ ?_
   .show b.map (·.2)=_
    apply Ab0.mp;simp
   .refine(pm.map _).trans ?_
    rw[pl,Dh];have:ks.zip vs=(Cj vs.length).map λi=>(ks.getD i d,vs.getD i Dg):=by
     apply Qs
     .simp[J]
     .intro i h1 U
      have r:i<vs.length:=by simpa using U
      have h4:i<ks.length:=by lia
      simp[r,h4]
    rw[this];refine List.Perm.of_eq (Ek λi N=>?_);show (kV is d (vs.getD i Dg),_)=_;rw[l i (Dn.mp N)]
   .unfold Nf
    rw[Dh,Dj];refine up.imp_of_mem λ{x y} T f h=>?_;have T:=pm.mem_iff.mp T;have f:=pm.mem_iff.mp f;rw[pl] at T f;obtain⟨i,N,rfl⟩:=Au.mp T;obtain⟨j,L,rfl⟩:=Au.mp f;have h:pA lt' ks (kV is d (vs.getD i Dg))<=pA lt' ks (kV is d (vs.getD j Dg)):=h;show lt' (kV is d (vs.getD j Dg)) (kV is d (vs.getD i Dg))=false;have L:=Dn.mp L;rw[cY O (ks:=ks) (by rw[l j L];exact km j L)]
    exact Cq ab
end
section
variable {prog:Bh}{w:Ce}{h0:By}
theorem FS {b:As}{Q:As->Ai->Prop}:∀ {xs Y:Aa Ah} {us vs:ah} {i:Ag} {N M:Ag},ItemsAre (Dy prog w) xs us->ItemsAre (Dy prog w) Y vs->N+Y.length=M+xs.length->Q (_H.lexLt xs Y) s->KatLex prog w A b (decide (N<M)) Q (us.zip vs) i s:=by
 intro xs Y us vs i N M B
 induction B generalizing Y vs i with
 |nil =>
  intro U J h;cases U with
  |nil =>
   have:decide (N<M)=false:=Cq (by simp at J;lia)
   rw[this];exact h
  |@cons k v Y vs q r =>
   have:decide (N<M)=true:=Cn (by simp at J;lia)
   rw[this];exact h
 |@cons x u xs us O T L =>
  intro U J h;cases U with
  |nil =>
   have:decide (N<M)=false:=Cq (by simp at J;lia)
   rw[this];exact h
  |@cons y v Y vs G C =>
   obtain⟨t,rfl⟩:=uZ (prog:=prog) (w:=w) O;obtain⟨E,rfl⟩:=uZ (prog:=prog) (w:=w) G;rw[Jm];refine kat_cons (wpAny_eqBool_int ?_);rw[_H.a_] at h;refine kat_go (λe=>kat_yes ?_) λe=>kat_no ?_
   .rw[Be (by simpa using e)] at h
    exact L C (by simp at J;lia) h
   .rw[Bc (by simpa using e)] at h
    cases b&&i == 0 with
    |true=>exact oneLt_int h
    |false=>exact kat_one _ _ (Se h)
theorem oV:∀ {vs:ah} {ks:Aa (Aa Ah)},vs.length=ks.length->(∀ i v,vs[i]? = Ab v->ip prog w h (ks.getD i []) v)->(∀ k∈ks,k≠[])->∃ J,KatTups h vs J/\J.length=vs.length/\∀ f∈J,∃ n t,f=Rj n t
 |[],[],_,_,_=>⟨[],trivial,rfl,λf hf=>by simp at hf⟩
 |v::vs,k::ks,L,hv,U=>by
  obtain⟨J,C,T,I⟩:=oV (vs:=vs) (ks:=ks) (by simpa using L) (λi u B=>by simpa using hv (i+1) u (by simpa using B)) λk G=>U k (by simp[G])
  obtain⟨a,rfl,o,Q,n,H,A,E,O⟩:=hv 0 v rfl;have G:k≠[]:=U k ba
  have Y:ItemsAre (Dy prog w) k Q.toList:=O;cases N:Q.toList with
  |nil=>rw[N] at Y;cases Y;exact absurd rfl G
  |cons f qC =>
   rw[N] at Y;cases Y with
   |cons q _ =>
    obtain⟨t,rfl⟩:=uZ (prog:=prog) (w:=w) q;refine⟨_::J,AcJ H A E (by rw[<- Br,N];rfl) C,by simp[T],λf hf=>?_⟩
    rcases Az.mp hf with rfl|hf
    .exact⟨_,_,rfl⟩
    .exact I f hf
theorem LM {ks:Aa (Aa Ah)}(z:vs.length=ks.length)(hv:∀ i v,vs[i]? = Ab v->ip prog w h0 (ks.getD i []) v)(U:∀ k∈ks,k≠[])(h2:2<=vs.length):sr prog w h0 vs (mH _H.lexLt ks []):=by
 refine⟨tuples' (Jx "int" != Jx "tuple"),λA r s N=>⟨λQ E h=>?_,λi j C L M h=>?_⟩⟩
 .obtain⟨f,T,a2,u⟩:=oV (h:=s.heap) z (λi v Y=>by obtain⟨a,e,q⟩:=hv i v Y;exact⟨a,e,uH N q⟩) U
  refine kat_kind T ab (λv Y=>?_) bb h
  obtain⟨n,t,rfl⟩:=u v Y;exact Ac9 rfl
 .have g:∀ k (J:k<vs.length),∃ a,vs.getD k Dg=.ref a/\Sh (Dy prog w) s.heap (ks.getD k []) a:=λk J=>by
   obtain⟨a,e,q⟩:=hv k vs[k] (Ap J);exact⟨a,by rw[<- e];simp[Gr,J],uH N q⟩
  obtain⟨a,H,oa,ia,d,y,_,l,O⟩:=g i L;obtain⟨b,p,ob,ib,x,c,_,I,G⟩:=g j M;unfold kas_ask;rw[H,p];refine kat_lt y l c I (FS O G ?_ h);have B:=O.length;have o:=G.length;simp only[Bt] at B o
  lia
theorem LK {ks:Aa Ah}(I:vs.length=ks.length)(hv:∀ i v,vs[i]? = Ab v->L_ prog w (ks.getD i 0) v)(h2:2<=vs.length):sr prog w h0 vs (mH r_ ks 0):=by
 have J:∀ v∈vs,∃ n t,v=Rj n t:=λv O=>by
  obtain⟨i,J,e⟩:=Co.mp O;obtain⟨t,q⟩:=uZ (hv i v (by rw[Ap J,e]))
  exact⟨_,t,q⟩
 refine⟨oneType',λA L s T=>⟨λQ E h=>?_,λi j C J B h=>?_⟩⟩
 .obtain⟨v₁,Y,qC,rfl⟩:∃ v₁ Y qC,vs=v₁::Y::qC:=by
   match vs,h2 with
   |v₁::Y::qC,_=>exact⟨v₁,Y,qC,rfl⟩
  rw[keyKind_ints (intsAre_map _ J)];exact An h
 .have g:∀ k (U:k<vs.length),∃ t,vs.getD k Dg=.int (ks.getD k 0) t:=λk U=>by
   obtain⟨t,q⟩:=uZ (hv k vs[k] (Ap U));exact⟨t,by rw[<- q];simp[Gr,U]⟩
  obtain⟨t,G⟩:=g i J;obtain⟨u,N⟩:=g j B;unfold kas_ask;rw[G,N];exact kat_lt_int h
end
section
variable {K:Type}
theorem VB {α:Type}{ks:Aa K}{vs:Aa α}(U:vs.length=ks.length){p:K × α}(h:p∈ks.zip vs):∃ i,vs[i]? = Ab p.2/\ks.getD i d=p.1:=by
 obtain⟨i,Y,e⟩:=Co.mp h;have J:i<ks.length:=by rw[Wn] at Y;lia
 have Q:i<vs.length:=by lia
 rw[List.getElem_zip] at e;subst e;exact⟨i,Ap Q,by simp[J]⟩
end
structure Kind (prog:Bh)(w:Ce){K:Type}(is:K->Ac->Prop)(hash:K->Ah)(lt':K->K->As)(d:K)(Fit:K->Prop)(h0:By):Prop where
 ord:Ord lt'
 inj:∀ {k k':K} {v:Ac},is k v->is k' v->k=k'
 cmps:∀ {vs:ah} {ks:Aa K},vs.length=ks.length->(∀ i v,vs[i]? = Ab v->is (ks.getD i d) v)->(∀ k∈ks,Fit k)->2<=vs.length->sr prog w h0 vs (mH lt' ks d)
theorem rN (prog:Bh)(w:Ce)(h0:By):Kind prog w (ip prog w h0) (Lh (Dy prog w)) _H.lexLt [] (·≠[]) h0:=⟨xD,ip.inj,λJ Y U Q=>LM J Y U Q⟩
theorem IT (prog:Bh)(w:Ce)(h0:By):Kind prog w (L_ prog w) (Dy prog w).hash r_ 0 (λ_=>Re) h0:=⟨JL,λa b=>(Dy prog w).inj _ _ _ a b,λJ Y _ Q=>LK J Y Q⟩
section
variable {prog:Bh}{w:Ce}{A:Bw}{E:ae}{s:Ai}{K:Type}{is:K->Ac->Prop}{aw:K->Ah}{lt':K->K->As}{d:K}{my:K->Prop}{h0:By}{S:Af}{V:ah}{seen:Aa K}
open Classical in
def o_ (is:K->Ac->Prop)(d:K)(e:Ah × Ac):K:=if h:∃ k,is k e.2 then choose h else d
open Classical in
theorem WG {e:Ah × Ac}(h:∃ k,is k e.2):is (o_ is d e) e.2:=by
 unfold o_;rw[dif_pos h];exact choose_spec h
theorem l5 {Q:ae}(kd:Kind prog w is aw lt' d my h0)(hh:A.handled=none)(hu:A.units+16<Ed)(hS:me h0 s.heap)(Z:kg is aw S (wW w) V seen s.heap)(hf:∀ k∈seen,my k){U:Aa K}(hU:U.length<=1000)(zl:∀ k∈seen,k∈U)
  (h:∀ h' tk D c (C:Aa (K × Ac)),(∀ b o,s.heap.get? b=Ab o->h'.get? b=Ab o)->s.heap.objs.size<=D->h'.get? D=Ab (Er "list" (C.map (·.2)).toArray c)->C.map (·.1)=gz lt' seen->(∀ p∈C,is p.1 p.2/\p.2∈V)->C.length<=1000->Q (.ref D) { s with heap:=h',toks:=tk }) :
  Ar (Av prog w) A (call (.builtin "sorted") [.ref S]) Q E s:=by
 obtain⟨O,I,t,ho,H,T,hl,hV⟩:=Z;have st:mf w S O I t:=⟨T,hl⟩;have hn:O.size<=1000:=by
  have:=t4 O.toList U H.nd λe N=>by
   obtain⟨k',_,q⟩:=H.good e N;exact⟨k',zl k' ((H.mem k').mpr ⟨e,N,q⟩),q⟩
  rw[Bt] at this
  lia
 have j:=nR w S I O;have zy:=uX w S I O;have Y:∀ e∈(qU w S I O).toList,is (o_ is d e) e.2/\e.2∈V:=λe N=>by
  have f:=j.mem_iff.mp N;obtain⟨k,_,q⟩:=H.good e f;exact⟨WG ⟨k,q⟩,hV e f⟩
 have zb:(qU w S I O).toList.Pairwise λa b=>∀ k,is k a.2->¬ is k b.2:=(j.pairwise_iff λ{x y} h k hy hx=>h k hx hy).mpr H.nd;generalize zh:(qU w S I O).toList=oe at *;have zx:oe.length<=1000:=by rw[j.length_eq,Bt];exact hn
 have L:∀ i v,(oe.map (·.2))[i]? = Ab v->is ((oe.map (o_ is d)).getD i d) v/\v∈V:=λi v hv=>by
  rw[Ee] at hv;cases r:oe[i]? with
  |none=>rw[r] at hv;cases hv
  |some e =>
   rw[r] at hv;cases hv;have g:=Y e (Ct r);have:(oe.map (o_ is d)).getD i d=o_ is d e:=by rw[Tp,Ee,r];rfl
   rw[this];exact g
 have nd:(oe.map (o_ is d)).Nodup:=by
  unfold Vc;rw[Dj];refine Os (λ{a b} ha M h e=>?_) zb;exact h _ (Y a ha).1 (e▸(Y b M).1)
 have mem:∀ x,x∈oe.map (o_ is d)↔x∈seen:=λx=>by
  rw[H.mem,Au];constructor
  .rintro⟨e,N,rfl⟩
   exact⟨e,j.mem_iff.mp N,(Y e N).1⟩
  .rintro⟨e,N,q⟩
   exact⟨e,j.mem_iff.mpr N,kd.inj (Y e (j.mem_iff.mpr N)).1 q⟩
 have G:(oe.map (·.2)).length=(oe.map (o_ is d)).length:=by simp
 refine Uj kind_sorted plain_sorted entry_sorted (args_sorted1 _) ?_;unfold Il.«sorted»;refine Ad (m:=checkCount "sorted" 1 1 _) (An ?_);refine Ad (aU hh st ho ab λJ l u B=>?_)
 rw[zh];refine Ad (Zk ?_ (by rw[Fu,Ao];lia))
 have hD:(J.push (Er "list" (oe.map (·.2)).toArray 0)).get? J.objs.size=Ab (Er "list" (oe.map (·.2)).toArray 0):=Bi _ rfl
 have n0:h0.get? J.objs.size=none:=by
  cases q:h0.get? J.objs.size with
  |none=>rfl
  |some o=>exact absurd (Bf (hS _ _ q)) (Qb.mpr (Ec B))
 show Ar _ _ _ _ _ { s with heap:=J.push (Er "list" (oe.map (·.2)).toArray 0),toks:=l }
 refine Ad (EQ (Ef slot_list_sort ⟨_,hD,rfl⟩ entry_list_sort (GZ (h0:=h0) (is:=is) kd.ord kd.inj (d:=d) (vs:=oe.map (·.2)) G (λi v hv=>(L i v hv).1) hD (by show A.units+2+8<Ed;lia) (by rw[Ao];lia) (λh2=>kd.cmps G (λi v hv=>(L i v hv).1) (λk hk=>hf k ((mem k).mp hk)) h2) (λb o e=>Ak _ (u b o (hS b o e))) n0 λC pm nf=>⟨_,rfl,?_⟩) (args_list_sort _)))
 refine An ⟨_,rfl,?_⟩;have hz:(J.push (Er "list" (oe.map (·.2)).toArray 0)).objs.size=J.objs.size+1:=size_push' ..
 have zv:∀ b o,b≠J.objs.size->(J.push (Er "list" (oe.map (·.2)).toArray 0)).get? b=Ab o->((((J.push (Er "list" (oe.map (·.2)).toArray 0)).update J.objs.size (Fc λ_=>#[])).push (Er "tuple" (oe.map (·.2)).toArray 0)).push (Er "list" #[] 0)).get? b=Ab o:=λb o M e =>
  Ak _ (Ak _ ((Dt _ _ (Fv M)).trans e))
 obtain⟨e1,zs⟩:∃ e1,((J.push (Er "list" (oe.map (·.2)).toArray 0)).update J.objs.size (Fc λ_=>#[])).get? J.objs.size=Ab (Er "list" #[] e1):=⟨_,Ol hD (λ_=>#[])⟩
 have zc:=Ol (Ak (Er "list" #[] 0) (Ak (Er "tuple" (oe.map (·.2)).toArray 0) zs)) (λ_=>(C.map (·.2)).toArray)
 have pk:(C.map (·.1)).Perm (oe.map (o_ is d)):=by
  have:=pm.map (·.1)
  rwa [Vd ab] at this
 refine h _ l J.objs.size _ C (λb o e=>?_) (Ec B) zc (RH kd.ord nf (pk.nodup_iff.mpr nd) λx=>by rw[pk.mem_iff,mem]) (λp hp=>?_) (by have:=pk.length_eq;rw[Ao,Ao] at this;lia)
 .have M:b≠J.objs.size:=λz=>by
   subst z;exact absurd (Bf e) (Qb.mpr (Ec B))
  exact(Dt _ _ (Fv M)).trans (zv b o M (Ak _ (u b o e)))
 .obtain⟨i,e1,e2⟩:=VB (d:=d) G (pm.mem_iff.mp hp)
  exact e2▸L i _ e1
end
end _S
namespace _D
open _L
variable {aj:aa}{α:ag}{σ:_L.St}
noncomputable def yN:Aa D->Am (Aa (Aa Ah))
 |[]=>Ab []
 |.tup Q::r=>(wR Q).bind λk=>(yN r).map (k::·)
 |_::_=>none
def io (k:Aa Ah):D:=.tup (k.map D.int)
theorem pC:∀ {ds:Aa D} {ks:Aa (Aa Ah)},yN ds=Ab ks->ds=ks.map io
 |[],ks,h=>by cases h;rfl
 |d::r,ks,h=>by
  cases d with
  |tup U =>
   obtain⟨k,Y,Q⟩:=Gh.mp (show (wR U).bind (λk=>(yN r).map (k::·))=Ab ks from h)
   obtain⟨m,J,rfl⟩:=Fx.mp Q;rw[pC J,jH Y];rfl
  |_=>cases h
theorem uI (ks:Aa (Aa Ah)):yN (ks.map io)=Ab ks:=by
 induction ks with
 |nil=>rfl
 |cons k ks Q =>
  show (wR (k.map D.int)).bind (λk=>(yN (ks.map io)).map (k::·))=_
  rw[b8,Q];rfl
def aA:D->Am (Aa D)
 |.lst Q=>Ab Q
 |.tup Q=>Ab Q
 |_=>none
theorem KP {K:Type}{lt':K->K->As}(O:_S.Ord lt')(ks:Aa K)(d:K):_S.gz lt' (_S.uA (λi=>ks.getD i d) ks.length)=_S.gz lt' ks:=
 _S.j6 O (_S.yW O _) (_S.yW O _) λx=>by
  rw[_S.xF O,_S.xF O,_S.jY];constructor
  .rintro⟨i,Q,rfl⟩
   simp[Gr,Q]
  .intro Y
   obtain⟨i,Q,e⟩:=Co.mp Y;exact⟨i,Q,by simp[Gr,Q,e]⟩
section
variable {X:Cx}{e:Cc}
theorem dU:Gf "sorted" = Ab (.builtin "sorted"):=by decide +kernel
theorem f9:∀ {k:Aa Ah} {us:ah},qJ (k.map V.int) us->ItemsAre (Dy prog w) k us
 |[],us,h=>by cases h;exact .nil
 |i::k,us,h=>by
  cases h with
  |cons q t =>
   obtain⟨Q,rfl⟩:=q;exact .cons (intKind_is _ _ _ _) (f9 t)
theorem nZ {H P:Hp}{S:ao}(I:Inv X aj σ H s)(r:bi X.K H P α S)(p:av X.K P α d v)(q:qF v Y)(h:aA d=Ab xs) :
  ∃ a vs ap,Y=.ref a/\qD X.K P α xs vs/\qJ vs ap/\(s.heap.IsList a ap.toArray\/s.heap.IsTuple a ap.toArray)/\xs.length=ap.length:=by
 cases d with
 |lst J =>
  cases h;obtain⟨a,vs,ap,n,rfl,_,t,Q,e,l,_⟩:=bB I r p;exact⟨a,vs,ap,q,t,Q,.inl ⟨_,e,rfl,n,rfl⟩,l⟩
 |tup J =>
  cases h;obtain⟨a,vs,ap,rfl,_,t,Q,⟨o,e,G,n,U⟩,l,_⟩:=vU I r p;exact⟨a,vs,ap,q,t,Q,.inr ⟨o,e,G,n,U⟩,l⟩
 |_=>cases h
end
section
variable {X:Cx}
def lstM (d:D)(S:ao):Am (Aa D):=match d with
 |.lst Q=>Ab Q
 |.loc i=>match S[i]? with
  |some (.lst Q)=>Ab Q
  |_=>none
 |_=>none
def bZ:G2:=λa b S=>match lstM a S,lstM b S with
 |some Q,Ab Y=>if Q.length+Y.length<=br then .ok (.lst (Q++Y)) S else .bad
 |_,_=>.bad
theorem iY {H P:Hp}{S:ao}(I:Inv X aj σ H s)(r:bi X.K H P α S)(h:lstM d S=Ab xs)(p:av X.K P α d v) :
  ∃ a vs ap n,v=.ref a/\qD X.K P α xs vs/\qJ vs ap/\s.heap.get? a=Ab { cls:=.type "list",data:=.seq ap.toArray n } /\ xs.length=ap.length:=by
 cases d with
 |lst G =>
  cases h;obtain⟨a,vs,ap,n,e,_,t,Q,U,J,_⟩:=bB I r p;exact⟨a,vs,ap,n,e,t,Q,U,J⟩
 |loc i =>
  simp only[lstM] at h;cases Y:S[i]? with
  |none=>rw[Y] at h;cases h
  |some m =>
   rw[Y] at h;cases m with
   |lst G =>
    cases h;simp only[av] at p;obtain⟨a,rfl,q⟩:=p;obtain⟨vs,z,t⟩:=r.at' i a _ q Y;obtain⟨_,ap,n,Q,e⟩:=I.hok a _ z;exact⟨a,vs,ap,n,rfl,t,Q,e,by rw[t.length,Q.length]⟩
   |_=>cases h
 |_=>cases h
theorem M4:gj X (El .Add) bZ:=by
 intro aj σ H s P α S v u o uu a b Q I r E A M z Y;unfold bZ at Y;cases J:lstM a S with
 |none=>rw[J] at Y;exact Aq Y
 |some l =>
  cases U:lstM b S with
  |none=>rw[J,U] at Y;exact Aq Y
  |some g =>
   rw[J,U] at Y;obtain⟨C,Y⟩:=vL (X:=X) Y;obtain⟨a,q,p,n,rfl,j,G,y,T⟩:=iY I r J M;obtain⟨b,c,O,k,rfl,w,N,L,B⟩:=iY I r U z;cases E;cases A;refine AaP y L ?_ (by rw[Bm,Bm,<- T,<- B,<- xQ];exact C)
   rw[Zc];exact cB I r (j.append w) (G.append N) (by rw[Ca];exact C) Y
end
section
variable {X:Cx}
theorem A7:jj X (El .Add) bZ:=⟨M4⟩
end
end _D
namespace _S
open PySem.W
section
variable {prog:Bh}{w:Ce}{A:Bw}{E:ae}{s:Ai}{K:Type}{is:K->Ac->Prop}{aw:K->Ah}{lt':K->K->As}{d:K}{my:K->Prop}{h0:By}
theorem ZY {Q:ae}(kd:Kind prog w is aw lt' d my h0)(hu:A.units+16<Ed)(f:me h0 s.heap){l:Af}{vs:ah}(hl:s.heap.IsList l vs.toArray\/s.heap.IsTuple l vs.toArray)(ks:Aa K)(Y:vs.length=ks.length)(G:∀ i v,vs[i]? = Ab v->is (ks.getD i d) v)(x:∀ k∈ks,my k)(O:vs.length<=100000)
  (h:∀ (h1 h':By) (tk:Ag) (D:Af) (c:Ag) (J:Aa (K × Ac)),(∀ b o,s.heap.get? b=Ab o->h1.get? b=Ab o)->(∀ b o,h1.get? b=Ab o->h'.get? b=Ab o)->h1.objs.size<=D->h'.get? D=Ab (Er "list" (J.map (·.2)).toArray c)->J.map (·.1)=wZ lt' ks->(∀ p∈J,is p.1 p.2/\p.2∈vs)->J.length=ks.length->Q (.ref D) { s with heap:=h',toks:=tk }) :
  Ar (Av prog w) A (call (.builtin "sorted") [.ref l]) Q E s:=by
 refine Uj kind_sorted plain_sorted entry_sorted (args_sorted1 _) ?_;unfold Il.«sorted»;refine Ad (m:=checkCount "sorted" 1 1 _) (An ?_);have N:∀ {R:Aa Ac->Ai->Prop},(∀ h1:By,(∀ b o,s.heap.get? b=Ab o->h1.get? b=Ab o)->R vs { s with heap:=h1 }) -> Ar (Av prog w) A.in1 (collect (.ref l)) R E s:=λ{R} t=>by
  have e:vs.toArray.toList=vs:=by simp
  rcases hl with⟨o,j,y,n,M⟩|⟨o,j,y,n,M⟩
  .exact wpAny_collect_seq l (.inl rfl) j y M (λh' T=>by rw[e];exact t h' T) (by rw[Bm,Fu];lia)
  .exact wpAny_collect_seq l (.inr rfl) j y M (λh' T=>by rw[e];exact t h' T) (by rw[Bm,Fu];lia)
 refine Ad (N λh1 U=>?_);refine Ad (Zk ?_ (by rw[Fu];lia))
 have L:(h1.push (Er "list" vs.toArray 0)).get? h1.objs.size=Ab (Er "list" vs.toArray 0):=Bi _ rfl;have n0:h0.get? h1.objs.size=none:=by
  cases q:h0.get? h1.objs.size with
  |none=>rfl
  |some o=>exact absurd (Bf (U _ _ (f _ _ q))) (Ey _)
 show Ar _ _ _ _ _ { s with heap:=h1.push (Er "list" vs.toArray 0),toks:=s.toks }
 refine Ad (EQ (Ef slot_list_sort ⟨_,L,rfl⟩ entry_list_sort (GZ (h0:=h0) (is:=is) kd.ord kd.inj (d:=d) (vs:=vs) Y G L (by show A.units+2+8<Ed;lia) O (λa=>kd.cmps Y G x a) (λb o e=>Ak _ (U b o (f b o e))) n0 λJ r nf=>⟨_,rfl,?_⟩) (args_list_sort _)))
 refine An ⟨_,rfl,?_⟩;have hz:(h1.push (Er "list" vs.toArray 0)).objs.size=h1.objs.size+1:=size_push' ..;have H:∀ b o,b≠h1.objs.size->(h1.push (Er "list" vs.toArray 0)).get? b=Ab o->((((h1.push (Er "list" vs.toArray 0)).update h1.objs.size (Fc λ_=>#[])).push (Er "tuple" vs.toArray 0)).push (Er "list" #[] 0)).get? b=Ab o:=λb o B e =>
  Ak _ (Ak _ ((Dt _ _ (Fv B)).trans e))
 obtain⟨C,u⟩:∃ C,((h1.push (Er "list" vs.toArray 0)).update h1.objs.size (Fc λ_=>#[])).get? h1.objs.size=Ab (Er "list" #[] C):=⟨_,Ol L (λ_=>#[])⟩;have I:=Ol (Ak (Er "list" #[] 0) (Ak (Er "tuple" vs.toArray 0) u)) (λ_=>(J.map (·.2)).toArray)
 have g:(J.map (·.1)).Perm ks:=by
  have:=r.map (·.1)
  rwa [Vd ab] at this
 refine h h1 _ s.toks h1.objs.size _ J U (λb o e=>?_) (Ax _) I (g6 kd.ord nf (gC kd.ord ks) (g.trans (yH ks).symm)) (λp hp=>?_) (by have:=g.length_eq;rwa [Ao] at this)
 .have B:b≠h1.objs.size:=λz=>by
   subst z;exact absurd (Bf e) (Ey _)
  exact(Dt _ _ (Fv B)).trans (H b o B (Ak _ e))
 .obtain⟨i,C,e2⟩:=VB (d:=d) Y (r.mem_iff.mp hp)
  exact⟨e2▸G i _ C,Ct C⟩
end
end _S
namespace _D
open _L
def uB (xs:Aa D):Am (Aa D):=match wR xs with
 |some Y=>if Y.length<=100000 then Ab ((_S.wZ _S.r_ Y).map D.int) else none
 |none=>match yN xs with
  |some Q=>if (decide (Q.length<=100000)&&Q.all λk=>!k.isEmpty) then Ab ((_S.wZ _H.lexLt Q).map io) else none
  |none=>none
def KN (R:Aa D->ao->az D):DF:=λQ S=>match Q with
 |[d]=>match (aA d).bind uB with
  |some Y=>R Y S
  |none=>.bad
 |_=>.bad
def yM:DF:=KN λQ S=>.ok (.lst Q) S
section
variable {X:Cx}{aj:aa}{σ: _L.St}{H P:Hp}{α: Aa Af}{S:ao}{s:Ai}
inductive si (X:Cx)(pins:aa)(σ : _L.St)(H P:Hp)(α : Aa Af)(ys:Aa D)(u:Ac)(s':Ai):Prop
 |mk (D:Af) (vs:Aa V) (e:u=.ref D) (hn:H D=none) (I:Inv X pins σ (c_ H D (.lst vs)) s') (rp:qD X.K P α ys vs):si X pins σ H P α ys u s'
theorem bL {K:Type}{is:K->Ac->Prop}{x:K->Ah}{lt':K->K->As}{d:K}{j:K->Prop}(kd:_S.Kind X.prog X.w is x lt' d j s.heap)(hu:X.A.units+64<Ed)(I:Inv X aj σ H s)(r:bi X.K H P α S){a:Af}{ap:ah}
  (ha:s.heap.IsList a ap.toArray\/s.heap.IsTuple a ap.toArray) (ks:Aa K) (hl:ks.length=ap.length) (o:∀ i v,ap[i]? = Ab v->is (ks.getD i d) v) (hn:ks.length<=100000) (m:∀ k∈ks,j k) (cb:K->D)
  (G:∀ k v,is k v->v∈ap->∃ O,qF O v/\av X.K P α (cb k) O) {E:ae} :
  b6 X (call (.builtin "sorted") [.ref a]) (si X aj σ H P α ((_S.wZ lt' ks).map cb)) E s:=by
 refine _S.ZY kd li (λ_ _ e=>e) ha ks hl.symm o m li λz u U D c Y B A w M T l t=>?_;have y:Inv X aj σ H { s with heap:=z,toks:=s.toks }:=I.kept B
 have O:∀ (Y:Aa (K × Ac)),(∀ p∈Y,is p.1 p.2/\p.2∈ap)->∃ Q,qJ Q (Y.map (·.2))/\qD X.K P α ((Y.map (·.1)).map cb) Q:=by
  intro Y
  induction Y with
  |nil=>exact λ_=>⟨[],.nil,.nil⟩
  |cons p Y ih =>
   intro h;obtain⟨Q,N,C⟩:=ih λq g=>h q (by simp[g])
   obtain⟨v,f,b⟩:=G p.1 p.2 (h p ba).1 (h p ba).2
   exact⟨v::Q,.cons f N,.cons b C⟩
 obtain⟨Q,N,C⟩:=O Y l;rw[T] at C;have nd:([(D,HO.lst Q)].map (·.1)).Nodup:=by simp
 have n:Inv X aj σ (y7 H [(D,HO.lst Q)]) { s with heap:=u,toks:=U }:=Inv.laidL (s:={ s with heap:=z,toks:=s.toks }) (L:=[(D,HO.lst Q)]) (t':=U) y A (λp J=>by
  have:p=(D,HO.lst Q):=by simpa using J
  subst this;exact w) λp J=>by
  have:p=(D,HO.lst Q):=by simpa using J
  subst this;refine⟨?_,Y.map (·.2),c,N,M⟩
  have:=N.length;rw[Ao] at this;rw[this,Fu]
  lia
 exact⟨D,Q,rfl,y.hok.fresh w,n,C⟩
set_option tactic.hygienic true in
theorem ZX {E:ae}(n:X.A.units+64<Ed)(I:Inv X aj σ H s)(r:bi X.K H P α S){a:Af}{xs x:Aa D}{vs:Aa V}{ap:ah}(h:qD X.K P α xs vs)(C:qJ vs ap)(e1:s.heap.IsList a ap.toArray\/s.heap.IsTuple a ap.toArray)(L:xs.length=ap.length)(hs:uB xs=Ab x) :
  b6 X (call (.builtin "sorted") [.ref a]) (si X aj σ H P α x) E s:=by
 unfold uB at hs;cases G:wR xs with
 |some f =>
  rw[G] at hs;dsimp only at hs
  split at hs
  .rename_i Y
   cases hs;have:=jH G;subst this;have:=yE h;subst this;refine bL (d:=0) (_S.IT X.prog X.w s.heap) n I r e1 f (by simpa using L) (λi u Q=>?_) Y (λ_ _=>trivial) D.int λk u O _=>?_
   .have G:Lx ap f:=by simpa using tZ C
    obtain⟨t,rfl⟩:=AbX G i u Q;exact intKind_is _ _ _ _
   .obtain⟨t,rfl⟩:=_S.uZ O
    exact⟨.int k,⟨t,rfl⟩,by simp only[av]⟩
  .cases hs
 |none =>
  rw[G] at hs;dsimp only at hs;cases c:yN xs with
  |none=>rw[c] at hs;cases hs
  |some J =>
   rw[c] at hs;dsimp only at hs
   split at hs
   .rename_i Y
    cases hs;rw[Bj,Bq] at Y;have:=pC c;subst this;have N:∀ (i:Ag) (u:Ac),ap[i]? = Ab u->∃ b,u=.ref b/\Sh (Dy X.prog X.w) s.heap (J.getD i []) b/\∃ e,qF e u/\av X.K P α (io (J.getD i [])) e:=λi u Q=>by
     have U:i<ap.length:=(Ba.mp Q).1;have T:i<J.length:=by rw[Ao] at L;lia
     obtain⟨v,p,q,_⟩:=wU h C (j:=i) (by rw[Bm];exact U)
     have l:(J.map io).getD i D.non=io (J.getD i []):=by simp[Gr,T]
     rw[l] at p;have g:ap.toArray[i]'(by rw[Bm];exact U)=u:=by
      rw[Ap U] at Q;simpa using Q
     rw[g] at q;obtain⟨b,ws,us,rfl,sq,t,rv,⟨o,ho,B,m,l⟩,_,_⟩:=vU I r (show av X.K P α (.tup ((J.getD i []).map D.int)) v from p)
     cases (show u=De b from q)
     have:=yE t;subst this;exact⟨b,rfl,⟨o,us.toArray,m,ho,B,l,by simpa using f9 rv⟩,.ref b,rfl,p⟩
    refine bL (d:=[]) (_S.rN X.prog X.w s.heap) n I r e1 J (by simpa using L) (λi u Q=>?_) Y.1 (λk O=>?_) io λk u O y=>?_
    .obtain⟨b,rfl,q,_⟩:=N i u Q
     exact⟨b,rfl,q⟩
    .have:=Bs.mp Y.2 k O
     intro z;subst z;cases this
    .obtain⟨i,M,rfl⟩:=Co.mp y
     obtain⟨b,eb,q,w,A,pw⟩:=N i _ (Ap M);have:k=J.getD i []:=_S.ip.inj O ⟨b,eb,q⟩;rw[this];exact⟨w,A,pw⟩
   .cases hs
theorem qAT (E:X.A.units+64<Ed){vs:Aa V}{us:ah}{ds:Aa D}{Q:VK}{R:Aa D->ao->az D}(I:Inv X aj σ H s)(r:bi X.K H P α S)(M:qJ vs us)(C:qD X.K P α ds vs)(Y:qV X P α (KN R ds S) Q)
  (k:∀ U D J,H D=none->qD X.K P α U J->qV X P α (R U S) Q->Q (.ref D) (c_ H D (.lst J))):b6 X (call (.builtin "sorted") us) (EP X aj σ Q) X.xe s:=by
 match ds,Y,C with
 |[],Y,_=>exact Aq Y
 |_::_::_,Y,_=>exact Aq Y
 |[d],Y,C =>
  simp only[KN] at Y;cases O:(aA d).bind uB with
  |none=>rw[O] at Y;exact Aq Y
  |some U =>
   rw[O] at Y;obtain⟨l,w,L⟩:=Gh.mp O;obtain⟨v,u,rfl,rfl,p,q⟩:=vQ C M;obtain⟨a,vs,o,rfl,z,N,j,A⟩:=nZ I r p q w;refine bn (ZX E I r z N j A L) λy g ⟨D,J,e,B,T,G⟩=>?_;subst e;exact⟨.ref D,_,T,rfl,k U D J B G Y⟩
theorem XF (N:X.A.units+64<Ed):y8 X (.builtin "sorted") yM:=by
 intro aj σ H s P α S T L E Q I r C B G;exact qAT N I r C B G λA D O U Y J=>xU r U Y J
end
section
variable {X:Cx}{cm:As}{k:Ag}
theorem KW (Q:be cm k X.A):gp X (.builtin "sorted") yM:=⟨XF Q.units⟩
end
end _D
namespace _L
variable {kh:Aa Aw}{mg mb:ai}
def qA5 (H:Hp):Prop:=∀ b,H b=none\/(∃ o Q,H b=Ab (.frz o (.lst Q)))\/H b=Ab (.tbl #[])
def zo (K:Aj)(H:Hp):Prop:=∀ x∈vM,∀ c T,Es K x=Ab (c,T)->H T=Ab (.tbl #[])
structure yb (K:Aj)(h:By):Prop where
 at':∀ x∈vM,∀ c T,Es K x=Ab (c,T)->AbS h c T/\h.get? T=Ab (Su #[]) /\ K.lookup T=none
 inj:∀ x∈vM,∀ y∈vM,∀ c d T,Es K x=Ab (c,T)->Es K y=Ab (d,T)->x=y
theorem J2 {P:Bh}{w:Ce}{K:Aj}{CX:vm}{k:Ag}{fa a:Af}{fd:Fw}{x:Aw}{sp:Sp}{Q:Ai}{vs:ah}{ns:Aa Ah}
  (KX:K.In Q.heap) (t:Q.heap.Ns Dr mg) (J:Q.heap.Ns Sd mb) (zy:∀ x:Aw,x ≠ "__name__" -> mb x=Gf x) (f:Q.heap.NoLimit) (hg:Q.gens=#[]) (zl:NS mg Q.heap) (O:yb K Q.heap)
  (p:Q.heap.get? a=Ab { cls:=.type "list",data:=.seq vs.toArray }) (hi:Lx vs ns) (hl:ns.length<=sizeLine) (hr:jx k Tz)
  (F:∀ base:By,K.In base->base.Ns Dr mg->ot P w K mg base CX k fa fd [x] sp) (y:∀ (s:Ai) (u:Ac),Ql s fd ⟨[u],[]⟩ [(x,u)])
  (zv:∀ H:Hp,zo K H->qu K H a (ns.map V.int)->sp [.ref a] H (λv _=>v=.bl true) λ_ _ _=>Ex)
  (zx:∀ H e s',CX [] H Q (λ_ _ _=>Ex) e s'->Ex) :
  Kg (Av P w) Tz (.call (.ref fa) ⟨[.ref a],[]⟩) (λr s'=>r=.ok (.ret (.bool true))/\OldK Q.heap s'.heap/\s'.os=Q.os/\Qj s'.gens) Q:=by
 have rv:=V4 hi;have z0:=hi.length
 let ip:Af->Prop:=λb=>∃ x∈vM,∃ c,Es K x=Ab (c,b)
 have tab:∀ b,ip b->Q.heap.get? b=Ab (Su #[]) /\ K.lookup b=none:=λb ⟨x,U,c,h⟩=>(O.at' x U c b h).2;have L:∀ H:Hp,qA5 H->zo K H->qu K H a (ns.map V.int)->gx P w H Q.heap->(∀ b,H b≠none->b=a\/ip b)->(H a≠none->K.lookup a=none) ->
   Kg (Av P w) Tz (.call (.ref fa) ⟨[.ref a],[]⟩) (λr s'=>r=.ok (.ret (.bool true))/\OldK Q.heap s'.heap/\s'.os=Q.os/\Qj s'.gens) Q:=by
  intro H hO hT hS A hA hK;have Y:∀ {b:Af} {o:Dc},Q.heap.get? b=Ab o->H b=none->(gP Q.heap H).get? b=Ab o:=λe n=>US e n;have zb:∀ {b:Af} {o:Dc},Q.heap.get? b=Ab o->o.cls≠.none->(o.cls≠.type "list" \/ ∃ j I,o.data=.dict j I)->H b=none:=λ{b o} e c1 c2=>by
   cases q:H b with
   |none=>rfl
   |some u =>
    rcases hA b (by rw[q];simp) with e'|e'
    .subst e'
     rw[p] at e;cases e;rcases c2 with z|⟨j,I,d⟩
     .exact absurd rfl z
     .cases d
    .rw[(tab b e').1] at e;cases e
     exact absurd rfl c1
  have zz:∀ {b:Af} {o:Dc} {j:Ay DictEntry} {I:Ag},Q.heap.get? b=Ab o->o.data=.dict j I->H b=none:=λ{b o j I} e d=>by
   cases q:H b with
   |none=>rfl
   |some u =>
    rcases hA b (by rw[q];simp) with e'|e'
    .subst e'
     rw[p] at e;cases e;cases d
    .rw[(tab b e').1] at e;cases e;cases d
  have N:∀ {b:Af} {m:ai},Q.heap.Ns b m->(gP Q.heap H).Ns b m:=λ{b m} ⟨o,j,I,e,d,r⟩=>⟨o,j,I,Y e (zz e d),d,r⟩;have i:K.In (gP Q.heap H):=λb o e=>Y (KX b o e) (by
   cases q:H b with
   |none=>rfl
   |some u =>
    rcases hA b (by rw[q];simp) with e'|e'
    .subst e'
     rw[hK (by rw[q];simp)] at e;cases e
    .rw[(tab b e').2] at e;cases e)
  have hM:Mod K mg (gP Q.heap H):=by
   refine⟨i,N t,⟨mb,N J,zy⟩,let ⟨mc,h1,h2⟩:=f;⟨mc,N h1,h2⟩,?_,λx U c T h=>?_,O.inj⟩
   .obtain⟨bm,o,b1,b2,b3,b4,b5⟩:=zl
    exact⟨bm,o,b1,b2,Y b3 (zb b3 (by rw[b4];nofun) (.inl (by rw[b4];decide))),b4,b5⟩
   .obtain⟨o,vs,zh,tf,l,tg,zs,zc,tt,E,M,r⟩:=(O.at' x U c T h).1
    exact⟨o,vs,zh,tf,l,tg,zs,zc,tt,Y E (zb E (by rw[M];nofun) (.inl (by rw[M];decide))),M,r⟩
  have e0:pj P w K mg (gP Q.heap H) Tz [] Q H:=⟨rfl,hM,λb o e=>M8 e,x0 (W9 _ _),trivial,λb J=>absurd (show b∈([]:ag) from J) ba,A,.of_eq hg⟩
  refine Nd ((F _ i (N t)).run Tz [] Q H ⟨[.ref a],[]⟩ [.ref a] [.ref a] _ _ hr e0 (y Q (.ref a)) (.cons rfl .nil) (zv H hT hS)) λr s' h=>?_;cases r with
  |error e=>exact(zx H e s' h).elim
  |ok fl =>
   cases fl with
   |next=>exact Aq h
   |brk=>exact Aq h
   |cont=>exact Aq h
   |ret u =>
    obtain⟨v,H',os,g,un,B,r',q⟩:=h;have q':v=.bl true:=q;subst q';obtain rfl:u=Jw true:=r';refine⟨rfl,⟨λb o e=>?_,λb o e=>un.there b o e ba⟩,os,g⟩
    cases q:H b with
    |none=>exact .inl (un.keep b o e q (by intro z;exact absurd (show b∈([]:ag) from z) ba) ba)
    |some u =>
     rcases hO b with z|⟨ob,xs,z⟩|z
     .rw[q] at z;cases z
     .have z2:=un.frzs b ob _ z
      obtain⟨E,_⟩:=A b _ z;obtain⟨M,_⟩:=B b _ z2;rw[e] at E;cases E;exact .inl M
     .obtain⟨C,z2⟩:=un.tbls b _ z
      have E:Q.heap.get? b=Ab (Su #[]):=A b _ z;have M:s'.heap.get? b=Ab (Su (#[] ++ C)):=B b _ z2;rw[e] at E;cases E;rcases hA b (by rw[q];simp) with e'|⟨x,U,c,h⟩
      .subst e';rw[p] at e;cases e
      .exact .inr (.inl ⟨((O.at' x U c b h).1.tab e).isCodeTable,rfl,#[],C,rfl,M⟩)
 have nT:¬ ip a:=λh=>by
  have z:=(tab a h).1;rw[p] at z;cases z
 have tT:∀ x∈vM,∀ c T,Es K x=Ab (c,T)->ip T:=λx U c T h=>⟨x,U,c,h⟩;have z1:∀ b,Hy (ip b):=λb=>Classical.propDecidable _;cases hk:K.lookup a with
 |some o =>
  have e:=KX a o hk;rw[p] at e;cases e;refine L (λb=>if ip b then Ab (.tbl #[]) else none) (λb=>?_) (λx U c T h=>Be (tT x U c T h)) (.inr ⟨vs,_,hk,by rw[Ao];exact hl,rv⟩) (λb u z=>?_) (λb z=>?_) λz=>absurd (Bc nT) z
  .by_cases h:ip b
   .exact .inr (.inr (Be h))
   .exact .inl (Bc h)
  .by_cases h:ip b
   .have G:=(Be h).symm.trans z
    cases G;exact(tab b h).1
   .have G:=(Bc h).symm.trans z
    cases G
  .by_cases h:ip b
   .exact .inr h
   .exact absurd (Bc h) z
 |none =>
  refine L (λb=>if b=a then Ab (.frz { cls:=.type "list",data:=.seq vs.toArray } (.lst (ns.map V.int))) else if ip b then Ab (.tbl #[]) else none) (λb=>?_) (λx U c T h=>?_) (.inl (.inr ⟨{ cls:=.type "list",data:=.seq vs.toArray },Be rfl⟩)) (λb u z=>?_) (λb z=>?_) λ_=>hk
  .by_cases J:b=a
   .exact .inr (.inl ⟨_,_,Be J⟩)
   .by_cases h:ip b
    .exact .inr (.inr ((Bc J).trans (Be h)))
    .exact .inl ((Bc J).trans (Bc h))
  .have h':=tT x U c T h
   exact(Bc (λ(z:T=a)=>nT (z▸h'))).trans (Be h')
  .by_cases J:b=a
   .have G:=(Be J).symm.trans z
    cases G;subst J;exact⟨p,by rw[Ao];exact hl,vs,_,rv,p⟩
   .by_cases h:ip b
    .have G:=((Bc J).trans (Be h)).symm.trans z
     cases G;exact(tab b h).1
    .have G:=((Bc J).trans (Bc h)).symm.trans z
     cases G
  .by_cases J:b=a
   .exact .inl J
   .by_cases h:ip b
    .exact .inr h
    .exact absurd ((Bc J).trans (Bc h)) z
def yO (q:Bh)(K:Aj):As:=vM.all λx=>match Es K x with
 |none=>true
 |some (_,T)=>((recsOf q).find? λe=>e.name == x).isSome&&((K.lookup T).isNone&&vM.all λy=>match Es K y with
  |none=>true
  |some (_,U)=>x == y||!decide (T=U))
theorem N6 {Y:ExcName->Am Ac}{K:Aj}(T:Top q kh Y mg mb h)(X:K.In h)(c:yO q K=true):yb K h:=by
 unfold yO at c;have g:∀ x∈vM,∀ d U,Es K x=Ab (d,U)->((recsOf q).find? λe=>e.name == x).isSome=true/\(K.lookup U).isNone=true/\(vM.all λy=>match Es K y with
  |none=>true
  |some (_,V)=>x == y||!decide (U=V))=true:=λx Q d U e=>by
  have z:=Bs.mp c x Q;rw[e] at z;simpa only [Bj] using z
 refine⟨λx Q d U e=>?_,λx Q y B d I U L N=>?_⟩
 .obtain⟨J,E,_⟩:=g x Q d U e
  obtain⟨r,C⟩:=Kq.mp J;obtain⟨G,O⟩:=PySem.W.tab_of T X C e;exact⟨G,O,by simpa using E⟩
 .have z:=Bs.mp (g x Q d U L).2.2 y B
  rw[N] at z;simpa using z
theorem NG {l:AbK}{n k:Ag}{q:Bh}{kh:Aa Aw}{XP:(Aw->Am Ac)->By->Prop}{M:Ce->By->Prop}{d:DefRec}{K:Params->Aj}{CX:Ce->vm}{sp:Ce->Sp}{x:Aw}
  (j:l.most=Ab n) (E:n<=sizeLine) (B:d.params.defaults=[]) (g:jx k Tz) (ht:∀ p,yO q (K p)=true)
  (hY:∀ (w:Ce) (h:By),M w h->(K w.params).In h)
  (F:∀ (w:Ce) (mg:ai) (C:Af) (h:By),(K w.params).In h->h.Ns Dr mg->mg d.name=Ab (.ref C) ->
   ∃ fd:Fw,(∀ (s:Ai) (u:Ac),Ql s fd ⟨[u],[]⟩ [(x,u)]) /\
    ∀ base:By,(K w.params).In base->base.Ns Dr mg->ot l.prog w (K w.params) mg base (CX w) k C fd [x] (sp w))
  (T:∀ (w:Ce) (H:Hp) (a:Af) (O:Aa Ah),O.length<=n->zo (K w.params) H->qu (K w.params) H a (O.map V.int)->sp w [.ref a] H (λv _=>v=.bl true) λ_ _ _=>Ex)
  (I:∀ (w:Ce) (H:Hp) (s:Ai) (e:Ac) (s':Ai),CX w [] H s (λ_ _ _=>Ex) e s'->Ex) :
  AcA q kh XP M l.row.toRowW d [] (λf vs=>AbO f vs):=by
 refine _A.oh j B λw z N mg mb C o pm cd i a vs O G Y ho hd r A U J Q hg=>?_;have L:=hY w _ Y;obtain⟨fd,b,c⟩:=F w mg C _ L G.T.g A;exact J2 L G.T.g G.T.b G.T.builtins G.T.nolimit hg (let ⟨bm,ob,m,b2,b3,b4,t,y⟩:=G.T.bmain;⟨bm,ob,m,b2,b3,b4,t,y⟩) (N6 G.T L (ht _)) U J (Cw Q E) g c b (λH hT hS=>T w H a O Q hT hS) λH e s'=>I w H N e s'
end _L
namespace _D
open _L
variable {K:Aj}{mg:ai}
theorem CJ (X:K.In h)(G:h.Ns Dr mg){x:Aw}{st:Fz}{C:Aa Aw}{f:Af}{B:Ac}{L J:Am Af}{O:Ay (Am Ac)}{kV Y N Q U:Ac}
  (a:Ga K Dr x=Ab (Ab (.ref f)))
  (l:K.lookup f=Ab ⟨B,L,.func (Gv x x (yL st) (zZ st) (qK st) .none kV Y N J Q U),O⟩) (c:Mz K Q x=true) (k:Gw K (.ref f)=true)
  (T:∀ (kV Y N:Ac) (J:Am Af) (Q U:Ac) (us:ah),us.length=C.length->AbD (Gv x x (yL st) (zZ st) (qK st) .none kV Y N J Q U) ⟨us,[]⟩=pure (C.zip us)):wf K mg x st C:=
 have F:=SH (st:=st) l c k
 ⟨f,_,Zl X G a,F,F.binds T⟩
noncomputable def eK (K:Aj)(C:Af):As:=
 decide (Pj K (.ref C) "__getattribute__" = Ab (Ab (.builtin "BaseException.__getattribute__")))&&decide (Pj K (.ref C) "__getattr__" = Ab none)
 && decide (Pj K (.ref C) "__class__" = Ab (Ab (.builtin "object.__class__")))&&decide (Yt K C (.type "object")=Ab true)&&decide (Yt K C (.type "BaseException")=Ab true)
 && (PySem.W.clsIn K C).isSome&&decide (My K (.ref C) (.type "ValueError")=Ab true)
noncomputable def VW (K:Aj):As:=
 decide (Aa4 K (.builtin "object.__class__") "__get__" = Ab (Ab (.builtin "getset_descriptor.__get__")))&&decide (AbC K (.builtin "object.__class__")=Ab true)
def LH (K:Aj)(Q:ag):As:=Q.all λC=>Q.all λB=>decide (My K (.ref C) (.ref B)=Ab (C == B))
theorem LJ {Y:ag}(h1:Y.all (eK K)=true)(h2:VW K=true)(h3:LH K Y=true):yq K Y:=by
 have g:=h2;unfold VW at g;simp only[Bj,Bq] at g;have J:∀ C∈Y,eK K C=true:=Bs.mp h1;refine⟨λC Q=>?_,λC Q B L=>?_,λC Q=>?_⟩
 .have e:=J C Q
  unfold eK at e;simp only[Bj,Bq] at e;obtain⟨⟨⟨⟨⟨⟨E,U⟩,G⟩,O⟩,N⟩,T⟩,I⟩:=e;exact⟨E,U,G,g.1,g.2,O,N,T⟩
 .have e:=Bs.mp (Bs.mp h3 C Q) B L
  exact Bz e
 .have e:=J C Q
  unfold eK at e;simp only[Bj,Bq] at e;exact e.2
def qBG (K:Aj)(Q:ah)(A:Af):As:=Q.all λv=>decide (AbY K v (.ref A)=Ab true)
def qBE (K:Aj)(Q:ag)(A:Af):As:=Q.all λC=>VV K C A
def qBF (K:Aj)(Q:ag):As:=Q.all λC=>Gw K (.ref C)
def rW (K:Aj):Sp:=λU H Q E=>zo K H/\∃ a Y,U=[.ref a]/\qu K H a (AbL V.int Y)/\Y.length<=63/\∀ J,Q (.bl true) J
theorem a8 {P:Hp}{α:ag}:∀ Q:Aa Ah,qD K P α (Q.map D.int) (Q.map V.int)
 |[]=>.nil
 |n::Q=>.cons (by simp only[av]) (a8 Q)
def wo (H:Hp):Hp:=λb=>match H b with
 |some (.tbl _)=>none
 |u=>u
theorem FQ {P:Bh}{w:Ce}{l:Af}{st:Fz}{k:Ag}{x:Aw}(hs:wf K mg "law" st [x])(y:mg "law" = Ab (.ref l))
  (M:∀ (kV N p:Ac) (B:Am Af) (U I:Ac) (s:Ai) (v:Ac),Ql s (Gv "law" "law" (yL st) (zZ st) (qK st) .none kV N p B U I) ⟨[v],[]⟩ [(x,v)])
  (O:∀ base:By,∃ F,rZ P w K mg base true k "law" [x] F/\∀ J:Aa Ah,J.length<=63->∃ S,F [.lst (J.map D.int)] [] = .ok (.bl true) S) :
  ∃ fd:Fw,(∀ (s:Ai) (v:Ac),Ql s fd ⟨[v],[]⟩ [(x,v)])/\∀ base:By,K.In base->base.Ns Dr mg->ot P w K mg base (ox P w) k l fd [x] (rW K):=by
 obtain⟨f,fd,g,F,hb⟩:=hs;cases y.symm.trans g;refine⟨fd,?_,λbase _ _=>?_⟩
 .obtain⟨oc,od,kV,N,p,B,U,I,m,rfl,_,_⟩:=F.ex
  exact M kV N p B U I
 .obtain⟨G,⟨f',i,A,_,zc,j,X⟩,n⟩:=O base
  cases g.symm.trans A;cases j.one (nG F);refine(X.imp λvs H Q E h=>?_).ok;obtain⟨t,a,J,rfl,hS,j,k⟩:=h;obtain⟨S,e⟩:=n J j;have Y:∀ (b:Af) (u:HO),H b=Ab u->(∀ C,u≠.tbl C)->wo H b=Ab u:=λb u q h=>by
   unfold wo;rw[q];cases u with
   |tbl C=>exact absurd rfl (h C)
   |_=>rfl
  have L:qu K (wo H) a (AbL V.int J):=by
   rcases hS with (h|⟨o,h⟩)|h
   .exact .inl (.inl (Y _ _ h λ_ z=>by cases z))
   .exact .inl (.inr ⟨o,Y _ _ h λ_ z=>by cases z⟩)
   .exact .inr h
  have sub:qE (wo H) H:=λb u q=>by
   unfold wo at q;cases z:H b with
   |none=>rw[z] at q;cases q
   |some v =>
    rw[z] at q;cases v with
    |tbl C=>cases q
    |_=>exact q
  refine⟨rfl,wo H,[],[.lst (J.map D.int)],[],⟨λx r c T h=>⟨#[],t x r c T h,by unfold wo;rw[t x r c T h],by simp,trivial,λaq cv z=>by cases z⟩,sub,rfl,.nil,by simp,by simp,by simp⟩,.cons (gB L (a8 J)) .nil,?_⟩
  rw[e];intro v H' P' zb _ _ _ d;simp only[av] at d;subst d;exact k H'
theorem qAj {l:AbK}{L:Aa Aw}{I:(Aw->Am Ac)->By->Prop}{J:Ce->By->Prop}{d:DefRec}{K:Params->Aj}{k:Ag}{x:Aw}(U:l.most=Ab 63)(Q:d.params.defaults=[])(N:jx k Tz)(E:∀ p,yO q (K p)=true)
  (T:∀ (w:Ce) (h:By),J w h->(K w.params).In h)
  (F:∀ (w:Ce) (mg:ai) (Y:Af) (h:By),(K w.params).In h->h.Ns Dr mg->mg d.name=Ab (.ref Y) ->
   ∃ fd:Fw,(∀ (s:Ai) (u:Ac),Ql s fd ⟨[u],[]⟩ [(x,u)])/\∀ base:By,(K w.params).In base->base.Ns Dr mg->ot l.prog w (K w.params) mg base (ox l.prog w) k Y fd [x] (rW (K w.params))) :
  AcA q L I J l.row.toRowW d [] (λf vs=>AbO f vs):=
 _L.NG (n:=63) (k:=k) (x:=x) (CX:=λw=>ox l.prog w) (sp:=λw=>rW (K w.params)) U bb Q N E T F (λ_ _ a G B O C=>⟨O,a,G,rfl,C,B,λ_=>rfl⟩) λw H s e A h=>by
  obtain⟨_,_,_,_,_,_,_,_,_,_,_,_,z⟩:=h;exact z
end _D
namespace _D
variable {us:ah}
theorem _Q (h:us.length=0):us=[]:=Rr h
theorem A_ {n:Ag}(h:us.length=n+1):∃ a vs,us=a::vs/\vs.length=n:=by
 cases us with
 |nil=>exact absurd h ba
 |cons a vs=>exact⟨a,vs,rfl,by simpa using h⟩
theorem _h (h:us.length=1):∃ a,us=[a]:=by
 obtain⟨a,Y,rfl,Q⟩:=A_ h;exact⟨a,by rw[_Q Q]⟩
theorem _g (h:us.length=2):∃ a b,us=[a,b]:=by
 obtain⟨a,Y,rfl,Q⟩:=A_ h;obtain⟨b,rfl⟩:=_h Q;exact⟨a,b,rfl⟩
theorem _P (h:us.length=3):∃ a b c,us=[a,b,c]:=by
 obtain⟨a,Y,rfl,Q⟩:=A_ h;obtain⟨b,c,rfl⟩:=_g Q;exact⟨a,b,c,rfl⟩
end _D
namespace _D
open _L
variable {sc:Eu}
theorem PQ (F:DF):∃ G:DF,G=F:=⟨F,rfl⟩
def sh (F:DF):DF:=Qq (PQ F)
theorem zH (F:DF):sh F=F:=Ms (PQ F)
def _q:Am Im->As
 |some .local => true
 |some .cell=>true
 |some .free=>true
 |_=>false
noncomputable def zd:Am Im->As
 |some .local => true
 |some .cell=>true
 |_=>false
def isG:Am Im->As
 |some .globalImplicit=>true
 |_=>false
noncomputable def za (x:Aw):As:=!(x == ("__debug__" : Aw))&&(!(x == ("__classdict__" : Aw))&&!decide (x = "__name__"))
def vt (X:Cx)(x:Aw):As:=isG (X.env.kindOf x)&&za x
def G_ (v:Ac)(x:Aw):As:=decide (Gf x=Ab v)
def lY (sc:Eu):Aa Aw:=sc.names.filterMap λy=>if zd (Ab y.2) then Ab y.1 else none
def wI (sc:Eu):Aa Aw:=(sc.names.filterMap λy=>if zd (Ab y.2)&&!(y.1 == (".0" : Aw)) then Ab y.1 else none)++sc.names.filterMap λy=>if y.2 == .free then Ab y.1 else none
def Ck (b:As):Prop:=b=true
theorem ck {b:As}(h:b=true:=by kernel_rfl):Ck b:=h
structure zw (F:DF)(P:Bh)(w:Ce)(K:Aj)(mg:ai)(base:By)(cm:As)(k:Ag)(x:Aw)(n:Ag):Prop where
 get:tw P w K mg base cm k x n F
def xh (X:Cx)(m:Ag)(x:Aw):As:=decide (X.N[m]? = Ab x)&&(zd (X.env.scope.names.lookup x)&&(decide X.N.Nodup&&(X.fn x||decide (X.env.scope.names.lookup x=Ab .local))))
noncomputable def y_ (X:Cx)(m:Ag)(x:Aw):As:=decide (X.N[m]? = Ab x)&&decide (X.env.scope.names.lookup x=Ab .local)
def tP (Q:Eu)(Y:Aa Aw)(am:Eu)(bw:Aa (Am Ag)):As:=
 decide (am.kind=.function)&&(decide (∀ y∈am.names,y.2=.local -> am.names.lookup y.1=Ab .local)&&(decide (∀ y∈am.names,y.2=.cell->am.names.lookup y.1=Ab .cell)&&(decide (∀ y∈am.names,y.2=.free->Q.names.lookup y.1=Ab .cell\/Q.names.lookup y.1=Ab .free)
 && (decide (∀ y∈am.names,y.2=.free->am.names.lookup y.1=Ab .free)&&(decide (bw.length=(wI am).length)&&(((bw.zip (wI am)).all λp=>match p.1 with|none=>true|some i=>Y[i]? == Ab p.2&&am.names.lookup p.2 == Ab .free)&&decide (wI am).Nodup))))))
noncomputable def zg (N P:Aa Aw)(sc:Eu):As:=
 decide (sc.kind=.function)&&(decide (sc.isCoroutine=false)&&(decide (sc.isGenerator=false)&&(decide N.Nodup&&(decide (N.take P.length=P)&&(decide (∀ x∈P,sc.names.lookup x=Ab .local \/ sc.names.lookup x=Ab .cell)&&decide (∀ y∈sc.names,y.2≠.free))))))
theorem mO (h:tP Q Y am bw=true):dj Q Y am (wI am) bw:=by
 simp only[tP,Bj,Bq] at h;obtain⟨a,b,c,d,e,f,g,k⟩:=h;exact⟨a,b,c,d,e,f,g,k⟩
theorem W6 {N P:Aa Aw}(h:zg N P sc=true):dc N P sc:=by
 simp only[zg,Bj,Bq] at h;obtain⟨a,b,c,d,e,f,g⟩:=h;exact⟨a,b,c,d,e,f,g⟩
section
variable {X:Cx}{a b e bu tg ay:Cc}{cf:Aa Cc}{fa:DE}{f2:m_}{dg:DG}{t:DT}{kk:DK}{dn:Aa Do}{am:Eu}{bw:Aa (Am Ag)}{mm:As}{l:Ag}{y z:Aw}{oq:G2}{es:Aa Cc}{fA:DA}{x:Aw}{p aq:Ez}{cm:As}{k n m:Ag}{F:DF}
theorem FB (h:_q (sc.names.lookup x)=true):ur sc x:=by
 unfold ur
 revert h
 cases sc.names.lookup x with
 |none=>intro h;cases h
 |some y=>cases y <;> intro h <;> first|cases h;done|exact .inl rfl|exact .inr (.inl rfl)|exact .inr (.inr rfl)
theorem FA (h:zd (sc.names.lookup x)=true):_L.Loc sc x:=by
 unfold _L.Loc
 revert h
 cases sc.names.lookup x with
 |none=>intro h;cases h
 |some y=>cases y <;> intro h <;> first|cases h;done|exact .inl rfl|exact .inr rfl
theorem nN (h:za x=true):(x == ("__debug__" : Aw))=false/\(x == ("__classdict__" : Aw))=false/\x ≠ "__name__":=by
 unfold za at h;rw[Bj,Bj] at h;exact⟨by simpa using h.1,by simpa using h.2.1,by simpa using h.2.2⟩
theorem jM (h:vt X x=true):Gl X x/\(x == ("__debug__" : Aw))=false/\x ≠ "__name__":=by
 have h:=(Bj _ _).mp h;refine⟨?_,(nN h.2).1,(nN h.2).2.2⟩;have z:=h.1;unfold Gl
 revert z
 cases X.env.kindOf x with
 |none=>intro z;cases z
 |some y=>cases y <;> intro z <;> first|cases z;done|rfl
theorem nQ (h:xh X m x=true):X.N[m]? = Ab x/\_L.Loc X.env.scope x/\X.N.Nodup/\(X.fn x=true\/X.env.scope.names.lookup x=Ab .local):=by
 simp only[xh,Bj,Bq,Rp] at h;exact⟨h.1,FA h.2.1,h.2.2⟩
theorem nO (h:y_ X m x=true):X.N[m]? = Ab x/\X.env.scope.names.lookup x=Ab .local:=by
 simp only[y_,Bj,Bq] at h;exact h
theorem IL (h:Ck (vt X x)):Gl X x:=(jM h).1
theorem aV (h:Ck (decide (X.N[m]? = Ab x)&&(_q (X.env.scope.names.lookup x)&&za x))):QE X (.Name x aq) (q9 m):=by
 unfold Ck at h;simp only[Bj,Bq] at h;exact HK m h.1 (FB h.2.1) (nN h.2.2).1 (nN h.2.2).2.1
theorem aBt (h:Ck (vt X x))(hm:X.mg x=none)(Y:Ck (G_ (.type Q) x)):QE X (.Name x aq) (dC (.ty Q)):=
 have h:=jM h
 MV h.1 hm (Bz Y) h.2.2 h.2.1
theorem aGi (h:Ck (vt X x))(hm:∃ t,X.mg x=Ab (.int v t)):QE X (.Name x aq) (dC (.int v)):=
 have h:=jM h
 MX h.1 hm h.2.1
abbrev yd (X:Cx)(e:Cc)(es:Aa Cc)(aq:Ez):Prop:=Bu (e::es) X.env=(false,eval e X.env)::Bu es X.env/\(Hc aq (Bu es X.env)).any (·.1)=false
theorem aN (G:zw F X.prog X.w X.K X.mg X.base cm k x n)(J:be cm k X.A)(Q:qg X)(h:Ck (vt X x))(Y:QA X (e::es) fA)(s:yd X e es aq):QE X (.Call (.Name x p) (e::es) [] aq) (qH n F fA):=
 have h:=jM h
 _Y G.1 J Q h.1 Y h.2.1 s.1 s.2
theorem aO (G:zw F X.prog X.w X.K X.mg X.base cm k x n)(Y:be cm k X.A)(h:Ck (vt X x))(Q:QA X (e::es) fA)(s:yd X e es aq):QE X (.Call (.Name x p) (e::es) [] aq) (qH n (rq F) fA):=
 have h:=jM h
 _X G.1 Y h.1 Q h.2.1 s.1 s.2
theorem aB {id:Ep}(J:gp X (.builtin id) F)(h:Ck (vt X x))(hm:X.mg x=none)(Y:Ck (G_ (.builtin id) x))(Q:QA X (e::es) fA)(s:yd X e es aq):QE X (.Call (.Name x p) (e::es) [] aq) (qN F fA):=
 have h:=jM h
 JW J h.1 hm (Bz Y) Q h.2.2 h.2.1 s.1 s.2
theorem aT (J:gp X (.type T) F)(h:Ck (vt X x))(hm:X.mg x=none)(Y:Ck (G_ (.type T) x))(Q:QA X (e::es) fA)(s:yd X e es aq):QE X (.Call (.Name x p) (e::es) [] aq) (qN F fA):=
 have h:=jM h
 YK J h.1 hm (Bz Y) Q h.2.2 h.2.1 s.1 s.2
theorem aC (S:Ck (tP X.env.scope X.N am bw))(N:X.calm=true)(hi:uv X tg ay f2)(G:∀ U C J Y Q,QG (qO X (wI am) am U C J Y Q) tg dg)(O:∀ U C J Y Q,ut (qO X (wI am) am U C J Y Q) cf t)
  (has:∀ g',(⟨tg,ay,cf,0⟩::dn:Aa Do)[0+1]? = Ab g'->g'.is_async=0)
  (B:∀ U C J Y Q,QK kz (qO X (wI am) am U C J Y Q) (λau=>zP false bu (⟨tg,ay,cf,0⟩::dn) am aq 0 au (qO X (wI am) am U C J Y Q).env) kk) (hs:∀ x,Dx ay X.env x=pure x) :
  QE X (.ListComp bu (⟨tg,ay,cf,0⟩::dn) am aq) (zC mm bw f2 dg t kk):=JY N (mO S) hi G O has B hs
theorem aCs {N J:Ez}(hsw:Po (.ListComp bu (⟨tg,ay,cf,0⟩::dn) am aq) (Ab (.Name y N)) J.line X.env=pure true)(S:Ck (tP X.env.scope X.N am bw))(L:Ck (xh X m y))(T:X.calm=true)(hi:uv X tg ay f2)(B:∀ G C U Y Q,QG (qO X (wI am) am G C U Y Q) tg dg)(E:∀ G C U Y Q,ut (qO X (wI am) am G C U Y Q) cf t)
  (has:∀ g',(⟨tg,ay,cf,0⟩::dn:Aa Do)[0+1]? = Ab g'->g'.is_async=0)
  (O:∀ G C U Y Q,QK kz (qO X (wI am) am G C U Y Q) (λau=>zP false bu (⟨tg,ay,cf,0⟩::dn) am aq 0 au (qO X (wI am) am G C U Y Q).env) kk) (hs:∀ x,Dx ay X.env x=pure x) :
  QS X (.Assign [.Name y N] (.ListComp bu (⟨tg,ay,cf,0⟩::dn) am aq) J) (qQ (zC mm bw f2 dg t kk) (bj m)):=
 have h:=nQ L
 K4 T h.2.2.1 (mO S) hi B E has O h.1 h.2.1 h.2.2.2 hsw hs
theorem aNm (h:Ck (xh X m x)):QG X (.Name x aq) (bj m):=
 have h:=nQ h
 T1 h.2.2.1 h.1 h.2.1 h.2.2.2
theorem aSt (hs:Po e (Ab (.Name x Q)) aq.line X.env=pure false)(Y:QE X e fa)(h:Ck (xh X m x)):QS X (.Assign [.Name x Q] e aq) (qQ fa (bj m)):=
 have h:=nQ h
 HZ h.2.2.1 Y h.1 h.2.1 hs h.2.2.2
theorem aAu (h:Ck (xh X m x))(J:QE X e fa)(Y:xm X op oq):QS X (.AugAssign (.Name x Q) op e aq) (wQ m oq fa):=
 have h:=nQ h
 HU h.2.2.1 J Y h.1 h.2.1 h.2.2.2
theorem aP2 {J Y Q:Ez} {kt k2 pt2} (h:Ck (decide X.N.Nodup&&(y_ X m x&&(y_ X l y&&!decide (m=l))))) (G:X.calm=true) (U:QA X [a,b] fA)
  (hw:Nt [.Tuple [.Name x J,.Name y Y] kt Q] (.Tuple [a,b] k2 pt2) X.env=pure (Ab [x,y])) (hs:Nu [.Tuple [.Name x J,.Name y Y] kt Q] (.Tuple [a,b] k2 pt2) aq.line X.env=pure false) :
  QS X (.Assign [.Tuple [.Name x J,.Name y Y] kt Q] (.Tuple [a,b] k2 pt2) aq) (uO m l fA):=by
 unfold Ck at h;simp only[Bj,Bq,Pu,Ja] at h;exact HX G h.1 U (nO h.2.1).1 (nO h.2.2.1).1 h.2.2.2 (nO h.2.1).2 (nO h.2.2.1).2 hw hs
end
structure zn (K:Aj)(mg:ai)(tp:Ag->Fz)(tab:Aa (Aw × Ag × Aa Aw))(bl:Aa Aw)(qr sy:Aa (Aw × Af))(cs:ah)(exl:ag)(tj:Aa (Aw × Ah)):Prop where
 src:∀ (j:Ag) {x:Aw} {i:Ag} {ps:Aa Aw},tab[j]? = Ab (x,i,ps)->wf K mg x (tp i) ps
 nb:∀ {x:Aw},Ck (bl.contains x)->mg x=none
 cl:∀ {x:Aw} {C:Af},qr.lookup x=Ab C->mg x=Ab (.ref C)/\Gw K (.ref C)=true
 rz:∀ {x:Aw} {C:Af},sy.lookup x=Ab C->∃ Ae,mg x=Ab (.ref C)/\VV K C Ae=true
 ct:∃ C0,mg "FarError" = Ab (.ref C0)/\∀ c∈cs,AbY K c (.ref C0)=Ab true
 cls:yq K exl
 gi:∀ {x:Aw} {v:Ah},tj.lookup x=Ab v->∃ t,mg x=Ab (.int v t)
section
variable {K:Aj}{mg:ai}{cm:As}{tp:Ag->Fz}{tab:Aa (Aw × Ag × Aa Aw)}{bl:Aa Aw}{qr sy:Aa (Aw × Af)}{cs:ah}{wa:ag}{tj:Aa (Aw × Ah)}{x:Aw}{i m:Ag}{ps:Aa Aw}{F:DF}{g:DS}
theorem dq (P:Bh)(w:Ce)(base:By)(k j:Ag)(T:zn K mg tp tab bl qr sy cs wa tj)(U:tab[j]? = Ab (x,i,ps))(h:Ck (zg (lY (qK (tp i))) ps (qK (tp i))&&decide ((lY (qK (tp i))).length=m)))(J:F=qL m g)
  (G:∀ (f:Af) (Q:Ac) (A:Bw) (Y:Aa Ko) (s:Ai) (H:Hp) (E:XK),mF K x Q->be cm k (A.deeper (Hg x (qK (tp i)) s.heap.objs.size f Q)) ->
   QB (mw cm P w K mg base (lY (qK (tp i))) x (qK (tp i)) f Q A Y s H E) (zZ (tp i)) g):zw F P w K mg base cm (k+1) x ps.length:=by
 unfold Ck at h;simp only[Bj,Bq] at h;obtain⟨h,rfl⟩:=h;exact⟨J▸qBI (T.src j U) (W6 h) rfl G⟩
theorem dqP {P:Bh}{w:Ce}{base:By}(k j:Ag)(T:zn K mg tp tab bl qr sy cs wa tj)(J:tab[j]? = Ab (x,i,ps))(h:Ck (zg (lY (qK (tp i))) ps (qK (tp i))&&decide ((lY (qK (tp i))).length=m)))
  (U:∀ (f:Af) (Q:Ac) (A:Bw) (Y:Aa Ko) (s:Ai) (H:Hp) (E:XK),mF K x Q->be cm k (A.deeper (Hg x (qK (tp i)) s.heap.objs.size f Q)) ->
   QB (mw cm P w K mg base (lY (qK (tp i))) x (qK (tp i)) f Q A Y s H E) (zZ (tp i)) g):rZ P w K mg base cm (k+1) x ps (qL m g):=by
 unfold Ck at h;simp only[Bj,Bq] at h;obtain⟨h,rfl⟩:=h;exact AZ (T.src j J) (W6 h) rfl U
end
theorem hv {a b:Prop}(f:a->b)(h:a):b:=f h
inductive wu (K:Aj)(x:Aw)(st:Fz)(ps:Aa Aw):Prop
 |mk {f:Af} {oc:Ac} {od an:Am Af} {osl:Ay (Am Ac)} {kV doc pm cdv ct:Ac} (a:Ga K Dr x=Ab (Ab (.ref f)))
  (l:K.lookup f=Ab ⟨oc,od,.func (Gv x x (yL st) (zZ st) (qK st) .none kV doc pm an cdv ct),osl⟩) (c:Mz K cdv x=true) (k:Gw K (.ref f)=true):wu K x st ps
def Q8 (K:Aj)(tp:Ag->Fz):Aa (Aw × Ag × Aa Aw)->Prop
 |[]=>Re
 |(x,i,Q)::t=>wu K x (tp i) Q/\Q8 K tp t
def z_ (tp:Ag->Fz):Aa (Aw × Ag × Aa Aw)->Prop
 |[]=>Re
 |(x,i,U)::t=>(∀ (kV J O:Ac) (G:Am Af) (Q N:Ac) (Y:ah),Y.length=U.length->AbD (Gv x x (yL (tp i)) (zZ (tp i)) (qK (tp i)) .none kV J O G Q N) ⟨Y,[]⟩=pure (U.zip Y))/\z_ tp t
def Q2 (K:Aj):Aa (Aw × Af)->Prop
 |[]=>Re
 |(x,C)::t=>Ga K Dr x=Ab (Ab (.ref C))/\Q2 K t
def Q3 (K:Aj):Aa (Aw × Ah)->Prop
 |[]=>Re
 |(x,v)::t=>(∃ k,Ga K Dr x=Ab (Ab (.int v k)))/\Q3 K t
def qBP:Am (Am Ac)->As
 |some none=>true
 |_=>false
section
variable {K:Aj}{h:By}{mg:ai}{tp:Ag->Fz}
theorem oQ (X:K.In h)(G:h.Ns Dr mg):∀ (tab:Aa (Aw × Ag × Aa Aw)),Q8 K tp tab->z_ tp tab->∀ (j:Ag) {x:Aw} {i:Ag} {Q:Aa Aw},tab[j]? = Ab (x,i,Q)->wf K mg x (tp i) Q
 |[],_,_,_,_,_,_,e=>by cases e
 |(x,i,Q)::t,H,B,0,_,_,_,e=>by
  cases e;obtain⟨a,l,c,k⟩:=H.1;exact CJ X G a l c k B.1
 |(x,i,Q)::t,H,B,j+1,_,_,_,e=>oQ X G t H.2 B.2 j e
theorem yF {β:Type}{p:Aw->β->Prop}{C:β}:∀ {l:Aa (Aw × β)},(∀ y∈l,p y.1 y.2)->l.lookup x=Ab C->p x C
 |[],_,e=>by cases e
 |(y,b)::t,H,e=>by
  rw[La] at e;cases q:x == y with
  |true =>
   rw[q] at e;cases e;rw[eq_of_beq q];exact H (y,_) (.head _)
  |false =>
   rw[q] at e;exact yF (λz Q=>H z (.tail _ Q)) e
theorem bT (X:K.In h)(G:h.Ns Dr mg):∀ {l:Aa (Aw × Af)},Q2 K l->∀ y∈l,mg y.1=Ab (.ref y.2)
 |(x,C)::t,H,y,hy=>by
  rcases Az.mp hy with rfl|hy
  .exact Zl X G H.1
  .exact bT X G H.2 y hy
theorem iH (X:K.In h)(G:h.Ns Dr mg):∀ {l:Aa (Aw × Ah)},Q3 K l->∀ y∈l,∃ k,mg y.1=Ab (.int y.2 k)
 |(x,C)::t,H,y,hy=>by
  rcases Az.mp hy with rfl|hy
  .obtain⟨k,e⟩:=H.1
   exact⟨k,Zl X G e⟩
  .exact iH X G H.2 y hy
theorem qAb {tab:Aa (Aw × Ag × Aa Aw)}{bl:Aa Aw}{qr sy:Aa (Aw × Af)}{J:ah}{Y:ag}{tj:Aa (Aw × Ah)}{sd:Af}(B:z_ tp tab)(hp:∀ y∈sy,y∈qr)(N:qr.lookup ("FarError" : Aw)=Ab sd)(X:K.In h)(G:h.Ns Dr mg)
  (s:Q8 K tp tab) (z:(bl.all λx=>qBP (Ga K Dr x))=true) (q:Q2 K qr) (g:Q3 K tj) (e1:Y.all (eK K)=true) (e2:VW K=true) (e3:LH K Y=true) (e4:qBG K J sd=true) (e5:qBE K (sy.map (·.2)) sd=true) (e6:qBF K (qr.map (·.2))=true):zn K mg tp tab bl qr sy J Y tj where
 src:=oQ X G tab s B
 nb:=λ{x} U=>by
  have e:=Bs.mp z x (by simpa using List.contains_iff_mem.mp U)
  refine PySem.W.mg_none_of X G ?_
  revert e
  cases Ga K Dr x with
  |none=>intro e;cases e
  |some y=>cases y with
   |none=>intro _;rfl
   |some y=>intro e;cases e
 cl:=λh=>⟨yF (p:=λx C=>mg x=Ab (.ref C)) (bT X G q) h,yF (p:=λ_ C=>Gw K (.ref C)=true) (λy Q=>Bs.mp e6 y.2 (Zm Q)) h⟩
 rz:=λh=>⟨sd,yF (p:=λx C=>mg x=Ab (.ref C)) (λy Q=>bT X G q y (hp y Q)) h,yF (p:=λ_ C=>VV K C sd=true) (λy Q=>Bs.mp e5 y.2 (Zm Q)) h⟩
 ct:=⟨sd,yF (p:=λx C=>mg x=Ab (.ref C)) (bT X G q) N,λv hv=>Bz (Bs.mp e4 v hv)⟩
 cls:=LJ e1 e2 e3
 gi:=λh=>yF (p:=λx v=>∃ k,mg x=Ab (.int v k)) (iH X G g) h
end
structure vh where
 qual:Aw
 params:Wv
 body:Cc
 scope:Eu
def GR (sc:Eu):Aa Aw:=sc.names.filterMap λy=>if y.2 == .free then Ab y.1 else none
inductive ou (h:By)(H:Hp)(fs:ag)(L:vh)(a:Af)(cv:Aa V):Prop
 |mk (cl:Aa (Aw × Af)) (pm ctv:Ac) (c:Af) (oc:Dc) (ws:Ay Ac) (t:Yo) (o:h.get? a=Ab (PySem.W.kla_obj "<lambda>" L.qual L.params L.body L.scope cl pm c ctv)) (hc:H c=Ab (.frz oc (.frz oc (.own 0)))) (hd:oc.data=.fields ws) (ht:ws[1]? = Ab (.str L.qual t))
  (inj:∀ x y d,cl.lookup x=Ab d->cl.lookup y=Ab d->x=y) (cel:∀ x d,cl.lookup x=Ab d->H d=none/\∃ v,h.IsCell d v) (has:∀ x,L.scope.names.lookup x=Ab .free->∃ d,cl.lookup x=Ab d)
  (len:cv.length=(GR L.scope).length) (val:∀ (j:Ag) x v,(GR L.scope)[j]? = Ab x->cv[j]? = Ab v->∃ d u,cl.lookup x=Ab d/\qF v u/\h.IsCell d (Ab u)) (hn:H a=none) (hf:a ∉ fs):ou h H fs L a cv
theorem ou.at {X:Cx}{σ:_L.St}{a:Af}(C:ou X.s₀.heap X.H₀ X.fs L a M)(F:qg X)(I:Inv X aj σ H s):ou s.heap H (jq X.stack) L a M:=by
 obtain⟨k,g,G,c,w,i,t,o,hc,f,ht,U,Q,has,N,val,O,T⟩:=C;have J:∀ b,b ∉ X.ex:=λb=>by rw[F.1];simp
 have m:∀ b o,X.s₀.heap.get? b=Ab o->b ∉ X.fs->b ∉ jq X.stack:=λb o e n z=>(F.mem.mp z).elim (Cu (Bk (Bf e) I.ok.above)) n;have B:∀ d v,X.H₀ d=none->X.s₀.heap.IsCell d v->s.heap.IsCell d v:=λd v Y ⟨o,e,q⟩=>let ⟨_,z⟩:=I.base.any e Y (J d);⟨_,z,q⟩
 refine⟨k,g,G,c,w,i,t,I.base.keep a _ o O T (J a),I.base.frzs _ _ _ hc,f,ht,U,λx d e=>?_,has,N,λj x v h y=>?_,I.base.free a _ o O (J a),m a _ o T⟩
 .obtain⟨Y,v,A⟩:=Q x d e
  obtain⟨ob,p,q⟩:=id A;exact⟨I.base.free d ob p Y (J d),v,B d v Y A⟩
 .obtain⟨d,u,E,r,l⟩:=val j x v h y
  exact⟨d,u,E,r,B d _ (Q x d E).1 l⟩
theorem u_.at {K:Aj}{H Y P:Hp}{α:ag}{a:Af}(e:Y a=H a):∀ {o:MO},u_ K H P α a o->u_ K Y P α a o
 |.dead,_=>trivial
 |.lst _,⟨Q,q,r⟩=>⟨Q,e.trans q,r⟩
 |.dct _,⟨Q,q,r⟩=>⟨Q,e.trans q,r⟩
 |.dcT _,⟨Q,q,r⟩=>⟨Q,e.trans q,r⟩
 |.ins _ _,⟨J,Q,q,r⟩=>⟨J,Q,e.trans q,r⟩
section
variable {X:Cx}{aj:aa}{σ: _L.St}{H:Hp}{s:Ai}
theorem Inv.pinned {a:Af}{h':By}{J:Ag}(I:Inv X aj σ Q { s with heap:=h'.push o,toks:=J })(O:a=h'.objs.size)(hs:s.heap.objs.size<=h'.objs.size)(U:Inv X aj σ H s)(G:Q a=none)(N:∀ v,o.data≠.cell v)(Y:o.isFreed=false:=by rfl):Inv X ((a,o)::aj) σ Q { s with heap:=h'.push o,toks:=J }:=by
 refine I.pins_of λp hp=>?_;rcases Az.mp hp with rfl|hp
 .subst O
  exact⟨Bi _ Y,G,Jy (Bk U.lt hs),U.nofs hs,N⟩
 .exact I.pin p (Bx _ hp)
end
structure yr (X:Cx)(L:vh)(a:Af)(cv:Aa V):Prop where
 get:ou X.s₀.heap X.H₀ X.fs L a cv
section
variable {X:Cx}{L:vh}{a:Af}{cv:Aa V}
theorem yr.tr (h:yr X L a cv):yr (Cx.tryIn X E Q) L a cv:=⟨h.1⟩
end
section
variable {X:Cx}{aj:aa}{σ: _L.St}{H P:Hp}{α: Aa Af}{s:Ai}{S:ao}
def qB2:D->Aa D->ao->az D:=λa J S=>match a,J with
 |.loc i,[.lst Y]=>fM S i λQ=>if Q.length+Y.length<=br then .ok .non (S.set i (.lst (Q++Y))) else .bad
 |_,_=>.bad
def b7:D->Aa D->ao->az D:=λa Y S=>match a,Y with
 |.loc i,[.int k]=>fM S i λQ=>if 0<=k/\k<1000000 then (match Q[k.toNat]? with|some d=>.ok d (S.set i (.lst (Q.eraseIdx k.toNat)))|none=>.bad) else .bad
 |_,_=>.bad
theorem nX {K:Aj}:∀ {ds:Aa D} {vs:Aa V} (k:Ag),qD K P α ds vs->qD K P α (ds.eraseIdx k) (vs.eraseIdx k)
 |[],vs,k,r=>by rw[r.nil_inv];exact .nil
 |d::ds,vs,0,r=>by
  obtain⟨w,Y,rfl,_,Q⟩:=r.cons_inv;exact Q
 |d::ds,vs,k+1,r=>by
  obtain⟨w,Y,rfl,J,Q⟩:=r.cons_inv;exact .cons J (nX k Q)
set_option tactic.hygienic true in
theorem JB:wz X "list.pop" b7:=by
 intro aj σ H s P α S v M m f a n Q I r j p G O Y;unfold b7 at Y
 split at Y
 .rename_i i k
  obtain⟨U,B,Y⟩:=jN Y;obtain⟨c,Y⟩:=vL Y;have N:∃ d,U[k.toNat]? = Ab d/\jn X P α Q d (S.set i (.lst (U.eraseIdx k.toNat))):=by
   cases L:U[k.toNat]? with
   |none=>rw[L] at Y;exact Aq Y
   |some d=>rw[L] at Y;exact⟨d,rfl,Y⟩
  obtain⟨d,g,ok⟩:=N;obtain⟨w,u,rfl,rfl,E,T⟩:=vQ O G;cases zS E;simp only[av] at p;obtain⟨l,rfl,q⟩:=p;obtain⟨J,z,t⟩:=r.at' i l _ q B;obtain⟨y,C,o⟩:=t.get g;have A:=(Ba.mp C).1;refine JE aj s σ H (.ref l) [.int k] M [u] Q I j (.cons T .nil) ⟨l,J,k,k.toNat,y,rfl,rfl,z,by fin2,by fin2,?_,C,?_⟩
  .unfold Aa7
   show (if (0<=(if k<0 then k+(J.length:Ah) else k)&&(if k<0 then k+(J.length:Ah) else k)<(J.length:Ah))=true then Ab (if k<0 then k+(J.length:Ah) else k).toNat else none)=_
   rw[Bc (show ¬ k<0 by fin2),Be (by simp;fin2)]
  .exact ok _ _ _ _ (r.put (m':=.lst (U.eraseIdx k.toNat)) q B (by intro z;cases z) ⟨J.eraseIdx k.toNat,zE,nX _ t⟩) (qE.refl _) (Bg _) o
 .exact Aq Y
theorem oZ:xk X "list.pop" b7:=⟨JB⟩
end
section
variable {X:Cx}
noncomputable def pZ:DF:=λQ S=>match Q with
 |[.int a]=>.ok (.int (if a<0 then -a else a)) S
 |_=>.bad
inductive _d (ds:Aa D)(S:ao):Prop
 |bad (e:pZ ds S=.bad)
 |int (i:Ah) (e:ds=[.int i])
theorem VG (ds:Aa D)(S:ao):_d ds S:=by
 match ds with
 |[]=>exact .bad rfl
 |[.int i]=>exact .int i rfl
 |[.non]=>exact .bad rfl
 |[.bl _]=>exact .bad rfl
 |[.str _]=>exact .bad rfl
 |[.ty _]=>exact .bad rfl
 |[.obj _]=>exact .bad rfl
 |[.tup _]=>exact .bad rfl
 |[.lst _]=>exact .bad rfl
 |[.dct0]=>exact .bad rfl
 |[.loc _]=>exact .bad rfl
 |[.exn _]=>exact .bad rfl
 |[.fd _ _]=>exact .bad rfl
 |[.clo _ _ _]=>exact .bad rfl
 |a::_::_=>cases a <;> exact .bad rfl
theorem LB:y8 X (.builtin "abs") pZ:=by
 intro B σ H s P α S C O G Q I r U N Y;cases VG G S with
 |bad e=>rw[e] at Y;exact Aq Y
 |int i e =>
  subst e;obtain⟨v,u,rfl,rfl,p,q⟩:=vQ N U;cases zS p;obtain⟨t,rfl⟩:=q;refine call_abs_int λu J=>?_;exact⟨.int _,H,I.tok J,⟨u,rfl⟩,xr Y r (by simp only[av])⟩
theorem JK:k_ X (El .FloorDiv) (rI (λ_ j=>j≠0/\j.natAbs.log2<9000) λi j=>.int (i.fdiv j)):=xg λ_ _ _ _ _ _ _ Q q=>floordiv_int Q.1 q (.inl (PyProof.noPylong_of_log2 Q.2))
theorem GC:∃ C:Ah->Ah->As,C=λ_ j=>decide (j≠0/\j.natAbs.log2<9000):=⟨_,rfl⟩
def GB:Ah->Ah->As:=Qq GC
theorem eF:GB=λ_ j=>decide (j≠0/\j.natAbs.log2<9000):=Ms GC
def gM:G2:=i2 GB λi j=>.int (i.fdiv j)
theorem M5:gj X (El .FloorDiv) gM:=by
 unfold gM;rw[eF];exact gA JK (λi j h=>Bz h) λP α i j=>by simp only[av]
theorem qAk:gp X (.builtin "abs") pZ:=⟨LB⟩
theorem A8:jj X (El .FloorDiv) gM:=⟨M5⟩
end
noncomputable def tE:D->ao->Am (Aa D)
 |.lst Q,_=>Ab Q
 |.tup Q,_=>Ab Q
 |.loc n,S=>match S[n]? with
  |some (.lst Q)=>Ab Q
  |_=>none
 |_,_=>none
section
variable {X:Cx}{aj:aa}{σ: _L.St}{H P:Hp}{α: Aa Af}{S:ao}{s:Ai}
theorem i7 {K:Type}{is:K->Ac->Prop}{m:K->Ah}{lt':K->K->As}{d:K}{t:K->Prop}(kd:_S.Kind X.prog X.w is m lt' d t s.heap)(ad:_S.su X.prog X.w is m s.heap)(e:X.calm=true)(hu:X.A.units+64<Ed)(I:Inv X aj σ H s)(r:bi X.K H P α S){a:Af}{ap:ah}
  (ha:s.heap.IsList a ap.toArray\/s.heap.IsTuple a ap.toArray) (ks:Aa K) (hl:ks.length=ap.length) (x:∀ i v,ap[i]? = Ab v->is (ks.getD i d) v) (hn:(_S.gz lt' ks).length<=1000) (hf:∀ k∈ks,t k) (cb:K->D)
  (T:∀ k v,is k v->v∈ap->∃ z,qF z v/\av X.K P α (cb k) z) {E:ae} :
  b6 X (call (.type "set") [.ref a]) (λu s1=>b6 X (call (.builtin "sorted") [u]) (si X aj σ H P α ((_S.gz lt' ks).map cb)) E s1) E s:=by
 have N:ap.toArray.size=ks.length:=by rw[Bm,hl]
 have mem:∀ k,k∈_S.gz lt' ks↔k∈ks:=λk=>_S.xF kd.ord k ks;have M:∀ i,i<ks.length->ks.getD i d∈ks:=λi C=>by simp[Gr,C]
 refine _S.QM (U:=_S.gz lt' ks) ad (I.ok.hd e) li ha (λi=>ks.getD i d) (λi v hv=>x i v (by simpa using hv)) li (λi C=>(mem _).mpr (M i (by rw[<- N];exact C))) λy O Z f=>?_
 have seen:∀ k∈_S.uA (λi=>ks.getD i d) ap.toArray.size,k∈ks:=λk Y=>by
  obtain⟨i,C,rfl⟩:=_S.jY.mp Y;exact M i (by rw[<- N];exact C)
 have n:Inv X aj σ H { s with heap:=y,toks:=O }:=I.kept f
 refine _S.l5 (s:={ s with heap:=y,toks:=O }) kd (I.ok.hd e) li f Z (λk Y=>hf k (seen k Y)) (U:=_S.gz lt' ks) li (λk Y=>(mem k).mpr (seen k Y)) λb A D c G o g l B hp zb=>?_
 rw[N,KP kd.ord] at B;have z:∀ (G:Aa (K × Ac)),(∀ p∈G,is p.1 p.2/\p.2∈ap)->∃ J,qJ J (G.map (·.2))/\qD X.K P α ((G.map (·.1)).map cb) J:=by
  intro G
  induction G with
  |nil=>exact λ_=>⟨[],.nil,.nil⟩
  |cons p G ih =>
   intro h;obtain⟨J,w,j⟩:=ih λq hq=>h q (by simp[hq])
   obtain⟨v,b1,b2⟩:=T p.1 p.2 (h p ba).1 (h p ba).2
   exact⟨v::J,.cons b1 w,.cons b2 j⟩
 obtain⟨J,w,j⟩:=z G λp Q=>by simpa using hp p Q
 rw[B] at j;have nd:([(D,HO.lst J)].map (·.1)).Nodup:=by simp
 have I2:Inv X aj σ (y7 H [(D,HO.lst J)]) { s with heap:=b,toks:=A }:=Inv.laidL (s:={ s with heap:=y,toks:=O }) (L:=[(D,HO.lst J)]) (t':=A) n o (λp Q=>by
  have:p=(D,HO.lst J):=by simpa using Q
  subst this;exact g) λp Q=>by
  have:p=(D,HO.lst J):=by simpa using Q
  subst this;refine⟨?_,G.map (·.2),c,w,l⟩
  have:=w.length;rw[Ao] at this;rw[this,Fu]
  lia
 exact⟨D,J,rfl,n.hok.fresh g,I2,j⟩
set_option tactic.hygienic true in
theorem TR (I:Inv X aj σ H s)(r:bi X.K H P α S)(p:av X.K P α d v)(q:qF v Q)(h:tE d S=Ab xs) :
  ∃ a vs ap,Q=.ref a/\qD X.K P α xs vs/\qJ vs ap/\(s.heap.IsList a ap.toArray\/s.heap.IsTuple a ap.toArray)/\xs.length=ap.length:=by
 cases d with
 |lst U=>exact nZ I r p q h
 |tup U=>exact nZ I r p q h
 |loc n =>
  have J:S[n]? = Ab (.lst xs):=by
   have h:(match S[n]? with|some (.lst xs)=>Ab xs|_=>none)=Ab xs:=h
   split at h
   .rename_i e;cases h;exact e
   .cases h
  simp only[av] at p;obtain⟨a,rfl,G⟩:=p;cases (show Q=De a from q)
  obtain⟨vs,z,t⟩:=r.at' n a _ G J;obtain⟨ap,Y,p,N⟩:=I.list (kf.of z);exact⟨a,vs,ap,rfl,t,Y,.inl p.isList,by rw[t.length,Y.length]⟩
 |_=>cases h
end
end _D
section
namespace _D
open _L
mutual
def zL:D->Aa Ah
 |.int n=>[1,n]
 |.tup Q=>2::qZ Q
 |_=>[]
def qZ:Aa D->Aa Ah
 |[]=>[0]
 |x::Q=>zL x++qZ Q
end
mutual
def yP:D->D->As
 |.int _,.int _=>true
 |.tup Y,.tup Q=>yK Y Q
 |_,_=>false
def yK:Aa D->Aa D->As
 |x::Q,y::Y=>yP x y&&yK Q Y
 |_,_=>true
end
def ltN (a b:D):As:=_H.lexLt (zL a) (zL b)
noncomputable def vo:Ag->D->As
 |_,.int _=>true
 |n+1,.tup Q=>Q.all (vo n)
 |_,_=>false
inductive Tr:Ag->D->Prop
 |int (n:Ag) (i:Ah):Tr n (.int i)
 |tup (n:Ag) (xs:Aa D) (h:∀ x∈xs,Tr n x):Tr (n+1) (.tup xs)
theorem qAZ:∀ {n:Ag} {d:D},vo n d=true->Tr n d:=by
 intro n
 induction n with
 |zero=>intro d h;cases d <;> first|exact .int _ _|exact Dz h
 |succ n J =>
  intro d h;cases d with
  |int i=>exact .int _ i
  |tup Q=>exact .tup n Q λx Y=>J (Bs.mp (show Q.all (vo n)=true from h) x Y)
  |_=>exact Dz h
theorem vA (h:Tr n d):∃ k r,zL d=k::r/\0<k:=by
 cases h with
 |int _ i=>exact⟨1,[i],rfl,by decide⟩
 |tup n Q=>exact⟨2,qZ Q,rfl,by decide⟩
theorem xA (x:D)(xs:Aa D):qZ (x::xs)=zL x++qZ xs:=rfl
theorem sM:∀ {xs Y:Aa D} {n m:Ag},(∀ x∈xs,Tr n x)->(∀ y∈Y,Tr m y)->(∀ x∈xs,∀ y∈Y,yP x y=true->∀ r Q:Aa Ah,_H.lexLt (zL x++r) (zL y++Q)=if ki x y=true then _H.lexLt r Q else ltN x y)->yK xs Y=true ->
  ∀ r Q:Aa Ah,_H.lexLt (qZ xs++r) (qZ Y++Q)=if zW xs Y=true then _H.lexLt r Q else _H.lexLt (qZ xs) (qZ Y)
 |[],[],_,_,_,_,_,_,r,Q=>rfl
 |[],y::Y,_,_,_,G,_,_,r,Q=>by
  obtain⟨k,t,e,p⟩:=vA (G y ba)
  rw[Bc (by intro z;cases z),xA,e]
  show _H.lexLt (0::r) (k::_)=_H.lexLt [0] (k::_);rw[_H.a_,_H.a_,Bc om,Bc om]
 |x::xs,[],_,_,O,_,_,_,r,Q=>by
  obtain⟨k,t,e,p⟩:=vA (O x ba)
  rw[Bc (by intro z;cases z),xA,e]
  show _H.lexLt (k::_) (0::Q)=_H.lexLt (k::_) [0];rw[_H.a_,_H.a_,Bc om,Bc om]
 |x::xs,y::Y,_,_,O,G,N,B,r,Q=>by
  have J:(yP x y&&yK xs Y)=true:=B;rw[Bj] at J;have L:=sM (λz U=>O z (by simp[U])) (λz U=>G z (by simp[U])) (λz U C T=>N z (by simp[U]) C (by simp[T])) J.2
  rw[xA,xA,Ch,Ch,N x ba y ba J.1,N x ba y ba J.1,L,sC]
  cases ki x y <;> cases zW xs Y <;> simp
theorem J7 {a:D}(T:Tr n a):∀ {m:Ag} {b:D},Tr m b->yP a b=true->∀ r Q:Aa Ah,_H.lexLt (zL a++r) (zL b++Q)=if ki a b=true then _H.lexLt r Q else ltN a b:=by
 induction T with
 |int n i =>
  intro m b C J r Q;cases C with
  |int _ j =>
   show _H.lexLt (1::i::r) (1::j::Q)=if (i == j)=true then _ else _H.lexLt [1,i] [1,j]
   simp only[_H.a_,Ds,Yz]
   split <;> rfl
  |tup _ Y=>exact Dz J
 |tup n G L E =>
  intro m b C J r Q;cases C with
  |int _ j=>exact Dz J
  |tup m Y B =>
   have h:=sM L B (λx U y N O=>E x U (B y N) O) J r Q;show _H.lexLt (2::(qZ G++r)) (2::(qZ Y++Q))=if zW G Y=true then _ else _H.lexLt (2::qZ G) (2::qZ Y)
   rw[_H.a_,_H.a_,Be rfl,Be rfl,h]
theorem fE {xs Q:Aa D}:ltN (.tup xs) (.tup Q)=_H.lexLt (qZ xs) (qZ Q):=by
 show _H.lexLt (2::_) (2::_)=_;rw[_H.a_,Be rfl]
theorem uE {n m:Ag}{x y:D}{xs Q:Aa D}(U:Tr n x)(J:Tr m y)(Y:yP x y=true):_H.lexLt (qZ (x::xs)) (qZ (y::Q))=if ki x y=true then _H.lexLt (qZ xs) (qZ Q) else ltN x y:=J7 U J Y _ _
set_option tactic.hygienic true in
theorem fD (i j:Ah):ltN (.int i) (.int j)=decide (i<j):=by
 show _H.lexLt [1,i] [1,j]=_;rw[_H.a_,Be rfl,_H.a_]
 split
 .rename_i h;subst h;simp[_H.iw]
 .rfl
theorem dZ:∀ {xs Y:Aa D} {n m:Ag},(∀ x∈xs,Tr n x)->(∀ y∈Y,Tr m y)->(∀ x∈xs,∀ y∈Y,∀ r Q:Aa Ah,zL x++r=zL y++Q->x=y/\r=Q)->∀ r Q:Aa Ah,qZ xs++r=qZ Y++Q->xs=Y/\r=Q
 |[],[],_,_,_,_,_,r,Q,e=>⟨rfl,by injection e⟩
 |[],y::Y,_,_,_,U,_,r,Q,e=>by
  obtain⟨k,t,O,p⟩:=vA (U y ba)
  rw[xA,O] at e;injection e with C G
  fin2
 |x::xs,[],_,_,N,_,_,r,Q,e=>by
  obtain⟨k,t,O,p⟩:=vA (N x ba)
  rw[xA,O] at e;injection e with C G
  fin2
 |x::xs,y::Y,_,_,N,U,B,r,Q,e=>by
  rw[xA,xA,Ch,Ch] at e;obtain⟨C,G⟩:=B x ba y ba _ _ e
  obtain⟨I,T⟩:=dZ (λz J=>N z (by simp[J])) (λz J=>U z (by simp[J])) (λz J L E=>B z (by simp[J]) L (by simp[E])) _ _ G
  exact⟨by rw[C,I],T⟩
theorem XJ {a:D}(L:Tr n a):∀ {m:Ag} {b:D},Tr m b->∀ r Q:Aa Ah,zL a++r=zL b++Q->a=b/\r=Q:=by
 induction L with
 |int n i =>
  intro m b N r Q e;cases N with
  |int _ j=>injection e with _ e;injection e with G Y;exact⟨by rw[G],Y⟩
  |tup _ B=>injection e with e _;cases e
 |tup n E C T =>
  intro m b N r Q e;cases N with
  |int _ j=>injection e with e _;cases e
  |tup m B O =>
   injection e with _ e
   obtain⟨G,Y⟩:=dZ C O (λx J y U=>T x J (O y U)) r Q e;exact⟨by rw[G],Y⟩
theorem mN {a b:D}(Q:Tr n a)(Y:Tr m b)(e:zL a=zL b):a=b:=(XJ Q Y [] [] (by rw[e])).1
theorem SA {a:D}(Y:Tr n a):ki a a=true:=by
 induction Y with
 |int n i=>show (i == i)=true;simp
 |tup n Q _ J =>
  show zW Q Q=true;rw[vW];simp only[Vl,BEq.rfl,Zb,Bs,Dn];intro j U;exact J _ (by simp[Gr,U])
theorem gH:∀ {xs Q:Aa D},yK xs Q=true->∀ {j:Ag} {x y:D},xs[j]? = Ab x->Q[j]? = Ab y->yP x y=true
 |[],_,_,j,x,y,e,_=>by simp at e
 |_::_,[],_,j,x,y,_,e=>by simp at e
 |a::xs,b::Q,h,j,x,y,U,J=>by
  have Y:(yP a b&&yK xs Q)=true:=h;rw[Bj] at Y;cases j with
  |zero=>cases U;cases J;exact Y.1
  |succ j=>exact gH Y.2 (j:=j) (by simpa using U) (by simpa using J)
theorem R8 {a b c:D}(h1:ltN a b=false)(h2:ltN b c=false):ltN a c=false:=by
 cases h:ltN a c with
 |false=>rfl
 |true =>
  rcases _S.xD.tri h2 with e|e
  .exact absurd (show ltN a b=true by unfold ltN at *;rw[e];exact h) (by rw[h1];simp)
  .exact absurd (show ltN a b=true from _S.xD.tr h e) (by rw[h1];simp)
def bN (xs:Aa D):Aa D:=_S.wZ ltN xs
theorem bO (xs:Aa D):(bN xs).Perm xs:=_S.yH xs
theorem sW (xs:Aa D):(bN xs).map zL=_S.wZ _H.lexLt (xs.map zL):=by
 refine _S.g6 _S.xD ?_ (_S.gC _S.xD _) (((bO xs).map zL).trans (_S.yH _).symm);unfold _S.Nf;rw[Dj];have:=Vo (le:=λa b=>!ltN b a) (λa b c J Y=>?_) (λa b=>?_) xs
 .exact this.imp λ{a b} h=>show ltN b a=false by simpa using h
 .simp only[Pu] at *
  exact R8 Y J
 .cases h:ltN b a with
  |false=>simp
  |true =>
   cases Q:ltN a b with
   |false=>simp[Q]
   |true=>exact absurd (_S.xD.tr h Q) (by rw[_S.xD.irr];simp)
theorem fF {xs Q:Aa D}(h:∀ x∈xs,∀ y∈Q,zL x=zL y->x=y)(e:xs.map zL=Q.map zL):xs=Q:=by
 induction xs generalizing Q with
 |nil=>cases Q with
  |nil=>rfl
  |cons y Q=>cases e
 |cons x xs U =>
  cases Q with
  |nil=>cases e
  |cons y Q =>
   injection e with G Y
   rw[h x ba y ba G,U (λa J b N=>h a (by simp[J]) b (by simp[N])) Y]
theorem N1 {xs Q:Aa D}(h:∀ x∈xs,Tr n x)(p:Q.Perm xs)(s:Q.Pairwise λa b=>ltN b a=false):bN xs=Q:=by
 refine fF (λa Y b J=>mN (h a ((bO xs).mem_iff.mp Y)) (h b (p.mem_iff.mp J))) ?_;rw[sW];refine _S.g6 _S.xD (_S.gC _S.xD _) ?_ ((_S.yH _).trans (p.map zL).symm);unfold _S.Nf;rw[Dj];exact s
end _D
end
namespace _D
open _L PySem.SeqAt
variable {xs:Aa D}{n:Ag}{A:Bw}{h:By}
def Q6 (A:Bw)(s:Ai)(u v:Ac)(c:As):Prop:=∀ (Y:Bh) (w:Ce) (E:ae) (Q:ae),Q (.bool c) s->Ar (Av Y w) A (richCompare .Lt u v) Q E s
inductive mx (A:Bw)(s:Ai):Aa Ac->Aa Ac->As->Prop
 |nn:mx A s [] [] false
 |nc (v:Ac) (vs:ah):mx A s [] (v::vs) true
 |cn (u:Ac) (us:ah):mx A s (u::us) [] false
 |eq (u v:Ac) (us vs:ah) (b:As) (he:EqAt A s u v true) (h:mx A s us vs b):mx A s (u::us) (v::vs) b
 |ne (u v:Ac) (us vs:ah) (b:As) (he:EqAt A s u v false) (h:Q6 A s u v b):mx A s (u::us) (v::vs) b
section
open PySem.SeqAt
open PySem.AutoSeq1 (wpAny_loadPart')
open PySem.MeetsSeq PySem.MeetsSeq2 PySem.MeetsSeq3
theorem X0 (l b:Af)(items Q:Ay Ac)(n p:Ag)(t k:Am Af)(sl M:Ay (Am Ac))(r:As) :
  Meets (Il.«tuple.__lt__» ⟨[.ref l,.ref b],[]⟩)
   (λA R s=>s.heap.get? l=Ab { cls:=.type "tuple",dict:=t,data:=.seq items n,slots:=sl } /\ s.heap.get? b=Ab { cls:=.type "tuple",dict:=k,data:=.seq Q p,slots:=M } /\
    mx A.in1 s items.toList Q.toList r/\R (.ok (.ret (.bool r))) s):=
 .of_wp λN w A R s h=>by
  obtain⟨o,g,d,q,os⟩:=s;obtain⟨c,f,E,h⟩:=h;have i:=Uo
  wp_walk using wpAny_loadPart' c,wpAny_loadPart' f,Ky _ (λqC b z=>b.1=none/\z=⟨o,g,d,q,os⟩/\∃ (J U:ah),qC=J.zip U/\mx A.in1 ⟨o,g,d,q,os⟩ J U r/\J.length+Q.size=U.length+items.size) _
  case turn =>
   rintro⟨y,x⟩ qC b z ⟨L,rfl,J,U,O,B,Y⟩;cases B with
   |nn=>cases O
   |nc v U=>cases O
   |cn u J=>cases O
   |eq u v J U _ I T =>
    rw[Jm] at O;injection O with C G
    injection C with j E
    subst j E;refine Ad (I N w _ _ ?_)
    wp_walk
    exact⟨rfl,rfl,_,_,G,T,by simp only[Cb] at Y;lia⟩
   |ne u v J U _ I T =>
    rw[Jm] at O;injection O with C G
    injection C with j E
    subst j E;refine Ad (I N w _ _ ?_);have H:=T N w
    wp_walk using H
    exact⟨_,rfl,by simpa using h⟩
  case fin =>
   rintro⟨e,m⟩ z ⟨L,rfl,J,U,O,B,Y⟩;simp only at L;subst L;have hv:r=decide (items.size<Q.size):=by
    cases B with
    |nn=>simp only[Io] at Y;exact(Cq li).symm
    |nc v U=>simp only[Io,Cb] at Y;exact(Cn li).symm
    |cn u J=>simp only[Io,Cb] at Y;exact(Cq li).symm
    |eq u v J U _ I T=>cases O
    |ne u v J U _ I T=>cases O
   rw[hv] at h
   wp_walk
   exact⟨_,rfl,by simpa [Qn] using h⟩
  case h =>
   exact⟨rfl,rfl,items.toList,Q.toList,rfl,E,by simp;lia⟩
end
theorem JA {s:Ai}{l b:Af}(j:s.heap.IsTuple l items)(k:s.heap.IsTuple b Y)(z:A.units<Ed)(h:mx A.in1 s items.toList Y.toList r):Q6 A s (.ref l) (.ref b) r:=by
 intro T w E Q M;obtain⟨⟨cls,y,data,sl⟩,L,I,n,C⟩:=id j;obtain⟨⟨B,O,data2,N⟩,G,J,H,U⟩:=id k;simp only at I C J U;subst I C J U;exact Vz (op:=.Lt) ⟨_,L,rfl⟩ ⟨_,G,rfl⟩ Wx Wa (Vj _ _) (X0 l b items Y n H y O sl N r)
  ⟨L,G,h,show Jw r≠Yc/\Q (.bool r) s from⟨(λx=>nomatch x),M⟩⟩ z
inductive jg (h:By):Ag->D->Ac->Prop
 |int (n:Ag) (i:Ah) (t:Yo):jg h n (.int i) (.int i t)
 |tup (n:Ag) (a:Af) (xs:Aa D) (its:ah) (ht:h.IsTuple a its.toArray) (hl:xs.length=its.length) (hs:∀ (j:Ag) (x:D) (v:Ac),xs[j]? = Ab x->its[j]? = Ab v->jg h n x v):jg h (n+1) (.tup xs) (.ref a)
theorem jg.tr (t:jg h n d v):Tr n d:=by
 induction t with
 |int n i t=>exact .int n i
 |tup n a xs Y O N G Q =>
  refine .tup n xs λx U=>?_;obtain⟨j,J,e⟩:=Co.mp U;exact Q j x (Y[j]' li) (by rw[Ap J,e]) (Ap li)
theorem jg.sup (S:_S.me h h'){n:Ag}{d:D}{v:Ac}(t:jg h n d v):jg h' n d v:=by
 induction t with
 |int n i t=>exact .int n i t
 |tup n a xs Q G Y N J =>
  obtain⟨o,U,r⟩:=G;exact .tup n a xs Q ⟨o,S _ _ U,r⟩ Y J
theorem jg.det (t:jg h n d v):∀ {m:Ag} {d':D},jg h m d' v->d=d':=by
 induction t with
 |int n i t=>intro m d' J;cases J with|int _ _ _=>rfl
 |tup n a xs G E H I T =>
  intro m d' J;cases J with
  |tup m _ L Q Y B U =>
   have e:=iO E Y;have C:G=Q:=by simpa using congrArg t0 e
   subst C;have:xs=L:=Qs li λj O N=>T j _ (G[j]' li) (Ap O) (Ap li) (U j _ _ (Ap N) (Ap li));rw[this]
theorem jg.eq {s:Ai}{a:D}(t:jg s.heap n a u):∀ {m:Ag} {b:D} {v:Ac} {A:Bw},jg s.heap m b v->yP a b=true->A.units+n<Ed->EqAt A s u v (ki a b):=by
 induction t with
 |int n i t =>
  intro m b v A Y C y;cases Y with
  |int _ j Y=>exact EqAt.int_int i t j Y
  |tup _ _ _ _ _ _ _=>exact Dz C
 |tup n a xs U E T I o =>
  intro m b v A Y C y;cases Y with
  |int _ j Y=>exact Dz C
  |tup m b O Q G J N =>
   refine(GO li E G T J (λj k z=>?_) λe=>?_).eq
   .have B:j<U.length:=by simpa using k
    have L:j<Q.length:=by simpa using z
    have M:xs[j]? = Ab (xs.getD j .non):=by simp[Gr,show j<xs.length by lia]
    have H:O[j]? = Ab (O.getD j .non):=by simp[Gr,show j<O.length by lia]
    have w:U[j]? = Ab U.toArray[j]:=by simp[B]
    have q:Q[j]? = Ab Q.toArray[j]:=by simp[L]
    exact o j _ _ M w (N j _ _ H q) (gH C M H) (by show A.units+1+n<Ed;lia)
   .subst e
    have:=jg.det (.tup n a xs U E T I) (.tup m a O Q G J N);injection this with this
    subst this;exact SA (jg.tr (.tup n a xs U E T I))
theorem iU {s:Ai}:∀ {xs Q:Aa D} {us vs:ah} {n m:Ag},xs.length=us.length->Q.length=vs.length->(∀ x∈xs,Tr n x)->(∀ y∈Q,Tr m y)->yK xs Q=true ->
  (∀ (j:Ag) (x y:D) (u v:Ac),xs[j]? = Ab x->Q[j]? = Ab y->us[j]? = Ab u->vs[j]? = Ab v->EqAt A s u v (ki x y)/\Q6 A s u v (ltN x y))->mx A s us vs (_H.lexLt (qZ xs) (qZ Q))
 |[],[],[],[],_,_,_,_,_,_,_,_=>.nn
 |[],y::Q,[],v::vs,_,_,_,_,_,G,_,_=>by
  obtain⟨k,t,e,p⟩:=vA (G y ba)
  have:_H.lexLt (qZ []) (qZ (y::Q))=true:=by
   rw[xA,e];show _H.lexLt [0] (k::_)=_;rw[_H.a_,Bc li];exact Cn p
  rw[this];exact .nc v vs
 |x::xs,[],u::us,[],_,_,_,_,N,_,_,_=>by
  obtain⟨k,t,e,p⟩:=vA (N x ba)
  have:_H.lexLt (qZ (x::xs)) (qZ []) = false:=by
   rw[xA,e];show _H.lexLt (k::_) [0]=_;rw[_H.a_,Bc li];exact Cq li
  rw[this];exact .cn u us
 |x::xs,y::Q,u::us,v::vs,_,_,U,J,N,G,I,h=>by
  have Y:(yP x y&&yK xs Q)=true:=I;rw[Bj] at Y;obtain⟨O,E⟩:=h 0 x y u v rfl rfl rfl rfl;rw[uE (N x ba) (G y ba) Y.1]
  cases B:ki x y with
  |true =>
   rw[B] at O;exact .eq u v us vs _ O (iU (by simpa using U) (by simpa using J) (λz C=>N z (by simp[C])) (λz C=>G z (by simp[C])) Y.2 λj a b c d T M H L=>h (j+1) a b c d (by simpa using T) (by simpa using M) (by simpa using H) (by simpa using L))
  |false =>
   rw[B] at O;exact .ne u v us vs _ O E
 |[],_,_::_,_,_,_,U,_,_,_,_,_=>by simp at U
 |_::_,_,[],_,_,_,U,_,_,_,_,_=>by simp at U
 |_,[],_,_::_,_,_,_,J,_,_,_,_=>by simp at J
 |_,_::_,_,[],_,_,_,J,_,_,_,_=>by simp at J
theorem jg.lt {s:Ai}{a:D}(t:jg s.heap n a u):∀ {m:Ag} {b:D} {v:Ac} {A:Bw},jg s.heap m b v->yP a b=true->A.units+n<Ed->Q6 A s u v (ltN a b):=by
 induction t with
 |int n i t =>
  intro m b v A U G g;cases U with
  |int _ j U =>
   intro L w E Q q;rw[fD] at q;exact(Se q:Ar (Av L w) A (Df .Lt (.int i t) (.int j U)) Q E s)
  |tup _ _ _ _ _ _ _=>exact Dz G
 |tup n a xs o l p k r =>
  intro m b v A U G g;cases U with
  |int _ j U=>exact Dz G
  |tup m b f Y C N J =>
   have z:=jg.tr (.tup n a xs o l p k);have M:=jg.tr (.tup m b f Y C N J);cases z with
   |tup _ _ z =>
    cases M with
    |tup _ _ M =>
     refine JA l C li ?_;rw[fE];refine iU (by simpa using p) (by simpa using N) z M G λj x y u v H I d c=>?_
     have O:A.in1.units+n<Ed:=by show A.units+1+n<Ed;lia
     have T:o[j]? = Ab u:=by simpa using d
     have B:Y[j]? = Ab v:=by simpa using c
     exact⟨(k j x u H T).eq (J j y v I B) (gH G H I) O,r j x u H T (J j y v I B) (gH G H I) O⟩
section
variable {X:Cx}{aj:aa}{σ: _L.St}{H P:Hp}{α: Aa Af}{S:ao}{s:Ai}
theorem CS (I:Inv X aj σ H s)(r:bi X.K H P α S):∀ (n:Ag) {d:D} {v:V} {u:Ac},vo n d=true->av X.K P α d v->qF v u->jg s.heap n d u:=by
 intro n
 induction n with
 |zero =>
  intro d v u h p q;cases d with
  |int i=>simp only[av] at p;subst p;obtain⟨t,rfl⟩:=q;exact .int _ i t
  |_=>exact Dz h
 |succ n T =>
  intro d v u h p q;cases d with
  |int i=>simp only[av] at p;subst p;obtain⟨t,rfl⟩:=q;exact .int _ i t
  |tup xs =>
   obtain⟨a,o,B,rfl,M,Y,Q,O,k,_⟩:=vU I r p;cases (show u=De a from q)
   have E:=Y.length;have l:=Q.length;refine .tup n a xs B O li λj x w J N=>?_;obtain⟨y,U,L⟩:=Y.get J;obtain⟨z,G,C⟩:=Q.get U;cases G.symm.trans N;exact T (Bs.mp (show xs.all (vo n)=true from h) x (Ct J)) L C
  |_=>exact Dz h
end
def neT:D->As
 |.tup (_::_)=>true
 |_=>false
def xf (xs:Aa D):As:=xs.all λa=>neT a&&vo 6 a&&xs.all λb=>yP a b
theorem vR (h:xf xs=true){x:D}(Y:x∈xs):neT x=true/\Tr 6 x/\∀ y∈xs,yP x y=true:=by
 have:=Bs.mp h x Y;simp only[Bj] at this;exact⟨this.1.1,qAZ this.1.2,λy Q=>Bs.mp this.2 y Q⟩
noncomputable def sv:D->Ac
 |.tup (.int _::_)=>.type "int"
 |_=>.type "tuple"
def _r (h:By)(k:Aa Ah)(v:Ac):Prop:=∃ d,jg h 6 d v/\zL d=k
section
open PySem.W
variable {prog:Bh}{w:Ce}{h0:By}
theorem cE {s:Ai}{b:As}{Q:As->Ai->Prop}:∀ {xs J:Aa D} {us vs:ah} {n m i N M:Ag},xs.length=us.length->J.length=vs.length ->
  (∀ (j:Ag) (x:D) (u:Ac),xs[j]? = Ab x->us[j]? = Ab u->jg s.heap n x u)->(∀ (j:Ag) (x:D) (u:Ac),J[j]? = Ab x->vs[j]? = Ab u->jg s.heap m x u)->yK xs J=true->A.units+n<Ed->((b&&i == 0)=true->∀ x,xs[0]? = Ab x->∃ j,x=.int j) ->
  N+vs.length=M+us.length->Q (_H.lexLt (qZ xs) (qZ J)) s->KatLex prog w A b (decide (N<M)) Q (us.zip vs) i s
 |[],[],[],[],_,_,_,N,M,_,_,_,_,_,_,_,U,h=>by
  have:decide (N<M)=false:=Cq (by simp at U;lia)
  rw[this];exact h
 |[],y::J,[],v::vs,_,_,_,N,M,_,_,_,C,_,_,_,U,h=>by
  have:decide (N<M)=true:=Cn (by simp at U;lia)
  rw[this];obtain⟨k,t,e,p⟩:=vA (C 0 y v rfl rfl).tr;rw[xA,e] at h;have q:_H.lexLt (qZ []) (k::t++qZ J)=true:=by
   show _H.lexLt [0] (k::_)=_;rw[_H.a_,Bc li];exact Cn p
  rw[q] at h;exact h
 |x::xs,[],u::us,[],_,_,_,N,M,_,_,T,_,_,_,_,U,h=>by
  have:decide (N<M)=false:=Cq (by simp at U;lia)
  rw[this];obtain⟨k,t,e,p⟩:=vA (T 0 x u rfl rfl).tr;rw[xA,e] at h;have q:_H.lexLt (k::t++qZ xs) (qZ []) = false:=by
   show _H.lexLt (k::_) [0]=_;rw[_H.a_,Bc li];exact Cq li
  rw[q] at h;exact h
 |x::xs,y::J,u::us,v::vs,n,m,i,N,M,O,G,T,C,g,I,l,U,h=>by
  have Y:(yP x y&&yK xs J)=true:=g;rw[Bj] at Y;have L:=T 0 x u rfl rfl;have B:=C 0 y v rfl rfl;rw[uE L.tr B.tr Y.1] at h;rw[Jm];refine kat_cons (L.eq B Y.1 I prog w _ _ ?_);refine kat_go (λe=>kat_yes ?_) λe=>kat_no ?_
  .rw[Be e] at h
   refine cE (n:=n) (m:=m) (by simpa using O) (by simpa using G) (λj a b H E=>T (j+1) a b (by simpa using H) (by simpa using E)) (λj a b H E=>C (j+1) a b (by simpa using H) (by simpa using E)) Y.2 I (λz=>?_) (by simp at U;lia) h
   simp at z
  .rw[Bc (by rw[e];simp)] at h
   cases o:b&&i == 0 with
   |true =>
    obtain⟨j,rfl⟩:=l o x rfl;cases L with
    |int _ _ t =>
     cases B with
     |int _ k c =>
      rw[fD] at h;exact oneLt_int h
     |tup _ _ _ _ _ _ _=>exact Dz Y.1
   |false=>exact kat_one _ _ (L.lt B Y.1 I prog w _ _ h)
 |[],_,_::_,_,_,_,_,_,_,O,_,_,_,_,_,_,_,_=>by simp at O
 |_::_,_,[],_,_,_,_,_,_,O,_,_,_,_,_,_,_,_=>by simp at O
 |_,[],_,_::_,_,_,_,_,_,_,G,_,_,_,_,_,_,_=>by simp at G
 |_,_::_,_,[],_,_,_,_,_,_,G,_,_,_,_,_,_,_=>by simp at G
theorem NA (N:yP (.tup xs) (.tup Y)=true)(h1:xs≠[])(h2:Y≠[]){n m:Ag}(J:Tr n (.tup xs))(t2:Tr m (.tup Y)):sv (.tup xs)=sv (.tup Y):=by
 cases xs with
 |nil=>exact absurd rfl h1
 |cons x xs =>
  cases Y with
  |nil=>exact absurd rfl h2
  |cons y Y =>
   have Q:(yP x y&&yK xs Y)=true:=N;rw[Bj] at Q;cases J with
   |tup _ _ J =>
    cases t2 with
    |tup _ _ t2 =>
     have G:=J x ba
     have U:=t2 y ba
     cases G with
     |int _ i=>cases U with
      |int _ j=>rfl
      |tup _ _ _=>exact Dz Q.1
     |tup _ _ _=>cases U with
      |int _ j=>exact Dz Q.1
      |tup _ _ _=>rfl
theorem PU {T:Ac}:∀ {vs:ah},(∀ v∈vs,∃ d,jg h 6 d v/\neT d=true/\sv d=T)->∃ Q,KatTups h vs Q/\Q.length=vs.length/\∀ f∈Q,Looks M h (AaO f) T
 |[],_=>⟨[],trivial,rfl,λf H=>by simp at H⟩
 |v::vs,hv=>by
  obtain⟨Q,I,y,r⟩:=PU (M:=M) (vs:=vs) λu z=>hv u (by simp[z])
  obtain⟨d,t,G,O⟩:=hv v ba
  cases t with
  |int _ _ _=>cases G
  |tup n a xs N E j L =>
   cases xs with
   |nil=>cases G
   |cons x xs =>
    cases N with
    |nil=>simp at j
    |cons f N =>
     obtain⟨o,m,B,k,c⟩:=E;refine⟨f::Q,AcJ m B c rfl I,by simp[y],λg hg=>?_⟩
     rcases Az.mp hg with rfl|hg
     .have q:=L 0 x g rfl rfl
      cases q with
      |int _ i e =>
       rw[<- O];exact Ac9 rfl
      |tup _ b p C J _ _ =>
       obtain⟨l,U,Y,_⟩:=J;rw[<- O,show sv (.tup (.tup p::xs))=l.cls from Y.symm]
       exact(Looks.ld U).andThen .now
     .exact r g hg
theorem LL (ok:xf xs=true){vs:ah}{ks:Aa (Aa Ah)}(hl:vs.length=ks.length)(hv:∀ i v,vs[i]? = Ab v->_r h0 (ks.getD i []) v)(hf:∀ k∈ks,∃ x∈xs,zL x=k)(h2:2<=vs.length):_S.sr prog w h0 vs (_S.mH _H.lexLt ks []):=by
 have Y:∀ i (J:i<vs.length),∃ d,d∈xs/\jg h0 6 d (vs.getD i Dg)/\zL d=ks.getD i []:=λi J=>by
  obtain⟨d,t,e⟩:=hv i vs[i] (Ap J);obtain⟨x,G,e2⟩:=hf (ks.getD i []) (by simp[Gr,show i<ks.length by lia])
  have:=mN t.tr (vR ok G).2.1 (e.trans e2.symm);subst this;exact⟨d,G,by simpa [Gr,J] using t,e⟩
 obtain⟨U,N,_,_⟩:=Y 0 li;have ty:∀ d∈xs,sv d=sv U:=λd hd=>by
  obtain⟨L,l,g⟩:=vR ok hd;obtain⟨O,o,_⟩:=vR ok N;have c:=g U N;cases d with
  |tup as =>
   cases U with
   |tup bs=>exact NA c (λz=>by subst z;cases L) (λz=>by subst z;cases O) l o
   |_=>cases O
  |_=>cases L
 refine⟨tuples' (sv U != Jx "tuple"),λA hu s r=>⟨λQ E h=>?_,λi j C J hj h=>?_⟩⟩
 .obtain⟨fs,B,a2,a3⟩:=PU (M:=Av prog w) (h:=s.heap) (T:=sv U) (vs:=vs) λv hm=>by
   obtain⟨i,J,e⟩:=Co.mp hm;obtain⟨d,q1,q2,_⟩:=Y i J;have:vs.getD i Dg=v:=by simp[Gr,J,e]
   rw[this] at q2;exact⟨d,q2.sup r,(vR ok q1).1,ty d q1⟩
  refine kat_kind B li a3 ?_ h;unfold sv
  split <;> decide
 .obtain⟨a,B,a2,a3⟩:=Y i J
  obtain⟨b,b1,b2,b3⟩:=Y j hj;unfold _S.mH at h;unfold kas_ask;rw[<- a3,<- b3] at h;have l:=a2.sup r;have o:=b2.sup r;obtain⟨L,_,g⟩:=vR ok B;obtain⟨O,_,_⟩:=vR ok b1;have H:=ty a B;have c:=g b b1;generalize vs.getD i Dg=u at *;generalize vs.getD j Dg=v at *;cases l with
  |int _ _ _=>cases L
  |tup n p I ap f l1 s1 =>
   cases o with
   |int _ _ _=>cases O
   |tup m q qs zh zb l2 s2 =>
    obtain⟨o1,y,_,k1,d1⟩:=f;obtain⟨o2,zc,_,k2,d2⟩:=zb;have h':C (_H.lexLt (qZ I) (qZ qs)) s:=by
     have:=@fE I qs;unfold ltN at this;rw[this] at h;exact h
    refine kat_lt y d1 zc d2 (cE (n:=5) (m:=5) l1 l2 s1 s2 c li (λz x G=>?_) (by simp;lia) h')
    rw[<- H] at z;cases I with
    |nil=>cases G
    |cons x' I =>
     cases G;cases x with
     |int i=>exact⟨i,rfl⟩
     |_=>exact absurd z (by simp[sv])
theorem IU (ok:xf xs=true):_S.Kind prog w (_r h0) (λ_=>0) _H.lexLt [] (λk=>∃ x∈xs,zL x=k) h0:=
 ⟨_S.xD,λ{k O v} ⟨d,t,e⟩ ⟨C,N,J⟩=>by rw[<- e,<- J,t.det N],λU Y G Q=>LL ok U Y G Q⟩
end
def QV (xs:Aa D)(k:Aa Ah):D:=(xs.find? λx=>zL x == k).getD .non
theorem iJ (ok:xf xs=true){x:D}(Q:x∈xs):QV xs (zL x)=x:=by
 unfold QV;cases h:xs.find? λy=>zL y == zL x with
 |none=>exact absurd (Ow.mp h x Q) ba
 |some y =>
  have:=Rx h;exact mN (vR ok (Kk h)).2.1 (vR ok Q).2.1 (by simpa using this)
def b0:DF:=λQ S=>match Q with
 |[d]=>match aA d with
  |some xs=>if (decide (xs.length<=100000)&&xf xs)=true then .ok (.lst (bN xs)) S else .bad
  |none=>.bad
 |_=>.bad
section
variable {X:Cx}{aj:aa}{σ: _L.St}{H P:Hp}{α: Aa Af}{S:ao}{s:Ai}
theorem VT (hu:X.A.units+64<Ed):y8 X (.builtin "sorted") b0:=by
 intro aj σ H s P α S vs us ds Q I r rv l Y
 match ds,Y,l with
 |[],Y,_=>exact Aq Y
 |_::_::_,Y,_=>exact Aq Y
 |[d],Y,l =>
  simp only[b0] at Y;cases j:aA d with
  |none=>rw[j] at Y;exact Aq Y
  |some xs =>
   rw[j] at Y;dsimp only at Y;obtain⟨C,Y⟩:=vL (X:=X) Y;rw[Bj,Bq] at C;obtain⟨C,ok⟩:=C;obtain⟨v,u,rfl,rfl,p,q⟩:=vQ l rv;obtain⟨a,vs,c,rfl,t1,M,e1,l1⟩:=nZ I r p q j;have U:∀ (i:Ag) (u:Ac),c[i]? = Ab u->∃ x N,xs[i]? = Ab x/\jg s.heap 6 x u/\qF N u/\av X.K P α x N:=λi u J=>by
    have zb:i<c.length:=(Ba.mp J).1;have O:xs[i]? = Ab xs[i]:=Ap li;obtain⟨y,t,f⟩:=t1.get O;obtain⟨z,b,g⟩:=M.get t;cases b.symm.trans J;refine⟨_,y,O,CS I r 6 ?_ f g,g,f⟩;have:=Bs.mp ok _ (Nl (by lia:i<xs.length))
    simp only[Bj] at this;exact this.1.2
   have e:(_S.wZ _H.lexLt (xs.map zL)).map (QV xs)=bN xs:=by
    rw[<- sW,Dh]
    conv=>rhs;rw[<- Qw (bN xs)]
    exact Ek λy hy=>iJ ok ((bO xs).mem_iff.mp hy)
   have G:=bL (X:=X) (aj:=aj) (σ:=σ) (H:=H) (P:=P) (α:=α) (S:=S) (E:=X.xe) (d:=[]) (IU (prog:=X.prog) (w:=X.w) (h0:=s.heap) ok) hu I r e1 (xs.map zL) (by simpa using l1) (λi u J=>by
     obtain⟨x,N,T,o,_⟩:=U i u J;exact⟨x,o,by simp[Gr,T]⟩) (by simpa using C) (λk B=>by
     obtain⟨x,O,e⟩:=Au.mp B;exact⟨x,O,e⟩) (QV xs) λk u B hm=>by
    obtain⟨i,J,e⟩:=Co.mp hm;obtain⟨x,N,T,o,q3,q4⟩:=U i u (by rw[Ap J,e])
    obtain⟨d',t',e'⟩:=B;have:=t'.det o;subst this;rw[<- e',iJ ok (Ct T)];exact⟨N,q3,q4⟩
   rw[e] at G;refine bn G λu' s3 ⟨D,zc,e,m,I',L⟩=>?_;subst e;exact⟨.ref D,_,I',rfl,xU r m L Y⟩
end
end _D
namespace _D
open _L
noncomputable def tU (d:D)(S:ao):Am (Aa (bq × D)):=match d with
 |.loc n=>match S[n]? with
  |some (.dct Q)=>Ab Q
  |_=>none
 |_=>none
def mU:G2:=λa b S=>match tU a S,yZ b with
 |some Q,Ab k=>match xK Q k with
  |some d=>.ok d S
  |none=>.bad
 |_,_=>.bad
section
variable {X:Cx}{aj:aa}{σ: _L.St}{H P:Hp}{α: Aa Af}{S:ao}{s:Ai}
set_option tactic.hygienic true in
theorem XW (r:bi X.K H P α S){d:D}{kvs:Aa (bq × D)}{v:V}(h:tU d S=Ab kvs)(p:av X.K P α d v):∃ a Q,v=.ref a/\H a=Ab (.dK Q)/\ol X.K P α kvs Q:=by
 unfold tU at h
 split at h
 .split at h
  .rename_i Y
   cases h;simp only[av] at p;obtain⟨b,rfl,q⟩:=p;obtain⟨Q,z,t⟩:=r.at' _ b _ q Y;exact⟨b,Q,rfl,z,t⟩
  .cases h
 .cases h
set_option tactic.hygienic true in
theorem LX (m:X.A.units+1<Ed)(ho:PE X o (tD X C))(hi:PE X i (tD X fi))(hs:VE i:=by intro _ _;rfl):PE X (.Subscript o i x) (tD X (d2 mU C fi)):=by
 intro aj s σ H Q I h;obtain⟨P,α,ak,S,r,f,l⟩:=h;refine N3 PySem.F.slot_dict_getitem.lookup hs (bn (zT ho I r f l) λe s1 ⟨v,H1,L,U,a,S1,J,O⟩=>?_);refine bn (zT hi J.inv J.rel J.env (P:=L) (α:=U) (Ok:=jn X L U Q) (g:=λy B=>mU a y B) (qV.base J.same J.pre O)) λuu s2 ⟨u,A,P2,zb,b,B,G2,G⟩=>?_;have pa:=av.mono G2.same G2.pre _ _ J.rep;have pb:=G2.rep;have T:=G2.inv;have E:=G2.rel;have Y:=qV.base G2.same G2.pre G;unfold mU at Y
 split at Y
 .rename_i M k hd c
  split at Y
  .rename_i d hv
   obtain⟨p,ws,rfl,z,t⟩:=XW E hd pa;have ei:=nF c pb;subst ei;cases (show e=De p from J.val)
   obtain⟨w,n,q⟩:=(fB t).1 d hv;have g:j7 A p (kV k) (Ab w):=.inl ⟨_,k,.inl z,rfl,n.symm⟩;exact⟨aX T g,XR m T g G2.val λw' s3 j N=>⟨w,A,j,N,xr Y E q⟩⟩
  .exact Aq Y
 .exact Aq Y
end
end _D
section
end
section
end
namespace _D
open _L
variable {E Q:ae}
inductive jy {K:Type}(w:Ce)(hash:K->Ah)(enc:K->D)(Kf:Aj)(P:Hp)(α : Aa Af)(ds:Aa D)(o:Dc):Prop
 |mk (es:Ay (Ah × Ac)) (ep:Ag) (t:Fh) (ks:Aa K) (kv:Aa (K × Ac)) (ho:o=_S.ir es ep t) (T:_S.iu t es) (led:t.led=_S.wW w) (hds:ds=ks.map enc) (hes:es.toList=kv.map λp=>(hash p.1,p.2)) (nd:(kv.map (·.1)).Nodup) (mem:∀ k,k∈kv.map (·.1)↔k∈ks) (rp:∀ p∈kv,∃ v,qF v p.2/\av Kf P α (enc p.1) v):jy w hash enc Kf P α ds o
section
variable {K:Type}{w:Ce}{aw:K->Ah}{cb:K->D}{Kf:Aj}{P P1:Hp}{α α1:ag}{ds:Aa D}{o:Dc}
theorem jy.mono (e:qE P P1)(h:α<+:α1)(a:jy w aw cb Kf P α ds o):jy w aw cb Kf P1 α1 ds o:=by
 obtain⟨C,U,t,T,O,N,J,B,Y,H,G,A,I⟩:=a;exact⟨C,U,t,T,O,N,J,B,Y,H,G,A,λp L=>let ⟨v,a,b⟩:=I p L;⟨v,a,av.mono e h _ _ b⟩⟩
theorem jy.cell (a:jy w aw cb Kf P α ds o):∀ v,o.data≠.cell v:=by
 obtain⟨Y,U,t,G,J,rfl,_⟩:=a;intro v z;cases z
end
@[reducible] def oi {K:Type}(w:Ce)(Y:K->Ah)(cb:K->D):Acc:=⟨true,jy w Y cb,jy.mono,jy.cell⟩
def jI (U:Aa D->As)(fe:DE):DK:=λJ S Y=>(fe J S).bind λx G=>if U (Y++[x])=true then .ok (J,Y++[x]) G else .bad
structure R_ (Y:Cx){K:Type}(is:By->K->Ac->Prop)(hash:K->Ah)(enc:K->D)(lt:K->K->As)(d:K)(Fit:K->Prop)(chk:Aa D->As):Prop where
 ad:∀ h,_S.su Y.prog Y.w (is h) hash h
 kd:∀ h,_S.Kind Y.prog Y.w (is h) hash lt d Fit h
 up:∀ {pins:aa} {σ : _L.St} {H P:Hp} {s:Ai} {α : Aa Af} {S:ao} {k:K} {v:V} {u:Ac},Inv Y pins σ H s->bi Y.K H P α S->qF v u->av Y.K P α (enc k) v->is s.heap k u
 inj:∀ {a b:K},enc a=enc b->a=b
 ck:∀ {ds:Aa D},chk ds=true->∃ ks:Aa K,ds=ks.map enc/\(_S.gz lt ks).length<=1000/\∀ k∈ks,Fit k
section
variable {Y:Cx}{K:Type}{is:By->K->Ac->Prop}{aw:K->Ah}{cb:K->D}{lt:K->K->As}{d:K}{my:K->Prop}{uo:Aa D->As}{aj:aa}{σ: _L.St}{H P:Hp}{s:Ai}{α: Aa Af}{S:ao}{au:Af}{es:Ay (Ah × Ac)}{ep:Ag}{t:Fh}{ks:Aa K}{kv:Aa (K × Ac)}{V:ah}
theorem oO (Z:R_ Y is aw cb lt d my uo)(I:Inv Y aj σ H s)(r:bi Y.K H P α S)(M:s.heap.get? au=Ab (_S.ir es ep t))(T:_S.iu t es)(led:t.led=_S.wW Y.w)(J:es.toList=kv.map λp=>(aw p.1,p.2))(nd:(kv.map (·.1)).Nodup)(mem:∀ k,k∈kv.map (·.1)↔k∈ks)(w:∀ p∈kv,∃ v,qF v p.2/\av Y.K P α (cb p.1) v)(L:∀ p∈kv,p.2∈V) :
  _S.kg (is s.heap) aw au (_S.wW Y.w) V ks.reverse s.heap:=by
 have up:∀ p∈kv,is s.heap p.1 p.2:=λp U=>let ⟨v,a,b⟩:=w p U;Z.up I r a b
 have N:=@(Z.kd s.heap).inj;refine⟨⟨es,ep,t,M,⟨λe G=>?_,?_,λk=>?_⟩,T,led,λe G=>?_⟩⟩
 .rw[J] at G
  obtain⟨p,U,rfl⟩:=Au.mp G;exact⟨p.1,rfl,up p U⟩
 .rw[J,Dj]
  exact(Dj.mp nd).imp_of_mem λ{a b} A z O k B C=>O ((N (up a A) B).trans (N C (up b z)))
 .rw[Np,<- mem k]
  constructor
  .intro h
   obtain⟨p,U,rfl⟩:=Au.mp h;exact⟨(aw p.1,p.2),by rw[J];exact Au.mpr ⟨p,U,rfl⟩,up p U⟩
  .rintro⟨e,G,q⟩
   rw[J] at G;obtain⟨p,U,rfl⟩:=Au.mp G;exact Au.mpr ⟨p,U,N (up p U) q⟩
 .rw[J] at G
  obtain⟨p,U,rfl⟩:=Au.mp G;exact L p U
theorem PY {seen:Aa K}(U:∀ {k B:K} {v:Ac},is h0 k v->is h0 B v->k=B)(N:_S.gq (is h0) aw es seen)(T:_S.iu t es)(led:t.led=_S.wW Y.w)(hm:∀ e∈es.toList,e.2∈V)(L:∀ u∈V,∃ k v,qF v u/\av Y.K P α (cb k) v/\is h0 k u)(hs:∀ k,k∈seen↔k∈ks) :
  jy Y.w aw cb Y.K P α (ks.map cb) (_S.ir es ep t):=by
 by_cases C:∃ d:K,Re
 .obtain⟨d,_⟩:=C
  have G:∀ e∈es.toList,is h0 (_S.o_ (is h0) d e) e.2:=λe J=>_S.WG (let ⟨k,_,q⟩:=N.good e J;⟨k,q⟩)
  refine⟨es,ep,t,ks,es.toList.map λe=>(_S.o_ (is h0) d e,e.2),rfl,T,led,rfl,?_,?_,λk=>?_,λp O=>?_⟩
  .rw[Dh]
   conv=>lhs;rw[<- Qw es.toList]
   refine Ek λe J=>?_;obtain⟨k,j,q⟩:=N.good e J;show e=(aw (_S.o_ (is h0) d e),e.2);rw[U (G e J) q,<- j]
  .rw[Dh,Vc,Dj]
   exact N.nd.imp_of_mem λ{a b} w M h z=>h _ (G a w) (by
    have z:_S.o_ (is h0) d a=_S.o_ (is h0) d b:=z;rw[z];exact G b M)
  .rw[Dh,<- hs k,N.mem k]
   constructor
   .intro h
    obtain⟨e,J,rfl⟩:=Au.mp h;exact⟨e,J,G e J⟩
   .rintro⟨e,J,q⟩
    exact Au.mpr ⟨e,J,U (G e J) q⟩
  .obtain⟨e,J,rfl⟩:=Au.mp O
   obtain⟨k,v,a,b,c⟩:=L e.2 (hm e J);exact⟨v,a,by dsimp only;rw[U (G e J) c];exact b⟩
 .have I:es.toList=[]:=by
   cases q:es.toList with
   |nil=>rfl
   |cons e l =>
    obtain⟨k,_⟩:=N.good e (by rw[q];exact .head _)
    exact absurd ⟨k,trivial⟩ C
  have A:ks=[]:=by
   cases ks with
   |nil=>rfl
   |cons k l=>exact absurd ⟨k,trivial⟩ C
  subst A;exact⟨es,ep,t,[],[],rfl,T,led,rfl,I,Pl,λk=>AcB,λp O=>by cases O⟩
end
theorem VP {A:Bw}{s:Ai}{S:Af}{t:Fh}(Y:s.heap.get? S=Ab (_S.ir es ep t))(h:Ar (Av prog w) A.in1 (setAdd S x) (λ_ s'=>Q .none s') E s):Ar (Av prog w) A (call (.builtin "set.add") [.ref S,x]) Q E s:=by
 refine Ef F.slot_set_add ⟨_,Y,rfl⟩ F.entry_set_add ?_ (F.args_set_add_2 _ _);unfold Il.«set.add» Ac1;simp only[List.isEmpty_nil,bind_assoc];unfold AcG;refine Ad (An ?_)
 try dsimp only
 refine Ad (An ?_)
 try dsimp only
 refine Ad (bn h λb s' q=>?_);show Ar _ _ (ret Dg) _ _ _;exact An ⟨_,rfl,q⟩
theorem FW {E:ae}{s:Ai}(h:Q (.ref s.heap.objs.size) { s with heap:=s.heap.push (_S.kw w) }) : Ar (Av prog w) A (newSet (.type "set")) Q E s:=by
 unfold newSet Zh;refine Ad (Ad (Jj (An ?_)));dsimp only;simp only[newObj];exact Ad (AaV (An h))
section
variable {Y:Cx}{K:Type}{is:By->K->Ac->Prop}{aw:K->Ah}{cb:K->D}{lt:K->K->As}{d:K}{my:K->Prop}{uo:Aa D->As}{bu:Cc}{bf:Aa Do}{am:Eu}{aq:Ez}{k:Ag}{fe:DE}
set_option tactic.hygienic true in
theorem JS (hx:Y.xe=λ_ _=>Ex)(hu:Y.A.units+64<Ed)(C:bf[k+1]? = none)(Z:R_ Y is aw cb lt d my uo)(he:PE Y bu (tD Y fe)):PK (oi Y.w aw cb) Y (λau=>zP true bu bf am aq k au Y.env) (jI uo fe):=by
 intro aj P1 zy au ak zx S S' ds z1 s O ⟨σ,H,P,α,o,st⟩ run;show Ar _ _ (zP true bu bf am aq k (.ref au) Y.env) _ _ s;unfold zP;rw[C];dsimp only[zi];unfold jI at run;cases f:fe ak S with
 |bad=>rw[f] at run;cases run
 |ex c z S'=>rw[f] at run;cases run
 |ok d5 S5 =>
  rw[f,az.bind_ok] at run
  split at run
  .rename_i zv
   cases run;have fA:=O H st.acn;have I1:=_D.Inv.pin1 st.inv fA st.at' ((oi Y.w aw cb).cell st.acc);refine Ad (kI (hx▸EI he I1 st.rel st.env f) λu5 I ⟨v5,H5,i,B,J⟩=>Ad (Lu ?_));obtain⟨J4,J5⟩:=_D.Inv.pinned1 J.inv;have g:=J.inv.unpinned;have q:jy Y.w aw cb Y.K i B ds o:=jy.mono J.same J.pre st.acc;obtain⟨es,ep,t,ks,kv,rfl,T,led,A,r,nd,mem,rp⟩:=q;obtain⟨z0,e1,e2,e3⟩:=Z.ck zv;obtain⟨l,l2,rfl,m1,m⟩:=List.map_eq_append_iff.mp e1.symm;obtain⟨N,rfl,rfl⟩:∃ N,l2=[N]/\cb N=d5:=by
    match l2,m with
    |[N],m=>exact⟨N,rfl,by simpa using m⟩
   have zs:l=ks:=by
    have:l.map cb=ks.map cb:=m1.trans A;exact Tc (λa b h=>Z.inj h) |>.mp this
   subst zs;have M:=Z.up g J.rel J.val J.rep;have w:=(Z.kd I.heap).ord;have SK:=oO (V:=kv.map (·.2)++[u5]) Z g J.rel J4 T led r nd mem rp λp x=>Cs _ (Au.mpr ⟨p,x,rfl⟩)
   refine Ad (VP J4 ((Z.ad I.heap).add (U:=_S.gz lt (l++[N])) (show Y.A.units+1+8<Ed by lia) (λ_ _ e=>e) SK M (Bx _ (.head _)) (Cw e2 (Qx rfl)) (λk' hk=>(_S.xF w _ _).mpr (Cs _ (Np.mp hk))) ((_S.xF w _ _).mpr ba) λb h' tk zz sb zb=>?_))
   obtain⟨lm,zh,t',n,zc,T',j,zl⟩:=zb;have G:=O H5 J5;have y:∀ b o,b≠au->I.heap.get? b=Ab o->h'.get? b=Ab o:=λb o hb e=>(sb.2 b hb).trans e;have I6:=g.turned (t':=tk) y J5 G.2.1 G.2.2.2.1 G.2.2.2.2.1 G.2.2.2.2.2;refine An ⟨σ,H5,i,B,_,I6,J.rel,J.env,st.same.trans J.same,st.pre.trans J.pre,λb hb=>(by simp at hb),J5,n,?_⟩
   have L:jy Y.w aw cb Y.K i B ((l++[N]).map cb) (_S.ir lm zh t'):=PY (h0:=I.heap) (λa b=>(Z.kd I.heap).inj a b) zc T' j zl (λu hu=>by
    rcases Bp.mp hu with hu|hu
    .obtain⟨p,x,rfl⟩:=Au.mp hu
     obtain⟨v,a,b⟩:=rp p x;exact⟨p.1,v,a,b,Z.up g J.rel a b⟩
    .rw[Cz.mp hu]
     exact⟨N,v5,J.val,J.rep,M⟩) λk=>by simp[or_comm]
   rw[Dp,<- A] at L;exact L
  .cases run
end
def yO (ds:Aa D):As:=match yN ds with
 |some Y=>decide ((_S.gz _H.lexLt Y).length<=1000)&&Y.all λk=>!k.isEmpty
 |none=>false
theorem xu (Y:Cx):R_ Y (λh=>_S.ip Y.prog Y.w h) (Lh (Dy Y.prog Y.w)) io _H.lexLt [] (·≠[]) yO where
 ad:=_S.XA
 kd:=_S.rN _ _
 up:=λ{j σ H P s α S k v u} I r q p=>by
  obtain⟨b,w,N,rfl,M,t,C,⟨o,A,J,m,T⟩,_,_⟩:=vU I r (show av Y.K P α (.tup (k.map D.int)) v from p)
  cases (show u=De b from q)
  have:=yE t;subst this;exact⟨b,rfl,o,N.toArray,m,A,J,T,by simpa using f9 C⟩
 inj:=λ{a b} h=>by
  have O:a.map D.int=b.map D.int:=D.tup.inj h;exact(Tc λx y e=>D.int.inj e).mp O
 ck:=λ{B} h=>by
  unfold yO at h;cases q:yN B with
  |none=>rw[q] at h;cases h
  |some L =>
   rw[q] at h;have U:=Yk.mp h;refine⟨L,pC q,Bz U.1,λk G z=>?_⟩;have:=Bs.mp U.2 k G;subst z;cases this
def QX (f:Aa D->ao->az D)(r:az (qB × Aa D)):az D:=match r with
 |.ok p Y=>f p.2 Y
 |_=>.bad
def rK (f:Aa D->ao->az D)(bw:Aa (Am Ag))(fi:m_)(g:DG)(t:DT)(k:DK):DE:=λY S=>(fi Y S).bind λp J=>QX f (iq p.1 g t k p.2 (xE bw Y) J [])
def kW (J:As)(ds:Aa D)(S:ao):az D:=if yO ds=true then (match yN ds with|some Y=>(match J with|true=>.ok (.loc S.length) (S++[.lst ((_S.gz _H.lexLt Y).map io)])|false=>.ok (.lst ((_S.gz _H.lexLt Y).map io)) S)|none=>.bad) else .bad
section
variable {X:Cx}{K:Type}{aw:K->Ah}{cb:K->D}{bu tg ay:Cc}{cf:Aa Cc}{am:Eu}{aq:Ez}{N':Aa Aw}{bw:Aa (Am Ag)}{fi:m_}{g:DG}{t:DT}{kk:DK}{qC:Aa Do}
inductive pe (X:Cx){K:Type}(hash:K->Ah)(enc:K->D)(pins:aa)(σ : _L.St)(P1:Hp)(α1:ag)(ds:Aa D)(SF:ao)(acc:Af)(s:Ai):Prop
 |mk (H' P':Hp) (α' : Aa Af) (o:Dc) (I:Inv X pins σ H' s) (r:bi X.K H' P' α' SF) (e1:qE P1 P') (e2:α1<+:α') (ho:s.heap.get? acc=Ab o) (a:jy X.w hash enc X.K P' α' ds o):pe X hash enc pins σ P1 α1 ds SF acc s
theorem fQ {σ M:_L.St}{U s':Ai}{fp:ag}{au C:Af}{P1:Hp}{G:ag}{N j:Hp}{O:ag}{f:qB}{z:ao}{ds:Aa D}{o:Dc}{p:Aa (Aw × Af)}(c:Inv X aj σ B U)
  (l:∀ b∈fp,xH X aj B b) (u:U.heap.objs.size<=C) (w:au≠C) (st:fu (oi X.w aw cb) (qO X N' am p C fp U B) [] P1 G fp au f z ds s' M N j O o)
  {h':By} (n:Gg C s'.heap h'):pe X aw cb aj σ P1 G ds z au { s' with heap:=h' }:=by
 have L:∀ b o,b≠C->s'.heap.get? b=Ab o->h'.get? b=Ab o:=λb o J e=>(n.2 b J).trans e;have A:∀ b o,U.heap.get? b=Ab o->b≠C:=λb o e=>Cu (Bk (Bf e) u);have base:Un (jq X.stack) fp B N U.heap s'.heap:=st.inv.base;have m:Un (jq X.stack) fp B N U.heap h':=by
  refine⟨λb Y q H J I=>L b Y (A b Y q) (base.keep b Y q H J I),λb Y q H J I=>?_,base.free,λb Y q I=>?_,base.tups,base.frzs,base.tbls⟩
  .obtain⟨sl,e⟩:=base.slot b Y q H J I
   exact⟨sl,L b _ (A b Y q) e⟩
  .obtain⟨y,e⟩:=base.there b Y q I
   exact⟨y,L b y (A b Y q) e⟩
 have T:gx X.prog X.w N h':=sG st.inv.hok st.inv.free L;refine⟨N,j,O,o,?_,st.rel,st.same,st.pre,L au o w st.at',st.acc⟩;exact c.call' (s':={ s' with heap:=h' }) (ch:=fp) (st.inv.os) m T st.inv.bare λb J=>by
  obtain⟨_,v,s,r,k,i⟩:=l b J;exact⟨r,v,k,i⟩
theorem KH {f:Aa D->ao->az D}{aj:aa}{s:Ai}{σ:_L.St}{H P:Hp}{α:ag}{ak:qB}{M:ao}{Q:VK}{k:ae}(hc:X.calm=true)(S:dj X.env.scope X.N am N' bw)(hi:PI X tg ay (ml X fi))
  (hg:∀ A C ex Y U,PG (qO X N' am A C ex Y U) tg (nr (qO X N' am A C ex Y U) g))
  (ht:∀ A C ex Y U,qv (qO X N' am A C ex Y U) cf t) (has:∀ g',(⟨tg,ay,cf,0⟩::qC:Aa Do)[0+1]? = Ab g'->g'.is_async=0) (he:∀ A C ex Y U,PK (oi X.w aw cb) (qO X N' am A C ex Y U) (λau=>zP true bu (⟨tg,ay,cf,0⟩::qC) am aq 0 au (qO X N' am A C ex Y U).env) kk)
  (I:Inv X aj σ H s) (r:bi X.K H P α M) (e:zI X.K P α σ ak) (af:qI X P α (rK f bw fi g t kk ak M) (jn X P α Q)) (hs:∀ x,Dx ay X.env x=pure x)
  (hQ:∀ au s' P1 G ds y,qE P P1->α<+:G->pe X aw cb aj σ P1 G ds y au s'->qI X P α (f ds y) (jn X P α Q)->k (.ref au) s') :
  b6 X (eval (.SetComp bu (⟨tg,ay,cf,0⟩::qC) am aq) X.env) k X.xe s:=by
 rw[arm_eval_SetComp];have O:qI X P α ((fi ak M).bind λp L=>QX f (iq p.1 g t kk p.2 (xE bw ak) L [])) (jn X P α Q):=af;refine Oq (use:=none) rfl hs (lF S I.ok) S.kind S.names ?_;refine bn (hi aj s σ H (λJ n=>∃ (P1:Hp) (G:ag) (p:Am (Ag × MO) × Aa _D.D) (L:ao),bi X.K n P1 G L/\qE P P1/\α<+:G/\lc X.K J P1 G p.1 p.2/\qI X P α (QX f (iq p.1 g t kk p.2 (xE bw ak) L [])) (jn X P α Q)) I ⟨P,α,ak,M,r,e,?_⟩) λxv s1 h1=>bn h1 λzh s2 a=>?_
 .cases q:fi ak M with
  |bad=>rw[q] at O;exact O
  |ex c x S'=>rw[q] at O;exact O
  |ok p L=>rw[q] at O;exact λJ n P1 G v z w it=>⟨P1,G,p,L,v,z,w,it,O⟩
 obtain⟨it,fp,tn,J,H2,rfl,b,T,l,i,P1,G,p,L,v,z,w,u,N⟩:=a;cases run:iq p.1 g t kk p.2 (xE bw ak) L [] with
 |bad=>rw[run] at N;exact Aq N
 |ex c x S'=>rw[run] at N;exact Aq N
 |ok q y =>
  obtain⟨fx,ds⟩:=q;rw[run] at N;refine FW (kE (B:=oi X.w aw cb) (o0:=_S.kw X.w) (RR:=λau C=>compPost (Av X.prog X.w) X.A X.xe none k au C) hc S has hg ht he b v (e.mono z w) T l i u run ⟨_,_,_,[],[],rfl,_S.sY X.w,rfl,rfl,rfl,Pl,λ_=>AcB,λp hp=>by cases hp⟩ rfl ?_)
  intro au C s' hA ⟨m,hm⟩ h o ⟨A,zb,Hf,Pf,zc,of,j⟩;exact⟨m,hm,λh' sb=>hQ _ _ _ _ _ _ z w (fQ b i h o j sb) N⟩
set_option tactic.hygienic true in
theorem QU {mu:As}{p1 mn:Ez}(hc:X.calm=true)(hu:X.A.units+64<Ed)(zs:Gl X "sorted")(zh:X.mg "sorted" = none)(S:dj X.env.scope X.N am N' bw)(hi:PI X tg ay (ml X fi))
  (hg:∀ A C j J Y,PG (qO X N' am A C j J Y) tg (nr (qO X N' am A C j J Y) g))
  (ht:∀ A C j J Y,qv (qO X N' am A C j J Y) cf t) (has:∀ g',(⟨tg,ay,cf,0⟩::qC:Aa Do)[0+1]? = Ab g'->g'.is_async=0) (he:∀ A C j J Y,PK (oi X.w (Lh (Dy X.prog X.w)) io) (qO X N' am A C j J Y) (λau=>zP true bu (⟨tg,ay,cf,0⟩::qC) am aq 0 au (qO X N' am A C j J Y).env) kk)
  (hs:∀ x,Dx ay X.env x=pure x):PE X (.Call (.Name "sorted" p1) [.SetComp bu (⟨tg,ay,cf,0⟩::qC) am aq] [] mn) (tD X (rK (kW mu) bw fi g t kk)):=by
 intro aj s σ H Q I h;obtain⟨P,α,ak,S0,r,re,af⟩:=h;refine Jp (yT I zs zh dU ?_);refine Ll ?_ rfl rfl;refine Jn ?_;refine KH (f:=kW mu) hc S hi hg ht has he I r re af hs λau s' P1 zz ds SF e1 e2 ⟨H',P',m,o,I',r',l,n,ho,a⟩ G=>Ke ?_;obtain⟨es,ep,t,ks,kv,rfl,T,led,y,zb,nd,mem,rp⟩:=a;unfold kW at G
 split at G
 .rename_i zx
  obtain⟨N,k1,k2,k3⟩:=(xu X).ck zx;have zc:N=ks:=(Tc λa b h=>(xu X).inj h).mp (k1.symm.trans y);subst zc;rw[y,uI] at G;have kd:=_S.rN X.prog X.w s'.heap;have SK:=oO (V:=kv.map (·.2)) (xu X) I' r' ho T led zb nd mem rp λp hp=>Au.mpr ⟨p,hp,rfl⟩
  have zy:_S.gz _H.lexLt N.reverse=_S.gz _H.lexLt N:=_S.j6 kd.ord (_S.yW kd.ord _) (_S.yW kd.ord _) λx=>by rw[_S.xF kd.ord,_S.xF kd.ord,Np]
  refine _S.l5 kd (I'.ok.hd hc) li (λ_ _ e=>e) SK (λk hk=>k3 k (Np.mp hk)) (U:=_S.gz _H.lexLt N) k2 (λk hk=>(_S.xF kd.ord k _).mpr (Np.mp hk)) λh2 i D c B zl hD zv u hp z0=>?_;rw[zy] at u;have vv:∀ (B:Aa (Aa Ah × Ac)),(∀ p∈B,_S.ip X.prog X.w s'.heap p.1 p.2/\p.2∈kv.map (·.2))->∃ O,qJ O (B.map (·.2))/\qD X.K P' m ((B.map (·.1)).map io) O:=by
   intro B
   induction B with
   |nil=>exact λ_=>⟨[],.nil,.nil⟩
   |cons p B ih =>
    intro h;obtain⟨O,a1,a2⟩:=ih λq hq=>h q (by simp[hq])
    obtain⟨b1,b2⟩:=h p ba
    obtain⟨q,hq,e⟩:=Au.mp b2;obtain⟨v,c1,c2⟩:=rp q hq;have:p.1=q.1:=kd.inj b1 (e▸(xu X).up I' r' c1 c2);have d1:qF v p.2:=e▸c1;have d2:av X.K P' m (io p.1) v:=by rw[this];exact c2
    exact⟨v::O,.cons d1 a1,.cons d2 a2⟩
  obtain⟨O,a1,a2⟩:=vv B hp;rw[u] at a2;have I2:Inv X aj σ (y7 H' [(D,HO.lst O)]) { s' with heap:=h2,toks:=i }:=Inv.laidL (s:=s') (L:=[(D,HO.lst O)]) (t':=i) I' zl (λp w=>by
   have:p=(D,HO.lst O):=by simpa using w
   subst this;exact hD) λp w=>by
   have:p=(D,HO.lst O):=by simpa using w
   subst this;refine⟨?_,B.map (·.2),c,a1,zv⟩
   have:=a1.length;rw[Ao] at this;rw[this,Fu]
   lia
  have hn:=I'.hok.fresh hD;cases mu with
  |true=>exact⟨.ref D,_,I2,rfl,fG r' hn a2 λv' H3 P3 M r3 q1 q2 z=>G v' H3 P3 M r3 ((e1.trans l).trans q1) ((e2.trans n).trans q2) z⟩
  |false=>exact⟨.ref D,_,I2,rfl,xU r' hn a2 λv' H3 P3 M r3 q1 q2 z=>G v' H3 P3 M r3 ((e1.trans l).trans q1) ((e2.trans n).trans q2) z⟩
 .exact Aq G
end
section
variable {X Y:Cx}{bu tg ay:Cc}{cf:Aa Cc}{am:Eu}{aq:Ez}{bw:Aa (Am Ag)}{f2:m_}{dg:DG}{t:DT}{kk:DK}{dn bf:Aa Do}{k n:Ag}{fe:DE}{cm:As}
theorem K3 {w:Ce}{U:Bh}(hw:Y.w=w)(hp:Y.prog=U)(G:Y.xe=λ_ _=>Ex)(J:bf[k+1]? = none)(O:be cm n Y.A)(N:QE Y bu fe):QK (oi w (Lh (Dy U w)) io) Y (λau=>zP true bu bf am aq k au Y.env) (jI yO fe):=by
 subst hw hp;exact⟨JS G O.units J (xu Y) N.1⟩
theorem MZ {L:As}{A z:Ez}(S:Ck (tP X.env.scope X.N am bw))(w:X.calm=true)(M:be cm n X.A)(O:Gl X "sorted")(B:X.mg "sorted" = none)(hi:uv X tg ay f2)(I:∀ N C G U J,QG (qO X (wI am) am N C G U J) tg dg)(j:∀ N C G U J,ut (qO X (wI am) am N C G U J) cf t)
  (has:∀ g',(⟨tg,ay,cf,0⟩::dn:Aa Do)[0+1]? = Ab g'->g'.is_async=0)
  (T:∀ N C G U J,QK (oi X.w (Lh (Dy X.prog X.w)) io) (qO X (wI am) am N C G U J) (λau=>zP true bu (⟨tg,ay,cf,0⟩::dn) am aq 0 au (qO X (wI am) am N C G U J).env) kk) (hs:∀ x,Dx ay X.env x=pure x) :
  QE X (.Call (.Name "sorted" A) [.SetComp bu (⟨tg,ay,cf,0⟩::dn) am aq] [] z) (rK (kW L) bw f2 dg t kk):=
 ⟨QU w M.units O B (mO S) hi.1 (λN C G s H=>(I N C G s H).1) (λN C G s H=>(j N C G s H).1) has (λN C G s H=>(T N C G s H).1) hs⟩
end
end _D
namespace _D
open _L
variable {X:Cx}
def dG:DS:=λ_ _=>.bad
theorem DD {st:Fz}:PS X st (ji X dG):=λ_ _ _ _ _ _ ⟨_,_,_,_,_,_,h⟩=>Aq h
theorem HV {st:Fz}:QS X st dG:=⟨DD⟩
end _D
namespace _D
open _L
variable {kvs:Aa (Aa Ah × D)}{aj:aa}{α:ag}{Q:ae}{P H:Hp}{σ:_L.St}
abbrev TU:=Aa Ah × Af × Ac
theorem W2 {a:Af}{h1 h2:By}(q:rY a xs h1)(k:∀ o,h1.get? a=Ab o->h2.get? a=Ab o):rY a xs h2:=
 let ⟨U,p,o,Y,J,e,c⟩:=q
 ⟨U,p,o,Y,J,k _ e,c⟩
theorem W0 {P:Bh}{a:Af}(q:rY a xs h):zK P w H h a (wc a xs):=
 ⟨q,let ⟨_,_,o,_,_,e,_⟩:=q;⟨o,e⟩,λ_ _=>W2⟩
section
variable {X:Cx}{aq:Ez}
noncomputable def QQ:DE:=λ_ S=>.ok (.loc S.length) (S++[.dcT []])
theorem BC:PE X (.Dict [] [] aq) (tD X QQ):=λaj s σ H Q I ⟨P,α,N,S,r,O,Y⟩=>by
 have J:=I.hok.fresh (Ax s.heap.objs.size);have U:=I.laid (a:=s.heap.objs.size) (o:=wc s.heap.objs.size []) (h':=s.heap.push { cls:=.type "dict",data:=.dict #[] }) (t':=s.toks) (λ_ _ q=>Ak _ q) (Ax _) (W0 ⟨[],.nil,_,#[],0,Bi _ rfl,⟨rfl,rfl,rfl⟩,rfl,rfl⟩);have G:=r.new (o:=wc s.heap.objs.size []) (m:=.dcT []) J ⟨[],zE,Sc.mpr (Fv (Cu I.big)),Fk _,Pl,.nil⟩;refine wpAny_Dict_empty ⟨.ref s.heap.objs.size,_,U,rfl,Y _ _ _ _ G (qE.refl _) (Et _ _) ?_⟩;simp only[av];exact⟨_,rfl,by rw[<- r.len];simp⟩
end
theorem WK {X:Cx}{b:Af}{Y:Aa Ah}(I:Inv X aj σ H s)(q:jl X.K H b (Y.map V.int)):(Eo (Dy X.prog X.w)).is s.heap Y b:=by
 obtain⟨J,r,⟨o,C,U,n,G⟩,_⟩:=I.tuple q;refine⟨o,J.toArray,n,C,U,G,?_⟩;have N:∀ {Y:Aa Ah} {J:ah},qJ (Y.map V.int) J->ItemsAre (Dy X.prog X.w) Y J:=by
  intro Y
  induction Y with
  |nil=>intro J v;cases v;exact .nil
  |cons n r O =>
   intro J v;cases v with
   |cons z t =>
    obtain⟨k,rfl⟩:=(show ∃ t,_=Rj n t from z)
    exact .cons (by show Wu n (.int n k)=true;simp[Wu]) (O t)
 simpa using N r
theorem eU {X:Cx}{a:Af}(I:Inv X aj σ H s)(sub:qE P H)(z:H a=Ab (wc a xs))(nd:(xs.map (·.1)).Nodup)(t:vk X.K P α kvs xs) :
  ∃ us:Aa TU,Paired (λ(p:Aa Ah × Af × V) (q:TU)=>p.1=q.1/\p.2.1=q.2.1/\qF p.2.2 q.2.2) xs us/\s.heap.DictOfH (Eo (Dy X.prog X.w)) a us:=by
 obtain⟨⟨us,p,o,C,N,O,G,B,U⟩,_⟩:=(show zK X.prog X.w H s.heap a (wc a xs) from I.hok a _ z)
 refine⟨us,p,o,C,N,O,G,B,U,?_,?_⟩
 .have Y:∀ {kvs:Aa (Aa Ah × D)} {xs:Aa (Aa Ah × Af × V)} {us:Aa TU},vk X.K P α kvs xs->Paired (λ(p:Aa Ah × Af × V) (q:TU)=>p.1=q.1/\p.2.1=q.2.1/\qF p.2.2 q.2.2) xs us->∀ x∈us,(Eo (Dy X.prog X.w)).is s.heap x.1 x.2.1:=by
   intro kvs xs us t
   induction t generalizing us with
   |nil=>intro p x hx;cases p;cases hx
   |cons z t J =>
    intro p x hx;cases p with
    |cons w p =>
     rcases Az.mp hx with rfl|hx
     .rw[<- w.1,<- w.2.1]
      exact WK I (wB sub z.2.1)
     .exact J p x hx
  exact Y t p
 .have Y:∀ {xs:Aa (Aa Ah × Af × V)} {us:Aa TU},Paired (λ(p:Aa Ah × Af × V) (q:TU)=>p.1=q.1/\p.2.1=q.2.1/\qF p.2.2 q.2.2) xs us->us.map (·.1)=xs.map (·.1):=by
   intro xs us p
   induction p with
   |nil=>rfl
   |cons z _ J=>rw[Cg,Cg,J,z.1]
  rw[Y p];exact nd
section
variable {prog:Bh}{w:Ce}{A:Bw}{E:ae}{s:Ai}{d a:Af}{us:Aa TU}{k:Aa Ah}{dflt:Ac}
theorem _W (B:A.units<Ed)(Y:(Eo (Dy prog w)).is s.heap k a)(hm:s.heap.DictOfH (Eo (Dy prog w)) d us)
  (h1:∀ p,Mp us k=Ab p->Q p.2 { s with toks:=s.toks+(Eo (Dy prog w)).draws k })
  (h2:Mp us k=none->∀ h',h'.DictOfH (Eo (Dy prog w)) d (us++[(k,a,dflt)])->Gg d s.heap h'->Q dflt { s with heap:=h',toks:=s.toks+(Eo (Dy prog w)).draws k }) (hsz:us.length<=sizeLine) :
  Ar (Av prog w) A (XV d (.ref a) dflt) Q E s:=by
 obtain⟨o,M,T,U,z,J,O,N,C⟩:=hm;unfold XV
 try with_reducible refine EQ ?_
 refine Ad ((Eo (Dy prog w)).pyHash (s:=s) B Y ?_);refine Ad (wpAny_dictFind_heap (s:={ s with toks:=s.toks+(Eo (Dy prog w)).draws k }) B Y U J O N C (λG=>?_) λj p L=>?_)
 .have hz:M.size<=sizeLine:=by rw[size_of_entries O];exact hsz
  refine Ad (He (Ad (wpAny_updateDictKeys (hz:=hz) (s:={ s with toks:=s.toks+(Eo (Dy prog w)).draws k }) U J (An (h2 (atKey_none_of_get G) _ ⟨_,_,T+1,Ev _ U (Obj.isFreed_of_dict (Yl J _)),z.mapDictKeys _,Yl J _,?_,?_,?_⟩ (Fl ..))))))
  .simp[O,entryOfKey]
  .intro x hx
   rcases Bp.mp hx with hx|hx
   .exact(Eo (Dy prog w)).keeps (N x hx) U J (Fl ..)
   .cases Cz.mp hx
    exact(Eo (Dy prog w)).keeps Y U J (Fl ..)
  .rw[Dp,Ho]
   exact⟨C,by simp,λx hx y I e=>not_mem_keys_of_get G ((e.trans (Cz.mp I):x=k)▸hx)⟩
 .refine Ad (Pw (s:={ s with toks:=s.toks+(Eo (Dy prog w)).draws k }) U J ?_)
  rw[entry_at O j,L];exact Ad (He (An (h1 p (atKey_of_get C L))))
theorem YV (I:(d == Hs)=false)(dflt:Ac) :
  MeetsIn prog w (Il.«dict.setdefault» ⟨[.ref d,.ref a,dflt],[]⟩) (λA R s=>A.units+1<Ed/\∃ k us,(Eo (Dy prog w)).is s.heap k a/\s.heap.DictOfH (Eo (Dy prog w)) d us/\us.length<=sizeLine /\
   (∀ p,Mp us k=Ab p->R (.ok (.ret p.2)) { s with toks:=s.toks+(Eo (Dy prog w)).draws k }) /\
   (Mp us k=none->∀ h',h'.DictOfH (Eo (Dy prog w)) d (us++[(k,a,dflt)])->Gg d s.heap h'->R (.ok (.ret dflt)) { s with heap:=h',toks:=s.toks+(Eo (Dy prog w)).draws k })):=
 .of_wp λA R s ⟨C,k,us,O,U,B,L,N⟩=>by
  unfold Il.«dict.setdefault»;refine Ad ?_;unfold Builtin.Dict.keyAndDefault;refine Ad (Xi U.typeIs ?_);show Ar _ _ (pure (d,De a,Ab dflt)) _ _ s;refine An ?_;show Ar _ _ (if (d == Hs)=true then _ else (XV d (.ref a) dflt >>= _)) _ _ s
  rw[Bc (by rw[I];exact Gk)]
  exact Ad (_W C O U (λp T=>An ⟨_,rfl,L p T⟩) (λG h' Y J=>An ⟨_,rfl,N G h' Y J⟩) B)
end
def UZ:D->Am (Aa Ah)
 |.tup Y=>wR Y
 |_=>none
def u4 (kvs:Aa (Aa Ah × D))(k:Aa Ah):Am D:=(kvs.find? λY=>decide (Y.1=k)).map (·.2)
def lR (n:Ag)(kvs:Aa (Aa Ah × D))(ds:Aa D)(S:ao):az D:=match ds with
 |[i,x]=>match UZ i,S[n]? with
  |some k,Ab (.dcT kvs)=>match u4 kvs k with
   |some d=>.ok d S
   |none=>if kvs.length<br then .ok x (S.set n (.dcT (kvs++[(k,x)]))) else .bad
  |_,_=>.bad
 |_=>.bad
def eS (U:DE)(O:DA):DE:=λY S=>(U Y S).bind λa J=>match a with
 |.loc n=>match J[n]? with
  |some (.dcT kvs)=>(O Y J).bind λG N=>lR n kvs G N
  |_=>.bad
 |_=>.bad
abbrev RT (p:Aa Ah × Af × V)(q:TU):Prop:=p.1=q.1/\p.2.1=q.2.1/\qF p.2.2 q.2.2
theorem DW {K:Aj}{k:Aa Ah}(t:vk K P α kvs xs)(p:Paired RT xs us) :
  (∀ d,u4 kvs k=Ab d->∃ v q,Mp us k=Ab q/\qF v q.2/\av K P α d v)/\(u4 kvs k=none->Mp us k=none):=by
 induction t generalizing us with
 |nil=>cases p;exact⟨λd h=>nn h,λ_=>rfl⟩
 |@cons a b l m z t U =>
  cases p with
  |@cons _ c _ us w p =>
   have e:b.1=c.1:=w.1;by_cases h:a.1=k
   .have J:u4 (a::l) k=Ab a.2:=by simp[u4,Ff,h]
    have Y:Mp (c::us) k=Ab c.2:=by simp[Mp,Ff,<- e,<- z.1,h]
    rw[J,Y];exact⟨λd h=>by cases h;exact⟨b.2.2,c.2,rfl,w.2.2,z.2.2⟩,λh=>by cases h⟩
   .have J:u4 (a::l) k=u4 l k:=by simp[u4,Ff,h]
    have Y:Mp (c::us) k=Mp us k:=by simp[Mp,Ff,<- e,<- z.1,h]
    rw[J,Y];exact U p
theorem MR (p:Paired RT xs us):us.map (·.1)=xs.map (·.1):=by
 induction p with
 |nil=>rfl
 |cons z _ Y=>rw[Cg,Cg,Y,z.1]
theorem mD {β γ:Type}{F:β->γ->Prop}{l:Aa β}{m:Aa γ}{x:β}{y:γ}(h:Paired F l m)(e:F x y):Paired F (l++[x]) (m++[y]):=by
 induction h with
 |nil=>exact .cons e .nil
 |cons z _ Y=>exact .cons z Y
theorem gX {β γ:Type}{F:β->γ->Prop}{l:Aa β}{m:Aa γ}(h:Paired F l m):l.length=m.length:=by
 induction h with
 |nil=>rfl
 |cons z _ Y=>simp[Y]
section
variable {X:Cx}{o e:Cc}{es:Aa Cc}{fo:DE}{fa:DA}{cq ci:Ez}
set_option tactic.hygienic true in
theorem D2 (hu:X.A.units+1<Ed)(ho:PE X o (tD X fo))(ha:PA X (e::es) (mz X fa))
  (L:Ia o "setdefault" X.env (eval o X.env)=eval o X.env:=by rfl)
  (f:((Hc ci (Bu (e::es) X.env)).all (λx=>!x.1)&&(AbE ci (WF [] X.env)).all (λx=>x.1.isSome)
   && decide ((e::es).length+([]:Aa TD).length+(if ([] : Aa TD).isEmpty then 0 else 1)<30))=true:=by rfl)
  (O:(cq.endLine == ci.line)=true:=by rfl) (hs:Bu (e::es) X.env=(false,eval e X.env)::Bu es X.env:=by rfl) (U:(Hc ci (Bu es X.env)).any (·.1)=false:=by rfl) :
  PE X (.Call (.Attribute o "setdefault" cq) (e::es) [] ci) (tD X (eS fo fa)):=by
 intro aj s σ H Q I h;obtain⟨P,α,ak,S,r,re,af⟩:=h;refine Wg L f O rfl (bn (zT ho I r re af) λvv s1 ⟨v,H1,P1,j,d,S1,N,J⟩=>?_);cases d with
 |loc n =>
  simp only at J
  split at J
  .rename_i kvs hS
   have rp:=N.rep;have I1:=N.inv;have r1:=N.rel;simp only[av] at rp;obtain⟨a,rfl,C⟩:=rp;cases (show vv=De a from N.val)
   obtain⟨T,z,hd,hz,nd,t⟩:=r1.at' n a _ C hS;obtain⟨us,p,E⟩:=eU I1 r1.sub z nd t;obtain⟨ob,_,_,w,M,_⟩:=id E;refine⟨"dict","dict.setdefault",IN,Si,PySem.F.type_dict_setdefault,E.typeIs,λb e=>by cases e;exact⟨ob,w,M.2.1⟩,?_⟩
   have hA:=vH ha N.inv N.rel N.env (P:=P1) (α:=j) (Ok:=jn X P1 j Q) (qV.base N.same N.pre (r:=(fa ak S1).bind λB S2=>lR n kvs B S2) J) ci;rw[hs] at hA ⊢;refine Jh (by show (false||(Hc ci (Bu es X.env)).any (·.1))=false;rw[U] <;> rfl) (Ye ?_)
   refine bn hA λws s2 ⟨vs,H2,P2,u,B,S2,I2,rv,r2,z3,z0,e1,e2,l⟩=>?_;have Y:=qV.base e1 e2 l;clear l hA E p t z nd hz M w;cases B with
   |nil=>exact Aq Y
   |cons i B =>
    cases B with
    |nil=>exact Aq Y
    |cons x B =>
     cases B with
     |cons _ _=>exact Aq Y
     |nil =>
      obtain⟨vi,g,ui,ux,rfl,rfl,pi,px,qi,qx⟩:=nW z0 rv;have A:u[n]? = Ab a:=by
       obtain⟨y,hy⟩:=e2;rw[<- hy,Bn (Ba.mp C).1];exact C
      unfold lR at Y;simp only at Y;cases hk:UZ i with
      |none=>rw[hk] at Y;exact Aq Y
      |some k =>
       rw[hk] at Y;cases G:S2[n]? with
       |none=>rw[G] at Y;exact Aq Y
       |some m =>
        rw[G] at Y;cases m with
        |dcT kvs =>
         simp only at Y;obtain⟨T,z,hd,hz,nd,t⟩:=r2.at' n a _ A G;obtain⟨us,p,E⟩:=eU I2 r2.sub z nd t;cases i with
         |tup ts =>
          have zc:=jH (show wR ts=Ab k from hk)
          subst zc;simp only[av] at pi;obtain⟨b,ys,rfl,sq,zl⟩:=pi;have zb:=yE zl;subst zb;cases (show ui=De b from qi)
          have z2:us.length<=sizeLine:=by rw[<- gX p];exact hz
          obtain⟨k1,k2⟩:=DW (k:=k) t p;refine Sa Si E.typeIs PySem.F.entry_dict_setdefault (fW _ _ _) (YV hd ux) ⟨hu,k,us,WK I2 (wB r2.sub sq),E,z2,λq hq=>?_,λhn h' zs zv=>?_⟩
          .cases hv:u4 kvs k with
           |none=>rw[k2 hv] at hq;cases hq
           |some d =>
            obtain⟨w',q',e3,e4,e5⟩:=k1 d hv;rw[e3] at hq;cases hq;rw[hv] at Y;exact⟨w',H2,I2.tok _,e4,xr Y r2 e5⟩
          .cases hv:u4 kvs k with
           |some d =>
            obtain⟨w',q',e3,e4,e5⟩:=k1 d hv;rw[e3] at hn;cases hn
           |none =>
            rw[hv] at Y;obtain⟨hl,z1⟩:=vL (X:=X) Y;obtain⟨zy,lm,zh,g1,g2,g3,g4,_,g5⟩:=zs;have dt:rY a (T++[(k,b,g)]) h':=⟨_,mD p ⟨rfl,rfl,qx⟩,zy,lm,zh,g1,g2,g3,g4⟩;have I3:=I2.write (x:=a) (e:=a) (o:=wc a (T++[(k,b,g)])) (t':=s2.toks+(Eo (Dy X.prog X.w)).draws k) (by rw[z];exact Kx) (.inl rfl) (λc q hc zz=>(zv.2 c hc).trans zz) ⟨_,g1⟩ (W0 dt)
            have kx:us.map (·.1)=T.map (·.1):=MR p
            have zx:(T++[(k,b,g)]).length<=sizeLine:=by
             have:=gX t;rw[<- xQ];simp;lia
            have r3:=r2.put (o:=wc a (T++[(k,b,g)])) (m':=.dcT (kvs++[(k,x)])) A G (by intro z;cases z) ⟨_,zE,hd,zx,by rw[Dp,<- kx];rw[Dp] at g5;exact g5,mD t ⟨rfl,sq,px⟩⟩
            exact⟨g,_,I3,qx,z1 _ _ P2 u r3 (qE.refl _) (Bg _) px⟩
         |_=>cases hk
        |_=>exact Aq Y
  .exact Aq J
 |_=>exact Aq J
end
section
variable {prog:Bh}{w:Ce}{A:Bw}{E:ae}{s:Ai}{it d v:Af}{i ep:Ag}{es:Ay DictEntry}{od:Dc}
theorem NC (hv:s.heap.IsValuesView v d)(G:s.heap.get? d=Ab od)(U:od.data=.dict es ep)
  (O:Q (.ref s.heap.objs.size) { s with heap:=s.heap.push { cls:=.type "dict_valueiterator",data:=.fields #[.ref d,.int 0 0,.int es.size 0,.int ep 0] } }) :
  Ar (Av prog w) A (Rz (.ref v)) Q E s:=by
 obtain⟨C,Y,N,J⟩:=id hv;refine Uf hv.typeIs Vq (Ef Vq hv.typeIs F.entry_dict_values_iter ?_ (F.args_dict_values_iter_1 _));unfold Il.«dict_values.__iter__»;refine Ad (An (Ad ?_));unfold AcC;refine Ad (Gc Y J (x:=.ref d) rfl (An (Ad ?_)));unfold Ab9;refine Ad (Pw G U (Ad (Wp G U ?_)));simp only[show Mm "dict_valueiterator" = false from by decide,Bl,Dq]
 refine Dw (An ⟨_,rfl,"dict_valueiterator",_,⟨_,Bi _ rfl,rfl⟩,Gn.lookup,?_⟩);simpa [Oc] using O
theorem NB {Q:Am Ac->Ai->Prop}(Y:s.heap.IsValIter it d i es.size ep)(N:s.heap.get? d=Ab od)(U:od.data=.dict es ep)(G:i<es.size)
  (B:∀ h',h'.IsValIter it d (i+1) es.size ep->Gg it s.heap h'->Q (Ab es[i].val) { s with heap:=h' }) :
  Ar (Av prog w) A (Nk (.ref it)) Q E s:=by
 obtain⟨o,C,L,O⟩:=id Y;unfold Nk;refine Ad (Ma (Em (name:=Ix "__next__") Y.typeIs Gn
  (Ef Gn Y.typeIs Qy ?_ (Qh _))))
 refine Ad (An (Ad (Ad ?_)))
 first|refine Ad (Ir Y.typeIs (An ?_))|refine Ad (Ks Y.typeIs (An ?_))
 refine Ad (Xz C O ?_);simp only[show Mm "dict_valueiterator" = false from by decide,Bl,Dq]
 show Ar _ _ (if (De d == Dg)=true then _ else _) _ _ s
 rw[Bc (show ¬ ((De d == Dg)=true) from Gk)]
 refine Ad (An (Ad (Pw N U ?_)));rw[Bc ba]
 refine Ad (An (Ad (Wp N U ?_)));rw[Bc ba]
 refine An ?_;simp only[show ¬ ((i:Ah)<0) from by fin2,Dq,Fa,Du G]
 refine Ad ?_
 first|refine Ad (Ir Y.typeIs (An ?_))|refine Ad (Ks Y.typeIs (An ?_))
 refine Ad (Qz Y.typeIs ?_);show Ar _ _ (setField (.ref it) 1 (Oc ((i:Ah)+1)) >>= _) _ _ s;refine Ad (Ku C O ba ?_)
 have J:(s.heap.update it (Nz (·.setIfInBounds 1 (Oc ((i:Ah)+1))))).IsValIter it d (i+1) es.size ep:=
  ⟨_,Ev _ C (WP (Ov O _)),(AaA ..).trans L,by rw[Ov O];simp[Oc]⟩
 refine Ad (EQ ?_);refine Ad (Qz (s:={ s with heap:=s.heap.update it (Nz (·.setIfInBounds 1 (Oc ((i:Ah)+1)))) }) J.typeIs ?_)
 refine Ad (Qz (s:={ s with heap:=s.heap.update it (Nz (·.setIfInBounds 1 (Oc ((i:Ah)+1)))) }) J.typeIs ?_)
 show Ar _ _ (pure es[i].val) _ _ _;exact An (An ⟨_,rfl,An (B _ J (Fl ..))⟩)
theorem A0 {Q:Am Ac->Ai->Prop}(C:A.handled=none)(Y:s.heap.IsValIter it d i es.size ep)(U:s.heap.get? d=Ab od)(J:od.data=.dict es ep)(G:es.size<=i)
  (B:∀ h',AaQ it s.heap h'->Q none { s with heap:=h' }) : Ar (Av prog w) A (Nk (.ref it)) Q E s:=by
 obtain⟨o,O,L,N⟩:=id Y;unfold Nk;refine Ad (Ma (Em (name:=Ix "__next__") Y.typeIs Gn
  (Ef Gn Y.typeIs Qy ?_ (Qh _))))
 refine Ad (An (Ad (Ad ?_)))
 first|refine Ad (Ir Y.typeIs (An ?_))|refine Ad (Ks Y.typeIs (An ?_))
 refine Ad (Xz O N ?_);simp only[show Mm "dict_valueiterator" = false from by decide,Bl,Dq]
 show Ar _ _ (if (De d == Dg)=true then _ else _) _ _ s
 rw[Bc (show ¬ ((De d == Dg)=true) from Gk)]
 refine Ad (An (Ad (Pw U J ?_)));rw[Bc ba]
 refine Ad (An (Ad (Wp U J ?_)));rw[Bc ba]
 refine An ?_;simp only[show ¬ ((i:Ah)<0) from by fin2,Dq,Fa,Qe G]
 refine Ad ?_
 first|refine Ad (Ir Y.typeIs (An ?_))|refine Ad (Ks Y.typeIs (An ?_))
 show Ar _ _ (setField (.ref it) 0 .none >>= _) _ _ s;refine Ad (Ku O N ba ?_)
 show Ar _ _ (AaR (.type "StopIteration") [] >>= _) _ _ _;refine Ad ?_;simp only[AaR,newTuple];refine Ad (Dw ?_ (by size_fits))
 refine Ad (m:=Na _ _) (Xa (a:=Dg) (by first|rfl|(simp only[Na];rfl)) ?_)
 refine Dw ?_ (by size_fits)
 simp only[AbF];refine Ad (Ze ?_);rw[show A.in1.handled=none from C]
 refine Ad (An (AaS ?_));refine Ad (Qr (T:="StopIteration") (b:=true) ⟨_,Bi _ rfl,rfl⟩ Xs ?_);exact An (B _ (((Fl ..).extBut.push _).push _))
theorem A3 {r:Af}{n:Ag}(I:od.data=.dict es ep)(y:es.size=n):PySem.W.KdlSrc prog w "dict_values" r d n (λi v=>es[i]?.map (·.val)=Ab v) (λh=>h.IsValuesView r d/\h.get? d=Ab od) where
 type:=λ_ Y=>Y.1.typeIs
 there:=λ_ Y=>⟨let ⟨_,M,_⟩:=Y.1;Bf M,Bf Y.2⟩
 keep:=λ_ _ Y U=>⟨let ⟨o,M,x⟩:=Y.1;⟨o,U r (.inl rfl) o M,x⟩,U d (.inr rfl) _ Y.2⟩
 notList:=by decide
 notTuple:=by decide
 hint:=λ_ _ _ _ Y T=>PySem.W.kdl_hint_values Y.1.typeIs T
 iter:=λA s k Y=>by
  subst y;have L:d≠s.heap.objs.size:=Cu (Bf Y.2);refine⟨_,λi h=>h.IsValIter s.heap.objs.size d i es.size ep/\h.get? d=Ab od,λ_ _ T=>NC Y.1 Y.2 I T,?_,⟨_,Bi _ rfl,rfl,rfl⟩,Ak _ Y.2⟩;exact {
   sub:=λb J=>by simp at J;simp[J]
   frame:=λ_ _ _ st U=>⟨st.1.at λo e=>U _ ba o e,U d ba _ st.2⟩
   item:=λi C Q E j st G=>NB st.1 st.2 I j λB O N=>G _ B C.toks (by rw[Du j];rfl) ⟨O,(N.2 d L).trans st.2⟩ λb o J e=>N.extBut b o (λh=>J (by simp[h])) e
   done:=λC Q E st G=>A0 k st.1 st.2 I (Ax _) λB z=>G B C.toks λb o J e=>z b o (λh=>J (by simp[h])) e
   self:=λ_ _ _ _ st G=>wpAny_pyIter_valiter st.1 G }
end
def tS (f:DE):DE:=λJ S=>(f J S).bind λd Y=>match d with
 |.loc n=>match Y[n]? with
  |some (.dcT kvs)=>.ok (.lst (kvs.map (·.2))) Y
  |_=>.bad
 |_=>.bad
theorem MS (p:Paired RT xs us):qJ (xs.map (·.2.2)) (us.map (·.2.2)):=by
 induction p with
 |nil=>exact .nil
 |cons z _ Y=>exact .cons z.2.2 Y
theorem UH {K:Aj}(h:vk K P α kvs xs):qD K P α (kvs.map (·.2)) (xs.map (·.2.2)):=by
 induction h with
 |nil=>exact .nil
 |cons z t Y=>exact .cons z.2.2 Y
section
variable {X:Cx}{o:Cc}{fo:DE}{cq ci aq p2:Ez}
theorem aY {prog:Bh}{w:Ce}(d:Af)(Y:(d == Hs)=false) :
  MeetsIn prog w (Il.«dict.values» ⟨[.ref d],[]⟩) (λ_ R s=>s.TypeIs (.ref d) "dict" /\
   R (.ok (.ret (.ref s.heap.objs.size))) { s with heap:=s.heap.push { cls:=.type "dict_values",data:=.fields #[.ref d] } }):=
 .of_wp λA R s ⟨J,h⟩=>by
  refine Ad ?_;unfold Builtin.Dict.noArgs;refine Ad (Xi J ?_);show Ar _ _ (pure d) _ _ s;refine An ?_;show Ar _ _ (Xj d >>= _) _ _ s;unfold Xj;rw[Bc (by rw[Y];exact Gk)]
  exact Ad (An (Ad (Dw (An ⟨_,rfl,h⟩))))
set_option tactic.hygienic true in
theorem U8 (hc:X.calm=true)(hg:Gl X "list")(hm:X.mg "list" = none)(ho:PE X o (tD X fo))(G:Ia o "values" X.env (eval o X.env)=eval o X.env:=by rfl)(U:(cq.endLine == ci.line)=true:=by rfl)
  (f:Bu [.Call (.Attribute o "values" cq) [] [] ci] X.env=(false,eval (.Call (.Attribute o "values" cq) [] [] ci) X.env)::Bu [] X.env:=by rfl) :
  PE X (.Call (.Name "list" p2) [.Call (.Attribute o "values" cq) [] [] ci] [] aq) (tD X (tS fo)):=by
 intro aj s σ H Q I h;obtain⟨P,α,ak,S,r,re,af⟩:=h;refine Call_ (yT I hg hm dS (Gd ?_ f rfl));rw[f];refine Jn (Pc G U (bn (zT ho I r re af) λvv E ⟨v,H1,P1,A,d,S1,O,Y⟩=>?_));cases d with
 |loc n =>
  simp only at Y
  split at Y
  .rename_i kvs hS
   have m:=O.rep;have y:=O.inv;have w:=O.rel;simp only[av] at m;obtain⟨a,rfl,ha⟩:=m;cases (show vv=De a from O.val)
   obtain⟨g,z,hd,hz,nd,t⟩:=w.at' n a _ ha hS;obtain⟨N,p,T⟩:=eU y w.sub z nd t;obtain⟨ob,es,ep,L,M,B,C,_⟩:=id T;refine⟨"dict","dict.values",IN,Uu,PySem.F.type_dict_values,T.typeIs,λb e=>by cases e;exact⟨ob,L,M.2.1⟩,Jh rfl (Sf ?_)⟩
   refine Sa Uu T.typeIs PySem.F.entry_dict_values (PySem.F.args_dict_values_1 _) (aY a hd) ⟨T.typeIs,?_⟩;refine Ke ?_;have k:N.length<=sizeLine:=by rw[<- gX p];exact hz
   refine PySem.W.kdl_call (s:={ E with heap:=E.heap.push { cls:=.type "dict_values",data:=.fields #[.ref a] } }) (A3 (n:=N.length) B (size_of_entries C)) (y.ok.hd hc) ⟨⟨_,Bi _ rfl,rfl,rfl⟩,Ak _ L⟩ k λh' tk q c hk hL J=>?_
   have i:=y.kept (t':=E.toks) (h':=E.heap.push { cls:=.type "dict_values",data:=.fields #[.ref a] }) λb u e=>Ak _ e;have ev:q.toList=N.map (·.2.2):=by
    refine Ug λj=>?_;rw[Br,Ee];cases l:q[j]? with
    |none =>
     have:N.length<=j:=by rw[<- J.1];exact Tn.mp l
     rw[Wz this];rfl
    |some v =>
     have this:es[j]?.map (·.val)=Ab v:=J.2 j v l
     rw[entry_at C] at this;cases x:N[j]? with
     |none=>rw[x] at this;cases this
     |some u=>rw[x] at this;exact this.symm
   have I3:=Inv.laid (o:=HO.lst (g.map (·.2.2))) (t':=tk) i hk (Ax _) ⟨by rw[Ao];exact hz,N.map (·.2.2),c,MS p,by rw[hL,<- ev]⟩
   obtain⟨r3,e3⟩:=w.pure (o:=HO.lst (g.map (·.2.2))) (i.hok.fresh (Ax _))
   refine⟨.ref _,_,I3,rfl,Y _ _ _ A r3 (O.same.trans e3) O.pre ?_⟩;exact gB (.inl (.inl zE)) (UH (vk.mono e3 (Bg _) t))
  .exact Aq Y
 |_=>exact Aq Y
end
section
variable {X:Cx}{o e:Cc}{es:Aa Cc}{fo:DE}{fA:DA}{cq ci aq p2:Ez}{cm:As}{k:Ag}
theorem MW:QE X (.Dict [] [] aq) QQ:=⟨BC⟩
theorem HI (O:be cm k X.A)(C:QE X o fo)(N:QA X (e::es) fA)(J:Ia o "setdefault" X.env (eval o X.env)=eval o X.env:=by rfl)
  (G:((Hc aq (Bu (e::es) X.env)).all (λx=>!x.1)&&(AbE aq (WF [] X.env)).all (λx=>x.1.isSome)&&decide ((e::es).length+([]:Aa TD).length+(if ([] : Aa TD).isEmpty then 0 else 1)<30))=true:=by rfl)
  (U:(cq.endLine == aq.line)=true:=by rfl) (hs:Bu (e::es) X.env=(false,eval e X.env)::Bu es X.env:=by rfl) (Y:(Hc aq (Bu es X.env)).any (·.1)=false:=by rfl) :
  QE X (.Call (.Attribute o "setdefault" cq) (e::es) [] aq) (eS fo fA):=⟨D2 (vy O) C.1 N.1 J G U hs Y⟩
theorem K0 (G:X.calm=true)(O:Gl X "list")(hm:X.mg "list" = none)(N:QE X o fo)(J:Ia o "values" X.env (eval o X.env)=eval o X.env:=by rfl)(Y:(cq.endLine == ci.line)=true:=by rfl)
  (U:Bu [.Call (.Attribute o "values" cq) [] [] ci] X.env=(false,eval (.Call (.Attribute o "values" cq) [] [] ci) X.env)::Bu [] X.env:=by rfl):QE X (.Call (.Name "list" p2) [.Call (.Attribute o "values" cq) [] [] ci] [] aq) (tS fo):=⟨U8 G O hm N.1 J Y U⟩
end
def jQ (xs:Aa D):Am (Aa D):=match yN xs with
 |some Y=>if (decide ((_S.gz _H.lexLt Y).length<=1000)&&Y.all λk=>!k.isEmpty)=true then Ab ((_S.gz _H.lexLt Y).map io) else none
 |none=>none
def yD (G:As)(f:DE):DE:=λU S=>(f U S).bind λd Y=>match (tE d Y).bind jQ with
 |some J=>if G then .ok (.loc Y.length) (Y++[.lst J]) else .ok (.lst J) Y
 |none=>.bad
section
variable {X:Cx}{e:Cc}{fa:DE}{p1 p2 mn qm:Ez}{mu:As}
set_option tactic.hygienic true in
theorem aW (hc:X.calm=true)(hu:X.A.units+64<Ed)(hg:Gl X "sorted")(hm:X.mg "sorted" = none)(zb:Gl X "set")(c:X.mg "set" = none)(ha:PE X e (tD X fa))(he:Bu [e] X.env=(false,eval e X.env)::Bu [] X.env:=by rfl) :
  PE X (.Call (.Name "sorted" p1) [.Call (.Name "set" p2) [e] [] qm] [] mn) (tD X (yD mu fa)):=by
 intro aj s σ H Q I h;obtain⟨P,α,ak,S,r,re,af⟩:=h;refine Jp (yT I hg hm dU ?_);refine Ll ?_ rfl rfl;refine Jn ?_;refine Call_ (yT I zb c VM (Gd ?_ he rfl));rw[he];refine Jn (bn (zT ha I r re af) λvv T ⟨v,H1,P1,C,d,S1,Y,J⟩=>Ke ?_);cases hq:(tE d S1).bind jQ with
 |none=>simp only[hq] at J;exact Aq J
 |some ys =>
   simp only[hq] at J;obtain⟨xs,y,N⟩:=Gh.mp hq;obtain⟨a,vs,ap,rfl,t1,x,l,l1⟩:=TR Y.inv Y.rel Y.rep Y.val y;have A:b6 X (call (.type "set") [.ref a]) (λu T=>b6 X (call (.builtin "sorted") [u]) (si X aj σ H1 P1 C ys) X.xe T) X.xe T:=by
    unfold jQ at N;cases ht:yN xs with
    |none=>rw[ht] at N;cases N
    |some O =>
     rw[ht] at N;dsimp only at N
     split at N
     .rename_i n
      cases N;have G:=Yk.mp n;have:=pC ht;subst this;have E:∀ (i:Ag) (u:Ac),ap[i]? = Ab u->∃ b,u=.ref b/\Sh (Dy X.prog X.w) T.heap (O.getD i []) b/\∃ vv,qF vv u/\av X.K P1 C (io (O.getD i [])) vv:=λi u U=>by
       have L:i<ap.length:=(Ba.mp U).1;have zh:i<O.length:=by rw[Ao] at l1;lia
       obtain⟨v,p,q,_⟩:=wU t1 x (j:=i) (by rw[Bm];exact L)
       have y:(O.map io).getD i D.non=io (O.getD i []):=by simp[Gr,zh]
       rw[y] at p;have zc:ap.toArray[i]'(by rw[Bm];exact L)=u:=by
        rw[Ap L] at U;simpa using U
       rw[zc] at q;obtain⟨b,ws,us,rfl,sq,t,rv,⟨o,ho,g,m,y⟩,_,_⟩:=vU Y.inv Y.rel (show av X.K P1 C (.tup ((O.getD i []).map D.int)) v from p)
       cases (show u=De b from q)
       have:=yE t;subst this;exact⟨b,rfl,⟨o,us.toArray,m,ho,g,y,by simpa using f9 rv⟩,.ref b,rfl,p⟩
      refine i7 (d:=[]) (_S.rN X.prog X.w T.heap) (_S.XA T.heap) hc hu Y.inv Y.rel l O (by simpa using l1) (λi u U=>?_) (Bz G.1) (λk f=>?_) io λk u f zv=>?_
      .obtain⟨b,rfl,q,_⟩:=E i u U
       exact⟨b,rfl,q⟩
      .have:=Bs.mp G.2 k f
       intro z;subst z;cases this
      .obtain⟨i,zs,rfl⟩:=Co.mp zv
       obtain⟨b,eb,q,w,zl,pw⟩:=E i _ (Ap zs);have:k=O.getD i []:=_S.ip.inj f ⟨b,eb,q⟩;rw[this];exact⟨w,zl,pw⟩
     .cases N
   refine bn A λu s2 h2=>Ke (bn h2 λu' s3 ⟨D,zx,e,hn,I',M⟩=>?_);subst e;cases mu with
   |true=>exact⟨.ref D,_,I',rfl,fG Y.rel hn M λv' H' P' B r' l e2 rp=>J v' H' P' B r' (Y.same.trans l) (Y.pre.trans e2) rp⟩
   |false=>exact⟨.ref D,_,I',rfl,xU Y.rel hn M λv' H' P' B r' l e2 rp=>J v' H' P' B r' (Y.same.trans l) (Y.pre.trans e2) rp⟩
end
section
variable {X:Cx}{cm:As}{k:Ag}{e:Cc}{fa:DE}{p1 p2 mn qm:Ez}{mu:As}
theorem i4 (O:X.calm=true)(N:be cm k X.A)(C:Gl X "sorted")(hm:X.mg "sorted" = none)(Y:Gl X "set")(J:X.mg "set" = none)(G:QE X e fa)(U:Bu [e] X.env=(false,eval e X.env)::Bu [] X.env:=by rfl) :
  QE X (.Call (.Name "sorted" p1) [.Call (.Name "set" p2) [e] [] qm] [] mn) (yD mu fa):=⟨aW O N.units C hm Y J G.1 U⟩
end
theorem CO {xs:Aa D}{ap:ah}(J:xs.length=ap.length):∀ v∈ap,∃ (j:Ag) (x:D),xs[j]? = Ab x/\ap[j]? = Ab v:=λv hv=>by
 obtain⟨j,Y,e⟩:=Co.mp hv;exact⟨j,_,Ap li,by rw[Ap Y,e]⟩
section
variable {prog:Bh}{w:Ce}{h:By}
theorem IsTuple.at {a:Af}(t:h.IsTuple a xs):∃ o m,h.get? a=Ab o/\o.cls=.type "tuple" /\ o.data=.seq xs m:=by
 obtain⟨o,e,c,m,d⟩:=t;exact⟨o,m,e,c,d⟩
theorem jg.cls (t:jg h n d v):∀ {f:Ag} {A:Bw} {E:ae} {s:Ai} {Q:As->Ai->Prop},s.heap=h->n<=f->Q false s->Ar (Av prog w) A (Hq f v) Q E s:=by
 induction t with
 |int n i t =>
  intro f A E s Q B L k;rw[show Hq f (.int i t)=pure false from by cases f <;> rfl]
  exact An k
 |tup n a M N c z B q =>
  intro f A E s Q I L k;subst I;obtain⟨g,rfl⟩:∃ g,f=g+1:=⟨f-1,by lia⟩
  obtain⟨o,m,O,l,y⟩:=IsTuple.at c;have p:s.TypeIs (.ref a) "tuple":=⟨o,O,l⟩;unfold Hq;refine Ad (Nc p ?_);dsimp only;refine Ad (An ?_);simp only[Kj,Bl,Dq];refine Ad (Gx O y ?_);refine Ad ?_;show Ar _ _ (forIn N.toArray _ _) _ _ s;rw[<- Sz];refine Ky _ (λqC r J=>r.1=none/\J=s/\∀ v∈qC,∃ (j:Ag) (x:D),M[j]? = Ab x/\N[j]? = Ab v) _ ?_ ?_ _ _ ⟨rfl,rfl,CO z⟩
  .rintro v qC r J ⟨U,rfl,Y⟩
   obtain⟨j,x,T,C⟩:=Y v Cf;refine Ad (q j x v T C rfl li ?_);simp only[Bl,Dq];exact An ⟨rfl,rfl,λu G=>Y u (AT _ G)⟩
  .rintro⟨b,e⟩ J ⟨U,rfl,_⟩
   simp only at U;subst U;exact An k
def _s (xs:Aa D)(h:By)(k:Aa Ah)(v:Ac):Prop:=∃ d,d∈xs/\jg h 6 d v/\zL d=k
variable {xs:Aa D}
theorem _s.ref (ok:xf xs=true){k:Aa Ah}{v:Ac}(t:_s xs h k v):∃ a,v=.ref a:=by
 obtain⟨d,Y,t,_⟩:=t;have J:=(vR ok Y).1;cases t with
 |int _ _ _=>cases J
 |tup _ a _ _ _ _ _=>exact⟨a,rfl⟩
end
def lO:G2:=λa b S=>match tU b S,yZ a with
 |some kvs,Ab k=>.ok (.bl (xK kvs k).isSome) S
 |_,_=>.bad
section
variable {X:Cx}
set_option tactic.hygienic true in
theorem RY (N:X.A.units+1<Ed):gj X (Df .In) lO:=by
 intro aj σ H s P α S v u o uu a b Q I r O C B A Y;unfold lO at Y
 split at Y
 .rename_i kvs k E G
  obtain⟨p,M,rfl,z,t⟩:=XW r E A;have L:=nF G B;subst L;cases (show uu=De p from C)
  obtain⟨J,T⟩:=fB (k:=k) t;have g:j7 H p (kV k) (yR M k):=.inl ⟨_,k,.inl z,rfl,rfl⟩;refine qBH N I g O λy U=>⟨.bl _,H,U,rfl,?_⟩;cases hv:xK kvs k with
  |none=>rw[hv] at Y;rw[T hv];exact xr Y r (by simp only[av];rfl)
  |some d =>
   obtain⟨q,w,j⟩:=J d hv;rw[hv] at Y;rw[w];exact xr Y r (by simp only[av];rfl)
 .exact Aq Y
end
section
variable {X:Cx}{cm:As}{k:Ag}{o i:Cc}{fo fi:DE}{aq:Ez}
theorem NM (Y:be cm k X.A):gp X (.builtin "sorted") b0:=⟨VT Y.units⟩
theorem HD (J:be cm k X.A)(Y:QE X o fo)(hi:QE X i fi)(hs:VE i:=by intro _ _;rfl):QE X (.Subscript o i aq) (d2 mU fo fi):=⟨LX (vy J) Y.1 hi.1 hs⟩
end
section
variable {X:Cx}{cm:As}{k:Ag}
theorem qAp (Y:be cm k X.A):jj X (Df .In) lO:=⟨RY (vy Y)⟩
end
end _D
namespace _D
variable {kvs:Aa (_L.bq × D)}{ds as:Aa D}{n p:Ag}{lo hi:Am Ah}{F:DF}{gs:so}{S1 S':ao}
def Nx (o:jd)(Q:qB->ao->Prop):Prop:=∃ Y S,o=.nx Y S/\Q Y S
def Rt (o:jd)(Q:D->ao->Prop):Prop:=∃ d S,o=.rt d S/\Q d S
def Ok {β:Type}(r:az β)(Q:β->ao->Prop):Prop:=∃ d S,r=.ok d S/\Q d S
theorem fK {o:jd}{Q:qB->ao->Prop}{S:ao}(h:o=.nx ak S)(q:Q ak S):Nx o Q:=⟨ak,S,h,q⟩
theorem qM {β:Type}{r:az β}{Q:β->ao->Prop}{d:β}{S:ao}(h:r=.ok d S)(q:Q d S):Ok r Q:=⟨d,S,h,q⟩
theorem RI {f g:DS}{S:ao}{Q:qB->ao->Prop}(h:Nx (f ak S) λY S1=>Nx (g Y S1) Q):Nx (qG f g ak S) Q:=by
 obtain⟨Y,S1,e,J,U,G,q⟩:=h;exact⟨J,U,by unfold qG;rw[e];exact G,q⟩
theorem uF {f g:DS}{S:ao}{Q:D->ao->Prop}(h:Nx (f ak S) λY S1=>Rt (g Y S1) Q):Rt (qG f g ak S) Q:=by
 obtain⟨Y,S1,e,J,U,G,q⟩:=h;exact⟨J,U,by unfold qG;rw[e];exact G,q⟩
theorem ZI {t:DT}{S:ao}{b:As}{Q:qB->ao->Prop}(h:t ak S=.ok b S1)(k:Nx ((if b then f else g) ak S1) Q):Nx (fj t f g ak S) Q:=by
 obtain⟨Y,U,J,q⟩:=k;refine⟨Y,U,?_,q⟩;unfold fj;rw[h];cases b <;> exact J
theorem bH {f:DE}{S:ao}{Q:qB->ao->Prop}(h:Ok (f ak S) λd S1=>Q (ak.set i (Ab d)) S1):Nx (qQ f (bj i) ak S) Q:=by
 obtain⟨d,S1,e,q⟩:=h;exact⟨_,S1,by unfold qQ bj;rw[e];rfl,q⟩
theorem a9 {f:DE}{S:ao}{Q:D->ao->Prop}(h:Ok (f ak S) Q):Rt (qW f ak S) Q:=by
 obtain⟨d,S1,e,q⟩:=h;exact⟨_,S1,by unfold qW;rw[e];rfl,q⟩
theorem FZ {g:DG}{f:DS}{Q:qB->ao->Prop}(I:Aa D->qB->ao->Prop)(turn:∀ d ds ak S,I (d::ds) ak S->∃ Y S1,g d ak S=.ok Y S1/\Nx (f Y S1) (I ds))(J:∀ ak S,I [] ak S->Q ak S) :
  ∀ {ds:Aa D} {ak:qB} {S:ao},I ds ak S->Nx (xN g f ds ak S) Q
 |[],ak,S,h=>⟨ak,S,rfl,J ak S h⟩
 |d::ds,ak,S,h=>by
  obtain⟨Y,S1,B,G,T,C,O⟩:=turn d ds ak S h;obtain⟨U,L,N,q⟩:=FZ I turn J (ds:=ds) O;refine⟨U,L,?_,q⟩;unfold xN;simp only[B,az.toS,C];exact N
theorem FY {fi:m_}{S:ao}{o:Am (Ag × MO)}{Q:qB->ao->Prop}(h:fi ak S=.ok (o,ds) S1)(k:Nx (wN o g f ds ak S1) Q):Nx (nY fi g f ak S) Q:=by
 obtain⟨Y,U,J,q⟩:=k;exact⟨Y,U,by unfold nY;rw[h];exact J,q⟩
theorem cL {g:DG}{f:DS}{Q:qB->ao->Prop}(I:Aa D->qB->ao->Prop)(G:∀ ds ak S,I ds ak S->nu o S)(turn:∀ d ds ak S,I (d::ds) ak S->∃ Y S1,g d ak S=.ok Y S1/\Nx (f Y S1) (I ds))(J:∀ ak S,I [] ak S->Q ak S) :
  ∀ {ds:Aa D} {ak:qB} {S:ao},I ds ak S->Nx (wN o g f ds ak S) Q
 |[],ak,S,h=>⟨ak,S,by unfold wN;rw[Be (wC.mpr (G _ _ _ h))],J ak S h⟩
 |d::ds,ak,S,h=>by
  obtain⟨Y,S1,L,N,E,B,C⟩:=turn d ds ak S h;obtain⟨U,T,O,q⟩:=cL I G turn J (ds:=ds) C;refine⟨U,T,?_,q⟩;unfold wN;rw[Be (wC.mpr (G _ _ _ h))];simp only[L,az.toS,B];exact O
theorem JH {t:DT}{f:DS}{Q:qB->ao->Prop}(I:Ag->qB->ao->Prop)(turn:∀ n ak S,I n ak S->∃ b S1,t ak S=.ok b S1/\(if b then Nx (f ak S1) (λY G=>∃ m,m<n/\I m Y G) else Q ak S1)) :
  ∀ {n:Ag} {ak:qB} {S:ao},n<big->I n ak S->Nx (vS t f ak S) Q:=by
 have U:∀ N n ak S,n<N->I n ak S->Nx (yI t f N ak S) Q:=by
  intro N
  induction N with
  |zero=>intro n ak S h;fin2
  |succ N H =>
   intro n ak S h O;obtain⟨b,S1,B,k⟩:=turn n ak S O;cases b with
   |false =>
    refine⟨ak,S1,?_,by simpa using k⟩
    unfold yI;rw[B];rfl
   |true =>
    simp only[Ds] at k;obtain⟨Y,G,E,m,A,C⟩:=k;obtain⟨J,T,L,q⟩:=H m Y G om C;refine⟨J,T,?_,q⟩;unfold yI;rw[B];simp only[az.toS,Ds,E];exact L
 exact λ{n ak S} h O=>U big n ak S h O
theorem mZ {fe:DE}{S:ao}{au:Aa D}(h:fe ak S=.ok x S1)(Q:au.length<br):zN fe ak S au=.ok (ak,au++[x]) S1:=by
 unfold zN;rw[h];simp[az.bind,Q]
theorem pX {fi:m_}{t:DT}{k:DK}{ak Q:qB}{S:ao}{o:Am (Ag × MO)}{items:Aa D}(h:fi ak S=.ok (o,items) S1)(e:iq o g t k items (xE bw ak) S1 [] = .ok (Q,ds) S'):zC false bw fi g t k ak S=.ok (.lst ds) S':=by
 unfold zC;rw[h];simp only[az.bind,e,wp];rfl
theorem YT {g:DS}{S:ao}{ak:qB}(hs:yX n ds=ak)(h:g ak S=.rt d S'):qL n g ds S=.ok d S':=by
 subst hs;unfold qL;rw[h];rfl
theorem lT {S:ao}{i:Ag}(h:S[i]? = Ab m)(e:S<+:S'):S'[i]? = Ab m:=by
 obtain⟨r,rfl⟩:=e;rw[Bn (Ba.mp h).1];exact h
theorem bY {α β:Type}(Q:α->As)(val:α->β)(l:Aa α) : (l.flatMap λd=>if Q d then [val d] else []) = (l.filter Q).map val:=by
 induction l with
 |nil=>rfl
 |cons d l Y =>
  rw[Ft,Y];cases h:Q d <;> simp[h]
theorem xi {α:Type}{cb:α->D}{g:DG}{t:DT}{k:DK}(J:α->Aa D)(C:qB->ao->Prop)(O:∀ ak S,C ak S->nu o S) :
  ∀ (xs:Aa α) (ak:qB) (S:ao) (au:Aa D),C ak S->au.length+(xs.flatMap J).length<=br ->
  (∀ x∈xs,∀ ak S au,C ak S->au.length+(J x).length<=br->∃ Q S1 b G,g (cb x) ak S=.ok Q S1/\t Q S1=.ok b G/\((b=false/\J x=[]/\C Q G)\/(b=true/\∃ U B,k Q G au=.ok (U,au++J x) B/\C U B))) ->
  ∃ Y S',iq o g t k (xs.map cb) ak S au=.ok (Y,au++xs.flatMap J) S'/\C Y S'
 |[],ak,S,au,h,E,_=>⟨ak,S,by simp[iq,wC.mpr (O _ _ h)],h⟩
 |x::xs,ak,S,au,h,E,step=>by
  rw[Ft,Ca] at E;obtain⟨Q,S1,b,G,I,T,r⟩:=step x (Cf ..) ak S au h om;have N:=wC.mpr (O _ _ h);rcases r with⟨rfl,A,H⟩|⟨rfl,U,B,M,w⟩
  .obtain⟨Y,S',e,q⟩:=xi J C O xs Q G au H om λd L=>step d (AT _ L)
   refine⟨Y,S',?_,q⟩;simp only[Cg,iq,N,Ds,I,T,az.bind,Bl,Dq,Ft,A,Iq];exact e
  .obtain⟨Y,S',e,q⟩:=xi J C O xs U B (au++J x) w (by rw[Ca];fin2) λd L=>step d (AT _ L)
   refine⟨Y,S',?_,q⟩;simp only[Cg,iq,N,Ds,I,T,az.bind,M,Ft];rw[e,Ch]
section
variable {α β:Type}{cb:α->D}{uk:β->D}{bw:Aa (Am Ag)}{fi:m_}{g:DG}{t:DT}{fe:DE}{ak:qB}{S:ao}{o:Am (Ag × MO)}{xs:Aa α}
theorem IM (U:nu o S)(Y:α->As)(val:α->D)(C:qB->Prop)(h0:C ak)(G:xs.length<=br)
  (step:∀ x∈xs,∀ ak,C ak->∃ Q,g (cb x) ak S=.ok Q S/\C Q/\t Q S=.ok (Y x) S/\(Y x=true->fe Q S=.ok (val x) S)) :
  ∃ J,iq o g t (zN fe) (xs.map cb) ak S [] = .ok (J,(xs.filter Y).map val) S:=by
 have H:(xs.flatMap λd=>if Y d then [val d] else []).length<=br:=by
  rw[bY,Ao];exact Cw (Fn _ _) G
 obtain⟨J,S',e,_,q⟩:=xi (cb:=cb) (o:=o) (g:=g) (t:=t) (k:=zN fe) (λd=>if Y d then [val d] else []) (λak S'=>C ak/\S'=S) (λ_ _ h=>h.2▸U) xs ak S [] ⟨h0,rfl⟩ (by simpa using H) (λd L ak S' A E G=>by
  obtain⟨T,rfl⟩:=E;obtain⟨Q,I,O,B,k⟩:=step d L ak T;refine⟨Q,S',Y d,S',I,B,?_⟩;cases N:Y d with
  |false=>exact .inl ⟨rfl,by simp,O,rfl⟩
  |true =>
   refine .inr ⟨rfl,Q,S',?_,O,rfl⟩;simp only[Ds];exact mZ (k N) (by simp only[N,Ds,Mn] at G;fin2))
 subst q;refine⟨J,?_⟩;rw[e,Iq,bY]
theorem bV (h:fi ak S=.ok (o,xs.map cb) S)(J:nu o S)(Y:α->As)(val:α->D)(C:qB->Prop)(h0:C (xE bw ak))(G:xs.length<=br)
  (step:∀ x∈xs,∀ ak,C ak->∃ Q,g (cb x) ak S=.ok Q S/\C Q/\t Q S=.ok (Y x) S/\(Y x=true->fe Q S=.ok (val x) S)) :
  zC false bw fi g t (zN fe) ak S=.ok (.lst ((xs.filter Y).map val)) S:=by
 obtain⟨U,e⟩:=IM J Y val C h0 G step;exact pX h e
theorem B7 {zh:m_}{g2:DG}{t2:DT}(h:fi ak S=.ok (o,xs.map cb) S)(H:nu o S)(T:nu o2 S)(N:α->Aa β)(Y:α->β->As)(val:α->β->D)(C:qB->Prop)(L:α->qB->Prop)(h0:C (xE bw ak))(M:∀ x ak,L x ak->C ak)
  (B:(xs.flatMap λx=>((N x).filter (Y x)).map (val x)).length<=br)
  (step:∀ x∈xs,∀ ak,C ak->∃ Q,g (cb x) ak S=.ok Q S/\L x Q/\t Q S=.ok true S/\zh Q S=.ok (o2,(N x).map uk) S)
  (G:∀ x∈xs,∀ y∈N x,∀ ak,L x ak->∃ Q,g2 (uk y) ak S=.ok Q S/\L x Q/\t2 Q S=.ok (Y x y) S/\(Y x y=true->fe Q S=.ok (val x y) S)) :
  zC false bw fi g t (kIn zh g2 t2 (zN fe)) ak S=.ok (.lst (xs.flatMap λx=>((N x).filter (Y x)).map (val x))) S:=by
 obtain⟨l,S',e,_,q⟩:=xi (cb:=cb) (o:=o) (g:=g) (t:=t) (k:=kIn zh g2 t2 (zN fe)) (λx=>((N x).filter (Y x)).map (val x)) (λak S'=>C ak/\S'=S) (λ_ _ h=>h.2▸H) xs (xE bw ak) S [] ⟨h0,rfl⟩ (by simpa using B) (λd j ak S' z I B=>by
  obtain⟨A,rfl⟩:=I;obtain⟨Q,e1,a,f,s⟩:=step d j ak A;obtain⟨O,E,m,q,r⟩:=xi (cb:=uk) (o:=o2) (g:=g2) (t:=t2) (k:=zN fe) (λx=>if Y d x then [val d x] else []) (λak J=>L d ak/\J=S') (λ_ _ h=>h.2▸T) (N d) Q S' z ⟨a,rfl⟩ (by rw[bY];exact B) (λx b ak J z I B=>by
   obtain⟨A,rfl⟩:=I;obtain⟨U,c,u,v,i⟩:=G d j x b ak A;refine⟨U,J,Y d x,J,c,v,?_⟩;cases w:Y d x with
   |false=>exact .inl ⟨rfl,by simp,u,rfl⟩
   |true =>
    refine .inr ⟨rfl,U,J,?_,u,rfl⟩;simp only[Ds];exact mZ (i w) (by simp only[w,Ds,Mn] at B;fin2))
  subst r;refine⟨Q,E,true,E,e1,f,.inr ⟨rfl,O,E,?_,M d _ q,rfl⟩⟩;unfold kIn;rw[s];simp only[az.bind];rw[m,bY])
 subst q;have:=pX (bw:=bw) h e
 rwa [Iq] at this
end
theorem rJ {f g:DE}{S Q:ao}{a b:D}(h1:f ak S=.ok a S1)(h2:g ak S1=.ok b Q):d2 o f g ak S=o a b Q:=by
 unfold d2;rw[h1];simp only[az.bind];rw[h2]
theorem eG {Q:DE}{S:ao}{a:D}(h1:Q ak S=.ok a S1):qN F (q8 Q qA) ak S=F [a] S1:=by
 simp only[qN,q8,qA,h1,az.bind]
theorem qAa {f:DE}{S:ao}{b:As}(h:f ak S=.ok (.bl b) S1):cg f ak S=.ok b S1:=by
 unfold cg;rw[h];rfl
theorem XT {Q:DE}{S:ao}{a:D}(h1:Q ak S=.ok a S1):q8 Q qA ak S=.ok [a] S1:=by
 simp only[q8,qA,h1,az.bind]
theorem R6 {g:DA}{S:ao}(k:g ak S=.ok as S1)(h:as.length<=br):wL g ak S=.ok (.lst as) S1:=by
 simp only[wL,k,az.bind,h,Ds]
theorem YY {g:DA}{S:ao}(k:g ak S=.ok as S1)(h:as.length<=br):zA g ak S=.ok (.tup as) S1:=by
 simp only[zA,k,az.bind,h,Ds]
theorem l9 {ak:qB}{i:Ag}{S:ao}(h:ak[i]? = Ab (Ab d)):q9 i ak S=.ok d S:=by simp only[q9,h]
theorem XE {α:Type}(p:α->As)(l:Aa α) : yB (l.map λx=>D.bl (p x))=Ab (l.map p):=by
 induction l with
 |nil=>rfl
 |cons x l Q =>
  show (yB (l.map λx=>D.bl (p x))).map (p x::·)=_
  rw[Q];rfl
section
variable {β γ:Type}{ak:qB}{S:ao}
theorem qX {k:β->ao->az γ}{Q:γ->ao->Prop}(h:Ok r λd S1=>Ok (k d S1) Q):Ok (r.bind k) Q:=by
 obtain⟨d,S1,rfl,h⟩:=h;exact h
theorem w8 {d:β}(h:Ok r λd' S'=>d'=d/\S'=S):r=.ok d S:=by
 obtain⟨_,_,e,rfl,rfl⟩:=h;exact e
theorem zO {Q Y:β->ao->Prop}(h:Ok r Q)(k:∀ d S,Q d S->Y d S):Ok r Y:=by
 obtain⟨d,S,e,q⟩:=h;exact⟨d,S,e,k d S q⟩
variable {Q:D->ao->Prop}{f g:DE}{fa:DA}{o:G2}{i j:Ag}
theorem o_c (h:Q d S):Ok (dC d ak S) Q:=⟨_,_,rfl,h⟩
theorem o_v (e:ak[i]? = Ab (Ab d))(h:Q d S):Ok (q9 i ak S) Q:=⟨_,_,l9 e,h⟩
theorem o_2 (h:Ok (f ak S) λa S1=>Ok (g ak S1) λb Y=>Ok (o a b Y) Q):Ok (d2 o f g ak S) Q:=qX (zO h λ_ _=>qX)
theorem o_1 {u:D->ao->az D}(h:Ok (f ak S) λa S1=>Ok (u a S1) Q):Ok (d1 u f ak S) Q:=qX h
theorem PC {Q:Aa D->ao->Prop}(h:Q [] S):Ok (qA ak S) Q:=⟨_,_,rfl,h⟩
theorem g9 {Q:Aa D->ao->Prop}(h:Ok (f ak S) λa S1=>Ok (fa ak S1) λas Y=>Q (a::as) Y):Ok (q8 f fa ak S) Q:=qX (zO h λ_ _ k=>qX (zO k λ_ _ q=>⟨_,_,rfl,q⟩))
theorem OM (h:Ok (fa ak S) λas S1=>as.length<=br/\Q (.tup as) S1):Ok (zA fa ak S) Q:=qX (zO h λ_ _ k=>⟨_,_,Be k.1,k.2⟩)
theorem OH (h:Ok (fa ak S) λas S1=>as.length<=br/\Q (.lst as) S1):Ok (wL fa ak S) Q:=qX (zO h λ_ _ k=>⟨_,_,Be k.1,k.2⟩)
theorem qCB (h:Ok (fa ak S) λas S1=>as.length<=br/\Q (.loc S1.length) (S1++[.lst as])):Ok (u9 fa ak S) Q:=qX (zO h λ_ _ k=>⟨_,_,Be k.1,k.2⟩)
theorem qCM (h:Q (.loc S.length) (S++[.dct []])) : Ok (eR ak S) Q:=⟨_,_,rfl,h⟩
theorem RK (h:Ok (fa ak S) λas S1=>as.length=n/\Ok (F as S1) Q):Ok (qH n F fa ak S) Q:=qX (zO h λ_ _ k=>by rw[Be k.1];exact k.2)
theorem qCR (h:Ok (F as S) Q):Ok (rq F as S) Q:=by
 obtain⟨d,S1,e,q⟩:=h;exact⟨d,S1,E6 e,q⟩
theorem qCa (h:Ok (fa ak S) λas S1=>Ok (F as S1) Q):Ok (qN F fa ak S) Q:=qX h
theorem qCL {a b:Ah}(h:Q (.int (a+b)) S):Ok (zB (.int a) (.int b) S) Q:=⟨_,_,rfl,h⟩
theorem nJ {a b:Aa D}(l:a.length+b.length<=br)(h:Q (.lst (a++b)) S):Ok (zB (.lst a) (.lst b) S) Q:=⟨_,_,Be l,h⟩
theorem qCU {a b:Ah}(h:Q (.int (a-b)) S):Ok (zU (.int a) (.int b) S) Q:=⟨_,_,rfl,h⟩
theorem qCQ {a:Ah}(h:Q (.int (-a)) S):Ok (uK (.int a) S) Q:=⟨_,_,rfl,h⟩
theorem qCP {a b:Ah}(l : -(2 ^ 64)<a/\a<2 ^ 64)(h:Q (.int (a*b)) S):Ok (qT (.int a) (.int b) S) Q:=by
 refine⟨_,_,?_,h⟩;unfold qT i2;rw[gF];unfold mM;simp only[l,and_self,Ju,v4,Ds]
theorem qCK {a:Ah}(h:Q (.int (if a<0 then -a else a)) S):Ok (pZ [.int a] S) Q:=⟨_,_,rfl,h⟩
theorem nK {a b:Ah}(l:b≠0/\b.natAbs.log2<9000)(h:Q (.int (a.fdiv b)) S):Ok (gM (.int a) (.int b) S) Q:=by
 refine⟨_,_,?_,h⟩;unfold gM i2;rw[eF];exact Be (Cn l)
theorem qCO {a b:Ah}(l:0<b)(h:Q (.int (a % b)) S):Ok (xX (.int a) (.int b) S) Q:=by
 refine⟨_,_,?_,h⟩;unfold xX i2;simp[l]
theorem qCN {a b:Ah}(l:0<b/\b<1073741824)(h:Q (.int (a/b)) S):Ok (vK (.int a) (.int b) S) Q:=by
 refine⟨_,_,?_,h⟩;unfold vK i2 VN;simp[l]
theorem qCi {a b:Ah}(h:Q (.bl (decide (a<b))) S):Ok (mi (.int a) (.int b) S) Q:=⟨_,_,rfl,h⟩
theorem qCh {a b:Ah}(h:Q (.bl (decide (a<=b))) S):Ok (lj (.int a) (.int b) S) Q:=⟨_,_,rfl,h⟩
theorem qCg {a b:Ah}(h:Q (.bl (decide (b<a))) S):Ok (nj (.int a) (.int b) S) Q:=⟨_,_,rfl,h⟩
theorem qCe {a b:Ah}(h:Q (.bl (decide (b<=a))) S):Ok (qq (.int a) (.int b) S) Q:=⟨_,_,rfl,h⟩
theorem qBW {a b:Ah}(h:Q (.bl (decide (a=b))) S):Ok (ig (.int a) (.int b) S) Q:=⟨_,_,by kernel_rfl!,h⟩
theorem qCj {a b:Ah}(h:Q (.bl (!decide (a=b))) S):Ok (ky (.int a) (.int b) S) Q:=⟨_,_,by kernel_rfl!,h⟩
theorem OF {a:Aa D}{k:Ah}(e:_L.mj a k=Ab d)(h:Q d S):Ok (dk (.tup a) (.int k) S) Q:=⟨d,S,by show _D.uM (_L.mj a k) S=_;rw[e];rfl,h⟩
theorem nM {a:Aa D}{k:Ah}(e:_L.mj a k=Ab d)(h:Q d S):Ok (dk (.lst a) (.int k) S) Q:=⟨d,S,by show _D.uM (_L.mj a k) S=_;rw[e];rfl,h⟩
theorem qCA {a:Aa D}(h:Q (.int a.length) S):Ok (zX [.tup a] S) Q:=⟨_,_,rfl,h⟩
theorem qB9 {a:Aa D}(h:Q (.int a.length) S):Ok (zX [.lst a] S) Q:=⟨_,_,rfl,h⟩
theorem qCF {a:Aa D}(h:Q (.tup a) S):Ok (vJ [.lst a] S) Q:=⟨_,_,rfl,h⟩
theorem qCC {a:Aa D}(h:Q (.lst a) S):Ok (rL [.tup a] S) Q:=⟨_,_,rfl,h⟩
theorem ZK (h:Ok (f ak S) λd S1=>∃ b,d=.bl b/\(b=true->Ok (g ak S1) Q)/\(b=false->Q (.bl false) S1)):Ok (mP f g ak S) Q:=qX (zO h λd S1 ⟨b,e,Y,J⟩=>by
 subst e;cases b with
 |true=>exact Y rfl
 |false=>exact⟨_,_,rfl,J rfl⟩)
theorem qCo {J Y:DO}(h:Ok (f ak S) λd S1=>Ok (J ak S1) λlo U=>Ok (Y ak U) λhi G=>Ok (v_ d lo hi G) Q):Ok (lr f J Y ak S) Q:=qX (zO h λ_ _ k=>qX (zO k λ_ _=>qX))
theorem qCT {a:Aa D}(h:Q (.tup (wA a lo hi)) S):Ok (v_ (.tup a) lo hi S) Q:=⟨_,_,rfl,h⟩
theorem qCS {a:Aa D}(h:Q (.lst (wA a lo hi)) S):Ok (v_ (.lst a) lo hi S) Q:=⟨_,_,rfl,h⟩
theorem qCb {Q:Am Ah->ao->Prop}(h:Q none S):Ok (wV ak S) Q:=⟨_,_,rfl,h⟩
theorem qCc {Q:Am Ah->ao->Prop}(h:Ok (f ak S) λd S1=>∃ k,d=.int k/\Q (Ab k) S1):Ok (xP f ak S) Q:=qX (zO h λ_ _ ⟨_,e,q⟩=>by subst e;exact⟨_,_,rfl,q⟩)
theorem qCZ {m:D->Aa D->ao->az D}(h:Ok (f ak S) λa S1=>ng a S1=Ab T/\Ok (fa ak S1) λas Y=>Ok (m a as Y) Q):Ok (mr T m f fa ak S) Q:=qX (zO h λ_ _ k=>by rw[k.1,Be ba];exact qX k.2)
theorem RJ {a b:D}(e1:lstM a S=Ab xs)(e2:lstM b S=Ab Y)(l:xs.length+Y.length<=br)(h:Q (.lst (xs++Y)) S):Ok (bZ a b S) Q:=⟨_,_,by unfold bZ;rw[e1,e2];exact Be l,h⟩
theorem rQ {d:D}(e:S[i]? = Ab (.lst xs))(l:xs.length<br)(h:Q .non (S.set i (.lst (xs++[d])))):Ok (xZ (.loc i) [d] S) Q:=by
 refine⟨_,_,?_,h⟩;show (match S[i]? with|some (.lst xs)=>(if xs.length<br then az.ok D.non (S.set i (.lst (xs++[d]))) else .bad)|_=>.bad)=_
 rw[e];exact Be l
theorem qBY {t:DT}(h:Ok (t ak S) λb S1=>(b=true->Ok (f ak S1) Q)/\(b=false->Ok (g ak S1) Q)):Ok (pr t f g ak S) Q:=qX (zO h λb S1 k=>by
 cases b with
 |true=>exact k.1 rfl
 |false=>exact k.2 rfl)
variable {Q:As->ao->Prop}{t u:DT}
theorem qCp (h:Ok (f ak S) λd S1=>∃ b,xJ d S1=Ab b/\Q b S1):Ok (cg f ak S) Q:=qX (zO h λd S1 ⟨b,e,k⟩=>by
 rw[e];exact⟨_,_,rfl,k⟩)
theorem qCD (h:Ok (t ak S) λb S1=>Q (!b) S1):Ok (vG t ak S) Q:=qX (zO h λ_ _ k=>⟨_,_,rfl,k⟩)
theorem qCW (h:Q true S):Ok (zQ ak S) Q:=⟨_,_,rfl,h⟩
theorem rS (h:Ok (t ak S) λb S1=>(b=true->Q true S1)/\(b=false->Ok (u ak S1) Q)):Ok (mQ t u ak S) Q:=qX (zO h λb S1 k=>by
 cases b with
 |true=>exact⟨_,_,rfl,k.1 rfl⟩
 |false=>exact k.2 rfl)
theorem cM (h:Ok (t ak S) λb S1=>(b=true->Ok (u ak S1) Q)/\(b=false->Q false S1)):Ok (wG t u ak S) Q:=qX (zO h λb S1 k=>by
 cases b with
 |true=>exact k.1 rfl
 |false=>exact⟨_,_,rfl,k.2 rfl⟩)
theorem mI {xs:Aa D}{a:Ag}(h:a<xs.length):_L.mj xs (a:Ah)=Ab xs[a]:=by
 have e:_L.pq xs.length (a:Ah)=Ab a:=by simp[_L.pq];lia
 simp[_L.mj,e,h]
theorem uY (S:ao)(m:MO):(S++[m])[S.length]? = Ab m:=by simp
theorem KI (S:ao)(m m':MO):(S++[m]).set S.length m'=S++[m']:=by simp
theorem fS (h:S[j]? = Ab (.lst xs)):ng (.loc j) S=Ab "list":=by
 show (match S[j]? with|some (.lst _)=>Ab "list" | some (.dct _)=>Ab "dict" | _=>none)=_
 rw[h]
theorem IV (h:S[j]? = Ab (.lst xs)):lstM (.loc j) S=Ab xs:=by
 show (match S[j]? with|some (.lst xs)=>Ab xs|_=>none)=_
 rw[h]
theorem PB {Q:D->ao->Prop}{a:Aa D}{k:Ag}(h:k<a.length)(q:∀ d∈a,Q d S):Ok (dk (.lst a) (.int (k:Ah)) S) Q:=nM (mI h) (q _ (Nl h))
theorem M1 {Q:Aa D->ao->Prop}(h:Ok (f ak S) λd S1=>∃ ds,xB d=Ab ds/\Q ds S1):Ok (w5 f ak S) Q:=qX (zO h λd S1 ⟨ds,e,k⟩=>⟨ds,S1,by rw[e];rfl,k⟩)
theorem PD {Q:Aa D->ao->Prop}(h:Ok (fa ak S) λas S1=>∃ ds,uN as=Ab ds/\Q ds S1):Ok (xT fa ak S) Q:=qX (zO h λd S1 ⟨ds,e,k⟩=>⟨ds,S1,by rw[e];rfl,k⟩)
theorem ZT (n:Ag)(h:n<=1000000):uN [.int (n:Ah)]=Ab ((Cj n).map λ(i:Ag)=>D.int (i:Ah)):=by
 unfold uN;have : -(2 ^ 62)<=(n:Ah)/\(n:Ah)<2 ^ 62:=⟨by lia,by lia⟩
 refine(Be this).trans ?_;unfold wO;rw[Fa]
 congr 2
 funext i
 rw[Int.zero_add]
theorem qCE {Q:Aa D->ao->Prop}(h:Ok (f ak S) λd S1=>∃ k:Ah,d=.int k/\0<=k/\k<=1000000/\Q ((Cj k.toNat).map λ(i:Ag)=>D.int (i:Ah)) S1):Ok (xT (q8 f qA) ak S) Q:=PD (g9 (zO h λ_ _ ⟨k,e,Y,J,q⟩=>PC ⟨_,by
 have:=ZT k.toNat li;rw[Sj Y] at this;rw[e,this],q⟩))
theorem qAN {k:Ah}(e:k=(n:Ah))(h:n<=1000000):uN [.int k]=Ab ((Cj n).map λ(i:Ag)=>D.int (i:Ah)):=e▸ZT n h
theorem uW {Q:D->ao->Prop}{k:Ah}(e:S[i]? = Ab (.lst xs))(Y:_L.mj xs k=Ab d)(h:Q d S):Ok (dk (.loc i) (.int k) S) Q:=by
 refine⟨d,S,?_,h⟩;show (match S[i]? with|some (.lst xs)=>_D.uM (_L.mj xs k) S|_=>.bad)=_
 rw[e];show _D.uM (_L.mj xs k) S=_;rw[Y];rfl
theorem bI {Q:D->ao->Prop}(e:S[i]? = Ab (.lst xs))(h:Q (.int xs.length) S):Ok (zX [.loc i] S) Q:=by
 refine⟨_,_,?_,h⟩;have Y:Z9 (.loc i) S=Ab xs.length:=by
  show (match S[i]? with|some (.lst xs)=>Ab xs.length|_=>none)=_
  rw[e]
 show (match Z9 (.loc i) S with|some n=>az.ok (D.int n) S|none=>.bad)=_
 rw[Y]
theorem OK {Q:D->ao->Prop}{k:Ag}(e:S[i]? = Ab (.lst xs))(Y:k<xs.length)(J:k<1000000)(h:Q xs[k] (S.set i (.lst (xs.eraseIdx k)))):Ok (b7 (.loc i) [.int (k:Ah)] S) Q:=by
 refine⟨_,_,?_,h⟩;show fM S i (λxs=>if 0<=(k:Ah)/\(k:Ah)<1000000 then (match xs[(k:Ah).toNat]? with|some d=>az.ok d (S.set i (.lst (xs.eraseIdx (k:Ah).toNat)))|none=>.bad) else .bad)=_
 unfold fM;rw[e];show (if 0<=(k:Ah)/\(k:Ah)<1000000 then _ else _)=_
 rw[Be ⟨by lia,by lia⟩,Fa,Ap Y]
theorem RS {Q:Vx->ao->Prop}{n:Ah}(e:S[i]? = Ab (.dct kvs))(Y:kvs.length<br)(h:Q () (S.set i (.dct (vO kvs (.inl n) d)))):Ok (w6 (.loc i) (.int n) d S) Q:=by
 refine⟨_,_,?_,h⟩;show (match S[i]? with|some (.dct kvs)=>(match yZ (.int n) with|some k=>(if kvs.length<br then az.ok () (S.set i (.dct (vO kvs k d))) else .bad)|none=>.bad)|_=>mV (.loc i) (.int n) d S)=_
 rw[e];exact Be Y
theorem Y8 {Q:Vx->ao->Prop}{n:Ah}(e:S[i]? = Ab (.lst xs))(Y:_L.pq xs.length n=Ab j)(h:Q () (S.set i (.lst (xs.set j d)))):Ok (w6 (.loc i) (.int n) d S) Q:=by
 refine⟨_,_,?_,h⟩;simp[w6,mV,e,Y]
theorem XX (h:S[i]? = Ab (.dct kvs)):tU (.loc i) S=Ab kvs:=by
 show (match S[i]? with|some (.dct kvs)=>Ab kvs|_=>none)=_
 rw[h]
theorem OD {Q:D->ao->Prop}{n:Ah}(e:S[i]? = Ab (.dct kvs))(h:Q (.bl (xK kvs (.inl n)).isSome) S):Ok (lO (.int n) (.loc i) S) Q:=⟨_,_,by unfold lO;rw[XX e];rfl,h⟩
theorem OE {Q:D->ao->Prop}{n:Ah}(e:S[i]? = Ab (.dct kvs))(Y:xK kvs (.inl n)=Ab d)(h:Q d S):Ok (mU (.loc i) (.int n) S) Q:=by
 refine⟨d,S,?_,h⟩;unfold mU;rw[XX e];show (match xK kvs (.inl n) with|some d=>az.ok d S|none=>.bad)=_
 rw[Y]
theorem UV (h:ak[i]? = Ab (Ab (.tup xs))):j_ (q9 i) ak S=.ok (none,xs) S:=by
 unfold j_;rw[l9 h];rfl
theorem SR (h:ak[i]? = Ab (Ab (.lst xs))):j_ (q9 i) ak S=.ok (none,xs) S:=by
 unfold j_;rw[l9 h];rfl
theorem SS (h:ak[i]? = Ab (Ab (.loc j)))(e:S[j]? = Ab (.lst xs)):j_ (q9 i) ak S=.ok (Ab (j,.lst xs),xs) S:=by
 unfold j_;rw[l9 h];show (match S[j]? with|some (.lst xs)=>az.ok (Ab (j,MO.lst xs),xs) S|_=>.bad)=_
 rw[e]
theorem qBR (h:n<=1000000):xM (xT (q8 (dC (.int (n:Ah))) qA)) ak S=.ok (none,(Cj n).map λ(i:Ag)=>D.int (i:Ah)) S:=w8 (qX (PD (g9 (o_c (PC ⟨_,ZT n h,_,_,rfl,rfl,rfl⟩)))))
theorem eZ {α:Type}(f:α->β):∀ l:Aa α,l.flatMap (λx=>[f x])=l.map f
 |[]=>rfl
 |x::l=>by rw[Ft,eZ f l];rfl
theorem jL {α:Type}{cb:α->D}{o:Am (Ag × MO)}{fi:m_}{G:DG}{fe:DE}{Q:D->ao->Prop}(xs:Aa α)(val:α->D)(C:qB->ao->Prop)(hi:fi ak S=.ok (o,xs.map cb) S1)(h0:C (xE bw ak) S1)(B:xs.length<=br)(O:∀ ak S,C ak S->nu o S)
  (step:∀ x∈xs,∀ ak S,C ak S->Ok (G (cb x) ak S) λY S1=>Ok (t Y S1) λb U=>b=true/\Ok (fe Y U) λd N=>d=val x/\C Y N) (q:∀ J S',C J S'->Q (.lst (xs.map val)) S'):Ok (zC false bw fi G t (zN fe) ak S) Q:=by
 have L:=eZ val xs;obtain⟨J,S',e,c⟩:=xi (cb:=cb) (o:=o) (g:=G) (t:=t) (k:=zN fe) (λx=>[val x]) C O xs (xE bw ak) S1 [] h0 (by rw[L,Ao];simpa using B) (λx A ak S w E B=>by
  obtain⟨Y,S1,M,b,U,T,rfl,d,N,I,rfl,H⟩:=step x A ak S E;exact⟨Y,S1,true,U,M,T,.inr ⟨rfl,Y,N,mZ I (by simp at B;lia),H⟩⟩)
 rw[L,Iq] at e;exact⟨_,_,pX hi e,q J S' c⟩
theorem ZJ {α:Type}{Q:D->ao->Prop}{l:Aa α}{p:α->As}(h:Q (.bl (l.all p)) S):Ok (mT false [.lst (l.map λx=>.bl (p x))] S) Q:=by
 refine⟨_,_,?_,h⟩;show (match (xB (.lst (l.map λx=>D.bl (p x)))).bind yB with|some Y=>az.ok (D.bl (Y.all id)) S|none=>.bad)=_
 rw[show (xB (.lst (l.map λx=>D.bl (p x)))).bind yB=Ab (l.map p) from XE p l]
 simp only[Iy];rfl
theorem cN {Q:D->ao->Prop}{gg:G2}{a b x y:D}{z:D}(e1:xS mR S a=Ab x)(e2:xS mR S b=Ab y)(e3:gg x y (uS S)=.ok z (uS S))(Y:QH z=true)(h:Q z S):Ok (uU gg a b S) Q:=by
 refine⟨z,S,?_,h⟩;unfold uU;rw[e1,e2];show ZD (gg x y (uS S)) S=_;rw[e3];exact Be Y
theorem FU {f:D->Am D}{xs:Aa D}(h:∀ x∈xs,f x=Ab x):mapO f xs=Ab xs:=by
 induction xs with
 |nil=>rfl
 |cons x xs Y=>simp[mapO,h x (Cf ..),Y λy J=>h y (AT _ J)]
theorem t9 (e:S[i]? = Ab (.lst xs))(h:∀ x∈xs,xS 19 S x=Ab x):xS mR S (.loc i)=Ab (.lst xs):=by
 show (match S[i]? with|some (.lst xs)=>(mapO (xS 19 S) xs).map D.lst|_=>none)=_
 rw[e];show (mapO (xS 19 S) xs).map D.lst=_;rw[FU h];rfl
theorem qCn {Q:qB->ao->Prop}{h:G3}(k:Ok (f ak S) λa S1=>Ok (g ak S1) λb Y=>Ok (h a b d Y) λ_ J=>Q ak J):Ok (ni f g h d ak S) Q:=qX (zO k λ_ _ k=>qX (zO k λ_ _ k=>qX (zO k λ_ _ q=>⟨_,_,rfl,q⟩)))
variable {Q:qB->ao->Prop}
theorem qCk (h:Q (ak.set i (Ab d)) S):Ok (bj i d ak S) Q:=⟨_,_,rfl,h⟩
theorem qBb {xs:Aa D}(h:xs.length=n/\Ok (gs xs ak S) Q):Ok (kb n gs (.tup xs) ak S) Q:=by
 obtain⟨d,S1,e,q⟩:=h.2;exact⟨d,S1,by show (if xs.length=n then gs xs ak S else .bad)=_;rw[Be h.1];exact e,q⟩
theorem qCf (h:Q ak S):Ok (wH [] ak S) Q:=⟨_,_,rfl,h⟩
theorem qCd {t:DG}(h:Ok (t x ak S) λY S1=>Ok (gs xs Y S1) Q):Ok (zD t gs (x::xs) ak S) Q:=qX h
def Wo (P:jd->Prop)(o:jd):Prop:=P o
def ZU (g:DS)(P:jd->Prop):jd->Prop
 |.nx ak S=>P (g ak S)
 |o=>P o
def cD (b:As)(f g:DS):DS:=match b with
 |true=>f
 |false=>g
def qBJ (Q:D->ao->Prop):jd->Prop
 |.rt d S=>Q d S
 |.nx _ S=>Q .non S
 |_=>Ex
def rO {α:Type}(I:Aa α -> qB->ao->Prop)(xs:Aa α)(P:jd->Prop):jd->Prop
 |.nx ak S=>I xs ak S
 |.ct ak S=>I xs ak S
 |.bk ak S=>P (.nx ak S)
 |o=>P o
variable {P:jd->Prop}{sf sg:DS}{fi:DI}{tg:DG}{d:D}
theorem PV (h:Wo (ZU sg P) (sf ak S)):Wo P (qG sf sg ak S):=by
 unfold qG;unfold Wo at h ⊢;cases e:sf ak S <;> rw[e] at h <;> exact h
theorem qAf (R:qB->ao->Prop)(h:∀ Y:jd->Prop,(∀ ak S,R ak S->Wo Y (.nx ak S))->Wo Y (sf ak S))(k:∀ ak S,R ak S->Wo P (sg ak S)):Wo P (qG sf sg ak S):=PV (h _ k)
theorem KU (h:Wo P (sg ak S)):Wo (ZU sg P) (.nx ak S):=h
theorem qBt (h:Wo P (.rt d S)):Wo (ZU sg P) (.rt d S):=h
theorem qCH (h:Wo P (.nx ak S)):Wo P (zR ak S):=h
theorem pD {k:β->ao->jd}(h:Ok r λd S1=>Wo P (k d S1)):Wo P (r.toS ak k):=by
 obtain⟨d,S1,rfl,h⟩:=h;exact h
theorem qAd (h:Ok (f ak S) λd S1=>Ok (tg d ak S1) λY J=>Wo P (.nx Y J)):Wo P (qQ f tg ak S):=pD (zO h λ_ _=>pD)
theorem qCG (h:Ok (f ak S) λ_ S1=>Wo P (.nx ak S1)):Wo P (xG f ak S):=pD h
theorem X4 (h:Ok (f ak S) λd S1=>Wo P (.rt d S1)):Wo P (qW f ak S):=pD h
theorem qCY (h:Ok (fa ak S) λds S1=>∃ a b,ds=[a,b]/\Wo P (.nx ((ak.set i (Ab a)).set j (Ab b)) S1)):Wo P (uO i j fa ak S):=pD (zO h λ_ _ ⟨_,_,e,q⟩=>by subst e;exact q)
theorem qCq (h:Ok (t ak S) λb S1=>Wo P (cD b sf sg ak S1)):Wo P (fj t sf sg ak S):=pD (zO h λb S1 q=>by cases b <;> exact q)
theorem w_t (h:Wo P (sf ak S)):Wo P (cD true sf sg ak S):=h
theorem w_f (h:Wo P (sg ak S)):Wo P (cD false sf sg ak S):=h
theorem qCX {b:As}(h:Wo P (cD b sg sf ak S)):Wo P (cD (!b) sf sg ak S):=by cases b <;> exact h
theorem wK {p:Prop}[Hy p](h1:p->Wo P (sf ak S))(h2:¬ p->Wo P (sg ak S)):Wo P (cD (decide p) sf sg ak S):=by
 by_cases h:p
 .rw[Cn h];exact h1 h
 .rw[Cq h];exact h2 h
theorem qAg (h:Ok (fi ak S) λds S1=>Wo P (xN tg sf ds ak S1)):Wo P (wY fi tg sf ak S):=pD h
theorem yY {α:Type}{cb:α->D}(I:Aa α -> qB->ao->Prop)(turn:∀ x xs ak S,I (x::xs) ak S->Ok (tg (cb x) ak S) λU S1=>Wo (rO I xs P) (sf U S1))(G:∀ ak S,I [] ak S->Wo P (.nx ak S)) :
  ∀ {xs:Aa α} {ak:qB} {S:ao},I xs ak S->Wo P (xN tg sf (xs.map cb) ak S)
 |[],ak,S,h=>G ak S h
 |x::xs,ak,S,h=>by
  obtain⟨U,S1,C,Y⟩:=turn x xs ak S h;rw[Cg,xN];unfold Wo at Y ⊢;simp only[C,az.toS];cases N:sf U S1 with
  |nx J O=>rw[N] at Y;exact yY I turn G Y
  |ct J O=>rw[N] at Y;exact yY I turn G Y
  |bk J O=>rw[N] at Y;exact Y
  |rt d2 O=>rw[N] at Y;exact Y
  |ex B L J O=>rw[N] at Y;exact Y
  |bad=>rw[N] at Y;exact Y
theorem fU (I:Aa D->qB->ao->Prop)(turn:∀ x xs ak S,I (x::xs) ak S->Ok (tg x ak S) λY S1=>Wo (rO I xs P) (sf Y S1))(J:∀ ak S,I [] ak S->Wo P (.nx ak S)){xs:Aa D}{ak:qB}{S:ao}(h:I xs ak S):Wo P (xN tg sf xs ak S):=by
 have:=yY (cb:=id) I turn J h
 rwa [Qw] at this
def _f (I:Ag->qB->ao->Prop)(n:Ag)(P:jd->Prop):jd->Prop
 |.nx ak S=>∃ m,m<n/\I m ak S
 |.ct ak S=>∃ m,m<n/\I m ak S
 |.bk ak S=>P (.nx ak S)
 |o=>P o
theorem dM (I:Ag->qB->ao->Prop)(turn:∀ n ak S,I n ak S->Ok (t ak S) λb S1=>(b=true->Wo (_f I n P) (sf ak S1))/\(b=false->Wo P (.nx ak S1))){n:Ag}(B:n<big)(h:I n ak S):Wo P (vS t sf ak S):=by
 have O:∀ N n ak S,n<N->I n ak S->Wo P (yI t sf N ak S):=by
  intro N
  induction N with
  |zero=>intro n ak S h;lia
  |succ N C =>
   intro n ak S h E;obtain⟨b,S1,A,L,H⟩:=turn n ak S E;unfold yI;rw[A];cases b with
   |false=>exact H rfl
   |true =>
    have k:=L rfl;unfold Wo at k ⊢;simp only[az.toS,Ds];cases G:sf ak S1 with
    |nx Y U=>rw[G] at k;obtain⟨m,T,J⟩:=k;exact C m Y U li J
    |ct Y U=>rw[G] at k;obtain⟨m,T,J⟩:=k;exact C m Y U li J
    |bk Y U=>rw[G] at k;exact k
    |rt d2 U=>rw[G] at k;exact k
    |ex M w Y U=>rw[G] at k;exact k
    |bad=>rw[G] at k;exact k
 exact O big n ak S B h
theorem lA {I:Ag->qB->ao->Prop}(m:Ag)(hm:m<n)(h:I m ak S):Wo (_f I n P) (.nx ak S):=⟨m,hm,h⟩
theorem y9 {α:Type}{I:Aa α -> qB->ao->Prop}{xs:Aa α}(h:I xs ak S):Wo (rO I xs P) (.nx ak S):=h
theorem V6 {α:Type}{I:Aa α -> qB->ao->Prop}{xs:Aa α}(h:Wo P (.rt d S)):Wo (rO I xs P) (.rt d S):=h
theorem z9 {Q:D->ao->Prop}(hs:yX n ds=ak)(h:Wo (qBJ Q) (sf ak S)):Ok (qL n sf ds S) Q:=by
 subst hs;unfold qL;unfold Wo at h;cases e:sf (yX n ds) S <;> rw[e] at h <;> first|exact⟨_,_,rfl,h⟩|exact Aq h
end
abbrev Pt:=Ah × Ah
variable {ps:Aa Pt}
noncomputable def ax (p:Pt):D:=.tup [.int p.1,.int p.2]
def qS (l:Aa Pt):D:=.tup (l.map ax)
def kP (p:Pt):Aa Ah:=[p.1,p.2]
def pK (k:Aa Ah):Pt:=(k.getD 0 0,k.getD 1 0)
theorem kY (ps:Aa Pt):ps.map ax=(ps.map kP).map io:=by
 rw[Dh];rfl
def rg (p q:Pt):As:=_H.lexLt [p.1,p.2] [q.1,q.2]
abbrev Up (l:Aa Pt):Prop:=l.Pairwise λp q=>rg p q=true
def xV (ps:Aa Pt):Aa Pt:=(_S.gz _H.lexLt (ps.map kP)).map pK
theorem kS {ks:Aa (Aa Ah)}(h:∀ k∈ks,k∈ps.map kP):ks.map io=(ks.map pK).map ax/\(ks.map pK).map kP=ks:=by
 have e:∀ k∈ks,kP (pK k)=k:=λk Y=>by
  obtain⟨p,_,rfl⟩:=Au.mp (h k Y);rfl
 have Q:(ks.map pK).map kP=ks:=by
  rw[Dh]
  conv=>rhs;rw[<- Qw ks]
  exact Ek e
 exact⟨by rw[kY,Q],Q⟩
theorem c9 {p q:Pt}(h:kP p=kP q):p=q:=by
 injection h with Y Q
 injection Q with Q _
 exact Hj Y Q
theorem l8 (ps:Aa Pt):∀ k∈_S.gz _H.lexLt (ps.map kP),k∈ps.map kP:=λk Q=>(_S.xF _S.xD k _).mp Q
theorem vZ (ps:Aa Pt)(p:Pt):p∈xV ps↔p∈ps:=by
 unfold xV;constructor
 .intro h
  obtain⟨k,Q,rfl⟩:=Au.mp h;obtain⟨q,Y,rfl⟩:=Au.mp (l8 ps k Q);exact Y
 .intro h
  exact Au.mpr ⟨kP p,(_S.xF _S.xD _ _).mpr (Au.mpr ⟨p,h,rfl⟩),rfl⟩
theorem fR (ps:Aa Pt):Up (xV ps):=by
 have h:=_S.yW _S.xD (ps.map kP);rw[<- (kS (l8 ps)).2,Dj] at h;exact h
theorem c7 {K:Type}(lt':K->K->As)(x:K):∀ l:Aa K,(_S.jG lt' x l).length<=l.length+1
 |[]=>by simp[_S.jG]
 |y::l=>by
  have:=c7 lt' x l;unfold _S.jG
  split
  .simp
  .split <;> simp <;> fin2
theorem dH {K:Type}(lt':K->K->As):∀ l:Aa K,(_S.gz lt' l).length<=l.length
 |[]=>by simp[_S.gz]
 |x::l=>by
  have Y:=c7 lt' x (_S.gz lt' l);have Q:=dH lt' l;rw[_S.gz,Cb];fin2
theorem KO (ps:Aa Pt):(xV ps).length<=ps.length:=by
 unfold xV;rw[Ao];exact Cw (dH _ _) ba
def pB (ps:Aa Pt):Aa Pt:=(_S.wZ _H.lexLt (ps.map kP)).map pK
theorem oR (ps:Aa Pt):∀ k∈_S.wZ _H.lexLt (ps.map kP),k∈ps.map kP:=λk Q=>(_S.yH _).mem_iff.mp Q
theorem CK (ps:Aa Pt):(pB ps).map kP=_S.wZ _H.lexLt (ps.map kP):=(kS (oR ps)).2
theorem uG (ps:Aa Pt):(pB ps).Perm ps:=by
 have h:=(_S.yH (lt':=_H.lexLt) (ps.map kP)).map pK;rw[Dh] at h;have e:ps.map (pK∘kP)=ps:=by
  conv=>rhs;rw[<- Qw ps]
  exact Ek λq _=>rfl
 rw[e] at h;exact h
theorem oS (nd:ps.Nodup):Up (pB ps):=by
 have h:=_S.gC _S.xD (ps.map kP);unfold _S.Nf at h;rw[<- CK,Dj] at h;have Q:(pB ps).Nodup:=(uG ps).nodup_iff.mpr nd;refine(List.pairwise_and_iff.mpr ⟨h,Q⟩).imp λ{a b} ⟨J,Y⟩=>?_;rcases _S.xD.tri J with z|z
 .exact absurd (c9 z).symm Y
 .exact z
theorem KL (ps:Aa Pt)(U:ps.length<=100000):uB (ps.map ax)=Ab ((pB ps).map ax):=by
 unfold pB;rw[<- (kS (oR ps)).1];unfold uB;cases ps with
 |nil =>
  have J:_S.wZ _S.r_ [] = []:=sB;have Q:_S.wZ _H.lexLt [] = []:=sB;show (if ([] : Aa Ah).length<=100000 then Ab ((_S.wZ _S.r_ []).map D.int) else none)=_
  rw[J];show Ab [] = Ab ((_S.wZ _H.lexLt []).map io);rw[Q];rfl
 |cons p ps =>
  have G:wR ((p::ps).map ax)=none:=rfl;rw[G,kY,uI];have Y:(((p::ps).map kP).all λk=>!k.isEmpty)=true:=by
   rw[Iy,Bs];intro q _;rfl
  exact Be (by rw[Y,Cn (by rw[Ao];exact U)];rfl)
theorem qCl {Q:D->ao->Prop}{p:Pt}{S:ao}(h:Q (.int p.1) S):Ok (dk (ax p) (.int 0) S) Q:=⟨_,_,rfl,h⟩
theorem qCm {Q:D->ao->Prop}{p:Pt}{S:ao}(h:Q (.int p.2) S):Ok (dk (ax p) (.int 1) S) Q:=⟨_,_,rfl,h⟩
theorem qCV {Q:qB->ao->Prop}{ak:qB}{S:ao}{p:Pt}(h:Ok (gs [.int p.1,.int p.2] ak S) Q):Ok (kb 2 gs (ax p) ak S) Q:=qBb ⟨rfl,h⟩
theorem ZM {Q:D->ao->Prop}{S:ao}(l:ps.length<=100000)(h:Q (.lst ((pB ps).map ax)) S):Ok (yM [.lst (ps.map ax)] S) Q:=by
 refine⟨_,_,?_,h⟩;show (match (Ab (ps.map ax)).bind uB with|some Y=>az.ok (D.lst Y) S|none=>.bad)=_
 rw[Ve,KL ps l]
theorem bK (ps:Aa Pt):pl wM (.lst (ps.map ax))=true:=by
 show ((ps.map ax).all (pl 29))=true;rw[Iy];exact Bs.mpr λp _=>rfl
theorem pY:∀ (a b:Aa Pt),zW (a.map ax) (b.map ax)=decide (a=b)
 |[],[]=>rfl
 |[],_::_=>by simp[zW]
 |_::_,[]=>by simp[zW]
 |x::a,y::b=>by
  show ((x.1 == y.1&&(x.2 == y.2&&true))&&zW (a.map ax) (b.map ax))=_;rw[pY a b,Iu];simp[Prod.ext_iff,and_assoc]
theorem OA {Q:D->ao->Prop}{a b:Aa Pt}{S:ao}(h:Q (.bl (decide (a=b))) S):Ok (ig (.lst (a.map ax)) (.lst (b.map ax)) S) Q:=by
 refine⟨_,_,?_,h⟩;unfold ig;rw[bK,bK];show az.ok (D.bl (zW (a.map ax) (b.map ax))) S=_;rw[pY]
theorem TV {S:ao}{a:Ag}(h:S[a]? = Ab (.lst xs)):tE (.loc a) S=Ab xs:=by
 show (match S[a]? with|some (.lst xs)=>Ab xs|_=>none)=_
 rw[h]
def fy (B:Ah)(q:Pt):Prop:=-B<=q.1/\q.1<=B /\ -B<=q.2/\q.2<=B
instance (B:Ah)(q:Pt):Hy (fy B q):=by unfold fy;exact inferInstance
structure qf (M:Ag)(l:Aa Pt):Prop where
 ne:l≠[]
 len:l.length<=M
 up:Up l
 box:∀ q∈l,fy 1000 q
theorem wJ {l:Aa Pt}(h:Up l):l.Nodup:=h.imp λ{a b} h e=>by
 subst e;rw[show rg a a=false from _S.xD.irr _] at h
 cases h
theorem GX {M:Ag}(J:ps≠[])(Q:ps.length<=M)(nd:ps.Nodup)(U:∀ q∈ps,fy 1000 q):qf M (pB ps):=by
 have p:=uG ps;refine⟨λz=>?_,by rw[p.length_eq];exact Q,oS nd,λq Y=>U q (p.mem_iff.mp Y)⟩
 rw[z] at p;exact J p.symm.eq_nil
def u7 (S:ao)(p:Ag):Prop:=∃ v f:Ah,S[p]? = Ab (.lst [.int v,.int f])
theorem oB {S:ao}(h:u7 S p)(e:S<+:S'):u7 S' p:=by
 obtain⟨Y,J,Q⟩:=h;obtain⟨r,rfl⟩:=e;exact⟨Y,J,by rw[Bn (Ba.mp Q).1];exact Q⟩
structure Kp (p:Ag)(S S':ao):Prop where
 pen:u7 S' p
 len:S.length<=S'.length
 same:∀ m,m<S.length->m≠p->S'[m]? = S[m]?
theorem Kp.trans {S Q:ao}(a:Kp p S S1)(b:Kp p S1 Q):Kp p S Q:=⟨b.pen,Cw a.len b.len,λm J Y=>(b.same m (Bk J a.len) Y).trans (a.same m J Y)⟩
theorem YB {S:ao}(h:u7 S p):p<S.length:=by
 obtain⟨v,f,e⟩:=h;exact(Ba.mp e).1
theorem Kp.pre {S:ao}(h:u7 S p)(e:S<+:S'):Kp p S S':=⟨oB h e,e.length_le,λm Q _=>(Uv.mp e m Q).trans (Ap Q).symm⟩
theorem Kp.set {j:Ag}{S:ao}(h:Kp p S S')(Y:S.length<=j)(m:MO)(hp:p≠j):Kp p S (S'.set j m):=by
 obtain⟨v,f,e⟩:=h.pen;exact⟨⟨v,f,by rw[Dd (Fv hp)];exact e⟩,by rw[Wc];exact h.len,λi hi Q=>by rw[Dd om];exact h.same i hi Q⟩
end _D
local macro_rules|`(tactic|array_get_dec)=>`(tactic| first | (with_reducible first | apply _D.PV | apply _D.KU | apply _D.qAd | apply _D.o_2 | apply _D.o_c | apply _D.g9 | apply _D.PC | apply _D.qCL | apply _D.qCU | apply _D.OM | apply _D.OH | apply _D.RK | apply _D.qCa | apply _D.qCR | apply _D.qCp | apply _D.qCD | apply _D.qCq | apply _D.w_t | apply _D.w_f | apply _D.qCX | apply _D.qCH | apply _D.qCG | apply _D.X4 | apply _D.qBt | apply _D.qCY | apply _D.qAg | apply _D.qCi | apply _D.qCh | apply _D.qCg | apply _D.qCe | apply _D.qBW | apply _D.qCj | apply _D.o_1 | apply _D.qCQ | apply _D.qCA | apply _D.qB9 | apply _D.qCF | apply _D.qCC | apply _D.qCB | apply _D.qCo | apply _D.qCT | apply _D.qCS | apply _D.qCb | apply _D.qCc | apply _D.qCZ | apply _D.qCM | apply _D.qBb | apply _D.qCd | apply _D.qCf | apply _D.qCW | apply _D.qCK | apply _D.qCl | apply _D.qCm | apply _D.qCV | apply _D.qCn | apply _D.M1 | apply _D.qCE) | ((with_reducible apply _D.o_v); exact rfl) | ((with_reducible apply _D.qCk); dsimp only [List.set_cons_succ, List.set_cons_zero]) | ((with_reducible (first | apply _D.qCP | apply _D.qCO | apply _D.qCN)); fin2) | ((with_reducible apply And.intro); (first | exact rfl | exact Nat.le_of_ble_eq_true rfl)) | ((with_reducible apply Exists.intro); (with_reducible apply And.intro); exact rfl) | ((with_reducible apply Exists.intro); (with_reducible apply Exists.intro); (with_reducible apply And.intro); exact rfl; dsimp only [List.set_cons_succ, List.set_cons_zero]) | ((with_reducible apply Exists.intro); (with_reducible apply Exists.intro); (with_reducible apply Exists.intro); (with_reducible apply And.intro); exact rfl; dsimp only [List.set_cons_succ, List.set_cons_zero]))
local macro_rules|`(tactic|rfl')=>`(tactic| repeat array_get_dec)
namespace _D
theorem o7 {Q:D->ao->Prop}{J U Y:DE}{S:ao}{a b c:Ah}(h1:J ak S=.ok (.int a) S)(h2:U ak S=.ok (.int b) S)(h3:Y ak S=.ok (.int c) S)(q:Q (.bl (decide (a<=b/\b<=c))) S):Ok (yC lj lj J U Y ak S) Q:=by
 refine⟨_,_,?_,q⟩;unfold yC;rw[h1,az.bind_ok,h2,az.bind_ok];show (match xJ (.bl (decide (a<=b))) S with|some true=>(Y ak S).bind λw G=>lj (.int b) w G|some false=>az.ok (.bl (decide (a<=b))) S|none=>.bad)=_
 by_cases h:a<=b
 .rw[Cn h]
  show (Y ak S).bind _=_;rw[h3];simp only[h,true_and];rfl
 .rw[Cq h,Cq λz=>h z.1]
  rfl
theorem O1 (a b:Aa Ah)(S:ao):lP (io a) (io b) S=.ok (.bl (_H.lexLt a b)) S:=by
 unfold lP io;simp only[b8]
theorem AF (ks Q:Aa (Aa Ah)):u6 (ks.map io) (Q.map io)=(ks.zip Q).map λp=>D.tup [io p.1,io p.2]:=by
 unfold u6
 induction ks generalizing Q with
 |nil=>rfl
 |cons k ks Y =>
  cases Q with
  |nil=>rfl
  |cons m Q=>exact congrArg (_::·) (Y Q)
theorem AQ (xs:Aa D):wA xs (Ab 1) none=xs.drop 1:=by
 unfold wA;have Y:_H.cz xs.length 0 (Ab 1)=min 1 xs.length:=rfl;have Q:_H.cz xs.length xs.length none=xs.length:=rfl;rw[Y,Q];cases xs with
 |nil=>rfl
 |cons x r=>simp
theorem XN (xs:Aa D)(n:Ag)(h:n<=xs.length):wA xs (Ab (n:Ah)) none=xs.drop n:=by
 unfold wA;have Y:_H.cz xs.length xs.length none=xs.length:=rfl;have Q:_H.cz xs.length 0 (Ab (n:Ah))=min n xs.length:=by
  show (if (n:Ah)<0 then ((n:Ah)+(xs.length:Ah)).toNat else min (n:Ah).toNat xs.length)=_
  rw[Bc li,Fa]
 rw[Y,Q,Ry h];exact Mf (by rw[Kz];exact Ax _)
def sd (p q:Pt):Ah:=(p.1-q.1)*(p.1-q.1)+(p.2-q.2)*(p.2-q.2)
noncomputable def vE:Aa Pt->Aa (Pt × Pt)
 |[]=>[]
 |p::Q=>Q.map (λq=>(p,q))++vE Q
theorem WZ {β γ:Type}{l:Aa β}{f:β->γ}(nd:(l.map f).Nodup){x y:β}(J:x∈l)(Y:y∈l)(e:f x=f y):x=y:=by
 obtain⟨a,Q,rfl⟩:=Co.mp J;obtain⟨b,U,rfl⟩:=Co.mp Y;have:a=b:=(Qk nd (h₀:=by simpa using Q) (h₁:=by simpa using U)).mp (by simpa using e)
 subst this;rfl
theorem L5 {S:ao}{j:Ag}(h:S[j]? = Ab (.lst xs))(Q:xs.length<br)(d:D):xZ (.loc j) [d] S=.ok .non (S.set j (.lst (xs++[d]))):=w8 (rQ h Q ⟨rfl,rfl⟩)
theorem YE {S Y:ao}(h:∀ m,m<S.length->Y[m]? = S[m]?):S<+:Y:=by
 rw[Uv];intro i Q;rw[h i Q,Ap Q]
theorem VH {l:Aa Pt}{x:Pt × Pt}(h:x∈vE l):x.1∈l/\x.2∈l:=by
 induction l with
 |nil=>simp[vE] at h
 |cons p l Q =>
  simp only[vE,Bp,Au] at h;rcases h with⟨q,Y,rfl⟩|h
  .exact⟨Cf ..,AT _ Y⟩
  .exact⟨AT _ (Q h).1,AT _ (Q h).2⟩
end _D
namespace _K
open _D
theorem YX (b:As)(S:ao):xJ (.bl b) S=Ab b:=rfl
theorem uf (i:Ah)(S:ao):xJ (.int i) S=Ab (i != 0):=rfl
theorem ue (C:Ah->Ah->As)(f:Ah->Ah->D)(i j:Ah)(S:ao):i2 C f (.int i) (.int j) S=if C i j=true then .ok (f i j) S else .bad:=rfl
theorem vB (i j:Ah)(S:ao):ig (.int i) (.int j) S=.ok (.bl (decide (i=j))) S:=by kernel_rfl!
theorem iL (i j:Ah)(S:ao)(h : -(2 ^ 64)<i/\i<2 ^ 64):qT (.int i) (.int j) S=.ok (.int (i*j)) S:=by
 unfold qT i2;rw[gF];unfold mM;simp only[h,and_self,Ju,v4,Ds]
theorem hX (i j:Ah)(S:ao):zB (.int i) (.int j) S=.ok (.int (i+j)) S:=rfl
theorem lQ (i j:Ah)(S:ao)(h:0<j):xX (.int i) (.int j) S=.ok (.int (i % j)) S:=by
 unfold xX i2;simp[h]
theorem F0 (i j:Ah)(S:ao)(h:0<j/\j<1073741824):vK (.int i) (.int j) S=.ok (.int (i/j)) S:=by
 unfold vK i2 VN;simp[h]
theorem oA (d:D)(S:ao):ZP (.rt d S)=.ok d S:=rfl
theorem o9 (e:qB)(S:ao):ZP (.nx e S)=.ok .non S:=rfl
theorem ug (c:Ac)(x:D)(e:qB)(S:ao):ZP (.ex c x e S)=.ex c x S:=rfl
theorem ud (i j:Ag)(ak:qB)(S:ao)(x y:D):cR i j ak S [x,y]=.nx ((ak.set i (Ab x)).set j (Ab y)) S:=rfl
theorem uj (x:Aa D):xB (.lst x)=Ab x:=rfl
theorem uh (x:Aa D):xB (.tup x)=Ab x:=rfl
end _K
open _D _K
namespace _K
open _L _D
noncomputable def top (i:Ag):Fz:=Uk.main.body.getD i (.Pass ⟨0,0,0,0⟩)
structure Cl where
 (FarError NoPoint NoLot NoNumber NoCircle:Af)
def QN (c:Cl):Aa Af:=[c.NoPoint,c.NoLot,c.NoNumber,c.NoCircle]
def L9 (c:Cl):Aa Ac:=[.ref c.NoPoint,.ref c.NoLot,.ref c.NoNumber,.ref c.NoCircle]
noncomputable abbrev qr (c:Cl):Aa (Aw × Af):=[("FarError",c.FarError),("NoPoint",c.NoPoint),("NoLot",c.NoLot),("NoNumber",c.NoNumber),("NoCircle",c.NoCircle)]
noncomputable abbrev sy (c:Cl):Aa (Aw × Af):=[("NoPoint",c.NoPoint),("NoLot",c.NoLot),("NoNumber",c.NoNumber),("NoCircle",c.NoCircle)]
noncomputable abbrev tj:Aa (Aw × Ah):=[("LEAST_NUMBER",-1000),("MOST_NUMBER",1000),("MOST_POINTS",40)]
noncomputable abbrev bl:Aa Aw:=["ValueError","abs","all","bool","int","isinstance","len","list","range","set","sorted","tuple","zip"]
noncomputable abbrev tab:Aa (Aw × Ag × Aa Aw):=[(("is_whole" : Aw),(7:Ag),[("thing" : Aw)]),(("is_within" : Aw),(8:Ag),[("thing" : Aw),("least" : Aw),("most" : Aw)]),(("is_rising" : Aw),(9:Ag),[("some" : Aw)]),(("need_within" : Aw),(10:Ag),[("thing" : Aw),("least" : Aw),("most" : Aw)]),(("is_point" : Aw),(15:Ag),[("thing" : Aw)]),(("is_lot" : Aw),(16:Ag),[("thing" : Aw)]),(("need_point" : Aw),(17:Ag),[("thing" : Aw)]),(("need_lot" : Aw),(18:Ag),[("thing" : Aw)]),(("far_between" : Aw),(19:Ag),[("one" : Aw),("other" : Aw)]),(("far_of" : Aw),(20:Ag),[("one" : Aw),("other" : Aw)]),(("above_root" : Aw),(22:Ag),[("number" : Aw)]),(("sum_ways" : Aw),(23:Ag),[("number" : Aw)]),(("primes_in" : Aw),(24:Ag),[("number" : Aw)]),(("points_by_primes" : Aw),(25:Ag),[("primes" : Aw)]),(("circle_points" : Aw),(26:Ag),[("number" : Aw)]),(("is_sum" : Aw),(27:Ag),[("number" : Aw)]),(("on_circle" : Aw),(28:Ag),[("number" : Aw)]),(("circle" : Aw),(30:Ag),[("number" : Aw)]),(("greatest_common" : Aw),(31:Ag),[("one" : Aw),("other" : Aw)]),(("fraction" : Aw),(32:Ag),[("top" : Aw),("bottom" : Aw)]),(("round_of" : Aw),(33:Ag),[("one" : Aw),("two" : Aw),("three" : Aw)]),(("slant" : Aw),(34:Ag),[("point" : Aw),("one" : Aw),("other" : Aw)]),(("round_groups" : Aw),(35:Ag),[("one" : Aw),("other" : Aw),("points" : Aw)]),(("pairs_and_behind" : Aw),(36:Ag),[("lot" : Aw)]),(("is_round" : Aw),(37:Ag),[("lot" : Aw)]),(("round_fours" : Aw),(38:Ag),[("lot" : Aw)]),(("first_round" : Aw),(39:Ag),[("lot" : Aw)]),(("turned_about" : Aw),(41:Ag),[("lot" : Aw)]),(("mirrored" : Aw),(42:Ag),[("lot" : Aw)]),(("_law_cell" : Aw),(44:Ag),[("_law_script" : Aw),("_law_k" : Aw)]),(("_law_pen" : Aw),(45:Ag),[("_law_cell_here" : Aw)]),(("_law_draw" : Aw),(46:Ag),[("_law_pen_here" : Aw),("_law_many" : Aw)]),(("_law_circle" : Aw),(47:Ag),[("_law_number" : Aw)]),(("_law_rich" : Aw),(48:Ag),[("_law_pen_here" : Aw),("_law_most" : Aw)]),(("_law_lot" : Aw),(49:Ag),[("_law_pen_here" : Aw),("_law_most" : Aw)]),(("_law_combos" : Aw),(50:Ag),[("_law_some" : Aw),("_law_n" : Aw)]),(("_law_circle_right" : Aw),(51:Ag),[("_law_pen_here" : Aw),("_law_number" : Aw)]),(("law" : Aw),(52:Ag),[("_law_script" : Aw)])]
abbrev Txt (K:Aj)(Q:ai)(c:Cl):Prop:=zn K Q top tab bl (qr c) (sy c) (L9 c) (QN c) tj
abbrev R4:Aa Aw:=[]
abbrev vc (a:DE):=q8 a qA
abbrev vd (a b:DE):=q8 a (vc b)
abbrev vf (a b c:DE):=q8 a (vd b c)
abbrev vg (a b c d:DE):=q8 a (vf b c d)
abbrev ic (i:Int):DE:=dC (.int i)
abbrev lx:DS:=qW (mP (qN kF (vd (q9 0) (dC (.ty "int")))) (U3 (qN kF (vd (q9 0) (dC (.ty "bool"))))))
@[irreducible] def jh:DF:=sh (qL 1 lx)
theorem pJ:jh=qL 1 lx:=by delta jh;exact zH _
abbrev kn:DS:=qW (mP (qH 1 jh (vc (q9 0))) (yC lj lj (q9 1) (q9 0) (q9 2)))
@[irreducible] def e_:DF:=sh (qL 3 kn)
theorem kO:e_=qL 3 kn:=by delta e_;exact zH _
abbrev ko:DS:=qW (qN (mT false) (vc (zC false [none,none] (xM (QR (vd (q9 0) (lr (q9 0) (xP (ic 1)) wV)))) (kb 2 (zD (bj 0) (zD (bj 1) wH))) zQ (zN (d2 lP (q9 0) (q9 1))))))
@[irreducible] def gh:DF:=sh (qL 1 ko)
theorem kN:gh=qL 1 ko:=by delta gh;exact zH _
abbrev iy (c:Cl):DS:=fj (vG (cg (qH 3 e_ (vf (q9 0) (q9 1) (q9 2))))) dG zR
@[irreducible] def b_ (c:Cl):DF:=sh (qL 3 (iy c))
theorem jC (c:Cl):b_ c=qL 3 (iy c):=by delta b_;exact zH _
abbrev lz:DS:=qG (fj (mQ (vG (cg (qN kF (vd (q9 0) (dC (.ty "tuple")))))) (cg (d2 ky (qN zX (vc (q9 0))) (ic 2)))) (qW (dC (.bl false))) zR) (qW (qN (mT false) (vc (zC false [none] (j_ (q9 0)) (bj 0) zQ (zN (qH 3 (rq e_) (vf (q9 0) (dC (.int (-1000))) (ic 1000))))))))
@[irreducible] def fw:DF:=sh (qL 1 lz)
theorem pH:fw=qL 1 lz:=by delta fw;exact zH _
abbrev nz:DS:=qG (fj (mQ (vG (cg (qN kF (vd (q9 0) (dC (.ty "tuple")))))) (vG (cg (yC lj lj (ic 1) (qN zX (vc (q9 0))) (ic 40))))) (qW (dC (.bl false))) zR) (qW (mP (qN (mT false) (vc (zC false [none] (j_ (q9 0)) (bj 0) zQ (zN (qH 1 (rq fw) (vc (q9 0))))))) (qH 1 gh (vc (q9 0)))))
@[irreducible] def il:DF:=sh (qL 1 nz)
theorem fZ:il=qL 1 nz:=by delta il;exact zH _
abbrev jt (c:Cl):DS:=fj (vG (cg (qH 1 fw (vc (q9 0))))) dG zR
@[irreducible] def bv (c:Cl):DF:=sh (qL 1 (jt c))
theorem jW (c:Cl):bv c=qL 1 (jt c):=by delta bv;exact zH _
abbrev lv (c:Cl):DS:=fj (vG (cg (qH 1 il (vc (q9 0))))) dG zR
@[irreducible] def cx (c:Cl):DF:=sh (qL 1 (lv c))
theorem pM (c:Cl):cx c=qL 1 (lv c):=by delta cx;exact zH _
abbrev ja:DS:=qG (qQ (d2 zU (d2 dk (q9 0) (ic 0)) (d2 dk (q9 1) (ic 0))) (bj 2)) (qG (qQ (d2 zU (d2 dk (q9 0) (ic 1)) (d2 dk (q9 1) (ic 1))) (bj 3)) (qW (d2 zB (d2 qT (q9 2) (q9 2)) (d2 qT (q9 3) (q9 3)))))
@[irreducible] def eh:DF:=sh (qL 4 ja)
theorem jA:eh=qL 4 ja:=by delta eh;exact zH _
abbrev n_ (c:Cl):DS:=qG (xG (qH 1 (bv c) (vc (q9 0)))) (qG (xG (qH 1 (bv c) (vc (q9 1)))) (qW (qH 2 eh (vd (q9 0) (q9 1)))))
@[irreducible] def jw (c:Cl):DF:=sh (qL 2 (n_ c))
theorem fY (c:Cl):jw c=qL 2 (n_ c):=by delta jw;exact zH _
abbrev ju:DS:=qW (d2 c6 (ic 1) (d2 vK (d2 zB (U2 "int" rM (q9 0)) (ic 1)) (ic 2)))
@[irreducible] def ft:DF:=sh (qL 1 ju)
theorem jV:ft=qL 1 ju:=by delta ft;exact zH _
abbrev ls (c:Cl):DS:=qG (xG (qH 3 (b_ c) (vf (q9 0) (ic 0) (d2 gN (ic 10) (ic 9))))) (qG (qQ (u9 qA) (bj 1)) (qG (qQ (ic 0) (bj 2)) (qG (qQ (qH 1 ft (vc (q9 0))) (bj 3)) (qG (vS (cg (d2 lj (q9 2) (q9 3))) (qG (qQ (d2 zB (d2 qT (q9 2) (q9 2)) (d2 qT (q9 3) (q9 3))) (bj 4)) (qG (fj (cg (d2 ig (q9 4) (q9 0))) (xG (mr "list" xZ (q9 1) (vc (zA (vd (q9 2) (q9 3)))))) zR) (fj (cg (d2 nj (q9 4) (q9 0))) (wQ 3 zU (ic 1)) (wQ 2 uT (ic 1)))))) (qW (q9 1))))))
@[irreducible] def fv (c:Cl):DF:=sh (qL 5 (ls c))
theorem pO (c:Cl):fv c=qL 5 (ls c):=by delta fv;exact zH _
abbrev fz:DS:=qG (qQ eR (bj 1)) (qG (qQ (q9 0) (bj 2)) (qG (qQ (ic 2) (bj 3)) (qG (vS (cg (d2 lj (d2 qT (q9 3) (q9 3)) (q9 2))) (fj (cg (d2 ig (d2 xX (q9 2) (q9 3)) (ic 0))) (qG (qQ (d2 zB (mr "dict" kG (q9 1) (vd (q9 3) (ic 0))) (ic 1)) (ni (q9 1) (q9 3) w6)) (wQ 2 vK (q9 3))) (wQ 3 uT (pr (cg (d2 ig (q9 3) (ic 2))) (ic 1) (ic 2))))) (qG (fj (cg (d2 nj (q9 2) (ic 1))) (qQ (d2 zB (mr "dict" kG (q9 1) (vd (q9 2) (ic 0))) (ic 1)) (ni (q9 1) (q9 2) w6)) zR) (qW (kT (q9 1)))))))
@[irreducible] def gb:DF:=sh (qL 4 fz)
theorem kR:gb=qL 4 fz:=by delta gb;exact zH _
abbrev de:DS:=qG (qQ (ic 4) (bj 1)) (qG (wY (w5 (q9 0)) (kb 2 (zD (bj 2) (zD (bj 3) wH))) (fj (cg (d2 ig (d2 xX (q9 2) (ic 4)) (ic 1))) (wQ 1 qT (d2 zB (q9 3) (ic 1))) (fj (wG (cg (d2 ig (d2 xX (q9 2) (ic 4)) (ic 3))) (cg (d2 ig (d2 xX (q9 3) (ic 2)) (ic 1)))) (qW (ic 0)) zR))) (qW (q9 1)))
@[irreducible] def cj:DF:=sh (qL 4 de)
theorem v7:cj=qL 4 de:=by delta cj;exact zH _
abbrev gw:DS:=qW (qH 1 cj (vc (qH 1 gb (vc (q9 0)))))
@[irreducible] def cp:DF:=sh (qL 1 gw)
theorem uC:cp=qL 1 gw:=by delta cp;exact zH _
abbrev nw (c:Cl):DS:=qG (xG (qH 3 (b_ c) (vf (q9 0) (ic 0) (d2 gN (ic 10) (ic 12))))) (qW (zj (d2 ig (q9 0) (ic 0)) (d2 nj (qH 1 cp (vc (q9 0))) (ic 0))))
@[irreducible] def jv (c:Cl):DF:=sh (qL 1 (nw c))
theorem m8 (c:Cl):jv c=qL 1 (nw c):=by delta jv;exact zH _
abbrev kj (c:Cl):DS:=qG (xG (qH 3 (b_ c) (vf (q9 0) (ic 1) (d2 gN (ic 10) (ic 12))))) (qW (qH 1 cp (vc (q9 0))))
@[irreducible] def gc (c:Cl):DF:=sh (qL 1 (kj c))
theorem kQ (c:Cl):gc c=qL 1 (kj c):=by delta gc;exact zH _
abbrev og (c:Cl):DS:=qG (xG (qH 3 (b_ c) (vf (q9 0) (ic 0) (d2 gN (ic 10) (ic 6))))) (qG (qQ (qH 1 (fv c) (vc (q9 0))) (bj 1)) (qG (qQ (d2 bZ (q9 1) (zC false [none,none] (j_ (q9 1)) (kb 2 (zD (bj 0) (zD (bj 1) wH))) zQ (zN (zA (vd (q9 1) (q9 0)))))) (bj 2)) (qW (rK (kW false) [none,none,none,none] (j_ (q9 2)) (kb 2 (zD (bj 0) (zD (bj 1) wH))) zQ (kIn (j_ (zA (vd (d1 uK (q9 0)) (q9 0)))) (bj 2) zQ (kIn (j_ (zA (vd (d1 uK (q9 1)) (q9 1)))) (bj 3) zQ (jI yO (zA (vd (q9 2) (q9 3))))))))))
@[irreducible] def im (c:Cl):DF:=sh (qL 3 (og c))
theorem fX (c:Cl):im c=qL 3 (og c):=by delta im;exact zH _
abbrev f_:DS:=qG (vS (cg (d2 nj (q9 1) (ic 0))) (uO 0 1 (vd (q9 1) (d2 xX (q9 0) (q9 1))))) (qW (q9 0))
@[irreducible] def cu:DF:=sh (qL 2 f_)
theorem vD:cu=qL 2 f_:=by delta cu;exact zH _
abbrev l_:DS:=qG (qQ (qH 2 cu (vd (qN pZ (vc (q9 0))) (qN pZ (vc (q9 1))))) (bj 2)) (qG (fj (cg (d2 mi (q9 1) (ic 0))) (qQ (d1 uK (q9 2)) (bj 2)) zR) (qW (zA (vd (d2 gM (q9 0) (q9 2)) (d2 gM (q9 1) (q9 2))))))
@[irreducible] def di:DF:=sh (qL 3 l_)
theorem pG:di=qL 3 l_:=by delta di;exact zH _
abbrev lu (c:Cl):DS:=qG (xG (qH 1 (bv c) (vc (q9 0)))) (qG (xG (qH 1 (bv c) (vc (q9 1)))) (qG (xG (qH 1 (bv c) (vc (q9 2)))) (qG (uO 3 4 (vd (d2 zU (d2 dk (q9 1) (ic 0)) (d2 dk (q9 0) (ic 0))) (d2 zU (d2 dk (q9 1) (ic 1)) (d2 dk (q9 0) (ic 1))))) (qG (uO 5 6 (vd (d2 zU (d2 dk (q9 2) (ic 0)) (d2 dk (q9 0) (ic 0))) (d2 zU (d2 dk (q9 2) (ic 1)) (d2 dk (q9 0) (ic 1))))) (qG (qQ (d2 qT (ic 2) (d2 zU (d2 qT (q9 3) (q9 6)) (d2 qT (q9 4) (q9 5)))) (bj 7)) (qG (fj (cg (d2 ig (q9 7) (ic 0))) dG zR) (qG (qQ (d2 zU (d2 qT (q9 6) (d2 zB (d2 qT (q9 3) (q9 3)) (d2 qT (q9 4) (q9 4)))) (d2 qT (q9 4) (d2 zB (d2 qT (q9 5) (q9 5)) (d2 qT (q9 6) (q9 6))))) (bj 8)) (qG (qQ (d2 zU (d2 qT (q9 3) (d2 zB (d2 qT (q9 5) (q9 5)) (d2 qT (q9 6) (q9 6)))) (d2 qT (q9 5) (d2 zB (d2 qT (q9 3) (q9 3)) (d2 qT (q9 4) (q9 4))))) (bj 9)) (qG (qQ (qH 2 di (vd (d2 zB (d2 qT (d2 dk (q9 0) (ic 0)) (q9 7)) (q9 8)) (q9 7))) (bj 10)) (qG (qQ (qH 2 di (vd (d2 zB (d2 qT (d2 dk (q9 0) (ic 1)) (q9 7)) (q9 9)) (q9 7))) (bj 11)) (qW (zA (vf (q9 10) (q9 11) (qH 2 di (vd (d2 zB (d2 qT (q9 8) (q9 8)) (d2 qT (q9 9) (q9 9))) (d2 qT (q9 7) (q9 7)))))))))))))))))
@[irreducible] def gr (c:Cl):DF:=sh (qL 12 (lu c))
theorem pN (c:Cl):gr c=qL 12 (lu c):=by delta gr;exact zH _
abbrev p_:DS:=qG (uO 3 4 (vd (d2 zU (d2 dk (q9 1) (ic 0)) (d2 dk (q9 0) (ic 0))) (d2 zU (d2 dk (q9 1) (ic 1)) (d2 dk (q9 0) (ic 1))))) (qG (uO 5 6 (vd (d2 zU (d2 dk (q9 2) (ic 0)) (d2 dk (q9 0) (ic 0))) (d2 zU (d2 dk (q9 2) (ic 1)) (d2 dk (q9 0) (ic 1))))) (qG (qQ (d2 zU (d2 qT (q9 3) (q9 6)) (d2 qT (q9 4) (q9 5))) (bj 7)) (qW (pr (cg (d2 ig (q9 7) (ic 0))) (dC .non) (qH 2 di (vd (d2 zB (d2 qT (q9 3) (q9 5)) (d2 qT (q9 4) (q9 6))) (q9 7)))))))
@[irreducible] def lq:DF:=sh (qL 8 p_)
theorem tL:lq=qL 8 p_:=by delta lq;exact zH _
abbrev ik:DS:=qG (qQ QQ (bj 3)) (qG (wY (w5 (q9 2)) (bj 4) (qG (qQ (qH 3 lq (vf (q9 4) (q9 0) (q9 1))) (bj 5)) (fj (cg (d2 c5 (q9 5) (dC .non))) (xG (mr "list" xZ (eS (q9 3) (vd (q9 5) (u9 qA))) (vc (q9 4)))) zR))) (qW (tS (q9 3))))
@[irreducible] def cc:DF:=sh (qL 6 ik)
theorem uP:cc=qL 6 ik:=by delta cc;exact zH _
abbrev df:DS:=qG (qQ (qN zX (vc (q9 0))) (bj 1)) (qW (zC false [none,none,Ab 0,Ab 1] (xM (xT (vc (q9 1)))) (bj 0) zQ (kIn (xM (xT (vd (d2 zB (q9 0) (ic 1)) (q9 3)))) (bj 1) zQ (zN (zA (vf (d2 dk (q9 2) (q9 0)) (d2 dk (q9 2) (q9 1)) (lr (q9 2) (xP (d2 zB (q9 1) (ic 1))) wV)))))))
@[irreducible] def bt:DF:=sh (qL 2 df)
theorem v3:bt=qL 2 df:=by delta bt;exact zH _
abbrev ly (c:Cl):DS:=qG (xG (qH 1 (cx c) (vc (q9 0)))) (qG (fj (cg (d2 mi (qN zX (vc (q9 0))) (ic 3))) (qW (dC (.bl true))) zR) (qW (d2 (uU ig) (qH 3 cc (vf (d2 dk (q9 0) (ic 0)) (d2 dk (q9 0) (ic 1)) (lr (q9 0) (xP (ic 2)) wV))) (wL (vc (qN rL (vc (lr (q9 0) (xP (ic 2)) wV))))))))
@[irreducible] def dh (c:Cl):DF:=sh (qL 1 (ly c))
theorem pI (c:Cl):dh c=qL 1 (ly c):=by delta dh;exact zH _
abbrev ix (c:Cl):DS:=qG (xG (qH 1 (cx c) (vc (q9 0)))) (qG (qQ (ic 0) (bj 1)) (qG (wY (w5 (qH 1 bt (vc (q9 0)))) (kb 3 (zD (bj 2) (zD (bj 3) (zD (bj 4) wH)))) (wY (w5 (qH 3 cc (vf (q9 2) (q9 3) (q9 4)))) (bj 5) (wQ 1 uT (d2 vK (d2 qT (qN zX (vc (q9 5))) (d2 zU (qN zX (vc (q9 5))) (ic 1))) (ic 2))))) (qW (q9 1))))
@[irreducible] def bz (c:Cl):DF:=sh (qL 6 (ix c))
theorem jD (c:Cl):bz c=qL 6 (ix c):=by delta bz;exact zH _
abbrev i_ (c:Cl):DS:=qG (xG (qH 1 (cx c) (vc (q9 0)))) (qG (wY (w5 (qH 1 bt (vc (q9 0)))) (kb 3 (zD (bj 1) (zD (bj 2) (zD (bj 3) wH)))) (wY (w5 (qH 3 cc (vf (q9 1) (q9 2) (q9 3)))) (bj 4) (fj (cg (d2 nj (qN zX (vc (q9 4))) (ic 1))) (qW (zA (vg (q9 1) (q9 2) (d2 dk (q9 4) (ic 0)) (d2 dk (q9 4) (ic 1))))) zR))) (qW (dC .non)))
@[irreducible] def d_ (c:Cl):DF:=sh (qL 5 (i_ c))
theorem jB (c:Cl):d_ c=qL 5 (i_ c):=by delta d_;exact zH _
abbrev ii (c:Cl):DS:=qG (xG (qH 1 (cx c) (vc (q9 0)))) (qW (qN vJ (vc (qN yM (vc (zC false [none,none] (j_ (q9 0)) (kb 2 (zD (bj 0) (zD (bj 1) wH))) zQ (zN (zA (vd (d1 uK (q9 1)) (q9 0))))))))))
@[irreducible] def dw (c:Cl):DF:=sh (qL 1 (ii c))
theorem uQ (c:Cl):dw c=qL 1 (ii c):=by delta dw;exact zH _
abbrev lw (c:Cl):DS:=qG (xG (qH 1 (cx c) (vc (q9 0)))) (qW (qN vJ (vc (qN yM (vc (zC false [none,none] (j_ (q9 0)) (kb 2 (zD (bj 0) (zD (bj 1) wH))) zQ (zN (zA (vd (q9 1) (q9 0))))))))))
@[irreducible] def gt (c:Cl):DF:=sh (qL 1 (lw c))
theorem pL (c:Cl):gt c=qL 1 (lw c):=by delta gt;exact zH _
abbrev ku:DS:=qG (fj (cg (d2 mi (q9 1) (qN zX (vc (q9 0))))) (qW (d2 dk (q9 0) (q9 1))) zR) (qW (ic 0))
@[irreducible] def fg:DF:=sh (qL 2 ku)
theorem kK:fg=qL 2 ku:=by delta fg;exact zH _
abbrev ma:DS:=qW (u9 (vd (q9 0) (qN Z3 (vc (d2 qq (q9 0) (d2 gN (ic 10) (ic 18)))))))
@[irreducible] def gu:DF:=sh (qL 1 ma)
theorem pF:gu=qL 1 ma:=by delta gu;exact zH _
abbrev kr:DS:=qG (fj (cg (d2 ig (d2 dk (q9 0) (ic 1)) (ic 1))) (qG (qQ (d2 xX (d2 dk (q9 0) (ic 0)) (q9 1)) (bj 2)) (qG (qQ (d2 vK (d2 dk (q9 0) (ic 0)) (q9 1)) (ni (q9 0) (ic 0) w6)) (qW (q9 2)))) zR) (qG (qQ (d2 xX (d2 zB (d2 qT (d2 xX (d2 dk (q9 0) (ic 0)) (ic 2147483629)) (ic 48271)) (ic 11)) (ic 2147483629)) (ni (q9 0) (ic 0) w6)) (qW (d2 xX (d2 vK (d2 xX (d2 zB (d2 qT (d2 dk (q9 0) (ic 0)) (d2 dk (q9 0) (ic 0))) (d2 qT (ic 40692) (d2 dk (q9 0) (ic 0)))) (ic 2147483647)) (ic 8)) (q9 1))))
@[irreducible] def bh:DF:=sh (qL 3 kr)
theorem kL:bh=qL 3 kr:=by delta bh;exact zH _
abbrev jc:DS:=qG (uO 1 2 (vd eR (wL qA))) (qG (wY (xT (vc (ic 1001))) (bj 3) (qQ (q9 3) (ni (q9 1) (d2 qT (q9 3) (q9 3)) w6))) (qG (wY (xT (vc (ic 1001))) (bj 4) (fj (cg (d2 lO (d2 zU (q9 0) (d2 qT (q9 4) (q9 4))) (q9 1))) (qG (qQ (d2 mU (q9 1) (d2 zU (q9 0) (d2 qT (q9 4) (q9 4)))) (bj 5)) (qG (qQ (d2 zB (q9 2) (wL (vf (zA (vd (q9 4) (q9 5))) (zA (vd (d2 zU (ic 0) (q9 4)) (q9 5))) (zA (vd (q9 4) (d2 zU (ic 0) (q9 5))))))) (bj 2)) (qQ (d2 zB (q9 2) (wL (vc (zA (vd (d2 zU (ic 0) (q9 4)) (d2 zU (ic 0) (q9 5))))))) (bj 2)))) zR)) (qW (yD false (q9 2)))))
@[irreducible] def ez:DF:=sh (qL 6 jc)
theorem j8:ez=qL 6 jc:=by delta ez;exact zH _
abbrev kq:DS:=qG (qQ (ic 1) (bj 2)) (qG (wY (xT (vc (d2 zB (ic 1) (qH 2 bh (vd (q9 0) (ic 6)))))) (bj 3) (qG (qQ (d2 dk (wL (q8 (ic 2) (q8 (ic 5) (q8 (ic 13) (q8 (ic 17) (vg (ic 4) (ic 9) (ic 5) (ic 29))))))) (qH 2 bh (vd (q9 0) (ic 8)))) (bj 4)) (fj (cg (d2 lj (d2 qT (q9 2) (q9 4)) (q9 1))) (qQ (d2 qT (q9 2) (q9 4)) (bj 2)) zR))) (qW (q9 2)))
@[irreducible] def ff:DF:=sh (qL 5 kq)
theorem kM:ff=qL 5 kq:=by delta ff;exact zH _
abbrev md:DS:=qG (uO 2 3 (vd (qH 2 bh (vd (q9 0) (ic 6))) (d2 zB (ic 1) (qH 2 bh (vd (q9 0) (q9 1)))))) (qG (qQ (zA (vd (d2 zU (qH 2 bh (vd (q9 0) (ic 21))) (ic 10)) (d2 zU (qH 2 bh (vd (q9 0) (ic 21))) (ic 10)))) (kb 2 (zD (bj 4) (zD (bj 5) wH)))) (qG (qQ (d2 dk (wL (vf (ic 3) (ic 6) (ic 900))) (qH 2 bh (vd (q9 0) (ic 3)))) (bj 6)) (qG (fj (cg (d2 mi (q9 2) (ic 2))) (qQ (qH 1 ez (vc (qH 2 ff (vd (q9 0) (ic 5000))))) (bj 7)) (fj (cg (d2 ig (q9 2) (ic 2))) (qQ (zC false [none] (xM (xT (vc (ic 25)))) (bj 0) zQ (zN (zA (vd (d2 vK (q9 0) (ic 5)) (d2 xX (q9 0) (ic 5)))))) (bj 7)) (fj (cg (d2 ig (q9 2) (ic 3))) (qG (qQ (zC false [none] (xM (xT (vc (ic 20)))) (bj 0) zQ (zN (zA (vd (d2 qT (ic 2) (q9 0)) (d2 qT (ic 3) (q9 0)))))) (bj 7)) (qQ (d2 zB (q9 7) (zC false [none] (xM (xT (vc (ic 5)))) (bj 0) zQ (zN (zA (vd (q9 0) (ic 0)))))) (bj 7))) (fj (cg (d2 ig (q9 2) (ic 4))) (qQ (wL (q8 (zA (vd (ic 0) (ic 0))) (q8 (zA (vd (ic 0) (ic 4))) (q8 (zA (vd (ic 4) (ic 0))) (q8 (zA (vd (ic 4) (ic 4))) (q8 (zA (vd (ic 2) (ic 2))) (q8 (zA (vd (d1 uK (ic 1)) (ic 2))) (q8 (zA (vd (ic 2) (d1 uK (ic 1)))) (vg (zA (vd (ic 5) (ic 2))) (zA (vd (ic 2) (ic 5))) (zA (vd (ic 1) (ic 1))) (zA (vd (ic 6) (ic 6)))))))))))) (bj 7)) (qG (qQ (u9 qA) (bj 7)) (wY (xT (vc (q9 1))) (bj 8) (qG (qQ (d2 zU (qH 2 bh (vd (q9 0) (d2 zB (d2 qT (ic 2) (q9 6)) (ic 1)))) (q9 6)) (bj 9)) (xG (mr "list" xZ (q9 7) (vc (zA (vd (q9 9) (d2 zU (qH 2 bh (vd (q9 0) (q9 6))) (ic 2)))))))))))))) (qG (qQ (yD true (q9 7)) (bj 7)) (qG (qQ (u9 qA) (bj 10)) (qG (vS (wG (cg (d2 (uU ky) (q9 7) (u9 qA))) (cg (d2 mi (qN zX (vc (q9 10))) (q9 3)))) (xG (mr "list" xZ (q9 10) (vc (mr "list" b7 (q9 7) (vc (qH 2 bh (vd (q9 0) (qN zX (vc (q9 7))))))))))) (qW (qN vJ (vc (qN yM (vc (zC false [none,Ab 4,Ab 5] (j_ (q9 10)) (bj 0) zQ (zN (zA (vd (d2 zB (d2 dk (q9 0) (ic 0)) (q9 1)) (d2 zB (d2 dk (q9 0) (ic 1)) (q9 2)))))))))))))))))
@[irreducible] def gv:DF:=sh (qL 11 md)
theorem pE:gv=qL 11 md:=by delta gv;exact zH _
abbrev dz:DS:=qG (qQ (wL (vc (zA qA))) (bj 2)) (qG (nY (j_ (q9 0)) (bj 3) (qQ (d2 zB (q9 2) (zC false [none,Ab 1,Ab 3] (j_ (q9 2)) (bj 0) (wG (cg (d2 mi (qN zX (vc (q9 0))) (q9 1))) zQ) (zN (d2 zB (q9 0) (zA (vc (q9 2))))))) (bj 2))) (qW (qN b0 (vc (zC false [none,Ab 1] (j_ (q9 2)) (bj 0) (wG (cg (d2 ig (qN zX (vc (q9 0))) (q9 1))) zQ) (zN (q9 0)))))))
@[irreducible] def er:DF:=sh (qL 4 dz)
theorem j9:er=qL 4 dz:=by delta er;exact zH _
abbrev fq (c:Cl):DS:=qG (qQ (qH 1 (im c) (vc (q9 1))) (bj 2)) (qG (fj (mQ (cg (d2 ky (qN zX (vc (q9 2))) (qH 1 (gc c) (vc (q9 1))))) (cg (d2 ky (qH 1 (jv c) (vc (q9 1))) (d2 ky (q9 2) (wL qA))))) (qW (dC (.bl false))) zR) (qG (qQ (yD false (zC false [none,none] (j_ (q9 2)) (kb 2 (zD (bj 0) (zD (bj 1) wH))) zQ (zN (qN vJ (vc (qN yM (vc (wL (vd (qN pZ (vc (q9 0))) (qN pZ (vc (q9 1)))))))))))) (bj 3)) (qG (fj (cg (d2 (uU ky) (q9 3) (qH 1 (fv c) (vc (q9 1))))) (qW (dC (.bl false))) zR) (qG (fj (cg (d2 ky (zC false [none,Ab 1] (j_ (q9 2)) (bj 0) (wG (cg (d2 ky (qH 2 (rq (jw c)) (vd (q9 0) (zA (vd (ic 0) (ic 0))))) (q9 1))) zQ) (zN (q9 0))) (wL qA))) (qW (dC (.bl false))) zR) (qG (fj (cg (d2 mi (qN zX (vc (q9 2))) (ic 3))) (qW (d2 ig (q9 2) (wL qA))) zR) (qG (qQ (qN vJ (vc (lr (q9 2) wV (xP (ic 40))))) (bj 4)) (qG (qQ (qH 2 bh (vd (q9 0) (d2 zU (qN zX (vc (q9 2))) (ic 2)))) (bj 5)) (qG (fj (cg (d2 ky (qH 3 (gr c) (vf (d2 dk (q9 2) (q9 5)) (d2 dk (q9 2) (d2 zB (q9 5) (ic 1))) (d2 dk (q9 2) (d1 uK (ic 1))))) (zA (vf (zA (vd (ic 0) (ic 1))) (zA (vd (ic 0) (ic 1))) (zA (vd (q9 1) (ic 1))))))) (qW (dC (.bl false))) zR) (qW (mP (d2 hZ (qH 1 il (vc (q9 4))) (dC (.bl true))) (d2 hZ (qH 1 (dh c) (vc (q9 4))) (dC (.bl true)))))))))))))
@[irreducible] def bp (c:Cl):DF:=sh (qL 6 (fq c))
theorem yS (c:Cl):bp c=qL 6 (fq c):=by delta bp;exact zH _
abbrev se (c:Cl):DS:=qG (wY (w5 (d2 zB (wL (vc (qH 2 fg (vd (q9 0) (ic 0))))) (lr (q9 0) (xP (ic 1)) (xP (ic 5))))) (bj 1) (qG (qQ (qH 1 gu (vc (q9 1))) (bj 2)) (qG (fj (vG (cg (qH 2 (bp c) (vd (q9 2) (qH 2 ff (vd (q9 2) (d2 gN (ic 10) (ic 6)))))))) (qW (dC (.bl false))) zR) (qG (fj (vG (cg (qH 2 (bp c) (vd (q9 2) (d2 zB (ic 1) (qH 2 bh (vd (q9 2) (ic 300)))))))) (qW (dC (.bl false))) zR) (qG (qQ (qH 2 gv (vd (q9 2) (ic 9))) (bj 3)) (qG (qQ (qN zX (vc (qH 2 er (vd (q9 3) (ic 4))))) (bj 4)) (qG (fj (wG (cg (d2 nj (qN zX (vc (q9 3))) (ic 3))) (cg (d2 ky (qH 1 (dh c) (vc (q9 3))) (d2 ig (qH 1 (bz c) (vc (q9 3))) (q9 4))))) (qW (dC (.bl false))) zR) (qG (fj (cg (d2 ky (d2 zf (qH 1 (d_ c) (vc (q9 3))) (dC .non)) (d2 ig (qH 1 (bz c) (vc (q9 3))) (ic 0)))) (qW (dC (.bl false))) zR) (wY (w5 (wL (vd (qH 1 (dw c) (vc (q9 3))) (qH 1 (gt c) (vc (q9 3)))))) (bj 5) (fj (mQ (cg (d2 ky (qH 1 (dh c) (vc (q9 5))) (qH 1 (dh c) (vc (q9 3))))) (cg (d2 ky (qH 1 (bz c) (vc (q9 5))) (qH 1 (bz c) (vc (q9 3)))))) (qW (dC (.bl false))) zR)))))))))) (qW (dC (.bl true)))
end _K
namespace _K
open _D
variable {ps:Aa Pt}{m n:Ag}{f:DE}{Q:D->ao->Prop}{P:jd->Prop}{κ:Pt->Am Pt}{S:ao}{ak:qB}
theorem cW {i a b:Ah}(h:a<=i/\i<=b)(S:ao):e_ [.int i,.int a,.int b] S=.ok (.bl true) S:=by
 rw[kO];refine w8 (z9 (ak:=[Ab (.int i),Ab (.int a),Ab (.int b)]) rfl ?_);rfl';refine ZK ?_;rfl';refine qM (d:=.bl true) (S:=S) (by rw[pJ];kernel_rfl!) ⟨_,rfl,λ_=>?_,λe=>by cases e⟩
 exact o7 rfl rfl rfl ⟨by rw[Cn h],rfl⟩
theorem nV (h:fy 1000 q)(S:ao):fw [ax q] S=.ok (.bl true) S:=by
 rw[pH];refine w8 (z9 (ak:=[Ab (ax q)]) rfl ?_);rfl';refine rS ?_;unfold ax;rfl';refine qM (d:=.bl true) (S:=S) rfl ⟨true,rfl,(λz=>by cases z),λ_=>?_⟩
 rfl';refine wK (λ_=>?_) λz=>absurd rfl z;rfl';refine jL (cb:=id) (o:=none) [D.int q.1,D.int q.2] (λ_=>.bl true) (λak Y=>Y=S/\∃ a,ak=[a]) ((UV rfl).trans (by rw[Qw])) ⟨rfl,none,rfl⟩ (by unfold br;exact Qx rfl) (λ_ _ _=>trivial) (λx hx ak Y ⟨J,a,U⟩=>?_) λak Y ⟨J,_⟩=>?_
 .subst J U
  have k:∃ i,x=.int i /\ -1000<=i/\i<=1000:=by
   unfold fy at h;rcases Az.mp hx with rfl|hx
   .exact⟨_,rfl,by lia⟩
   .cases Cz.mp hx
    exact⟨_,rfl,by lia⟩
  obtain⟨i,rfl,G⟩:=k;rfl';exact qM (cW G _) ⟨rfl,rfl,_,rfl⟩
 .subst J
  rfl';exact ZJ ⟨rfl,rfl⟩
theorem V1:∀ {ks:Aa (Aa Ah)},ks.Pairwise (λa b=>_H.lexLt a b=true)->((ks.zip (ks.drop 1)).all λp=>_H.lexLt p.1 p.2)=true
 |[],_=>rfl
 |[_],_=>rfl
 |a::b::t,h=>by
  obtain⟨J,Y⟩:=Ei.mp h;show (_H.lexLt a b&&(((b::t).zip t).all λp=>_H.lexLt p.1 p.2))=true;rw[J b (.head _)];exact V1 Y
theorem KA {Y:Aa Pt}(B:Y.length<=1000)(G:Up Y)(S:ao):gh [qS Y] S=.ok (.bl true) S:=by
 rw[kN];refine w8 (z9 (ak:=[Ab (.tup (Y.map ax))]) rfl ?_);rfl';have N:xM (QR (q8 (q9 0) (q8 (lr (q9 0) (xP (dC (.int 1))) wV) qA))) [Ab (.tup (Y.map ax))] S=.ok (none,(((Y.map kP).zip ((Y.map kP).drop 1)).map λp=>D.tup [io p.1,io p.2])) S:=by
  show az.ok (none,u6 (Y.map ax) (wA (Y.map ax) (Ab 1) none)) S=_;rw[AQ,kY,<- Zn,AF]
 refine jL _ (λp=>.bl (_H.lexLt p.1 p.2)) (λak J=>J=S/\∃ a b,ak=[a,b]) N ⟨rfl,none,none,rfl⟩ ?_ (λ_ _ _=>trivial) (λx C ak J ⟨U,a,b,O⟩=>?_) λak J ⟨U,_⟩=>?_
 .rw[Wn,Ao]
  unfold br
  lia
 .subst U O
  rfl';exact qM (O1 _ _ _) ⟨rfl,rfl,_,_,rfl⟩
 .subst U
  rfl';exact ZJ ⟨congrArg D.bl (V1 (Dj.mpr G)),rfl⟩
theorem cU {M:Ag}(N:M<=40){l:Aa Pt}(L:qf M l)(S:ao):il [qS l] S=.ok (.bl true) S:=by
 have O:=L.len;have C:=Sk.mpr L.ne;rw[fZ];refine w8 (z9 (ak:=[Ab (.tup (l.map ax))]) rfl ?_);rfl';refine rS ?_;rfl';refine qM (d:=.bl true) (S:=S) rfl ⟨true,rfl,(λz=>by cases z),λ_=>?_⟩
 rfl';refine o7 (b:=(l.length:Ah)) rfl (by rw[<- Ao (f:=ax)];rfl) rfl ?_
 rfl';refine wK (λ_=>?_) λz=>absurd li z;rfl';refine ZK ?_;rfl';refine jL l (λ_=>.bl true) (λak Y=>Y=S/\∃ a,ak=[a]) (UV rfl) ⟨rfl,none,rfl⟩ (by unfold br;lia) (λ_ _ _=>trivial) (λx U ak Y ⟨J,a,G⟩=>?_) λak Y ⟨J,_⟩=>?_
 .subst J G
  rfl';exact qM (nV (L.box x U) _) ⟨rfl,rfl,_,rfl⟩
 .subst J
  rfl';refine ZJ ⟨_,rfl,λ_=>?_,λz=>?_⟩
  .rfl'
   exact qM (KA li L.up _) ⟨rfl,rfl⟩
  .exact absurd (Bs.mpr λ_ _=>rfl) (by rw[z];decide)
theorem yV (c:Cl){M:Ag}(Y:M<=40){l:Aa Pt}(L:qf M l)(S:ao):cx c [qS l] S=.ok .non S:=by
 rw[pM];refine w8 (z9 (ak:=[Ab (qS l)]) rfl ?_);rfl';refine qM (cU Y L S) ?_;rfl';exact⟨rfl,rfl⟩
theorem fJ (c:Cl){i a b:Ah}(S:ao)(h:a<=i/\i<=b):b_ c [.int i,.int a,.int b] S=.ok .non S:=by
 rw[jC];refine w8 (z9 (ak:=[Ab (.int i),Ab (.int a),Ab (.int b)]) rfl ?_);rfl';refine qM (cW h S) ?_;rfl';exact⟨rfl,rfl⟩
theorem bE (c:Cl){q:Pt}(S:ao)(h:fy 1000 q):bv c [ax q] S=.ok .non S:=by
 rw[jW];refine w8 (z9 (ak:=[Ab (ax q)]) rfl ?_);rfl';refine qM (nV h S) ?_;rfl';exact⟨rfl,rfl⟩
theorem wX {m:Ah}(h:u7 S p)(hm:0<m/\m<1073741824)(q:∀ (r:Ag) S1,Kp p S S1->(r:Ah)<m->Q (.int r) S1):Ok (bh [.loc p,.int m] S) Q:=by
 have J:∀ r v f:Ah,0<=r->r<m->Q (.int r) (S.set p (.lst [.int v,.int f])):=λr v f C O=>by
  obtain⟨r,rfl⟩:=Int.eq_ofNat_of_zero_le C;obtain⟨I,T,e⟩:=h;have Y:=(Ba.mp e).1;exact q r _ ⟨⟨v,f,by simp[Y]⟩,by simp,λi E N=>Dd (Fv N)⟩ O
 obtain⟨v,f,e⟩:=h;have Y:=(Ba.mp e).1;rw[kL];refine z9 (ak:=[Ab (.loc p),Ab (.int m),none]) rfl ?_;rfl';refine uW e (d:=.int f) rfl ?_;rfl';refine wK (λz=>?_) λz=>?_
 .rfl'
  refine uW e (d:=.int v) rfl ?_;rfl';refine uW e (d:=.int v) rfl ?_;rfl';refine Y8 e rfl ?_;rfl';exact J _ _ _ (Mc _ om) (Jr _ hm.1)
 .rfl'
  refine uW e (d:=.int v) rfl ?_;have hv:=Mc v (show (2147483629:Ah)≠0 by fin2)
  have B:=Jr v (show (0:Ah)<2147483629 by fin2)
  rfl';have L:=Mc (v % 2147483629*48271+11) (show (2147483629:Ah)≠0 by fin2)
  have U:=Jr (v % 2147483629*48271+11) (show (0:Ah)<2147483629 by fin2)
  generalize (v % 2147483629*48271+11) % 2147483629=w at L U;refine Y8 e rfl ?_;have G:(S.set p (MO.lst [.int w,.int f]))[p]? = Ab (.lst [.int w,.int f]):=by simp[Y]
  rfl';refine uW G (d:=.int w) rfl ?_;rfl';refine uW G (d:=.int w) rfl ?_;rfl';refine uW G (d:=.int w) rfl ?_;rfl';exact J _ _ _ (Mc _ om) (Jr _ hm.1)
theorem OJ (q:∀ p S1,u7 S1 p->Q (.loc p) S1):Ok (gu [.int x] S) Q:=by
 rw[pF];refine z9 (ak:=[Ab (.int x)]) rfl ?_;rfl';refine qM (d:=.int 1000000000000000000) rfl ?_;rfl';refine qM (d:=.int (zk (decide (1000000000000000000<=x)))) rfl ?_;rfl';exact q _ _ ⟨_,_,uY _ _⟩
theorem TH (Y:Aa Ah)(O:Y.length<=63)(k:Ah){Q:Aa D->ao->Prop}{ak:qB}{S:ao}(h0:ak[0]? = Ab (Ab (.lst (Y.map D.int))))(q:∀ G:Aa Ah,Q (G.map D.int) S):Ok (w5 (d2 zB (wL (q8 (qH 2 fg (q8 (q9 0) (q8 (dC (.int 0)) qA))) qA)) (lr (q9 0) (xP (dC (.int 1))) (xP (dC (.int k))))) ak S) Q:=by
 have U:∃ x:Ah,fg [.lst (Y.map D.int),.int 0] S=.ok (.int x) S:=by
  rw[kK];cases Y with
  |nil=>exact⟨0,w8 (z9 (ak:=[Ab (.lst []),Ab (.int 0)]) rfl (by rfl';exact⟨rfl,rfl⟩))⟩
  |cons n Y =>
   refine⟨n,w8 (z9 (ak:=[Ab (.lst ((n::Y).map D.int)),Ab (.int 0)]) rfl ?_)⟩;rfl';refine wK (λ_=>?_) λe=>absurd (by rw[Ao,Cb];fin2) e
   rfl';exact nM (mI (a:=0) ba) ⟨rfl,rfl⟩
 obtain⟨x,J⟩:=U;refine M1 (o_2 (OH (g9 (RK (g9 (o_v h0 ?_))))));rfl';refine qM J ?_;rfl';refine o_v h0 ?_;rfl';have N:wA (Y.map D.int) (Ab 1) (Ab k)=((Y.drop (_H.cz (Y.map D.int).length 0 (Ab 1))).take (_H.cz (Y.map D.int).length (Y.map D.int).length (Ab k)-_H.cz (Y.map D.int).length 0 (Ab 1))).map D.int:=by
  unfold wA;rw[AcD,Zn]
 rw[N];refine nJ ?_ ⟨_,rfl,q (x::_)⟩;rw[Ao,Hi,Kz];show 1+_<=br;unfold br;fin2
theorem DZ (p q:Pt):ki (ax p) (ax q)=decide (p=q):=by
 show (p.1 == q.1&&(p.2 == q.2&&true))=_;rw[Iu];simp[Prod.ext_iff]
theorem ZZ (n:Ag)(p:Pt):Tr (n+1) (ax p):=.tup n _ λx Y=>by
 simp only[Az,En,Kc] at Y;rcases Y with rfl|rfl <;> exact .int _ _
theorem CQ (n:Ag)(p:Pt):vo (n+1) (ax p)=true:=by cases n <;> rfl
theorem R7 (p q:Pt):ltN (ax p) (ax q)=rg p q:=by
 have J:=@uE 0 0 (.int p.1) (.int q.1) [.int p.2] [.int q.2] (.int _ _) (.int _ _) rfl;have Y:=@uE 0 0 (.int p.2) (.int q.2) [] [] (.int _ _) (.int _ _) rfl;unfold ax;rw[fE,J,Y,fD,fD];unfold rg;rw[_H.a_,_H.a_];show (if (p.1 == q.1)=true then if (p.2 == q.2)=true then _ else _ else _)=_
 simp only[Yz];rfl
theorem oT (ps:Aa Pt)(U:ps.length<=1000):jQ (ps.map ax)=Ab ((xV ps).map ax):=by
 unfold jQ xV;rw[<- (kS (l8 ps)).1,kY,uI];have Y:((ps.map kP).all λk=>!k.isEmpty)=true:=by
  rw[Iy,Bs];intro q _;rfl
 have J:(_S.gz _H.lexLt (ps.map kP)).length<=1000:=Cw (dH _ _) (by rw[Ao];exact U)
 exact Be (by rw[Y,Cn J];rfl)
theorem RU (h:Ok (f ak S) λd S1=>∃ ps:Aa Pt,tE d S1=Ab (ps.map ax)/\ps.length<=1000/\Q (.lst ((xV ps).map ax)) S1):Ok (yD false f ak S) Q:=qX (zO h λd S1 ⟨ps,e,l,q⟩=>⟨_,_,by rw[e,Ve,oT ps l];rfl,q⟩)
theorem OL (h:Ok (f ak S) λd S1=>∃ ps:Aa Pt,tE d S1=Ab (ps.map ax)/\ps.length<=1000/\Q (.loc S1.length) (S1++[.lst ((xV ps).map ax)])):Ok (yD true f ak S) Q:=qX (zO h λd S1 ⟨ps,e,l,q⟩=>⟨_,_,by rw[e,Ve,oT ps l];rfl,q⟩)
theorem qAh (a b:Ag)(G:b<big)(qC:qB)(J:ak=Ab (.int a)::Ab (.int b)::qC)(q:∀ e1,Wo P (.nx (Ab (.int (Wq a b))::e1::qC) S)):Wo P (vS (cg (d2 nj (q9 1) (dC (.int 0)))) (uO 0 1 (q8 (q9 1) (q8 (d2 xX (q9 0) (q9 1)) qA))) ak S):=by
 subst J;refine dM (λn ak U=>U=S/\∃ x:Ag,Wq x n=Wq a b/\ak=Ab (.int x)::Ab (.int n)::qC) ?_ G ⟨rfl,a,rfl,rfl⟩;rintro n _ _ ⟨rfl,x,Y,rfl⟩;rfl';refine⟨λz=>?_,λz=>?_⟩
 .have z:=Bz z
  rfl';refine lA (x % n) (Qc _ li) ⟨rfl,n,?_,by rw[Int.natCast_emod]⟩
  rw[<- Y,Nat.gcd_comm x n,Nat.gcd_rec n x,Nat.gcd_comm]
 .have z:=Lp z
  have:n=0:=by lia
  subst this;rw[Nat.gcd_zero_right] at Y;rw[Y];exact q _
theorem OC (a b:Ag)(Y:b<big)(q:Q (.int (Wq a b)) S):Ok (cu [.int a,.int b] S) Q:=by
 rw[vD];refine z9 (ak:=[Ab (.int a),Ab (.int b)]) rfl ?_;array_get_dec;refine qAh a b Y [] rfl λJ=>?_;rfl';exact q
theorem bS (a:Ah):(if a<0 then -a else a)=(a.natAbs:Ah):=by
 split <;> lia
noncomputable def mq (t b:Ah):Ah × Ah:=let g:=(Mj t b:Ah);if b<0 then ((-t)/g,(-b)/g) else (t/g,b/g)
structure Fr (t b:Ah)(n m:Ah):Prop where
 pos:0<m
 eq:n*b=t*m
 one:Mj n m=1
 len:n.natAbs<=t.natAbs
 lem:m.natAbs<=b.natAbs
theorem hJ {t b:Ah}(H:b≠0):Fr t b (mq t b).1 (mq t b).2/\∃ g:Ag,0<g/\g<=b.natAbs/\(g=Wq t.natAbs b.natAbs)/\t.fdiv (if b<0 then -(g:Ah) else g)=(mq t b).1/\b.fdiv (if b<0 then -(g:Ah) else g)=(mq t b).2:=by
 have O:0<Mj t b:=Int.gcd_pos_of_ne_zero_right _ H;obtain⟨n,J⟩:=Int.gcd_dvd_left (a:=t) (b:=b);obtain⟨m,U⟩:=Int.gcd_dvd_right (a:=t) (b:=b);have C:Mj t b<=b.natAbs:=Jf li (Int.gcd_dvd_natAbs_right ..);have T:Mj n m=1:=by
  have e:Mj ((Mj t b:Ah)*n) ((Mj t b:Ah)*m)=Mj t b:=by rw[<- J,<- U]
  rw[Int.gcd_mul_left,Js] at e;exact Nat.eq_of_mul_eq_mul_left O (by rw[e,Ab1])
 have I:n.natAbs<=t.natAbs:=by
  have:=congrArg AbR J;rw[Pm,Js] at this;rw[this];exact Mk _ O
 have L:m.natAbs<=b.natAbs:=by
  have:=congrArg AbR U;rw[Pm,Js] at this;rw[this];exact Mk _ O
 have B:(Mj t b:Ag)=Wq t.natAbs b.natAbs:=rfl;generalize E:Mj t b=G at *;have Y:(G:Ah)≠0:=by lia
 by_cases z:b<0
 .have f:mq t b=(-n,-m):=by
   unfold mq;rw[E];simp only[z,Ds];rw[J,U,<- Tq,<- Tq,Kt _ Y,Kt _ Y]
  rw[f];have N:m<0:=by
   by_cases y:m<0
   .exact y
   .have:=Ik (show (0:Ah)<=G by lia) (show 0<=m by lia)
    lia
  refine⟨⟨by dsimp only;lia,?_,by rw[Int.gcd_neg,Int.neg_gcd];exact T,by rw[AbZ];exact I,by rw[AbZ];exact L⟩,G,O,C,B,?_,?_⟩
  .show -n*b=t * -m
   rw[U,J]
   grind
  .rw[Be z,J,show (G:Ah)*n = -n * -(G:Ah) by grind,Ob _ li]
  .rw[Be z,U,show (G:Ah)*m = -m * -(G:Ah) by grind,Ob _ li]
 .have f:mq t b=(n,m):=by
   unfold mq;rw[E];simp only[z,Dq];rw[J,U,Kt _ Y,Kt _ Y]
  rw[f];have N:0<m:=by
   by_cases y:0<m
   .exact y
   .have:=Ik (show (0:Ah)<=G by lia) (show 0 <= -m by lia)
    rw[Tq] at this
    lia
  refine⟨⟨N,?_,T,I,L⟩,G,O,C,B,?_,?_⟩
  .show n*b=t*m
   rw[U,J]
   grind
  .rw[Bc z,J,Pg,Ob _ Y]
  .rw[Bc z,U,Pg,Ob _ Y]
abbrev _u:Pt->D:=ax
theorem nL {t b:Ah}(O:b≠0/\b.natAbs<2 ^ 60)(q:Q (_u (mq t b)) S):Ok (di [.int t,.int b] S) Q:=by
 obtain⟨_,g,L,G,C,U,Y⟩:=hJ (t:=t) O.1;rw[pG];refine z9 (ak:=[Ab (.int t),Ab (.int b),none]) rfl ?_;rfl';rw[bS,bS];refine OC _ _ (by rw[tM];exact O.2) ?_
 rw[<- C];have J:∀ k:Ah,k = -(g:Ah)\/k=g->k≠0/\k.natAbs.log2<9000:=λk B=>by
  have N:k.natAbs=g:=by lia
  refine⟨by lia,?_⟩
  rw[N];exact Hx ((Nat.log2_lt li).mpr (Lm G O.2)) li
 rfl';refine wK (λz=>?_) λz=>?_
 .rw[Be z] at U Y
  rfl';refine nK (J _ (.inl rfl)) ?_;rfl';refine nK (J _ (.inl rfl)) ?_;rw[U,Y];rfl';exact q
 .rw[Bc z] at U Y
  rfl';refine nK (J _ (.inr rfl)) ?_;rfl';refine nK (J _ (.inr rfl)) ?_;rw[U,Y];rfl';exact q
noncomputable def gy (p a b:Pt):Ah:=(a.1-p.1)*(b.2-p.2)-(a.2-p.2)*(b.1-p.1)
def dt (p a b:Pt):Ah:=(a.1-p.1)*(b.1-p.1)+(a.2-p.2)*(b.2-p.2)
def sl (a b p:Pt):Am Pt:=if gy p a b=0 then none else Ab (mq (dt p a b) (gy p a b))
theorem BZ {n m Y m':Ah}(h1:0<m)(h2:0<m')(U:Mj n m=1)(g2:Mj Y m'=1)(e:n*m'=Y*m):n=Y/\m=m':=by
 have J:∀ {x y z:Ah},Mj x y=1->y∣x*z->y∣z:=λ{x y z} g d=>by
  have G:Nat.Coprime y.natAbs x.natAbs:=by rw[Nat.coprime_comm];exact g
  have N:y.natAbs∣x.natAbs*z.natAbs:=by rw[<- Pm];exact Jv.mpr d
  exact Jv.mp (G.dvd_of_dvd_mul_left N)
 have d1:m∣m':=J U ⟨Y,by rw[e,Pg]⟩
 have d2:m'∣m:=J g2 ⟨n,by rw[<- e,Pg]⟩
 have em:m=m':=Int.le_antisymm (Zo h2 d1) (Zo h1 d2);subst em;exact⟨Nq li e,rfl⟩
theorem h9 {t b t' J:Ah}(O:b≠0)(G:J≠0):mq t b=mq t' J↔t*J=t'*b:=by
 obtain⟨⟨M,j,B,_,_⟩,_⟩:=hJ (t:=t) O;obtain⟨⟨I,A,C,_,_⟩,_⟩:=hJ (t:=t') G;generalize mq t b=X at *;generalize mq t' J=Y at *;obtain⟨n,m⟩:=X;obtain⟨N,U⟩:=Y;dsimp only at *;constructor
 .intro h
  injection h with z L
  subst z L;refine Nq (show m≠0 by lia) ?_
  grind
 .intro h
  have:n*U=N*m:=by
   refine Nq (show b*J≠0 from AbM O G) ?_
   have T:n*U*(b*J)=(n*b)*J*U:=by grind
   have H:N*m*(b*J)=(N*J)*b*m:=by grind
   rw[T,H,j,A];have w:t*m*J*U=t*J*m*U:=by grind
   have E:t'*U*b*m=t'*b*m*U:=by grind
   rw[w,E,h]
  obtain⟨rfl,rfl⟩:=BZ M I B C this;rfl
def al (a b:Pt)(x:Pt × Pt):As:=(sl a b x.1).isSome&&decide (sl a b x.1=sl a b x.2)
def On (a b c d:Pt):Prop:=gy c a b≠0/\dt c a b*gy d a b=dt d a b*gy c a b
instance (a b c d:Pt):Hy (On a b c d):=by unfold On;exact inferInstance
theorem apart {a b d:Pt}(h1:d≠a)(h2:d≠b)(O:gy d a b=0)(G:dt d a b=0):Ex:=by
 unfold gy at O;unfold dt at G;have J:((a.1-d.1)*(a.1-d.1)+(a.2-d.2)*(a.2-d.2))*((b.1-d.1)*(b.1-d.1)+(b.2-d.2)*(b.2-d.2))=0:=by grind
 have z:∀ x y:Ah,x*x+y*y=0->x=0/\y=0:=λx y h=>by
  have Y:∀ t:Ah,0<=t*t:=λt=>by
   rcases Int.le_total 0 t with q|q
   .exact Ik q q
   .exact Ph q q
  have C:=Y x;have B:=Y y;have N:x*x=0:=by fin2
  have U:y*y=0:=by fin2
  exact⟨(Iw.mp N).elim id id,(Iw.mp U).elim id id⟩
 rcases Iw.mp J with h|h
 .obtain⟨x,y⟩:=z _ _ h
  exact h1 (Hj li li)
 .obtain⟨x,y⟩:=z _ _ h
  exact h2 (Hj li li)
theorem G8 {a b c d:Pt}(h1:d≠a)(h2:d≠b):al a b (c,d)=decide (On a b c d):=by
 unfold al On sl;by_cases J:gy c a b=0
 .simp[J]
 .by_cases Y:gy d a b=0
  .have:¬ (dt c a b*gy d a b=dt d a b*gy c a b):=λe=>by
    rw[Y,Hl] at e;rcases Iw.mp e.symm with z|z
    .exact apart h1 h2 Y z
    .exact J z
   simp[J,Y,this];intro e;exact this (by rw[Y,Hl];exact e)
  .have:=h9 (t:=dt c a b) (t':=dt d a b) J Y
   simp[J,Y,this]
noncomputable def Gp (κ : Pt->Am Pt):Ag->Aa Pt->Aa (Aa Pt)
 |0,_=>[]
 |_,[]=>[]
 |n+1,p::ps=>match κ p with
  |none=>Gp κ n ps
  |some k=>(p::ps.filter λq=>decide (κ q=Ab k))::Gp κ n (ps.filter λq=>!decide (κ q=Ab k))
def two (m:Ag):Ag:=m*(m-1)/2
theorem tG (m:Ag):two (m+1)=two m+m:=by
 unfold two;rw[Ig];cases m with
 |zero=>rfl
 |succ m =>
  rw[Ig,show (m+1+1)*(m+1)=(m+1)*m+(m+1)*2 by rw[Ab2,Ab2];grind,Nat.add_mul_div_right _ _ li]
def qt (κ : Pt->Am Pt)(x:Pt × Pt):As:=(κ x.1).isSome&&decide (κ x.1=κ x.2)
def cn (κ : Pt->Am Pt)(ps:Aa Pt):Ag:=((vE ps).filter (qt κ)).length
theorem bU (κ : Pt->Am Pt)(p:Pt)(ps:Aa Pt):cn κ (p::ps)=(ps.filter λq=>qt κ (p,q)).length+cn κ ps:=by
 unfold cn;show (List.filter _ (ps.map (λq=>(p,q))++vE ps)).length=_;rw[List.filter_append,Ca,Wr,Ao];rfl
theorem XI (κ : Pt->Am Pt)(k:Pt):∀ ps:Aa Pt,cn κ ps=two (ps.filter λq=>decide (κ q=Ab k)).length+cn κ (ps.filter λq=>!decide (κ q=Ab k))
 |[]=>by simp[cn,vE,two]
 |p::ps=>by
  rw[bU,XI κ k ps];by_cases h:κ p=Ab k
  .have e:(ps.filter λq=>qt κ (p,q))=ps.filter λq=>decide (κ q=Ab k):=by
    congr 1
    funext q
    unfold qt;rw[h];simp[eq_comm]
   rw[Jb (by simpa using h),Hm (by simpa using h),Cb,tG,e]
   lia
  .rw[Hm (by simpa using h),Jb (by simpa using h),bU]
   have e:((ps.filter λq=>!decide (κ q=Ab k)).filter λq=>qt κ (p,q))=ps.filter λq=>qt κ (p,q):=by
    rw[Td]
    congr 1
    funext q
    unfold qt;cases Y:decide (κ q=Ab k) with
    |false=>simp
    |true =>
     have Y:=Bz Y;dsimp only;rw[Y];simp[h]
   rw[e]
   lia
theorem eA (κ : Pt->Am Pt):∀ (n:Ag) (ps:Aa Pt),ps.length<=n->((Gp κ n ps).map λg=>two g.length).sum=cn κ ps
 |0,ps,h=>by
  have:ps=[]:=Ew.mp li;subst this;rfl
 |n+1,[],_=>rfl
 |n+1,p::ps,h=>by
  have J:ps.length<=n:=by simpa using h
  unfold Gp;cases Y:κ p with
  |none =>
   dsimp only;rw[eA κ n ps J,bU];have:(ps.filter λq=>qt κ (p,q))=[]:=Ml.mpr λq _=>by unfold qt;rw[Y];simp
   rw[this];simp
  |some k =>
   dsimp only;rw[Cg,AcE,eA κ n _ (Cw (Fn _ _) J),Cb,tG,bU,XI κ k ps];have e:(ps.filter λq=>qt κ (p,q))=ps.filter λq=>decide (κ q=Ab k):=by
    congr 1
    funext q
    unfold qt;rw[Y];simp[eq_comm]
   rw[e]
   lia
theorem rE (κ : Pt->Am Pt):∀ (n:Ag) (ps:Aa Pt),∀ g∈Gp κ n ps,g.length<=ps.length
 |0,ps,g,h=>by cases h
 |n+1,[],g,h=>by cases h
 |n+1,p::ps,g,h=>by
  unfold Gp at h;cases Y:κ p with
  |none =>
   rw[Y] at h;have:=rE κ n ps g h;simp only[Cb]
   lia
  |some k =>
   rw[Y] at h;rcases Az.mp h with rfl|h
   .simp only[Cb]
    have:=Fn (λq=>decide (κ q=Ab k)) ps
    lia
   .have U:=rE κ n _ g h
    have J:=Fn (λq=>!decide (κ q=Ab k)) ps;simp only[Cb]
    lia
theorem NV (κ : Pt->Am Pt)(n:Ag)(c:Pt)(ps:Aa Pt):Gp κ (n+1) (c::ps)=[c::ps]↔(κ c).isSome=true/\∀ q∈ps,κ q=κ c:=by
 unfold Gp;cases G:κ c with
 |none =>
  refine⟨λh=>?_,λh=>by cases h.1⟩
  have:=rE κ n ps (c::ps) (by dsimp only at h;rw[h];simp)
  simp at this
  lia
 |some k =>
  dsimp only;refine⟨λh=>⟨rfl,λq Y=>?_⟩,λh=>?_⟩
  .injection h with h _
   injection h with _ h
   have:=Lc.mp h q Y;simpa using this
  .have U:(ps.filter λq=>decide (κ q=Ab k))=ps:=Lc.mpr λq Y=>Cn (h.2 q Y)
   have J:(ps.filter λq=>!decide (κ q=Ab k))=[]:=Ml.mpr λq Y=>by simp[h.2 q Y]
   rw[U,J];cases n <;> rfl
theorem vY {a b A B:Ah}(h1 : -A<=a/\a<=A)(h2 : -B<=b/\b<=B) : -(A*B)<=a*b/\a*b<=A*B:=by
 have Y:a.natAbs*b.natAbs<=A.natAbs*B.natAbs:=Ge li li;have U:((a*b).natAbs:Ah)=((a.natAbs*b.natAbs:Ag):Ah):=by rw[Pm]
 have J:((A.natAbs*B.natAbs:Ag):Ah)=A*B:=by
  rw[Dv,Ym li,Ym li]
 lia
def _V:Am Pt->D
 |none=>.non
 |some k=>ax k
theorem AN {p a b:Pt}(hp:fy 1000 p)(Y:fy 1000 a)(J:fy 1000 b) : -8000000<=gy p a b/\gy p a b<=8000000:=by
 unfold fy at *;have G:=vY (show -2000<=a.1-p.1/\a.1-p.1<=2000 by lia) (show -2000<=b.2-p.2/\b.2-p.2<=2000 by lia)
 have U:=vY (show -2000<=a.2-p.2/\a.2-p.2<=2000 by lia) (show -2000<=b.1-p.1/\b.1-p.1<=2000 by lia)
 unfold gy
 lia
theorem M3 {p a b:Pt}(hp:fy 1000 p)(Y:fy 1000 a)(J:fy 1000 b)(q:Q (_V (sl a b p)) S):Ok (lq [ax p,ax a,ax b] S) Q:=by
 have O:=AN hp Y J;have N : -1000<=p.1/\p.1<=1000 /\ -1000<=p.2/\p.2<=1000:=hp;have U : -1000<=a.1/\a.1<=1000 /\ -1000<=a.2/\a.2<=1000:=Y;have G : -1000<=b.1/\b.1<=1000 /\ -1000<=b.2/\b.2<=1000:=J;rw[tL];refine z9 (ak:=[Ab (ax p),Ab (ax a),Ab (ax b),none,none,none,none,none]) rfl ?_;rfl';have e:(a.1-p.1)*(b.2-p.2)-(a.2-p.2)*(b.1-p.1)=gy p a b:=rfl;rw[e];refine qBY ?_;rfl';refine⟨λz=>?_,λz=>?_⟩
 .have z:=Bz z
  rfl';have:sl a b p=none:=Be z;rw[this] at q;exact q
 .have z:=Lp z
  rfl';refine nL ⟨z,by lia⟩ ?_
  rfl';have:sl a b p=Ab (mq (dt p a b) (gy p a b)):=Bc z;rw[this] at q;exact q
structure GT (κ : Pt->Am Pt)(n:Ag)(done:Aa Pt)(gs:Aa (Pt × Ag × Aa Pt))(S:ao):Prop where
 dict:S[n]? = Ab (.dcT (gs.map λg=>(kP g.1,D.loc g.2.1)))
 lists:∀ g∈gs,n<g.2.1/\S[g.2.1]? = Ab (.lst (g.2.2.map ax))
 nd:(gs.map (·.2.1)).Nodup
 kd:(gs.map (·.1)).Nodup
 len:gs.length<=done.length
 sz:∀ g∈gs,g.2.2.length<=done.length
theorem V2 {k:Pt}:∀ {Y:Aa (Pt × Ag × Aa Pt)},u4 (Y.map λg=>(kP g.1,D.loc g.2.1)) (kP k)=(Y.find? λg=>decide (g.1=k)).map λg=>D.loc g.2.1
 |[]=>rfl
 |g::Y=>by
  unfold u4;rw[Cg,Ff,Ff];by_cases h:g.1=k
  .rw[Cn h,Cn (by rw[h])]
   rfl
  .rw[Cq h,Cq (λz=>h (c9 z))]
   exact V2
noncomputable def add (k p:Pt)(j:Ag)(Y:Aa (Pt × Ag × Aa Pt)):Aa (Pt × Ag × Aa Pt):=
 if (Y.find? λg=>decide (g.1=k)).isSome then Y.map λg=>if g.1=k then (g.1,g.2.1,g.2.2++[p]) else g else Y++[(k,j,[p])]
theorem CD {i x:D}{k:Aa Ah}(J:S[n]? = Ab (.dcT kvs))(Y:UZ i=Ab k):lR n xy [i,x] S=(match u4 kvs k with|some d=>az.ok d S|none=>if kvs.length<br then az.ok x (S.set n (MO.dcT (kvs++[(k,x)]))) else .bad):=by
 unfold lR;simp only[Y,J]
 try rfl
theorem F2 (I:GT κ n done Y S)(k p:Pt)(hl:done.length<=1000) :
  ∃ (j:Ag) (S1 E:ao),lR n (Y.map λg=>(kP g.1,D.loc g.2.1)) [ax k,.loc S.length] (S++[.lst []]) = .ok (.loc j) S1/\ng (.loc j) S1=Ab "list" /\ xZ (.loc j) [ax p] S1=.ok .non E/\GT κ n (done++[p]) (add k p S.length Y) E/\(∀ m,m<n->E[m]? = S[m]?)/\S.length<=E.length:=by
 have N:n<S.length:=(Ba.mp I.dict).1;have t:(S++[MO.lst []])[n]? = Ab (.dcT (Y.map λg=>(kP g.1,D.loc g.2.1))):=by rw[Bn N];exact I.dict
 have zb:done.length<br:=by unfold br;lia
 have G:=CD (xy:=Y.map λg=>(kP g.1,D.loc g.2.1)) (i:=ax k) (x:=.loc S.length) (k:=kP k) t rfl;rw[V2] at G;cases U:Y.find? λg=>decide (g.1=k) with
 |some g =>
  have H:=Kk U;have c:g.1=k:=by simpa using Rx U
  obtain⟨h1,l⟩:=I.lists g H;have hj:=(Ba.mp l).1;have L:(S++[MO.lst []])[g.2.1]? = Ab (.lst (g.2.2.map ax)):=by rw[Bn hj];exact l
  rw[U] at G;have M:add k p S.length Y=Y.map λg=>if g.1=k then (g.1,g.2.1,g.2.2++[p]) else g:=by unfold add;rw[U];rfl
  rw[M];have m1:((Y.map λg=>if g.1=k then (g.1,g.2.1,g.2.2++[p]) else g).map (·.2.1))=Y.map (·.2.1):=by
   rw[Dh];refine Ek λx _=>?_;show (if x.1=k then _ else _:Pt × Ag × Aa Pt).2.1=_
   split <;> rfl
  have h:((Y.map λg=>if g.1=k then (g.1,g.2.1,g.2.2++[p]) else g).map (·.1))=Y.map (·.1):=by
   rw[Dh];refine Ek λx _=>?_;show (if x.1=k then _ else _:Pt × Ag × Aa Pt).1=_
   split <;> rfl
  have m3:((Y.map λg=>if g.1=k then (g.1,g.2.1,g.2.2++[p]) else g).map λg=>(kP g.1,D.loc g.2.1))=Y.map λg=>(kP g.1,D.loc g.2.1):=by
   rw[Dh];refine Ek λx _=>?_;show ((kP (if x.1=k then _ else _:Pt × Ag × Aa Pt).1,D.loc (if x.1=k then _ else _:Pt × Ag × Aa Pt).2.1))=_
   split <;> rfl
  refine⟨g.2.1,_,_,G,fS L,L5 L (by rw[Ao];have:=I.sz g H;lia) _,⟨?_,?_,by rw[m1];exact I.nd,by rw[h];exact I.kd,by rw[Ao,Ca];have:=I.len;lia,?_⟩,λm hm=>?_,by simp⟩
  .rw[m3,Dd li]
   exact t
  .intro x hx
   obtain⟨y,B,rfl⟩:=Au.mp hx;obtain⟨d,v⟩:=I.lists y B;by_cases J:y.1=k
   .have:y=g:=WZ (f:=(·.1)) I.kd B H (J.trans c.symm)
    subst this;rw[Be J];refine⟨d,?_⟩;rw[DL (by simp;lia),Dp]
    rfl
   .rw[Bc J]
    refine⟨d,?_⟩;have q:g.2.1≠y.2.1:=λz=>J (by rw[<- WZ (f:=(·.2.1)) I.nd H B z];exact c)
    rw[Dd q,Bn (Ba.mp v).1];exact v
  .intro x hx
   obtain⟨y,B,rfl⟩:=Au.mp hx;have:=I.sz y B;rw[Ca]
   split
   .show (y.2.2++[p]).length<=_
    rw[Ca];simp
    lia
   .lia
  .rw[Dd li,Bn li]
 |none =>
  have A:=Ow.mp U;rw[U] at G;have C:(Y.map λg=>(kP g.1,D.loc g.2.1)).length<br:=by rw[Ao];have:=I.len;lia
  have e1:=G.trans (Be C);have M:add k p S.length Y=Y++[(k,S.length,[p])]:=by unfold add;rw[U];rfl
  rw[M];have O:((S++[MO.lst []]).set n (.dcT ((Y.map λg=>(kP g.1,D.loc g.2.1))++[(kP k,.loc S.length)])))[S.length]? = Ab (.lst []):=by
   rw[Dd li];simp
  refine⟨S.length,_,_,e1,fS O,L5 O (by unfold br;simp) _,⟨?_,?_,?_,?_,by rw[Ca,Ca];have:=I.len;simp;lia,?_⟩,λm hm=>?_,by simp⟩
  .rw[Dd li,DL (by simp;lia),Dp]
   rfl
  .intro x hx
   rcases Bp.mp hx with hx|hx
   .obtain⟨s,r⟩:=I.lists x hx
    have w:=(Ba.mp r).1;refine⟨s,?_⟩;rw[Dd li,Dd li,Bn w];exact r
   .cases Cz.mp hx
    refine⟨N,?_⟩;rw[DL ba]
    rfl
  .rw[Dp,Ho]
   refine⟨I.nd,by simp,λa o b u e=>?_⟩
   obtain⟨x,hx,rfl⟩:=Au.mp o;have:=(Ba.mp (I.lists x hx).2).1;have T:b=S.length:=by simpa using u
   lia
  .rw[Dp,Ho]
   refine⟨I.kd,by simp,λa o b u e=>?_⟩
   obtain⟨x,hx,rfl⟩:=Au.mp o;have T:b=k:=by simpa using u
   exact A x hx (by simp[e,T])
  .intro x hx
   rcases Bp.mp hx with hx|hx
   .have:=I.sz x hx
    rw[Ca]
    lia
   .cases Cz.mp hx
    simp
  .rw[Dd li,Dd li,Bn li]
abbrev KG:=Aa (Pt × Ag × Aa Pt)
def yy (κ : Pt->Am Pt)(L:Ag)(Y:KG)(p:Pt):KG:=match κ p with
 |none=>Y
 |some k=>add k p L Y
def Is (κ : Pt->Am Pt)(Y:KG)(ps:Aa Pt)(J:KG):Prop:=∀ n,(ps.filter λq=>!(Y.any λg=>decide (κ q=Ab g.1))).length<=n ->
 J.map (·.2.2)=(Y.map λg=>g.2.2++ps.filter λq=>decide (κ q=Ab g.1))++Gp κ n (ps.filter λq=>!(Y.any λg=>decide (κ q=Ab g.1)))
theorem SQ (κ : Pt->Am Pt)(Y:KG):Is κ Y [] Y:=λn _=>by
 have:Gp κ n ([] : Aa Pt)=[]:=by cases n <;> rfl
 simp[this]
theorem iP {Y A:KG}(kd:(Y.map (·.1)).Nodup)(h:Is κ (yy κ L Y p) ps A):Is κ Y (p::ps) A:=by
 intro n G;unfold yy at h;cases U:κ p with
 |none =>
  rw[U] at h;have C:((p::ps).filter λq=>!(Y.any λg=>decide (κ q=Ab g.1)))=p::ps.filter λq=>!(Y.any λg=>decide (κ q=Ab g.1)):=Jb (by simp[U])
  rw[C] at G ⊢;cases n with
  |zero=>simp at G
  |succ n =>
   rw[h n (by simpa using G)]
   congr 1
   .refine Ek λg _=>?_
    rw[Hm (by simp[U])]
   .rw[Gp,U]
 |some k =>
  rw[U] at h;dsimp only at h;by_cases B:(Y.find? λg=>decide (g.1=k)).isSome
  .obtain⟨w,O⟩:=Kq.mp B
   have o:=Kk O;have l:w.1=k:=by simpa using Rx O
   have H:add k p L Y=Y.map λg=>if g.1=k then (g.1,g.2.1,g.2.2++[p]) else g:=by unfold add;rw[Be B]
   rw[H] at h;have j:∀ q,((Y.map λg=>if g.1=k then (g.1,g.2.1,g.2.2++[p]) else g).any λg=>decide (κ q=Ab g.1))=Y.any λg=>decide (κ q=Ab g.1):=λq=>by
    rw[wS]
    congr 1
    funext g
    show decide (κ q=Ab (if g.1=k then _ else _:Pt × Ag × Aa Pt).1)=_
    split <;> rfl
   unfold Is at h;simp only[j] at h;have C:((p::ps).filter λq=>!(Y.any λg=>decide (κ q=Ab g.1)))=ps.filter λq=>!(Y.any λg=>decide (κ q=Ab g.1)):=Hm (by
    rw[U];have:(Y.any λg=>decide (Ab k=Ab g.1))=true:=Ld.mpr ⟨w,o,by simp[l]⟩
    rw[this];simp)
   rw[C] at G ⊢;rw[h n G,Dh]
   congr 1
   refine Ek λg _=>?_;show (if g.1=k then _ else _:Pt × Ag × Aa Pt).2.2++List.filter (λq=>decide (κ q=Ab (if g.1=k then _ else _:Pt × Ag × Aa Pt).1)) ps=_
   by_cases J:g.1=k
   .rw[Be J,Jb (by simp[U,J])]
    simp
   .rw[Bc J,Hm (by simp[U];exact λz=>J z.symm)]
  .have T:=Ow.mp (Option.not_isSome_iff_eq_none.mp B)
   have N:∀ g∈Y,k≠g.1:=λg J e=>T g J (by simp[e])
   have H:add k p L Y=Y++[(k,L,[p])]:=by unfold add;rw[Bc B]
   rw[H] at h;have u:(Y.any λg=>decide (κ p=Ab g.1))=false:=Tu.mpr λg J=>by
    rw[U];simpa using N g J
   have C:((p::ps).filter λq=>!(Y.any λg=>decide (κ q=Ab g.1)))=p::ps.filter λq=>!(Y.any λg=>decide (κ q=Ab g.1)):=Jb (by rw[u];rfl)
   rw[C] at G ⊢;have M:(ps.filter λq=>!((Y++[(k,L,[p])]).any λg=>decide (κ q=Ab g.1)))=(ps.filter λq=>!(Y.any λg=>decide (κ q=Ab g.1))).filter λq=>!decide (κ q=Ab k):=by
    rw[Td]
    congr 1
    funext q
    rw[List.any_append];simp[Bool.and_comm]
   have y:((ps.filter λq=>!(Y.any λg=>decide (κ q=Ab g.1))).filter λq=>decide (κ q=Ab k))=ps.filter λq=>decide (κ q=Ab k):=by
    rw[Td]
    congr 1
    funext q
    cases E:decide (κ q=Ab k) with
    |false=>simp
    |true =>
     have E:=Bz E;have:(Y.any λg=>decide (κ q=Ab g.1))=false:=Tu.mpr λg J=>by
      rw[E];simpa using N g J
     rw[this];rfl
   cases n with
   |zero=>simp at G
   |succ n =>
    have I:(ps.filter λq=>!(Y.any λg=>decide (κ q=Ab g.1))).length<=n:=by simpa using G
    rw[h n (by rw[M];exact Cw (Fn _ _) I),Dp,Ch]
    congr 1
    .refine Ek λg J=>?_
     rw[Hm (by rw[U];simpa using N g J)]
    .rw[Gp,U,M]
     dsimp only;rw[y];rfl
structure X_ (js:Aa Ag)(G:Aa (Aa Pt))(S S':ao):Prop where
 len:js.length=G.length
 at':∀ (i:Ag) (j:Ag) (g:Aa Pt),js[i]? = Ab j->G[i]? = Ab g->S'[j]? = Ab (.lst (g.map ax))
 lo:∀ j∈js,S.length<=j
 pre:S<+:S'
inductive _G (a b:Pt)(ps:Aa Pt)(S:ao)(ds:Aa D)(env:qB)(S':ao):Prop
 |mk (done qC:Aa Pt) (gs:KG) (e4 e5:Am D) (h_0:done++qC=ps) (h_1:ds=qC.map ax) (h_2:env=[Ab (ax a),Ab (ax b),Ab (.tup (ps.map ax)),Ab (.loc S.length),e4,e5]) (h_3:GT (sl a b) S.length done gs S') (h_4:∀ m,m<S.length->S'[m]? = S[m]?) (h_5:∀ gs',Is (sl a b) gs qC gs'->Is (sl a b) [] ps gs'):_G a b ps S ds env S'
theorem t7 {a b:Pt}(ha:fy 1000 a)(hb:fy 1000 b)(hp:∀ p∈ps,fy 1000 p)(hl:ps.length<=1000)(q:∀ o J,X_ o (Gp (sl a b) ps.length ps) S J->Q (.lst (o.map D.loc)) J):Ok (cc [ax a,ax b,.tup (ps.map ax)] S) Q:=by
 rw[uP];refine z9 (ak:=[Ab (ax a),Ab (ax b),Ab (.tup (ps.map ax)),none,none,none]) rfl ?_;refine PV (qAd ⟨.loc S.length,S++[.dcT []],rfl,?_⟩);rfl';refine fU (_G a b ps S) ?_ ?_ ⟨[],ps,[],none,none,rfl,rfl,rfl,⟨by simp,λ_ h=>(by cases h),by simp,by simp,by simp,λ_ h=>(by cases h)⟩,λm H=>Bn H,λO h=>h⟩
 .rintro d ds _ J ⟨done,qC,B,t,e5,U,N,rfl,G,Y,A⟩
  cases qC with
  |nil=>cases N
  |cons p qC =>
   injection N with e l
   subst e l;have M:p∈ps:=by rw[<- U];simp
   have y:done.length<=1000:=by
    have:=congrArg Qm U;rw[Ca] at this
    lia
   rfl';refine M3 (hp p M) ha hb ?_;rfl';cases u:sl a b p with
   |none =>
    refine⟨.bl false,J,rfl,?_⟩;rfl';refine y9 ⟨done++[p],qC,B,_,_,by rw[<- U];simp,rfl,rfl,⟨G.dict,G.lists,G.nd,G.kd,by rw[Ca];have:=G.len;lia,λg T=>by rw[Ca];have:=G.sz g T;lia⟩,Y,λO h=>A O (iP (L:=0) G.kd ?_)⟩
    unfold yy;rw[u];exact h
   |some k =>
    refine⟨.bl true,J,rfl,?_⟩;rfl';obtain⟨j,r,S2,c,x2,x3,s,v,x6⟩:=F2 G k p y;have z:eS (q9 3) (q8 (q9 5) (q8 (u9 qA) qA)) [Ab (ax a),Ab (ax b),Ab (.tup (ps.map ax)),Ab (.loc S.length),Ab (ax p),Ab (ax k)] J=.ok (.loc j) r:=by
     unfold eS;show (match J[S.length]? with|some (.dcT E)=>_|_=>_)=_
     rw[G.dict];exact c
    refine qM z ⟨x2,?_⟩;rfl';refine qM x3 ?_;rfl';refine y9 ⟨done++[p],qC,_,_,_,by rw[<- U];simp,rfl,rfl,s,λm H=>(v m H).trans (Y m H),λO h=>A O (iP (L:=J.length) G.kd ?_)⟩
    unfold yy;rw[u];exact h
 .rintro _ J ⟨done,qC,B,t,e5,U,N,rfl,G,Y,A⟩
  cases qC with
  |cons _ _=>cases N
  |nil =>
   have I:=A B (SQ _ _) ps.length (Fn _ _);have ef:(ps.filter λq=>!(([]:KG).any λg=>decide (sl a b q=Ab g.1)))=ps:=Lc.mpr λ_ _=>rfl;rw[ef] at I;have I:B.map (·.2.2)=Gp (sl a b) ps.length ps:=I
   refine KU (X4 ⟨.lst ((B.map (·.2.1)).map D.loc),J,?_,?_⟩)
   .unfold tS
    show (match J[S.length]? with|some (MO.dcT E)=>az.ok (D.lst (E.map λ(x:Aa Ah × D)=>x.2)) J|_=>.bad)=_
    rw[G.dict];simp only[Dh];rfl
   .rfl'
    refine q (B.map (·.2.1)) J ⟨by rw[<- I];simp,λi j g C T=>?_,λj C=>?_,YE Y⟩
    .rw[<- I] at T
     rw[Ee] at C T;cases w:B[i]? with
     |none=>rw[w] at C;cases C
     |some x =>
      rw[w] at C T;cases C;cases T;exact(G.lists x (Ct w)).2
    .obtain⟨x,hx,rfl⟩:=Au.mp C
     exact Ec (G.lists x hx).1
def rk:Aa Pt->Aa (Pt × Aa Pt)
 |[]=>[]
 |b::r=>(b,r)::rk r
def h_:Aa Pt->Aa (Pt × Pt × Aa Pt)
 |[]=>[]
 |a::l=>(rk l).map (λx=>(a,x.1,x.2))++h_ l
def rn (x:Pt × Pt × Aa Pt):D:=.tup [ax x.1,ax x.2.1,.tup (x.2.2.map ax)]
theorem YW:∀ l:Aa Pt,(Cj l.length).map (λi=>(l.getD i (0,0),l.drop (i+1)))=rk l
 |[]=>rfl
 |b::r=>by
  rw[Cb,Jg,Cg,Dh];show _::_=(b,r)::rk r;rw[<- YW r];rfl
theorem YF:∀ l:Aa Pt,((Cj l.length).flatMap λi=>(Cj (l.length-(i+1))).map λj=>(l.getD i (0,0),l.getD (i+1+j) (0,0),l.drop (i+1+j+1)))=h_ l
 |[]=>rfl
 |a::l=>by
  rw[Cb,Jg,Ft,Ab3];show _++_=(rk l).map (λx=>(a,x.1,x.2))++h_ l
  congr 1
  .rw[<- YW l,Dh,show l.length+1-(0+1)=l.length by lia]
   refine Ek λj _=>?_;show ((a::l).getD 0 (0,0),(a::l).getD (0+1+j) (0,0),(a::l).drop (0+1+j+1))=(a,l.getD j (0,0),l.drop (j+1));rw[show 0+1+j=j+1 by lia]
   rfl
  .rw[<- YF l]
   congr 1
   funext i
   rw[show l.length+1-(i.succ+1)=l.length-(i+1) by lia]
   refine Ek λj _=>?_;rw[show i.succ+1+j=(i+1+j)+1 by lia]
   rfl
theorem oU:∀ l:Aa Pt,(rk l).length=l.length
 |[]=>rfl
 |_::r=>by rw[rk,Cb,Cb,oU r]
theorem oD:∀ l:Aa Pt,(h_ l).length<=l.length*l.length
 |[]=>Ax _
 |a::l=>by
  have:=oD l;rw[h_,Ca,Ao,oU,Cb,Ab2,Nat.mul_add]
  lia
theorem dJ {x:Pt × Aa Pt}:∀ {l:Aa Pt},x∈rk l->x.1∈l/\(∀ p∈x.2,p∈l)/\x.2.length<=l.length
 |[],h=>by cases h
 |b::r,h=>by
  rcases Az.mp h with rfl|h
  .exact⟨by simp,λp Y=>by simp[Y],by simp⟩
  .obtain⟨U,J,G⟩:=dJ h
   exact⟨by simp[U],λp Y=>by simp[J p Y],by simp;lia⟩
theorem dA {x:Pt × Pt × Aa Pt}:∀ {l:Aa Pt},x∈h_ l->x.1∈l/\x.2.1∈l/\(∀ p∈x.2.2,p∈l)/\x.2.2.length<=l.length
 |[],h=>by cases h
 |a::l,h=>by
  rcases Bp.mp h with h|h
  .obtain⟨y,N,rfl⟩:=Au.mp h
   obtain⟨U,Y,G⟩:=dJ N;exact⟨by simp,by simp[U],λp J=>by simp[Y p J],by simp;lia⟩
  .obtain⟨O,U,Y,G⟩:=dA h
   exact⟨by simp[O],by simp[U],λp J=>by simp[Y p J],by simp;lia⟩
theorem rG (l:Aa Pt)(i:Ag)(h:i<l.length)(S:ao):dk (.tup (l.map ax)) (.int (i:Ah)) S=.ok (ax (l.getD i (0,0))) S:=by
 refine w8 (OF (mI (show i<(l.map ax).length by rw[Ao];exact h)) ⟨?_,rfl⟩)
 rw[Lf]
 congr 1
 simp[Gr,h]
theorem cF {Y:DA}(h:Y ak S=.ok as S)(e:uN as=Ab ds):xM (xT Y) ak S=.ok (none,ds) S:=by
 unfold xM xT;rw[h,az.bind_ok,e];rfl
theorem TM {a b:Ah}(h : -1000<=a/\a<=1001 /\ -1000<=b/\b<=1000):uN [.int a,.int b]=Ab (wO a (b-a).toNat):=by
 unfold uN;exact Be ⟨by lia,by lia,by lia,by lia⟩
theorem VJ (l:Aa Pt)(U:l.length<=1000)(S:ao){N:Ah}(L:N=l.length):zC false [none,none,Ab 0,Ab 1] (xM (xT (q8 (q9 1) qA))) (bj 0) zQ (kIn (xM (xT (q8 (d2 zB (q9 0) (dC (.int 1))) (q8 (q9 3) qA)))) (bj 1) zQ (zN (zA (q8 (d2 dk (q9 2) (q9 0)) (q8 (d2 dk (q9 2) (q9 1)) (q8 (lr (q9 2) (xP (d2 zB (q9 1) (dC (.int 1)))) wV) qA)))))) [Ab (.tup (l.map ax)),Ab (.int N)] S=.ok (.lst ((h_ l).map rn)) S:=by
 have G:((Cj l.length).flatMap λi=>(((Cj (l.length-(i+1))).map λj=>i+1+j).filter λ_=>true).map λj=>rn (l.getD i (0,0),l.getD j (0,0),l.drop (j+1)))=(h_ l).map rn:=by
  rw[<- YF l,Ra]
  congr 1
  funext i
  rw[Lc.mpr λ_ _=>rfl,Dh,Dh];rfl
 have J:((h_ l).map rn).length<=br:=by
  rw[Ao];have E:=oD l;have T:l.length*l.length<=1000*1000:=Ge U U;unfold br
  lia
 have O:=B7 (cb:=λ(i:Ag)=>D.int (i:Ah)) (uk:=λ(i:Ag)=>D.int (i:Ah)) (bw:=[none,none,Ab 0,Ab 1]) (fi:=xM (xT (q8 (q9 1) qA))) (g:=bj 0) (t:=zQ) (zh:=xM (xT (q8 (d2 zB (q9 0) (dC (.int 1))) (q8 (q9 3) qA)))) (g2:=bj 1) (t2:=zQ) (fe:=zA (q8 (d2 dk (q9 2) (q9 0)) (q8 (d2 dk (q9 2) (q9 1)) (q8 (lr (q9 2) (xP (d2 zB (q9 1) (dC (.int 1)))) wV) qA)))) (ak:=[Ab (.tup (l.map ax)),Ab (.int N)]) (S:=S) (o:=none) (o2:=none) (xs:=Cj l.length)
  (cF (as:=[.int N]) rfl (qAN L li)) trivial trivial (λi=>(Cj (l.length-(i+1))).map λj=>i+1+j) (λ_ _=>true) (λi j=>rn (l.getD i (0,0),l.getD j (0,0),l.drop (j+1)))
  (λak=>∃ a b,ak=[a,b,Ab (.tup (l.map ax)),Ab (.int N)]) (λi ak=>∃ b,ak=[Ab (.int (i:Ah)),b,Ab (.tup (l.map ax)),Ab (.int N)]) ⟨none,none,rfl⟩ (λi ak ⟨b,e⟩=>⟨_,_,e⟩) (by rw[G];exact J)
  (λi Y ak ⟨a,b,e⟩=>by
   subst e;refine⟨_,rfl,⟨_,rfl⟩,rfl,?_⟩;have Y:i<l.length:=Dn.mp Y;refine cF (as:=[.int ((i:Ah)+1),.int N]) rfl ?_;rw[TM li];unfold wO;rw[Dh,show (N-((i:Ah)+1)).toNat=l.length-(i+1) by lia]
   rfl)
  (λi Y j B ak ⟨b,e⟩=>by
   subst e;have Y:i<l.length:=Dn.mp Y;obtain⟨m,C,rfl⟩:=Au.mp B;have C:m<l.length-(i+1):=Dn.mp C;refine⟨_,rfl,⟨_,rfl⟩,rfl,λ_=>?_⟩;refine w8 (OM (g9 (o_2 (o_v rfl (o_v rfl (qM (rG l i Y S) ?_)))))) ;refine g9 (o_2 (o_v rfl (o_v rfl (qM (rG l (i+1+m) li S) ?_))));rfl';refine⟨?_,rfl⟩;rw[show (((i+1+m:Ag):Ah)+1)=((i+1+m+1:Ag):Ah) by lia,XN _ _ (by rw[Ao];lia)]
   unfold rn;rw[Zn])
 rw[G] at O;exact O
theorem cT (l:Aa Pt)(O:l.length<=1000)(S:ao):bt [.tup (l.map ax)] S=.ok (.lst ((h_ l).map rn)) S:=by
 obtain⟨N,J⟩:∃ N:Ah,N=l.length:=⟨_,rfl⟩;have U:=VJ l O S J;obtain⟨F,Y⟩:∃ F:DE,F=zC false [none,none,Ab 0,Ab 1] (xM (xT (q8 (q9 1) qA))) (bj 0) zQ (kIn (xM (xT (q8 (d2 zB (q9 0) (dC (.int 1))) (q8 (q9 3) qA)))) (bj 1) zQ (zN (zA (q8 (d2 dk (q9 2) (q9 0)) (q8 (d2 dk (q9 2) (q9 1)) (q8 (lr (q9 2) (xP (d2 zB (q9 1) (dC (.int 1)))) wV) qA)))))):=⟨_,rfl⟩;rw[<- Y] at U;have G:zX [.tup (l.map ax)] S=.ok (.int N) S:=by
  rw[J,<- Ao (f:=ax)];rfl
 have C:df=qG (qQ (qN zX (q8 (q9 0) qA)) (bj 1)) (qW F):=by rw[Y]
 rw[v3,C];refine w8 (z9 (ak:=[Ab (.tup (l.map ax)),none]) rfl ?_);array_get_dec;array_get_dec;array_get_dec;array_get_dec;array_get_dec;array_get_dec;refine qM G ?_;rfl';refine qM U ?_;rfl';exact⟨rfl,rfl⟩
def Al (S:ao):Aa Ag->Aa (Aa Pt)->Prop
 |[],[]=>Re
 |j::Y,g::G=>S[j]? = Ab (.lst (g.map ax))/\Al S Y G
 |_,_=>Ex
theorem rF {J:ao}:∀ {Y:Aa Ag} {G:Aa (Aa Pt)},Y.length=G.length->(∀ (i j:Ag) (g:Aa Pt),Y[i]? = Ab j->G[i]? = Ab g->J[j]? = Ab (.lst (g.map ax)))->Al J Y G
 |[],[],_,_=>trivial
 |[],_::_,h,_=>by simp at h
 |_::_,[],h,_=>by simp at h
 |j::Y,g::G,h,k=>⟨k 0 j g rfl rfl,rF (by simpa using h) λi=>k (i+1)⟩
theorem fP (S:ao)(n:Ag):∀ g:Aa Pt,mapO (xS (n+1) S) (g.map ax)=Ab (g.map ax)
 |[]=>rfl
 |p::g=>by
  have e:xS (n+1) S (ax p)=Ab (ax p):=by cases n <;> rfl
  rw[Cg,mapO,e,fP S n g]
theorem YQ:∀ {Y:Aa Ag} {G:Aa (Aa Pt)},Al S Y G->mapO (xS 19 S) (Y.map D.loc)=Ab (G.map λg=>D.lst (g.map ax))
 |[],[],_=>rfl
 |[],_::_,h=>h.elim
 |_::_,[],h=>h.elim
 |j::Y,g::G,h=>by
  have e:xS 19 S (.loc j)=Ab (.lst (g.map ax)):=by
   show (match S[j]? with|some (MO.lst J)=>(mapO (xS 18 S) J).map D.lst|_=>none)=_
   rw[h.1];show (mapO (xS 18 S) (g.map ax)).map D.lst=_;rw[fP S 17 g];rfl
  rw[Cg,mapO,e,YQ h.2];rfl
theorem ID (G:Aa (Aa Pt))(ps:Aa Pt):zW (G.map λg=>D.lst (g.map ax)) [.lst (ps.map ax)]=decide (G=[ps]):=by
 match G with
 |[]=>simp[zW]
 |[g] =>
  show (zW (g.map ax) (ps.map ax)&&true)=_;rw[pY,Zb];exact Lg.mpr ⟨λh=>by rw[h],λh=>by injection h⟩
 |g::Y::G =>
  show (zW (g.map ax) (ps.map ax)&&false)=_;rw[Xv];exact(Cq ba).symm
theorem PM (G:Aa (Aa Pt)):pl wM (.lst (G.map λg=>D.lst (g.map ax)))=true:=by
 show ((G.map λg=>D.lst (g.map ax)).all (pl 29))=true;rw[Iy];refine Bs.mpr λg _=>?_;show ((g.map ax).all (pl 28))=true;rw[Iy];exact Bs.mpr λp _=>rfl
def ql:Aa Pt->As
 |a::b::c::r=>decide (Gp (sl a b) (r.length+1) (c::r)=[c::r])
 |_=>true
theorem rR (c:Cl){M:Ag}(O:M<=40){l:Aa Pt}(L:qf M l){S:ao}(q:∀ Y,S<+:Y->Q (.bl (ql l)) Y):Ok (dh c [qS l] S) Q:=by
 have C:=L.len;rw[pI];refine z9 (ak:=[Ab (qS l)]) rfl ?_;rfl';refine qM (yV c O L S) ?_;unfold qS;rfl';rw[Ao];refine wK (λz=>?_) λz=>?_
 .rfl'
  have:ql l=true:=by
   match l with
   |[]=>rfl
   |[_]=>rfl
   |[_,_]=>rfl
   |_::_::_::_=>simp at z;lia
  rw[<- this];exact q S (Bg _)
 .match l,L with
  |[],_=>simp at z
  |[_],_=>simp at z
  |[_,_],_=>simp at z
  |a::b::p::r,L =>
   rfl';refine qM (rG (a::b::p::r) 0 ba S) ?_
   rfl';refine qM (rG (a::b::p::r) 1 ba S) ?_
   rfl';have U:wA (AbL ax (a::b::p::r)) (Ab 2) none=(p::r).map ax:=by
    have:=XN (AbL ax (a::b::p::r)) 2 ba
    exact this
   rw[U];have J:=L.box;refine t7 (J a ba) (J b ba) (λx N=>J x (by simp at N ⊢;exact .inr (.inr N))) (by simp at C ⊢;lia) λB Y G=>?_
   rfl';rw[U];rfl';have al:=rF G.len G.at';refine cN (gg:=ig) (x:=.lst ((Gp (sl a b) (p::r).length (p::r)).map λg=>D.lst (g.map ax))) (y:=.lst [.lst ((p::r).map ax)]) (z:=.bl (ql (a::b::p::r))) ?_ ?_ ?_ rfl (q Y G.pre)
   .show (mapO (xS 19 Y) (B.map D.loc)).map D.lst=_
    rw[YQ al];rfl
   .show (mapO (xS 19 Y) [.lst ((p::r).map ax)]).map D.lst=_
    have e:xS 19 Y (.lst ((p::r).map ax))=Ab (.lst ((p::r).map ax)):=by
     show (mapO (xS 18 Y) ((p::r).map ax)).map D.lst=_;rw[fP Y 17];rfl
    rw[mapO,e];rfl
   .unfold ig
    have:=PM [p::r];rw[PM,show pl wM (.lst [.lst ((p::r).map ax)])=true from this]
    show az.ok (D.bl (zW _ _)) _=_;rw[ID];rfl
def vz (x:Pt × Pt × Aa Pt):Aa (Aa Pt):=Gp (sl x.1 x.2.1) x.2.2.length x.2.2
def sm (G:Aa (Aa Pt)):Ag:=(G.map λg=>two g.length).sum
def zJ (xs:Aa (Pt × Pt × Aa Pt)):Ag:=(xs.map λx=>sm (vz x)).sum
theorem qAe {i:Ag}{a b:Ah}(e:ak[i]? = Ab (Ab (.int a)))(Y:f ak S=.ok (.int b) S)(h:Wo P (.nx (ak.set i (Ab (.int (a+b)))) S)):Wo P (wQ i uT f ak S):=by
 have:wQ i uT f ak S=.nx (ak.set i (Ab (.int (a+b)))) S:=by
  unfold wQ;rw[e];dsimp only;rw[Y];rfl
 rw[this];exact h
theorem N9 (m:Ag):((m:Ah)*((m:Ah)-1))/2=(two m:Ah):=by
 unfold two;cases m with
 |zero=>rfl
 |succ m =>
  rw[Ig,show (((m+1:Ag):Ah)-1)=(m:Ah) by lia,<- Dv]
  generalize (m+1)*m=x
  lia
theorem NU (κ : Pt->Am Pt)(n:Ag)(ps:Aa Pt){N:Ag}(h:ps.length<=N):∀ g∈Gp κ n ps,g.length<=N:=λg Y=>Cw (rE κ n ps g Y) h
theorem fL (c:Cl){M:Ag}(i:M<=40){l:Aa Pt}(L:qf M l){S:ao}(q:∀ O,S<+:O->Q (.int (zJ (h_ l):Ah)) O):Ok (bz c [qS l] S) Q:=by
 have hl:=L.len;rw[jD];refine z9 (ak:=[Ab (qS l),none,none,none,none,none]) rfl ?_;rfl';refine qM (yV c i L S) ?_;unfold qS;rfl';refine qM (cT l li S) ?_;rfl';refine yY (cb:=rn) (λU ak O=>∃ (t:Ag) (A z w N:Am D),ak=[Ab (.tup (l.map ax)),Ab (.int (t:Ah)),A,z,w,N]/\t+zJ U=zJ (h_ l)/\S<+:O/\∀ x∈U,x∈h_ l) ?_ ?_ ⟨0,_,_,_,_,rfl,by lia,Bg _,λ_ h=>h⟩
 .rintro x U _ O ⟨t,A,z,w,N,rfl,C,T,o⟩
  obtain⟨m1,r,s,m4⟩:=dA (o x ba)
  unfold rn;rfl';refine t7 (L.box _ m1) (L.box _ r) (λp T=>L.box p (s p T)) li λY H I=>?_;rfl';have al:=rF I.len I.at';have B:∀ g∈vz x,g.length<=40:=NU _ _ _ li;have E:t+(sm (vz x)+zJ U)=zJ (h_ l):=by rw[<- C];rfl
  have al:Al H Y (vz x):=al;generalize vz x=e at al B E;refine fU (λu ak S2=>∃ (Y:Aa Ag) (G:Aa (Aa Pt)) (t:Ag) (N:Am D),u=Y.map D.loc/\S2=H/\Al H Y G/\(∀ g∈G,g.length<=40)/\t+(sm G+zJ U)=zJ (h_ l)/\ak=[Ab (.tup (l.map ax)),Ab (.int (t:Ah)),Ab (ax x.1),Ab (ax x.2.1),Ab (.tup (x.2.2.map ax)),N]) ?_ ?_ ⟨Y,e,t,_,rfl,rfl,al,B,E,rfl⟩
  .rintro d u _ _ ⟨Y,G,t,N,J,rfl,al,B,C,rfl⟩
   match Y,G,al with
   |[],_,_=>cases J
   |j::Y,[],al=>exact al.elim
   |j::Y,g::G,al =>
    injection J with h1 v
    subst h1 v;have gl:=B g ba
    rfl';refine qAe (a:=(t:Ah)) (b:=(two g.length:Ah)) rfl (w8 ?_) ?_
    .rfl'
     refine bI al.1 ?_;rw[Ao];rfl';refine bI al.1 ?_;rw[Ao];rfl';exact⟨by rw[N9],rfl⟩
    .refine y9 ⟨Y,G,t+two g.length,Ab (.loc j),rfl,rfl,al.2,λg k=>B g (by simp[k]),?_,?_⟩
     .rw[<- C]
      show _=t+((two g.length+sm G)+zJ U)
      lia
     .rw[Int.natCast_add]
      rfl
  .rintro _ _ ⟨Y,G,t,N,J,rfl,al,B,C,rfl⟩
   match Y,G,al with
   |[],[],_ =>
    refine y9 ⟨t,_,_,_,_,rfl,?_,T.trans I.pre,λy hy=>o y (by simp[hy])⟩
    rw[<- C];show t+zJ U=t+(0+zJ U)
    lia
   |[],_::_,al=>exact al.elim
   |_::_,_,_=>cases J
 .rintro _ O ⟨t,A,z,w,N,rfl,C,T,_⟩
  rfl';have:t=zJ (h_ l):=by rw[<- C];rfl
  rw[<- this] at q;exact q O T
abbrev P4:=Pt × Pt × Pt × Pt
def p4D (x:P4):D:=.tup [ax x.1,ax x.2.1,ax x.2.2.1,ax x.2.2.2]
def _n:Am P4->D
 |none=>.non
 |some x=>p4D x
theorem M0 (c:Cl){M:Ag}(i:M<=40){l:Aa Pt}(L:qf M l){S:ao}(q:∀ (y:Am P4) O,S<+:O->(y=none↔zJ (h_ l)=0)->Q (_n y) O):Ok (d_ c [qS l] S) Q:=by
 have hl:=L.len;rw[jB];refine z9 (ak:=[Ab (qS l),none,none,none,none]) rfl ?_;rfl';refine qM (yV c i L S) ?_;unfold qS;rfl';refine qM (cT l li S) ?_;rfl';refine yY (cb:=rn) (λC ak O=>∃ (H w A N:Am D),ak=[Ab (.tup (l.map ax)),H,w,A,N]/\zJ C=zJ (h_ l)/\S<+:O/\∀ x∈C,x∈h_ l) ?_ ?_ ⟨_,_,_,_,rfl,rfl,Bg _,λ_ h=>h⟩
 .rintro x C _ O ⟨H,w,A,N,rfl,U,B,v⟩
  obtain⟨b,t,s,m4⟩:=dA (v x ba)
  unfold rn;rfl';refine t7 (L.box _ b) (L.box _ t) (λp B=>L.box p (s p B)) li λY I E=>?_;rfl';have al:Al I Y (vz x):=rF E.len E.at';have T:=B.trans E.pre;have u:sm (vz x)+zJ C=zJ (h_ l):=U;generalize vz x=e at al u;refine fU (λo ak a=>∃ (Y:Aa Ag) (G:Aa (Aa Pt)) (N:Am D),o=Y.map D.loc/\a=I/\Al I Y G/\sm G+zJ C=zJ (h_ l)/\ak=[Ab (.tup (l.map ax)),Ab (ax x.1),Ab (ax x.2.1),Ab (.tup (x.2.2.map ax)),N]) ?_ ?_ ⟨Y,e,_,rfl,rfl,al,u,rfl⟩
  .rintro d o _ _ ⟨Y,G,N,J,rfl,al,U,rfl⟩
   match Y,G,al with
   |[],_,_=>cases J
   |j::Y,[],al=>exact al.elim
   |j::Y,g::G,al =>
    injection J with h1 r
    subst h1 r;have U:two g.length+sm G+zJ C=zJ (h_ l):=U;rfl';refine bI al.1 ?_;rw[Ao];rfl';refine wK (λz=>?_) λz=>?_
    .have z:1<g.length:=by lia
     have:=tG (g.length-1);rw[Nat.sub_add_cancel (Ec z)] at this;rfl';refine uW (d:=ax g[0]) al.1 (by rw[show (0:Ah)=((0:Ag):Ah) from rfl,mI (by rw[Ao];lia),Lf]) ?_
     rfl';refine uW (d:=ax g[1]) al.1 (by rw[show (1:Ah)=((1:Ag):Ah) from rfl,mI (by rw[Ao];lia),Lf]) ?_
     rfl';exact V6 (V6 (qBt (q (Ab (x.1,x.2.1,g[0],g[1])) _ T ⟨(λz=>by cases z),λk=>by lia⟩)))
    .have k:two g.length=0:=by
      rcases (show g.length=0\/g.length=1 by lia) with h|h <;> rw[h] <;> rfl
     rw[k] at U;rfl';exact y9 ⟨Y,G,Ab (.loc j),rfl,rfl,al.2,by lia,rfl⟩
  .rintro _ _ ⟨Y,G,N,J,rfl,al,U,rfl⟩
   match Y,G,al with
   |[],[],_=>exact y9 ⟨_,_,_,_,rfl,(Gy _).symm.trans U,T,λy hy=>v y (by simp[hy])⟩
   |[],_::_,al=>exact al.elim
   |_::_,_,_=>cases J
 .rintro _ O ⟨H,w,A,N,rfl,U,B,_⟩
  rfl';exact q none O B ⟨λ_=>U.symm,λ_=>rfl⟩
noncomputable def s_:Aa Pt->Aa Pt->As
 |[],[]=>false
 |[],_::_=>true
 |_::_,[]=>false
 |p::ps,q::Y=>if p=q then s_ ps Y else rg p q
theorem FT (p:Pt):rg p p=false:=_S.xD.irr _
theorem WT (h1:rg p q=true)(h2:rg q r=true):rg p r=true:=_S.xD.tr h1 h2
theorem kX (h:rg p q=true):p≠q:=λe=>by subst e;rw[FT] at h;cases h
theorem CP (n:Ag)(l:Aa Pt):Tr (n+2) (qS l):=.tup _ _ λx Y=>by
 obtain⟨p,_,rfl⟩:=Au.mp Y;exact ZZ n p
theorem N7 (n:Ag)(l:Aa Pt):vo (n+2) (qS l)=true:=Bs.mpr λx Y=>by
 obtain⟨p,_,rfl⟩:=Au.mp Y;exact CQ n p
theorem eL:∀ a b:Aa Pt,yK (a.map ax) (b.map ax)=true
 |[],_=>rfl
 |_::_,[]=>rfl
 |p::a,q::b=>by
  show (yP (ax p) (ax q)&&yK (a.map ax) (b.map ax))=true;rw[eL a b];rfl
theorem o3 (a b:Aa Pt):ltN (qS a) (qS b)=s_ a b:=by
 unfold qS;rw[fE]
 induction a generalizing b with
 |nil=>cases b with
  |nil=>rfl
  |cons q b=>exact(by rfl:_H.lexLt [0] (2::_)=true)
 |cons p a Y=>cases b with
  |nil=>exact(by rfl:_H.lexLt (2::_) [0]=false)
  |cons q b =>
   rw[Cg,Cg,uE (ZZ 0 p) (ZZ 0 q) rfl,Y,DZ,R7];simp[s_]
theorem cH {a b:Aa Pt}(h:s_ a b=true):s_ b a=false:=by
 rw[<- o3] at *;cases q:ltN (qS b) (qS a) with
 |false=>rfl
 |true=>exact absurd (_S.xD.tr h q) (by rw[_S.xD.irr];simp)
theorem iZ (h:s_ c d=true):∀ a:Aa Pt,s_ (a++c) (a++d)=true
 |[]=>h
 |p::a=>by
  simp only[Vf,s_,Ds];exact iZ h a
theorem Y4 {α:Type}(l:Aa α) : l=[]\/∃ Y b,l=Y++[b]:=by simpa only [List.concat_eq_append] using List.eq_nil_or_concat l
noncomputable def wq (n:Ag)(au:Aa (Aa Pt))(p:Pt):Aa (Aa Pt):=au++(au.filter λl=>decide (l.length<n)).map λl=>l++[p]
def jf (n:Ag)(ps:Aa Pt):Aa (Aa Pt):=ps.foldl (wq n) [[]]
theorem eJ (n:Ag):∀ (k:Ag) (ps:Aa Pt),ps.length=k->Up ps->(∀ l,l∈jf n ps↔l.length<=n/\Up l/\∀ x∈l,x∈ps)/\(jf n ps).Nodup/\(jf n ps).length<=2 ^ k
 |0,ps,N,_=>by
  have:ps=[]:=Ew.mp N;subst this;refine⟨λl=>?_,by simp[jf],by simp[jf]⟩
  constructor
  .intro h
   have:l=[]:=by simpa [jf] using h
   subst this;simp
  .rintro⟨_,_,h⟩
   cases l with
   |nil=>simp[jf]
   |cons x l=>exact absurd (h x ba) ba
 |k+1,ps,N,o=>by
  rcases Y4 ps with rfl|⟨ps,p,rfl⟩
  .cases N
  .obtain⟨i,_,c⟩:=Di.mp o
   have E:∀ x∈ps,rg x p=true:=λx hx=>c x hx p ba
   obtain⟨J,L,d⟩:=eJ n k ps (by simpa using N) i
   have e:jf n (ps++[p])=wq n (jf n ps) p:=by simp[jf]
   rw[e];generalize jf n ps=F at J L d;refine⟨λl=>?_,?_,?_⟩
   .unfold wq
    rw[Bp];constructor
    .rintro (h|h)
     .obtain⟨w,I,C⟩:=(J l).mp h
      exact⟨w,I,λx hx=>by simp[C x hx]⟩
     .obtain⟨Y,O,rfl⟩:=Au.mp h
      obtain⟨O,j⟩:=Gz.mp O;obtain⟨w,I,C⟩:=(J Y).mp O;have r:Y.length<n:=by simpa using j
      refine⟨by simp;lia,?_,λx hx=>?_⟩
      .exact Di.mpr ⟨I,by simp,λx hx y g=>by
        have:y=p:=by simpa using g
        subst this;exact E x (C x hx)⟩
      .rcases Bp.mp hx with hx|hx
       .simp[C x hx]
       .simp at hx;simp[hx]
    .rintro⟨B,M,T⟩
     rcases Y4 l with rfl|⟨Y,q,rfl⟩
     .exact .inl ((J []).mpr ⟨by simp,by simp,by simp⟩)
     .obtain⟨s,_,u⟩:=Di.mp M
      have U:∀ x∈Y,rg x q=true:=λx hx=>u x hx q ba
      by_cases z:q=p
      .subst z
       refine .inr (Au.mpr ⟨Y,Gz.mpr ⟨(J Y).mpr ⟨by simp at B;lia,s,λx hx=>?_⟩,Cn (by simp at B;lia)⟩,rfl⟩)
       rcases Bp.mp (T x (by simp[hx])) with h|h
       .exact h
       .have:x=q:=by simpa using h
        exact absurd this (kX (U x hx))
      .have G:q∈ps:=by
        rcases Bp.mp (T q ba) with h|h
        .exact h
        .exact absurd (by simpa using h) z
       refine .inl ((J _).mpr ⟨B,M,λx hx=>?_⟩);rcases Bp.mp (T x hx) with h|h
       .exact h
       .have H:x=p:=by simpa using h
        rcases Bp.mp hx with hx|hx
        .have:=WT (U x hx) (E q G)
         exact absurd H (kX this)
        .have:x=q:=by simpa using hx
         rw[this];exact G
   .unfold wq
    rw[Ho];refine⟨L,?_,λa t b v A=>?_⟩
    .unfold Vc
     rw[Dj];exact(L.filter _).imp λh e=>h (List.append_cancel_right e)
    .subst A
     obtain⟨Y,O,rfl⟩:=Au.mp v;have:=((J _).mp t).2.2 p ba
     exact absurd rfl (kX (E p this))
   .unfold wq
    rw[Ca,Ao,Hn];have:=Fn (λl=>decide (l.length<n)) F
    lia
theorem L8 (Y:Aa Pt)(p:Pt)(S:ao)(h:Y.length<=50):zB (qS Y) (.tup [ax p]) S=.ok (qS (Y++[p])) S:=by
 have J:(Y.map ax).length+1<=br:=by
  rw[Ao];unfold br
  lia
 have e:zB (.tup (Y.map ax)) (.tup [ax p]) S=.ok (.tup (Y.map ax++[ax p])) S:=Be J;unfold qS;rw[e,Dp];rfl
theorem B6 (n:Ag)(ps:Aa Pt)(p:Pt):jf n (ps++[p])=wq n (jf n ps) p:=by simp[jf]
theorem iB {b:As}(h:f ak S=.ok (.bl b) S):wG (cg f) zQ ak S=.ok b S:=by
 unfold wG;rw[qAa h];cases b <;> rfl
theorem R9 (a:Ag)(S:ao):mi (.int (a:Ah)) (.int 4) S=.ok (.bl (decide (a<4))) S:=by
 show az.ok (D.bl (decide ((a:Ah)<4))) S=_;rw[(Lg.mpr ⟨λh=>by lia,λh=>by lia⟩:decide ((a:Ah)<4)=decide (a<4))]
theorem SB (a:Ag)(S:ao):ig (.int (a:Ah)) (.int 4) S=.ok (.bl (decide (a=4))) S:=by
 refine w8 (qBW ⟨?_,rfl⟩);rw[(Lg.mpr ⟨λh=>by lia,λh=>by lia⟩:decide ((a:Ah)=4)=decide (a=4))]
theorem iT (l:Aa Pt)(S:ao):zX [qS l] S=.ok (.int (l.length:Ah)) S:=by
 unfold qS;rw[<- Ao (f:=ax)];rfl
noncomputable def ka:Ag->Aa Pt->Aa (Aa Pt)
 |0,_=>[[]]
 |_+1,[]=>[]
 |k+1,p::l=>(ka k l).map (λm=>p::m)++ka (k+1) l
theorem v9:∀ (k:Ag) {l:Aa Pt},Up l->∀ m,m∈ka k l↔m.length=k/\Up m/\∀ x∈m,x∈l
 |0,l,_,m=>by
  constructor
  .intro h
   have:m=[]:=by simpa [ka] using h
   subst this;simp
  .rintro⟨h,_⟩
   have:=Ew.mp h;subst this;simp[ka]
 |k+1,[],_,m=>by
  constructor
  .intro h
   simp[ka] at h
  .rintro⟨h,_,Y⟩
   cases m with
   |nil=>cases h
   |cons x _=>exact absurd (Y x ba) ba
 |k+1,p::l,u,m=>by
  obtain⟨L,N⟩:=Ei.mp u;rw[ka,Bp,v9 (k+1) N m];constructor
  .rintro (h|⟨J,Y,U⟩)
   .obtain⟨n,T,rfl⟩:=Au.mp h
    obtain⟨I,E,C⟩:=(v9 k N n).mp T;refine⟨by simp[I],Ei.mpr ⟨λx hx=>L x (C x hx),E⟩,λx hx=>?_⟩
    rcases Az.mp hx with rfl|hx
    .simp
    .simp[C x hx]
   .exact⟨J,Y,λx hx=>by simp[U x hx]⟩
  .rintro⟨J,Y,U⟩
   cases m with
   |nil=>cases J
   |cons q n =>
    obtain⟨O,H⟩:=Ei.mp Y;by_cases B:q=p
    .subst B
     refine .inl (Au.mpr ⟨n,(v9 k N n).mpr ⟨by simpa using J,H,λx hx=>?_⟩,rfl⟩)
     rcases Az.mp (U x (by simp[hx])) with rfl|h
     .exact absurd rfl (kX (O x hx))
     .exact h
    .have G:q∈l:=by
      rcases Az.mp (U q ba) with h|h
      .exact absurd h B
      .exact h
     refine .inr ⟨J,Y,λx hx=>?_⟩;rcases Az.mp (U x hx) with rfl|h
     .rcases Az.mp hx with rfl|hx
      .exact G
      .exact absurd rfl (kX (WT (L q G) (O x hx)))
     .exact h
theorem tO:∀ (k:Ag) {l:Aa Pt},Up l->(ka k l).Pairwise λa b=>s_ a b=true
 |0,l,_=>by simp[ka]
 |k+1,[],_=>by simp[ka]
 |k+1,p::l,u=>by
  obtain⟨G,Y⟩:=Ei.mp u;rw[ka,Di];refine⟨?_,tO (k+1) Y,λa U b O=>?_⟩
  .rw[Dj]
   exact(tO k Y).imp λh=>iZ h [p]
  .obtain⟨n,_,rfl⟩:=Au.mp U
   obtain⟨N,_,J⟩:=(v9 (k+1) Y b).mp O;cases b with
   |nil=>cases N
   |cons q b =>
    have:=G q (J q ba)
    simp only[s_,Bc (kX this)];exact this
theorem GG:∀ l:Aa Pt,ka 1 l=l.map λp=>[p]
 |[]=>rfl
 |p::l=>by rw[ka,GG l,ka];rfl
theorem GI:∀ l:Aa Pt,ka 2 l=(vE l).map λy=>[y.1,y.2]
 |[]=>rfl
 |p::l=>by
  rw[ka,GG,GI l,vE,Dp,Dh,Dh];rfl
theorem GJ:∀ l:Aa Pt,ka 3 l=(rk l).flatMap λx=>(vE x.2).map λy=>[x.1,y.1,y.2]
 |[]=>rfl
 |p::l=>by
  rw[ka,GI,GJ l,rk,Ft,Dh];rfl
abbrev l4 (x:P4):Aa Pt:=[x.1,x.2.1,x.2.2.1,x.2.2.2]
def c4 (l:Aa Pt):Aa P4:=(h_ l).flatMap λx=>(vE x.2.2).map λy=>(x.1,x.2.1,y.1,y.2)
theorem GK:∀ l:Aa Pt,ka 4 l=(c4 l).map l4
 |[]=>rfl
 |p::l=>by
  unfold c4;rw[ka,GJ,GK l,h_,List.flatMap_append,Dp,Ra]
  congr 1
  rw[Ab3,Ra]
  congr 1
  funext x
  rw[Dh,Dh];rfl
theorem XH {gn:Aa Pt}(Y:Up gn):bN (((jf 4 gn).filter λl=>decide (l.length=4)).map qS)=(ka 4 gn).map qS:=by
 obtain⟨U,J,_⟩:=eJ 4 gn.length gn rfl Y;have up:=tO 4 Y;refine N1 (n:=2) (λx G=>?_) (List.Perm.map _ ((Nn ?_ ?_).mpr λl=>?_)) ?_
 .obtain⟨l,_,rfl⟩:=Au.mp G
  exact CP 0 l
 .exact up.imp λ{a b} h e=>by
   subst e;rw[cH h] at h;cases h
 .exact J.filter _
 .rw[v9 4 Y,Gz,U]
  constructor
  .rintro⟨a,b,c⟩
   exact⟨⟨by lia,b,c⟩,by simpa using a⟩
  .rintro⟨⟨a,b,c⟩,d⟩
   exact⟨by simpa using d,b,c⟩
 .rw[Dj]
  exact up.imp λh=>by rw[o3];exact cH h
theorem UN {xs Y:Aa D}(h:xs.length+Y.length<=br)(S:ao):zB (.lst xs) (.lst Y) S=.ok (.lst (xs++Y)) S:=Be h
inductive _F (gn:Aa Pt)(S:ao)(ds:Aa D)(env:qB)(S':ao):Prop
 |mk (ps qs:Aa Pt) (e3:Am D) (h_0:S'=S) (h_1:env=[Ab (.tup (gn.map ax)),Ab (.int 4),Ab (.lst ((jf 4 ps).map qS)),e3]) (h_2:ps++qs=gn) (h_3:ds=qs.map ax):_F gn S ds env S'
theorem K9 (gn:Aa Pt)(hp:gn.length<=16)(O:Up gn)(S:ao):er [.tup (gn.map ax),.int 4] S=.ok (.lst ((ka 4 gn).map qS)) S:=by
 have big:∀ ps J,ps++J=gn->(jf 4 ps).length<=65536/\∀ l∈jf 4 ps,l.length<=50:=λps J e=>by
  have N:ps.length<=gn.length:=by have:=congrArg Qm e;simp at this;lia
  have up:Up ps:=by rw[<- e] at O;exact(Di.mp O).1
  obtain⟨a,_,c⟩:=eJ 4 ps.length ps rfl up;refine⟨Cw c (Cw (Kn li (Cw N hp)) bb),λl N=>?_⟩
  have:=((a l).mp N).1
  lia
 have B:Rt (dz [Ab (.tup (gn.map ax)),Ab (.int 4),none,none] S) λd Y=>d=.lst ((ka 4 gn).map qS)/\Y=S:=by
  unfold dz;have T:1<=br:=by decide
  have z:0<=br:=by decide
  refine uF (bH (qM (d:=.lst [qS []]) (R6 (XT (YY (as:=[]) rfl z)) T) ?_));simp only[Ox,Ls];refine uF (FY (o:=none) (ds:=gn.map ax) (S1:=S) rfl ?_);refine cL (_F gn S) (λds ak Y h=>?_) ?_ ?_ ⟨[],gn,none,rfl,rfl,rfl,rfl⟩
  .obtain⟨ps,J,C,rfl,_,_,_⟩:=h
   trivial
  .rintro d ds ak Y ⟨ps,J,C,rfl,rfl,G,U⟩
   cases J with
   |nil=>cases U
   |cons q J =>
    injection U with A I
    subst A I;refine⟨[Ab (.tup (gn.map ax)),Ab (.int 4),Ab (.lst ((jf (4) ps).map qS)),Ab (ax q)],Y,rfl,?_⟩;obtain⟨u,E⟩:=big ps _ G;have L:=bV (cb:=qS) (bw:=[none,Ab 1,Ab 3]) (fi:=j_ (q9 2)) (g:=bj 0) (t:=wG (cg (d2 mi (qN zX (q8 (q9 0) qA)) (q9 1))) zQ) (fe:=d2 zB (q9 0) (zA (q8 (q9 2) qA))) (ak:=[Ab (.tup (gn.map ax)),Ab (.int 4),Ab (.lst ((jf (4) ps).map qS)),Ab (ax q)]) (S:=Y) (o:=none) rfl trivial (λl=>decide (l.length<4)) (λl=>qS (l++[q])) (λak=>∃ a,ak=[a,Ab (.int 4),Ab (ax q)]) ⟨none,rfl⟩ (by unfold br;lia)
     (λl N ak ⟨a,e⟩=>by
      subst e;refine⟨[Ab (qS l),Ab (.int 4),Ab (ax q)],rfl,⟨_,rfl⟩,iB ((rJ ((eG (a:=qS l) rfl).trans (iT l Y)) rfl).trans (R9 _ _)),λ_=>?_⟩;exact(rJ (a:=qS l) rfl (YY (XT (a:=ax q) rfl) T)).trans (L8 l q Y (E l N)))
    have e:(jf (4) ps).map qS++((jf (4) ps).filter λl=>decide (l.length<4)).map (λl=>qS (l++[q]))=(jf (4) (ps++[q])).map qS:=by
     rw[B6];unfold wq;rw[Dp,Dh];rfl
    have k:((jf (4) ps).map qS).length+(((jf (4) ps).filter λl=>decide (l.length<4)).map (λl=>qS (l++[q]))).length<=br:=by
     rw[Ao,Ao];have:=Fn (λl=>decide (l.length<4)) (jf (4) ps);unfold br
     lia
    refine bH (qM ((rJ (a:=.lst ((jf (4) ps).map qS)) rfl L).trans (UN k Y)) ?_);rw[e];exact⟨ps++[q],J,Ab (ax q),rfl,rfl,by rw[<- G];simp,rfl⟩
  .rintro ak Y ⟨ps,J,C,rfl,rfl,G,U⟩
   cases J with
   |cons _ _=>cases U
   |nil =>
    have:ps=gn:=by simpa using G
    subst this;obtain⟨u,E⟩:=big ps [] ba
    have L:=bV (cb:=qS) (bw:=[none,Ab 1]) (fi:=j_ (q9 2)) (g:=bj 0) (t:=wG (cg (d2 ig (qN zX (q8 (q9 0) qA)) (q9 1))) zQ) (fe:=q9 0) (ak:=[Ab (.tup (ps.map ax)),Ab (.int 4),Ab (.lst ((jf (4) ps).map qS)),C]) (S:=Y) (o:=none) rfl trivial (λl=>decide (l.length=4)) qS (λak=>∃ a,ak=[a,Ab (.int 4)]) ⟨none,rfl⟩ (by unfold br;lia)
     (λl N ak ⟨a,e⟩=>by
      subst e;exact⟨[Ab (qS l),Ab (.int 4)],rfl,⟨_,rfl⟩,iB ((rJ ((eG (a:=qS l) rfl).trans (iT l Y)) rfl).trans (SB _ _)),λ_=>rfl⟩)
    refine a9 (qM (d:=.lst ((ka 4 ps).map qS)) (S:=Y) ((eG L).trans ?_) ⟨rfl,rfl⟩);have H:b0 [.lst (((jf (4) ps).filter λl=>decide (l.length=4)).map qS)] Y=.ok (.lst (bN (((jf (4) ps).filter λl=>decide (l.length=4)).map qS))) Y:=by
     refine Be ?_;rw[Bj,Bq];refine⟨?_,?_⟩
     .rw[Ao]
      have:=Fn (λl=>decide (l.length=4)) (jf (4) ps)
      lia
     .refine Bs.mpr λx j=>?_
      obtain⟨l,N,rfl⟩:=Au.mp j;have w:l.length=4:=by simpa using (Gz.mp N).2
      rw[Bj,Bj];refine⟨⟨?_,N7 4 l⟩,Bs.mpr λy M=>?_⟩
      .cases l with
       |nil=>cases w
       |cons _ _=>rfl
      .obtain⟨m,_,rfl⟩:=Au.mp M
       exact eL l m
    rw[H,XH O]
 obtain⟨d,Y,e,rfl,rfl⟩:=B;rw[j9];exact YT rfl e
def g_ (p:Ag):Prop:=2<=p/\∀ d,d∣p->d=1\/d=p
theorem g_.dvd_mul {p a b:Ag}(hp:g_ p)(h:p∣a*b):p∣a\/p∣b:=by
 rcases hp.2 (Wq p a) (Nat.gcd_dvd_left p a) with h1|h1
 .exact .inr (Nat.Coprime.dvd_of_dvd_mul_left h1 h)
 .exact .inl (h1▸Nat.gcd_dvd_right p a)
theorem g_.dvd_pow (hp:g_ p)(Y:g_ q):∀ {t:Ag},p∣q ^ t->p=q
 |0,h=>by
  have J:=Jf ba h
  have U:=hp.1;simp only[Vr] at J
  lia
 |t+1,h=>by
  rw[Hn] at h;rcases hp.dvd_mul h with h|h
  .exact hp.dvd_pow Y h
  .rcases Y.2 p h with e|e
   .have:=hp.1
    lia
   .exact e
abbrev FL:=Aa (Ag × Ag)
variable {L:FL}
def xY:FL->Ag
 |[]=>1
 |x::L=>x.1 ^ x.2*xY L
structure qh (L:FL)(n:Ag):Prop where
 prm:∀ x∈L,g_ x.1
 pos:∀ x∈L,1<=x.2
 nd:(L.map (·.1)).Nodup
 eq:xY L=n
theorem qh.tail {x:Ag × Ag}(h:qh (x::L) n):qh L (xY L):=
 ⟨λy Y=>h.prm y (AT _ Y),λy Y=>h.pos y (AT _ Y),(Ea.mp h.nd).2,rfl⟩
theorem uD (Y:g_ q):∀ {L:FL},(∀ x∈L,g_ x.1)->q∣xY L->∃ x∈L,x.1=q
 |[],_,h=>by
  have:=Jf bb h
  have:=Y.1;simp[xY] at *
  lia
 |x::L,J,h=>by
  rcases Y.dvd_mul (show q∣x.1 ^ x.2*xY L from h) with h|h
  .exact⟨x,Cf ..,(Y.dvd_pow (J x (Cf ..)) h).symm⟩
  .obtain⟨y,G,U⟩:=uD Y (λy N=>J y (AT _ N)) h
   exact⟨y,AT _ G,U⟩
noncomputable def sg (x:Ag × Ag):Ah:=if x.1 % 4=1 then (x.2:Ah)+1 else if x.1 % 4=3/\x.2 % 2=1 then 0 else 1
def qw:FL->Ah
 |[]=>1
 |x::L=>sg x*qw L
noncomputable def inc (p:Ag):FL->FL
 |[]=>[(p,1)]
 |x::L=>if x.1=p then (p,x.2+1)::L else x::inc p L
def kB (p:Ag):FL->Ag
 |[]=>0
 |x::L=>if x.1=p then x.2 else kB p L
set_option tactic.hygienic true in
theorem cS (p:Ag):∀ L:FL,xY (inc p L)=p*xY L
 |[]=>by simp[inc,xY]
 |x::L=>by
  unfold inc
  split
  .rename_i h
   simp only[xY];rw[h,Hn];rw[Lj (p ^ x.2) p,Zp]
  .simp only[xY,cS p L]
   exact Nat.mul_left_comm _ _ _
set_option tactic.hygienic true in
theorem cA (p:Ag):∀ (L:FL) (q:Ag),q∈(inc p L).map (·.1)↔q=p\/q∈L.map (·.1)
 |[],q=>by simp[inc]
 |x::L,q=>by
  unfold inc
  split
  .rename_i h
   simp only[Cg,Az,h];constructor
   .rintro (h|h)
    .exact .inl h
    .exact .inr (.inr h)
   .rintro (h|h|h)
    .exact .inl h
    .exact .inl h
    .exact .inr h
  .simp only[Cg,Az,cA p L q]
   constructor
   .rintro (h|h|h)
    .exact .inr (.inl h)
    .exact .inl h
    .exact .inr (.inr h)
   .rintro (h|h|h)
    .exact .inr (.inl h)
    .exact .inl h
    .exact .inr (.inr h)
set_option tactic.hygienic true in
theorem Y0 (p:Ag):∀ {L:FL},(L.map (·.1)).Nodup->((inc p L).map (·.1)).Nodup
 |[],_=>by simp[inc]
 |x::L,h=>by
  have Y:=Ea.mp h;unfold inc
  split
  .rename_i e
   simp only[Cg];rw[<- e];exact h
  .rename_i e
   simp only[Cg];refine Ea.mpr ⟨λhm=>?_,Y0 p Y.2⟩;rcases (cA p L x.1).mp hm with J|hm
   .exact e J
   .exact Y.1 hm
theorem lZ:∀ {L:FL} {x:Ag × Ag},x∈inc p L->(x.1=p/\1<=x.2)\/x∈L
 |[],x,h=>by
  have:x=(p,1):=by simpa [inc] using h
  subst this;exact .inl ⟨rfl,Ax _⟩
 |y::L,x,h=>by
  unfold inc at h
  split at h
  .rcases Az.mp h with e|h
   .subst e
    exact .inl ⟨rfl,by simp⟩
   .exact .inr (AT _ h)
  .rcases Az.mp h with e|h
   .subst e
    exact .inr (Cf ..)
   .rcases lZ h with h|h
    .exact .inl h
    .exact .inr (AT _ h)
theorem qh.inc (h:qh L n)(hp:g_ p):qh (_K.inc p L) (p*n) where
 prm:=λx hx=>by
  rcases lZ hx with⟨e,_⟩|hx
  .rw[e];exact hp
  .exact h.prm x hx
 pos:=λx hx=>by
  rcases lZ hx with⟨_,e⟩|hx
  .exact e
  .exact h.pos x hx
 nd:=Y0 p h.nd
 eq:=by rw[cS,h.eq]
theorem BW:qh [] 1:=⟨by simp,by simp,by simp,rfl⟩
def fr (L:FL):Aa (_L.bq × D):=L.map λx=>(.inl (x.1:Ah),.int (x.2:Ah))
theorem V3 (p:Ag):∀ L:FL,(xK (fr L) (.inl (p:Ah))).getD (.int 0)=.int (kB p L:Ah)
 |[]=>rfl
 |x::L=>by
  have J:=V3 p L;unfold kB;by_cases h:x.1=p
  .rw[Be h]
   have:xK (fr (x::L)) (.inl (p:Ah))=Ab (.int (x.2:Ah)):=by simp[xK,fr,h]
   rw[this];rfl
  .rw[Bc h]
   have Y:¬ ((Hr (x.1:Ah):_L.bq)=Hr (p:Ah)):=λe=>h (by injection e with e;lia)
   have:xK (fr (x::L)) (.inl (p:Ah))=xK (fr L) (.inl (p:Ah)):=by simp only[xK,fr,Cg,Ff,Y,Jz]
   rw[this];exact J
theorem L4 (p:Ag)(L:FL):(fr L).any (λU=>decide (U.1=(.inl (p:Ah):_L.bq)))=true↔p∈L.map (·.1):=by
 simp only[fr,wS,Ld,Function.comp,Bq,Au];constructor
 .rintro⟨x,J,Y⟩
  injection Y with Y
  exact⟨x,J,by lia⟩
 .rintro⟨x,J,Y⟩
  exact⟨x,J,by rw[Y]⟩
theorem WU {p:Ag}{d:D}:∀ {L:FL},p ∉ L.map (·.1)->((fr L).map λY=>if Y.1=(.inl (p:Ah):_L.bq) then (Y.1,d) else Y)=fr L
 |[],_=>rfl
 |x::L,h=>by
  simp only[Cg,Az,not_or] at h;have J:¬ ((Hr (x.1:Ah):_L.bq)=Hr (p:Ah)):=λe=>h.1 (by injection e with e;lia)
  show (if (Hr (x.1:Ah):_L.bq)=Hr (p:Ah) then _ else _)::((fr L).map _)=_
  rw[Bc J,WU h.2];rfl
theorem YI (p:Ag):∀ {L:FL},(L.map (·.1)).Nodup->vO (fr L) (.inl (p:Ah)) (.int ((kB p L:Ah)+1))=fr (inc p L)
 |[],_=>rfl
 |x::L,h=>by
  have C:=Ea.mp h;have O:=YI p C.2;by_cases e:x.1=p
  .have N:((fr (x::L)).any λG=>decide (G.1=(.inl (p:Ah):_L.bq)))=true:=(L4 p _).mpr (by simp[e])
   have Y:p ∉ L.map (·.1):=e▸C.1
   unfold vO;rw[Be N];show (if (Hr (x.1:Ah):_L.bq)=Hr (p:Ah) then _ else _)::((fr L).map _)=_
   rw[WU Y,Be (by rw[e])]
   simp[kB,inc,e,fr]
  .have J:¬ ((Hr (x.1:Ah):_L.bq)=Hr (p:Ah)):=λq=>e (by injection q with q;lia)
   have T:kB p (x::L)=kB p L:=by simp[kB,e]
   have B:inc p (x::L)=x::inc p L:=by simp[inc,e]
   rw[T,B];have U:((fr (x::L)).any λG=>decide (G.1=(.inl (p:Ah):_L.bq)))=((fr L).any λG=>decide (G.1=(.inl (p:Ah):_L.bq))):=by
    show (decide ((Hr (x.1:Ah):_L.bq)=Hr (p:Ah))||_)=_
    rw[Cq J,Ac3];rfl
   unfold vO at O ⊢;rw[U];show _=(.inl (x.1:Ah),.int (x.2:Ah))::fr (inc p L);rw[<- O]
   split
   .show (if (Hr (x.1:Ah):_L.bq)=Hr (p:Ah) then _ else _)::((fr L).map _)=_
    rw[Bc J]
   .rfl
theorem oW:∀ {L:FL},(∀ x∈L,g_ x.1)->(∀ x∈L,1<=x.2)->2 ^ L.length<=xY L
 |[],_,_=>by simp[xY]
 |x::L,J,U=>by
  have G:=oW (L:=L) (λy Y=>J y (AT _ Y)) (λy Y=>U y (AT _ Y));have B:=(J x (Cf ..)).1;have C:=U x (Cf ..);have N:2<=x.1 ^ x.2:=by
   obtain⟨k,O⟩:∃ k,x.2=k+1:=⟨x.2-1,by lia⟩
   rw[O,Hn];have:1<=x.1 ^ k:=Nat.pow_pos li
   calc 2<=1*x.1:=by lia
    _<=x.1 ^ k*x.1:=Ni _ this
  show 2 ^ (L.length+1)<=x.1 ^ x.2*xY L;rw[Hn,Lj];exact Ge N G
theorem qh.short (h:qh L n)(J:n<=1000000000000):L.length<40:=by
 have Y:=oW h.prm h.pos;rw[h.eq] at Y;rcases Fp L.length 40 with g|g
 .exact g
 .have:2 ^ 40<=2 ^ L.length:=Kn li g
  lia
theorem d9 (hp:g_ p){u v:Ah}(h:(p:Ah)∣u*v):(p:Ah)∣u\/(p:Ah)∣v:=by
 rw[<- Jv,Pm] at h;rw[<- Jv,<- Jv];exact hp.dvd_mul h
theorem ES (hp:g_ p){u:Ah}(h:(p:Ah)∣u*u):(p:Ah)∣u:=(d9 hp h).elim id id
theorem tz (a:Ah):0<=a*a:=by
 rw[<- Nj];exact Ik (Oy _) (Oy _)
theorem cC {a b:Ah}(Y:1<=a)(J:1<=b):a<=a*b:=by
 have:=Ik (a:=a) (b:=b-1) li li
 grind
def D_ (p:Ag):As:=(Cj 18).any λd=>Nat.blt 1 d&&Nat.blt d p&&Nat.beq (p % d) 0
theorem o6 (hp:g_ p):D_ p=false:=by
 refine Bool.eq_false_iff.mpr λh=>?_;obtain⟨d,_,h⟩:=Ld.mp h;rw[Bj,Bj,Nat.blt_eq,Nat.blt_eq] at h;rcases hp.2 d (Ws (Rb h.2)) with w|w <;> lia
theorem YZ (hp:g_ p)(Y:p<301)(h1:p % 4=1):∃ a b:Ah,a*a+b*b=p:=by
 have k:(Cj 301).all (λp=>D_ p||!Nat.beq (p % 4) 1||(Cj 18).any λa=>(Cj 18).any λb=>Nat.beq (a*a+b*b) p)=true:=kd
 have:=Bs.mp k p (Dn.mpr Y);rw[o6 hp,h1] at this;obtain⟨a,_,h⟩:=Ld.mp this;obtain⟨b,_,h⟩:=Ld.mp h;exact⟨a,b,by have:=Rb h;exact_mod_cast this⟩
theorem _v (x:Ah){p:Ag}(hp:0<p):∃ (k:Ah) (c:Ag),c<p/2+1/\(x=p*k+c\/x=p*k-c):=by
 have J:=Int.mul_ediv_add_emod x p;have Y:=Mc x (show (p:Ah)≠0 by lia)
 have U:=Jr x (show (0:Ah)<p by lia)
 rcases Vs p (2*(x % p)) with g|g
 .exact⟨x/p+1,(p-x % p).toNat,by lia,.inr (by rw[Sj li];grind)⟩
 .exact⟨x/p,(x % p).toNat,by lia,.inl (by rw[Sj Y];exact J.symm)⟩
theorem GS (hp:g_ p)(Y:p<301)(h3:p % 4=3){x y:Ah}(h:(p:Ah)∣x*x+y*y):(p:Ah)∣x/\(p:Ah)∣y:=by
 have k:(Cj 301).all (λp=>D_ p||!Nat.beq (p % 4) 3||(Cj (p/2+1)).all λa=>(Cj (p/2+1)).all λb=>!Nat.beq ((a*a+b*b) % p) 0||Nat.beq (a+b) 0)=true:=kd
 have:=Bs.mp k p (Dn.mpr Y);rw[o6 hp,h3] at this;have O:=hp.1;obtain⟨k,c,U,N⟩:=_v x (show 0<p by lia)
 obtain⟨l,d,d1,J⟩:=_v y (show 0<p by lia)
 have:=Bs.mp (Bs.mp this c (Dn.mpr U)) d (Dn.mpr d1);obtain⟨t,C⟩:=h;have e:∃ w:Ah,((c*c+d*d:Ag):Ah)=p*w:=by
  rcases N with rfl|rfl <;> rcases J with rfl|rfl
  .exact⟨t-(p*k*k+2*k*c+p*l*l+2*l*d),by push_cast;grind⟩
  .exact⟨t-(p*k*k+2*k*c+p*l*l-2*l*d),by push_cast;grind⟩
  .exact⟨t-(p*k*k-2*k*c+p*l*l+2*l*d),by push_cast;grind⟩
  .exact⟨t-(p*k*k-2*k*c+p*l*l-2*l*d),by push_cast;grind⟩
 obtain⟨w,G⟩:=e;rw[Nat.mod_eq_zero_of_dvd (Pi.mp ⟨w,G⟩)] at this;have:=Rb this;exact⟨⟨k,by lia⟩,⟨l,by lia⟩⟩
theorem jK {α β:Type}{f:α->β}{l:Aa α}(h:∀ a∈l,∀ b∈l,f a=f b->a=b)(nd:l.Nodup):(l.map f).Nodup:=by
 induction l with
 |nil=>exact Pl
 |cons a t G =>
  have Y:=Ea.mp nd;refine Ea.mpr ⟨λq=>?_,G (λx U y N=>h x (AT _ U) y (AT _ N)) Y.2⟩;obtain⟨b,J,e⟩:=Au.mp q;exact Y.1 (h b (AT _ J) a (Cf ..) e▸J)
theorem JF {α β:Type}{l:Aa α}{m:Aa β}(J:l.Nodup)(hm:m.Nodup):(l.flatMap λx=>m.map λy=>(x,y)).Nodup:=by
 refine List.pairwise_flatMap.mpr ⟨λa _=>jK (λx _ y _ e=>(Om e).2) hm,J.imp λ{a b} h x Y y U e=>?_⟩;obtain⟨u,_,rfl⟩:=Au.mp Y;obtain⟨v,_,rfl⟩:=Au.mp U;exact h (Om e).1
theorem bD {α:Type}[Qi α] : ∀ {L G:Aa α},L.Nodup->(∀ s∈L,s∈G)->L.length<=G.length
 |[],_,_,_=>Fk _
 |x::L,G,U,h=>by
  have Y:=Ea.mp U;have p:=List.perm_cons_erase (h x (.head _));have:=bD (L:=L) (G:=G.erase x) Y.2 λs J=>(Az.mp (p.mem_iff.mp (h s (.tail _ J)))).resolve_left λe=>Y.1 (e▸J);rw[p.length_eq,Cb,Cb];exact AaK this
variable {p:Ag}{a b:Ah}
abbrev Z2:=Ah × Ah
noncomputable def rng (n:Ag):Aa Ah:=(Cj (2*n+1)).map λi:Ag=>(i:Ah)-n
theorem d3 {x:Ah}:x∈rng n ↔ -n<=x/\x<=n:=by
 unfold rng;rw[Au];refine⟨λ⟨i,h,e⟩=>?_,λh=>⟨(x+n).toNat,?_,?_⟩⟩
 .have:=Dn.mp h
  lia
 .exact Dn.mpr li
 .lia
theorem Y1 (n:Ag):(rng n).Nodup:=jK (λa _ b _ e=>by lia) Vb
def gn (n:Ag):Aa Z2:=((rng n).flatMap λx=>(rng n).map λy=>(x,y)).filter λz=>decide (z.1*z.1+z.2*z.2=n)
theorem GW (x:Ah):x<=x*x /\ -x<=x*x:=by
 rcases Vs 0 x with h|h
 .have:=cC (a:=x) (b:=x) li li
  lia
 .rcases Vs x 0 with g|g
  .have:=cC (a:=-x) (b:=-x) li li
   have e : -x * -x=x*x:=by grind
   lia
  .have:x=0:=by lia
   subst this
   decide
theorem zM {x y:Ah}:(x,y)∈gn n↔x*x+y*y=n:=by
 unfold gn;rw[Gz,Bq];refine⟨λh=>h.2,λe=>⟨?_,e⟩⟩;have J:=GW x;have U:=GW y;have Y:=tz x;have G:=tz y;exact Rc.mpr ⟨x,d3.mpr li,Au.mpr ⟨y,d3.mpr li,rfl⟩⟩
theorem yU (n:Ag):(gn n).Nodup:=Ng _ (JF (Y1 n) (Y1 n))
def R (n:Ag):Ag:=(gn n).length
theorem jJ {l m:Aa Z2}(Y:l.Nodup)(hm:m.Nodup)(h:∀ x y,(x,y)∈l↔(x,y)∈m):l.length=m.length:=
 ((Nn Y hm).mpr λ⟨x,y⟩=>h x y).length_eq
theorem qA7 {l:Aa Z2}(Y:l.Nodup)(h:∀ x y,(x,y)∈l↔x*x+y*y=n):l.length=R n:=jJ Y (yU n) λx y=>by rw[h,zM]
theorem L7 {α:Type}(A B:α->As):∀ {l:Aa α},(∀ z∈l,A z=true\/B z=true)->(l.filter A).length+(l.filter B).length=l.length+(l.filter λz=>A z&&B z).length
 |[],_=>rfl
 |a::t,h=>by
  have N:=L7 A B (l:=t) λz Y=>h z (AT _ Y);have J:=h a (Cf ..);simp only[AaX,Cb];cases G:A a <;> cases U:B a <;> simp[G,U] at J ⊢ <;> lia
def tu (a b:Ah)(z:Z2):Z2:=(a*z.1-b*z.2,a*z.2+b*z.1)
theorem CT (hp:g_ p)(e:a*a+b*b=p){z w:Z2}(h:tu a b z=tu a b w):z=w:=by
 obtain⟨x,y⟩:=z;obtain⟨u,v⟩:=w;obtain⟨G,J⟩:=Om h;dsimp only at G J;have O:=hp.1;have Y:(p:Ah)≠0:=by lia
 have N:(p:Ah)*x=p*u:=by rw[<- e];grind
 have U:(p:Ah)*y=p*v:=by rw[<- e];grind
 rw[Cd Y N,Cd Y U]
theorem UR (hp:g_ p)(e:a*a+b*b=p)(n:Ag):((gn (p*n)).filter λz=>decide ((p:Ah)∣a*z.1+b*z.2)).length=R n:=by
 have I:=hp.1;have J:(p:Ah)≠0:=by lia
 rw[R,<- Ao (f:=tu a b) (as:=gn n)];refine jJ (Ng _ (yU _)) (jK (λz _ w _ h=>CT hp e h) (yU n)) λx y=>?_;rw[Gz,zM,Bq,Au];dsimp only;refine⟨λ⟨T,u,U⟩=>?_,λ⟨⟨s,t⟩,G,Y⟩=>?_⟩
 .have N:x*x+y*y=p*(n:Ah):=by rw[T];exact Dv ..
  have O:(a*x+b*y)*(a*x+b*y)+(a*y-b*x)*(a*y-b*x)=p*(p*n):=by rw[<- N,<- e];grind
  have B:(p:Ah)∣(a*y-b*x)*(a*y-b*x):=⟨p*n-u*(a*x+b*y),by grind⟩
  obtain⟨v,hv⟩:=ES hp B;refine⟨(u,v),zM.mpr ?_,?_⟩
  .have:(p:Ah)*(p*(u*u+v*v))=p*(p*n):=by rw[<- O,U,hv];grind
   exact Cd J (Cd J this)
  .have E:(p:Ah)*(a*u-b*v)=p*x:=by
    have:(p:Ah)*(a*u-b*v)=a*(p*u)-b*(p*v):=by grind
    rw[this,<- U,<- hv,<- e];grind
   have C:(p:Ah)*(a*v+b*u)=p*y:=by
    have:(p:Ah)*(a*v+b*u)=a*(p*v)+b*(p*u):=by grind
    rw[this,<- U,<- hv,<- e];grind
   exact Hj (Cd J E) (Cd J C)
 .have G:=zM.mp G
  cases Y;refine⟨?_,s,?_⟩
  .rw[Dv,<- G,<- e];grind
  .rw[<- e];grind
theorem Y5 (hp:g_ p)(e:a*a+b*b=p):¬ (p:Ah)∣a:=λ⟨k,Y⟩=>by
 have C:=hp.1;have G:(p:Ah)≠0:=by lia
 have J:(p:Ah)∣b*b:=⟨1-k*a,by rw[Int.mul_sub,<- e,Y];grind⟩
 obtain⟨j,U⟩:=ES hp J;have:(p:Ah)*(p*(k*k+j*j))=p*1:=by
  have:(p:Ah)*(p*(k*k+j*j))=a*a+b*b:=by rw[Y,U];grind
  rw[this,e];lia
 have:=Cd G this;have N:=tz k;have O:=tz j;rcases Vs 0 (k*k+j*j) with g|g
 .have:=cC (a:=p) (b:=k*k+j*j) li li
  lia
 .have z:k*k+j*j=0:=by lia
  rw[z] at this
  lia
theorem _o (hp:g_ p)(h1:p % 4=1)(e:a*a+b*b=p){n:Ag}{x y:Ah}(hz:x*x+y*y=((p*n:Ag):Ah))(J:(p:Ah)∣a*x+b*y)(U:(p:Ah)∣a*x + -b*y):∃ u v,x=p*u/\y=p*v/\(n:Ah)=p*(u*u+v*v):=by
 have T:=hp.1;have B:(p:Ah)≠0:=by lia
 have Y:¬ (p:Ah)∣2:=λh=>by
  have:=Zo bb h
  have:p=2:=by lia
  subst this
  lia
 have C:(p:Ah)∣2*(a*x):=by
  have:=Int.dvd_add J U
  rwa [show a*x+b*y+(a*x + -b*y)=2*(a*x) by grind] at this
 have N:(p:Ah)∣2*(b*y):=by
  have:=Int.dvd_sub J U
  rwa [show a*x+b*y-(a*x + -b*y)=2*(b*y) by grind] at this
 have O:¬ (p:Ah)∣b:=Y5 hp (a:=b) (b:=a) (by rw[Int.add_comm];exact e)
 obtain⟨u,G⟩:=((d9 hp (((d9 hp C).resolve_left Y))).resolve_left (Y5 hp e));obtain⟨v,hv⟩:=((d9 hp (((d9 hp N).resolve_left Y))).resolve_left O);refine⟨u,v,G,hv,?_⟩;have:(p:Ah)*n=p*(p*(u*u+v*v)):=by
  rw[<- Dv,<- hz,G,hv];grind
 exact Cd B this
theorem NR (hp:g_ p)(e:a*a+b*b=p){n:Ag}{x y:Ah}(hz:x*x+y*y=((p*n:Ag):Ah)):(p:Ah)∣a*x+b*y\/(p:Ah)∣a*x + -b*y:=
 d9 hp ⟨a*a*n-y*y,by
  have:x*x+y*y=p*(n:Ah):=by rw[hz];exact Dv ..
  have:(p:Ah)*(a*a*n-y*y)=a*a*(p*n)-p*(y*y):=by grind
  rw[this,<- ‹x*x+y*y=p*(n:Ah)›,<- e];grind⟩
theorem aF (hp:g_ p)(e:a*a+b*b=p):R (p*n)+((gn (p*n)).filter λz=>decide ((p:Ah)∣a*z.1+b*z.2)&&decide ((p:Ah)∣a*z.1 + -b*z.2)).length=2*R n:=by
 have U:=UR hp e n;have Y:=UR hp (a:=a) (b:=-b) (by rw[<- e];grind) n
 have:=L7 (λz:Z2=>decide ((p:Ah)∣a*z.1+b*z.2)) (λz=>decide ((p:Ah)∣a*z.1 + -b*z.2)) (l:=gn (p*n)) λ⟨x,y⟩ J=>by
  rw[Bq,Bq];exact NR hp e (zM.mp J)
 rw[U,Y] at this;unfold R at *
 lia
theorem R1a (hp:g_ p)(U:p<301)(h1:p % 4=1)(Y:¬ p∣n):R (p*n)=2*R n:=by
 obtain⟨a,b,e⟩:=YZ hp U h1;rw[<- aF hp e,Ew.mpr]
 .rfl
 .refine Ml.mpr λ⟨x,y⟩ J q=>?_
  rw[Bj,Bq,Bq] at q;obtain⟨u,v,_,_,q⟩:=_o hp h1 e (zM.mp J) q.1 q.2;exact Y (Pi.mp ⟨_,q⟩)
theorem R1b (hp:g_ p)(T:p<301)(h1:p % 4=1):R (p*(p*m))+R m=2*R (p*m):=by
 obtain⟨a,b,e⟩:=YZ hp T h1;have E:=hp.1;have U:(p:Ah)≠0:=by lia
 rw[<- aF hp e (n:=p*m)]
 congr 1
 rw[R,<- Ao (f:=λz:Z2=>((p:Ah)*z.1,(p:Ah)*z.2)) (as:=gn m)];refine jJ (jK (λz _ w _ h=>?_) (yU m)) (Ng _ (yU _)) λx y=>?_
 .obtain⟨G,C⟩:=Om h
  exact Hj (Cd U G) (Cd U C)
 .rw[Gz,zM,Bj,Bq,Bq,Au]
  refine⟨λ⟨⟨s,t⟩,J,Y⟩=>?_,λ⟨O,N,B⟩=>?_⟩
  .have J:=zM.mp J
   cases Y;refine⟨?_,⟨a*s+b*t,by grind⟩,⟨a*s + -b*t,by grind⟩⟩
   rw[Dv,Dv,<- J];grind
  .obtain⟨u,v,rfl,rfl,q⟩:=_o hp h1 e O N B
   refine⟨(u,v),zM.mpr ?_,rfl⟩;rw[Dv] at q;exact(Cd U q).symm
theorem R1 (hp:g_ p)(Y:p<301)(h1:p % 4=1)(hm:¬ p∣m):∀ t:Ag,R (p ^ t*m)=(t+1)*R m/\R (p ^ (t+1)*m)=(t+2)*R m
 |0=>by
  rw[Vr,Xk,Xk,Gy,Ab4];exact⟨rfl,R1a hp Y h1 hm⟩
 |t+1=>by
  obtain⟨G,i2⟩:=R1 hp Y h1 hm t;refine⟨i2,?_⟩;have U:p ^ (t+1+1)*m=p*(p*(p ^ t*m)):=by rw[Hn,Hn];grind
  have J:p ^ (t+1)*m=p*(p ^ t*m):=by rw[Hn];grind
  have:=R1b hp Y h1 (m:=p ^ t*m);rw[<- U,<- J,G,i2] at this
  grind
theorem R3a (hp:g_ p)(U:p<301)(h3:p % 4=3)(J:¬ p∣n):R (p*n)=0:=by
 refine Ew.mpr (List.eq_nil_iff_forall_not_mem.mpr λ⟨x,y⟩ Y=>?_);have N:=hp.1;have G:(p:Ah)≠0:=by lia
 have Y:=zM.mp Y;obtain⟨⟨u,rfl⟩,⟨v,rfl⟩⟩:=GS hp U h3 (x:=x) (y:=y) ⟨n,by rw[Y];exact Dv ..⟩
 have:(p:Ah)*n=p*(p*(u*u+v*v)):=by rw[<- Dv,<- Y];grind
 exact J (Pi.mp ⟨_,Cd G this⟩)
theorem _z (hp:g_ p)(C:p<301)(h3:p % 4=3):R (p*(p*m))=R m:=by
 have B:=hp.1;have J:(p:Ah)≠0:=by lia
 rw[R,R,<- Ao (f:=λz:Z2=>((p:Ah)*z.1,(p:Ah)*z.2)) (as:=gn m)];refine(jJ (jK (λz _ w _ h=>?_) (yU m)) (yU _) λx y=>?_).symm
 .obtain⟨N,O⟩:=Om h
  exact Hj (Cd J N) (Cd J O)
 .rw[zM,Au]
  refine⟨λ⟨⟨s,t⟩,U,Y⟩=>?_,λG=>?_⟩
  .have U:=zM.mp U
   cases Y;rw[Dv,Dv,<- U];grind
  .obtain⟨⟨u,rfl⟩,⟨v,rfl⟩⟩:=GS hp C h3 (x:=x) (y:=y) ⟨((p*m:Ag):Ah),by rw[G];exact Dv ..⟩
   refine⟨(u,v),zM.mpr ?_,rfl⟩;have:(p:Ah)*(p*(u*u+v*v))=p*(p*m):=by rw[<- Dv,<- Dv,<- G];grind
   exact Cd J (Cd J this)
theorem R3 (hp:g_ p)(Y:p<301)(h3:p % 4=3)(hm:¬ p∣m):∀ t:Ag,R (p ^ t*m)=if t % 2=1 then 0 else R m
 |0=>by rw[Vr,Xk];rfl
 |1=>by rw[Ab4,R3a hp Y h3 hm];rfl
 |t+2=>by
  have J:p ^ (t+2)*m=p*(p*(p ^ t*m)):=by rw[Hn,Hn];grind
  rw[J,_z hp Y h3,R3 hp Y h3 hm t,Nat.add_mod_right]
theorem zp (n:Ag):R (2*n)=R n:=by
 rw[R,R,<- Ao (f:=λz:Z2=>(z.1-z.2,z.1+z.2)) (as:=gn n)];refine(jJ (jK (λz _ w _ h=>?_) (yU n)) (yU _) λx y=>?_).symm
 .obtain⟨O,T⟩:=Om h
  exact Hj li li
 .rw[zM,Au]
  refine⟨λ⟨⟨s,t⟩,U,Y⟩=>?_,λJ=>?_⟩
  .have U:=zM.mp U
   cases Y;rw[Dv,<- U];grind
  .have N:(x+y) % 2=0:=by
    have B:(x*x+y*y) % 2=0:=by rw[J];lia
    have G:(x+y)*(x+y) % 2=0:=by
     have:(x+y)*(x+y)=x*x+y*y+2*(x*y):=by grind
     lia
    rcases Int.emod_two_eq (x+y) with g|g
    .exact g
    .rw[Int.mul_emod,g] at G
     exact absurd G bb
   refine⟨((x+y)/2,(y-x)/2),zM.mpr ?_,Hj (by dsimp only;lia) (by dsimp only;lia)⟩
   generalize C:(x+y)/2=s;generalize E:(y-x)/2=t;have:x=s-t:=by lia
   have:y=s+t:=by lia
   subst x y;rw[Dv] at J;have:(2:Ah)*(s*s+t*t)=2*n:=by rw[show (2:Ah)*n=((2:Ag):Ah)*n from rfl,<- J];grind
   lia
theorem R2 (n:Ag):∀ t:Ag,R (2 ^ t*n)=R n
 |0=>by rw[Vr,Xk]
 |t+1=>by
  have:2 ^ (t+1)*n=2*(2 ^ t*n):=by rw[Hn];grind
  rw[this,zp,R2 n t]
theorem Q7:R 1=4:=kd
theorem NY {t:Ag}(hp:g_ p)(Y:p<301)(hm:¬ p∣m):(R (p ^ t*m):Ah)=(if p % 4=1 then (t:Ah)+1 else if p % 4=3/\t % 2=1 then 0 else 1)*R m:=by
 have h:p % 4=0\/p % 4=1\/p % 4=2\/p % 4=3:=by lia
 have J:=hp.1;have two:p % 2=0->p=2:=λh=>by
  rcases hp.2 2 (Ws h) with w|w <;> lia
 rcases h with h|h|h|h
 .have:=two li
  subst this;exact absurd h bb
 .rw[Be h,(R1 hp Y h hm t).1]
  exact Dv ..
 .have:=two li
  subst this;rw[R2,Bc bb,Bc (λq=>absurd q.1 bb),Ab5]
 .rw[Bc li,R3 hp Y h hm t]
  by_cases g:t % 2=1
  .rw[Be g,Be ⟨h,g⟩,Jc];rfl
  .rw[Bc g,Bc (λq=>g q.2),Ab5]
end _K
namespace _K
open _D
variable {m ps fd:Aa Pt}{n i:Ag}{U W y:Ah}{fe:DE}{P:jd->Prop}{r:Pt}{S:ao}{ak:qB}
noncomputable def xj:Aa Ag:=[2,5,13,17,4,9,5,29]
def Lo (n:Ag):Prop:=∀ p,g_ p->p∣n->p<301
theorem fO {p:Ag}(h:2<=p/\∀ d,d<p+1->d∣p->d=1\/d=p):g_ p:=⟨h.1,λd Q=>h.2 d (Nat.lt_succ_of_le (Jf li Q)) Q⟩
theorem qA6 {f:Ag}(Y:f∈xj)(n:Ag):R n<=R (n*f)/\R (n*f)<=2*R n:=by
 have q:∀ {p:Ag} {a b:Ah},g_ p->a*a+b*b=p->R n<=R (n*p)/\R (n*p)<=2*R n:=λ{p a b} Q e=>by
  have s:=aF (n:=n) Q e;have h:=UR Q e n;rw[<- List.countP_eq_length_filter] at s h;have c:=Qt (l:=gn (p*n)) (p:=λz=>decide ((p:Ah)∣a*z.1+b*z.2)&&decide ((p:Ah)∣a*z.1 + -b*z.2)) (q:=λz=>decide ((p:Ah)∣a*z.1+b*z.2)) λz _ k=>by rw[Bj] at k;exact k.1
  rw[Lj n p]
  lia
 simp only[xj,Az,En,Kc] at Y;rcases Y with rfl|rfl|rfl|rfl|rfl|rfl|rfl|rfl
 .rw[Lj,zp];lia
 .exact q (a:=1) (b:=2) (fO bb) rfl
 .exact q (a:=2) (b:=3) (fO bb) rfl
 .exact q (a:=1) (b:=4) (fO bb) rfl
 .rw[show n*4=2*(2*n) by lia,zp,zp];lia
 .rw[show n*9=3*(3*n) by lia,_z (fO bb) bb rfl];lia
 .exact q (a:=1) (b:=2) (fO bb) rfl
 .exact q (a:=2) (b:=5) (fO bb) rfl
theorem ZC (h:1<=n/\n<301):Lo n:=λp _ Q=>by
 have:=Jf h.1 Q
 lia
theorem O0 {f:Ag}(J:f∈xj)(h:Lo n):Lo (n*f):=λp Q Y=>(Q.dvd_mul Y).elim (h p Q) (ZC ((show ∀ f∈xj,1<=f/\f<301 by decide) f J) p Q)
theorem bM {x m:Ah}(hm:0<=m)(h:x*x<m*m) : -m<x/\x<m:=by
 refine⟨Ab6 λk=>?_,Ab6 λk=>?_⟩
 .have:=Ik (a:=-x-m) (b:=m-x) li li
  grind
 .have:=Ik (a:=x-m) (b:=x+m) li li
  grind
theorem AG (B:n<301):R n<=70:=by
 have h:=bD (L:=(gn n).map λz=>(z.1,decide (0<=z.2))) (G:=(rng 17).flatMap λx=>[(x,true),(x,false)]) (jK (λz Q w O e=>by
  obtain⟨x,y⟩:=z;obtain⟨T,J⟩:=w;have E:=zM.mp Q;have C:=zM.mp O;obtain⟨rfl,Y⟩:=Om e;have Y:=Lg.mp Y;have:(y-J)*(y+J)=0:=by grind
  have:=Iw.mp this;exact Hj rfl (by dsimp only at *;lia)) (yU n)) λs N=>by
  obtain⟨⟨x,y⟩,Q,rfl⟩:=Au.mp N;have:=zM.mp Q;have:=tz y;have:=bM (x:=x) (m:=18) bb li
  refine Rc.mpr ⟨x,d3.mpr li,?_⟩;cases decide (0<=y) <;> simp
 rw[Ao] at h;exact h
theorem Y7 {Q:D->ao->Prop}{Y:Ah}(B:1<=Y/\Y<=1000000)(h:u7 S p)(q:∀ (n:Ag) S1,Kp p S S1->1<=n/\(n:Ah)<=Y->Lo n->1<=R n/\R n<=256->Q (.int n) S1):Ok (ff [.loc p,.int Y] S) Q:=by
 rw[kM];refine z9 (ak:=[Ab (.loc p),Ab (.int Y),none,none,none]) rfl ?_;rfl';refine wX h li λr S1 A l=>?_;rfl';refine⟨by lia,by lia,?_⟩
 refine yY (λC ak G=>∃ (n:Ag) (E N:Am D),ak=[Ab (.loc p),Ab (.int Y),Ab (.int n),E,N]/\Kp p S G/\(1<=n/\(n:Ah)<=Y)/\Lo n/\1<=R n/\R n*2 ^ C.length<=256) ?_ ?_ ⟨1,_,_,rfl,A,⟨by decide,B.1⟩,ZC bb,by rw[Q7];decide,?_⟩
 .rintro x C _ G ⟨n,E,N,rfl,K,J,lo,O,I⟩
  rfl';refine wX K.pen li λr o H k=>?_;rfl';refine PB (show r<8 by lia) λd w=>?_
  obtain⟨f,L,rfl⟩:=Au.mp (show d∈xj.map λ(f:Ag)=>D.int f from w)
  have T:1<=f:=(show ∀ f∈xj,1<=f by decide) f L
  have e:(n:Ah)*(f:Ah)=((n*f:Ag):Ah):=by push_cast;rfl
  obtain⟨u,M⟩:=qA6 L n;have j:1<=n*f:=Ge J.1 T;rw[Cb,Nat.pow_succ'] at I;rfl';refine wK (λz=>?_) λz=>?_
  .rw[e] at z
   rfl';have:=Ni (2 ^ C.length) M;exact y9 ⟨n*f,_,_,by rw[e],K.trans H,⟨j,z⟩,O0 L lo,by lia,by grind⟩
  .rfl'
   exact y9 ⟨n,_,_,rfl,K.trans H,J,lo,O,by grind⟩
 .rintro _ G ⟨n,E,N,rfl,K,J,lo,O,I⟩
  rfl';exact q n G K J lo ⟨O,by simpa using I⟩
 .have:=Kn (n:=2) bb (show 1+r<=6 by lia)
  rw[Q7];rw[Pr,show (1+(r:Ah)).toNat=1+r by lia]
  lia
def rm (n:Ag):Aa (_L.bq × D):=(Cj n).map λ(i:Ag)=>(.inl ((i:Ah)*(i:Ah)),.int (i:Ah))
theorem CI {a b:Ag}(h:(a:Ah)*(a:Ah)=(b:Ah)*(b:Ah)):a=b:=by
 have Q:a*a=b*b:=by exact_mod_cast h
 rcases Mu a b with z|z|z
 .exact absurd Q (Cu (Nr z (Ec z) li))
 .exact z
 .exact absurd Q.symm (Cu (Nr z (Ec z) li))
theorem N0 (n:Ag):vO (rm n) (.inl ((n:Ah)*(n:Ah))) (.int (n:Ah))=rm (n+1):=by
 unfold vO;rw[Bc]
 .unfold rm
  rw[List.range_succ,Dp];rfl
 .intro h
  obtain⟨J,Y,e⟩:=Ld.mp h;obtain⟨i,Q,rfl⟩:=Au.mp Y;have e:=Bz e;injection e with e
  have:=CI e;have:=Dn.mp Q
  lia
theorem KM (h:xK (rm n) (.inl f)=Ab d):∃ i:Ag,i<n/\d=.int (i:Ah)/\f=(i:Ah)*(i:Ah):=by
 unfold xK at h;obtain⟨G,Y,rfl⟩:=Fx.mp h;have Q:=Rx Y;obtain⟨i,J,rfl⟩:=Au.mp (Kk Y);have Q:=Bz Q;injection Q with Q
 exact⟨i,Dn.mp J,rfl,Q.symm⟩
theorem TZ (hi:i<n):(xK (rm n) (.inl ((i:Ah)*(i:Ah)))).isSome=true:=by
 unfold xK;rw[Tx,List.find?_isSome];exact⟨_,Au.mpr ⟨i,Dn.mpr hi,rfl⟩,by simp⟩
theorem J6 {c:Ag}(h:c*c<=n)(Q:n<=5000):c<=70:=by
 rcases Fp 70 c with z|z
 .have:=Ge (show 71<=c by lia) (show 71<=c by lia)
  lia
 .exact z
noncomputable def SG (x y:Ah):Aa Pt:=[(x,y),(0-x,y),(x,0-y)]++[(0-x,0-y)]
theorem JI {Q:D->ao->Prop}(A:n<=5000)(o:1<=R n/\R n<=256)(q:∀ (ps:Aa Pt) N,S<+:N->ps≠[]->(∀ z∈ps,fy 980 z)->ps.length<=256->Up ps->Q (.lst (ps.map ax)) N):Ok (ez [.int n] S) Q:=by
 rw[j8];refine z9 (ak:=[Ab (.int n),none,none,none,none,none]) rfl ?_;rfl';refine⟨by lia,by lia,?_⟩
 refine yY (xs:=Cj 1001) (λxs ak N=>∃ (i:Ag) (B:Am D),i+xs.length=1001/\xs=List.range' i (1001-i)/\ak=[Ab (.int n),Ab (.loc S.length),Ab (.lst []),B,none,none]/\N=S++[.dct (rm i)]) ?_ ?_ ⟨0,_,by simp,by rw[Yn],rfl,rfl⟩
 .rintro x xs _ _ ⟨i,B,Y,J,rfl,rfl⟩
  have O:i<1001:=by simp at Y;lia
  rw[show 1001-i=(1001-(i+1))+1 by lia,Ab7] at J
  injection J with I C
  subst I;rfl';refine RS (uY _ _) (by unfold rm;rw[Ao,Pr];unfold br;lia) ?_
  rw[KI,N0];rfl';exact y9 ⟨x+1,_,by simp at Y;lia,C,rfl,rfl⟩
 .rintro _ _ ⟨i,B,Y,J,rfl,rfl⟩
  have O:i=1001:=by simpa using Y
  subst O;have H:=uY S (.dct (rm 1001));have u:S<+:S++[.dct (rm 1001)]:=Et _ _;generalize S++[.dct (rm 1001)]=T at H u;rfl';refine⟨by lia,by lia,?_⟩
  refine yY (xs:=Cj 1001) (λxs ak N=>∃ (i:Ag) (fd:Aa Pt) (E M:Am D),i+xs.length=1001/\xs=List.range' i (1001-i)/\ak=[Ab (.int n),Ab (.loc S.length),Ab (.lst (fd.map ax)),B,E,M]/\N=T/\fd.length<=4*min i 71/\(∀ z∈fd,z∈gn n)/\∀ a b:Ag,a<i->a*a+b*b=n->fd≠[]) ?_ ?_ ⟨0,[],_,_,by simp,by rw[Yn],rfl,rfl,Fk _,(λ_ h=>by cases h),λ_ _ h=>by cases h⟩
  .rintro x xs _ _ ⟨i,fd,E,M,Y,J,rfl,rfl,p,G,L⟩
   have O:i<1001:=by simp at Y;lia
   rw[show 1001-i=(1001-(i+1))+1 by lia,Ab7] at J
   injection J with I C
   subst I;rfl';refine OD H ?_;rfl';cases hv:xK (rm 1001) (.inl ((n:Ah)-(x:Ah)*(x:Ah))) with
   |none =>
    rfl';refine y9 ⟨x+1,fd,_,_,by simp at Y;lia,C,rfl,rfl,by lia,G,λa b f e=>?_⟩
    rcases Fp a x with z|z
    .exact L a b z e
    .have:a=x:=by lia
     subst this;have k:=TZ (n:=1001) (i:=b) (by have:=J6 (show b*b<=n by lia) A;lia)
     rw[show (n:Ah)-(a:Ah)*(a:Ah)=(b:Ah)*(b:Ah) by rw[<- e];push_cast;lia] at hv
     rw[hv] at k;cases k
   |some d =>
    obtain⟨y,v,rfl,e⟩:=KM hv;have j:x*x+y*y=n:=by
     have:((x*x+y*y:Ag):Ah)=(n:Ah):=by push_cast;lia
     exact_mod_cast this
    have l:=J6 (show x*x<=n by lia) A
    refine w_t ?_;rfl';refine OE H hv ?_;rfl';refine nJ (by rw[Ao];show _+3<=br;unfold br;lia) ?_
    rfl';refine nJ (by rw[Ca,Ao];show _+3+1<=br;unfold br;lia) ?_
    rfl';refine y9 ⟨x+1,fd++SG (x:Ah) (y:Ah),_,_,by simp at Y;lia,C,by rw[Dp,Ch];rfl,rfl,?_,λz hz=>?_,λ_ _ _ _ z=>by have:=congrArg Qm z;rw[Ca] at this;cases this⟩
    .rw[Ca]
     show _+4<=_
     lia
    .rcases Bp.mp hz with hz|hz
     .exact G z hz
     .simp only[SG,Vf,Iq,Az,En,Kc] at hz
      rcases hz with rfl|rfl|rfl|rfl <;> exact zM.mpr (by grind)
  .rintro _ _ ⟨i,fd,E,M,Y,J,rfl,rfl,p,G,L⟩
   have O:i=1001:=by simpa using Y
   subst O;rfl';refine RU ?_;rfl';have up:=fR fd;have G:∀ z∈xV fd,z∈gn n:=λz hz=>G z ((vZ fd z).mp hz);refine⟨by lia,q (xV fd) _ u (λz=>?_) (λz hz=>?_) (Cw (bD (wJ up) G) o.2) up⟩
   .obtain⟨⟨x,y⟩,c⟩:=List.exists_mem_of_length_pos o.1
    have e:=zM.mp c;have j:x.natAbs*x.natAbs+y.natAbs*y.natAbs=n:=by
     rw[<- Nj x,<- Nj y] at e
     exact_mod_cast e
    have:=L _ _ (by have:=J6 (show x.natAbs*x.natAbs<=n by lia) A;lia) j
    cases fd with
    |nil=>exact this rfl
    |cons w g =>
     have:w∈xV (w::g):=(vZ _ w).mpr ba
     rw[z] at this;cases this
   .have e:=zM.mp (G z hz)
    have:=tz z.1;have:=tz z.2;have:=bM (x:=z.1) (m:=71) bb li
    have:=bM (x:=z.2) (m:=71) bb li
    unfold fy
    lia
def G9:Aa Pt:=(Cj 25).map λ(i:Ag)=>((i:Ah)/5,(i:Ah) % 5)
def IY:Aa Pt:=(Cj 20).map λ(i:Ag)=>(2*(i:Ah),3*(i:Ah))
def IZ:Aa Pt:=(Cj 5).map λ(i:Ag)=>((i:Ah),0)
noncomputable def AM:Aa Pt:=[(0,0),(0,4),(4,0),(4,4),(2,2),(-1,2),(2,-1),(5,2),(2,5),(1,1),(6,6)]
theorem ZL {Q:D->ao->Prop}(n:Ag)(B:n<=1000)(g:Ag->Pt)(step:∀ i:Ag,Ok (fe [Ab (.int i)] S) λd G=>d=ax (g i)/\G=S)(q:Q (.lst (((Cj n).map g).map ax)) S):Ok (zC false [none] (xM (xT (q8 (dC (.int (n:Ah))) qA))) (bj 0) zQ (zN fe) ak S) Q:=by
 refine jL (Cj n) (λi=>ax (g i)) (λak Y=>Y=S/\∃ a,ak=[a]) (qBR li) ⟨rfl,none,rfl⟩ (by rw[Pr];unfold br;lia) (λ_ _ _=>trivial) (λx L ak Y ⟨J,a,N⟩=>?_) λak Y ⟨J,_⟩=>?_
 .subst J N
  rfl';exact zO (step x) λd G ⟨C,O⟩=>⟨C,O,_,rfl⟩
 .subst J
  rw[Dh] at q;exact q
structure Q_ (p:Ag)(S:ao)(d:D)(S':ao)(ps:Aa Pt):Prop where
 seq:tE d S'=Ab (ps.map ax)
 ne:ps≠[]
 len:ps.length<=256
 box:∀ q∈ps,fy 980 q
 kp:Kp p S S'
theorem vI {α:Type}:∀ (l:Aa α) (i:Ag) (h:i<l.length),(l[i]::l.eraseIdx i).Perm l
 |[],i,h=>by simp at h
 |x::l,0,_=>Nb _
 |x::l,i+1,h=>(Xx x _ _).trans ((vI l i (by simpa using h)).cons x)
theorem sN {α β:Type}(f:α->β):∀ (l:Aa α) (i:Ag),(l.map f).eraseIdx i=(l.eraseIdx i).map f
 |[],_=>rfl
 |_::_,0=>rfl
 |x::l,i+1=>congrArg (f x::·) (sN f l i)
structure WI (p a many:Ag)(all:Aa Pt)(S S':ao)(done qC:Aa Pt):Prop where
 ra:S'[a]? = Ab (.lst (qC.map ax))
 rb:S'[a+1]? = Ab (.lst (done.map ax))
 perm:(done++qC).Perm all
 le:done.length<=many
 kp:Kp p S S'
theorem OG {Q:D->ao->Prop}(p M:Ag)(hM:1<=M/\M<=40){S:ao}(h:u7 S p)(q:∀ (l:Aa Pt) J,Kp p S J->qf M l->(∀ z∈l,z.1<=990)->Q (qS l) J):Ok (gv [.loc p,.int (M:Ah)] S) Q:=by
 rw[pE];refine z9 (ak:=[Ab (.loc p),Ab (.int (M:Ah)),none,none,none,none,none,none,none,none,none]) rfl ?_;rfl';refine wX h li λL g k1 h1=>?_;rfl';refine wX k1.pen li λm S2 k2 h2=>?_;obtain⟨Y,em,hm⟩:∃ Y:Ag,1+(m:Ah)=(Y:Ah)/\1<=Y/\Y<=M:=⟨1+m,by lia,by lia,by lia⟩
 rfl';rw[em];refine wX k2.pen li λx S3 k3 h3=>?_;rfl';refine wX k3.pen li λy S4 k4 h4=>?_;rfl';refine wX k4.pen li λr v k5 h5=>?_;have hx : -10<=(x:Ah)-10/\(x:Ah)-10<=10:=by lia
 have hy : -10<=(y:Ah)-10/\(y:Ah)-10<=10:=by lia
 generalize (x:Ah)-10=x at hx;generalize (y:Ah)-10=y at hy;refine PB (show r<3 by lia) λd o=>?_
 obtain⟨wide,rfl,hw⟩:∃ w:Ah,d=.int w/\3<=w/\w<=900:=by
  simp only[Az,En,Kc] at o;rcases o with rfl|rfl|rfl <;> exact⟨_,rfl,by lia⟩
 have T:Kp p S v:=(((k1.trans k2).trans k3).trans k4).trans k5;clear k1 k2 k3 k4 k5 h1 h2 h3 h4 h5 o em;array_get_dec;array_get_dec;refine qAf (λak J=>∃ d I E ps,ak=[Ab (.loc p),Ab (.int (M:Ah)),Ab (.int L),Ab (.int (Y:Ah)),Ab (.int x),Ab (.int y),Ab (.int wide),Ab d,I,E,none]/\Q_ p S d J ps) (λP' hP=>?_) ?_
 .rfl'
  refine wK (λz=>?_) λz=>?_
  .rfl'
   refine Y7 li T.pen λn C k hn _ hR=>?_;rfl';refine JI li hR λps S7 B ne s j _=>?_;rfl';exact hP _ _ ⟨_,_,_,ps,rfl,rfl,ne,j,s,(T.trans k).trans (Kp.pre k.pen B)⟩
  rfl';refine wK (λz=>?_) λz=>?_
  .rfl'
   refine ZL 25 li (λ(i:Ag)=>((i:Ah)/5,(i:Ah) % 5)) (λi=>?_) ?_
   .rfl'
    exact rfl
   .rfl'
    exact hP _ _ ⟨_,_,_,G9,rfl,rfl,by decide,by decide,kd,T⟩
  rfl';refine wK (λz=>?_) λz=>?_
  .rfl'
   refine ZL 20 li (λ(i:Ag)=>(2*(i:Ah),3*(i:Ah))) (λi=>?_) ?_
   .rfl'
    exact rfl
   .rfl'
    refine ZL 5 li (λ(i:Ag)=>((i:Ah),0)) (λi=>?_) ?_
    .rfl'
     exact rfl
    .refine nJ (by rw[Ao,Ao];decide) ?_
     rw[<- Dp];rfl';exact hP _ _ ⟨_,_,_,IY++IZ,rfl,rfl,by decide,by decide,kd,T⟩
  rfl';refine wK (λz=>?_) λz=>?_
  .rfl'
   exact hP _ _ ⟨_,_,_,AM,rfl,rfl,by decide,by decide,kd,T⟩
  rfl';refine⟨by lia,by lia,?_⟩
  have zy:p<v.length:=YB T.pen;refine yY (λxs ak J=>∃ (ps:Aa Pt) (I E:Am D),ps.length+xs.length=M/\(∀ q∈ps,fy 980 q)/\ak=[Ab (.loc p),Ab (.int (M:Ah)),Ab (.int L),Ab (.int (Y:Ah)),Ab (.int x),Ab (.int y),Ab (.int wide),Ab (.loc v.length),I,E,none]/\Kp p v J/\J[v.length]? = Ab (.lst (ps.map ax))) ?_ ?_ ⟨[],_,_,by simp,λ_ h=>(by cases h),rfl,Kp.pre T.pen (Et _ _),uY _ _⟩
  .rintro t xs _ J ⟨ps,I,E,j,s,rfl,K,hS⟩
   have la:=(Ba.mp hS).1;rfl';refine wX K.pen li λr1 C k h6=>?_;have H:=(k.same _ la li).trans hS;rfl';refine⟨fS H,?_⟩;rfl';refine wX k.pen li λr2 S7 B h7=>?_;have zb:=(B.same _ (Ba.mp H).1 li).trans H;rfl';refine rQ zb (by rw[Ao];unfold br;simp at j;lia) ?_
   rfl';refine y9 ⟨ps++[((r1:Ah)-wide,(r2:Ah)-2)],_,_,by simp at j ⊢;lia,λz hz=>?_,rfl,((K.trans k).trans B).set (Ax _) _ li,by rw[DL (Ba.mp zb).1,Dp];rfl⟩
   rcases Bp.mp hz with hz|hz
   .exact s z hz
   .rw[Cz.mp hz]
    unfold fy;dsimp only
    lia
  .rintro _ J ⟨ps,I,E,j,s,rfl,K,hS⟩
   refine hP _ _ ⟨_,_,_,ps,rfl,TV hS,λz=>?_,by simp at j;lia,s,T.trans K⟩
   subst z;simp at j
   lia
 .rintro _ C ⟨d,I,E,ps,rfl,sm⟩
  have zz:p<C.length:=YB sm.kp.pen;rfl';refine OL ?_;rfl';refine⟨ps,sm.seq,by have:=sm.len;lia,?_⟩
  rfl';have zv:=Cw (KO ps) sm.len;have zl:xV ps≠[]:=λz=>by
   obtain⟨w,hw⟩:=List.exists_mem_of_ne_nil _ sm.ne;have:=(vZ ps w).mpr hw;rw[z] at this;cases this
  rw[Ca,Mn];refine dM (λn ak J=>ak=[Ab (.loc p),Ab (.int (M:Ah)),Ab (.int L),Ab (.int (Y:Ah)),Ab (.int x),Ab (.int y),Ab (.int wide),Ab (.loc C.length),I,E,Ab (.loc (C.length+1))]/\∃ done qC,qC.length=n/\WI p C.length Y (xV ps) S J done qC) ?_ (n:=(xV ps).length) (by rw[tM];lia) ⟨rfl,[],xV ps,rfl,by simp,by simp,by simp,by simp,sm.kp.trans (Kp.pre sm.kp.pen ((Et _ _).trans (Et _ _)))⟩
  rintro n _ J ⟨rfl,done,qC,rfl,W⟩;have O:=W.perm.length_eq;rw[Ca] at O;have la:=(Ba.mp W.rb).1;refine cM ?_;rfl';have G:J<+:J++[MO.lst []]:=Et _ _;refine cN (z:=.bl (!qC.isEmpty)) (t9 (lT W.ra G) λx hx=>?_) (t9 (xs:=[]) (uY _ _) λ_ h=>by cases h) ?_ rfl ?_
  .obtain⟨z,_,rfl⟩:=Au.mp hx
   rfl
  .unfold ky
   rw[bK,show pl wM (.lst []) = true from rfl]
   cases qC <;> rfl
  have N:WI p C.length Y (xV ps) S (J++[MO.lst []]) done qC:=⟨lT W.ra G,lT W.rb G,W.perm,W.le,W.kp.trans (Kp.pre W.kp.pen G)⟩;have zc:C.length+1<(J++[MO.lst []]).length:=by rw[Ca];lia
  generalize J++[MO.lst []] = J at N zc;clear W G la;have c:¬ (qC≠[]/\done.length<Y)->Ok (qN vJ (q8 (qN yM (q8 (zC false [none,Ab 4,Ab 5] (j_ (q9 10)) (bj 0) zQ (zN (zA (q8 (d2 zB (d2 dk (q9 0) (dC (.int 0))) (q9 1)) (q8 (d2 zB (d2 dk (q9 0) (dC (.int 1))) (q9 2)) qA))))) qA)) qA) [Ab (.loc p),Ab (.int (M:Ah)),Ab (.int L),Ab (.int (Y:Ah)),Ab (.int x),Ab (.int y),Ab (.int wide),Ab (.loc C.length),I,E,Ab (.loc (C.length+1))] J) Q:=λhc=>by
   rfl';refine jL done (λz=>ax (z.1+x,z.2+y)) (λak g=>g=J/\∃ a,ak=[a,Ab (.int x),Ab (.int y)]) (SS rfl N.rb) ⟨rfl,none,rfl⟩ (by unfold br;lia) (λ_ _ ⟨e,_⟩=>by subst e;exact N.rb) (λz hz ak g ⟨e1,a,e2⟩=>?_) λak g ⟨e1,_⟩=>?_
   .subst e1 e2
    rfl';exact⟨_,rfl⟩
   .subst e1
    rfl';have zh:done.Nodup:=(Ho.mp (N.perm.nodup_iff.mpr (wJ (fR ps)))).1;have zx:=N.le;rw[show (done.map λz=>ax (z.1+x,z.2+y))=(done.map λz=>(z.1+x,z.2+y)).map ax by rw[Dh];rfl]
    refine ZM (by rw[Ao];lia) ?_
    rfl';have f:∀ z∈done.map λz=>(z.1+x,z.2+y),fy 990 z:=λz hz=>by
     obtain⟨w,hw,rfl⟩:=Au.mp hz;have:=sm.box w ((vZ ps w).mp (N.perm.mem_iff.mp (Cs _ hw)));unfold fy at this ⊢;dsimp only
     lia
    refine q _ g N.kp (GX (λz=>?_) (by rw[Ao];lia) ?_ λz hz=>?_) λz hz=>(f z ((uG _).mem_iff.mp hz)).2.1
    .have z:=Sl.mp z
     subst z;by_cases u:qC=[]
     .subst u
      simp at O;exact zl (Ew.mp O.symm)
     .exact hc ⟨u,by simp;lia⟩
    .rw[Vc,Dj]
     exact zh.imp λ{a b} zs z=>zs (Hj (by have:=congrArg Prod.fst z;dsimp only at this;lia) (by have:=congrArg Prod.snd z;dsimp only at this;lia))
    .have:=f z hz
     unfold fy at this ⊢
     lia
  rfl';refine⟨λe=>?_,λe=>?_⟩
  .have u:qC≠[]:=λz=>by subst z;cases e
   have z0:=Sk.mpr u;rfl';refine bI N.rb ?_;rw[Ao];rfl';refine⟨λe=>?_,λe=>?_⟩
   .have o:done.length<Y:=by have:=Bz e;lia
    rfl';refine⟨fS N.rb,?_⟩;rfl';refine⟨fS N.ra,?_⟩;rfl';refine bI N.ra ?_;rw[Ao];rfl';refine wX N.kp.pen li λr S7 B h7=>?_;have ra:=(B.same _ li li).trans N.ra;have rb:=(B.same _ zc li).trans N.rb;have A:r<qC.length:=by lia
    rfl';refine OK ra (by rw[Ao];exact A) li ?_
    rw[Lf,sN];rfl';have l7:=B.len;refine rQ (i:=C.length+1) (by rw[Dd li];exact rb) (by rw[Ao];unfold br;lia) ?_
    rfl';refine lA (qC.eraseIdx r).length (by rw[Yg,Be A];lia) ⟨rfl,done++[qC[r]],qC.eraseIdx r,rfl,?_,?_,?_,by simp;lia,((N.kp.trans B).set sm.kp.len _ li).set (by have:=sm.kp.len;lia) _ li⟩
    .rw[Dd li,DL li]
    .rw[DL (by rw[Wc];lia),Dp]
     rfl
    .rw[Ch]
     exact(Ib done (vI qC r A)).trans N.perm
   .have o:¬ done.length<Y:=λz=>by have:=Lp e;lia
    exact KU (X4 (c λz=>o z.2))
  .have u:qC=[]:=by cases qC with|nil=>rfl|cons _ _=>cases e
   exact⟨(λz=>by cases z),λ_=>KU (X4 (c λz=>z.1 u))⟩
def _m (x:P4):As:=decide (On x.1 x.2.1 x.2.2.1 x.2.2.2)
def ZS (l:Aa Pt):Aa P4:=(c4 l).filter _m
theorem YG {x:Pt × Pt × Aa Pt}:∀ {l:Aa Pt},l.Nodup->x∈h_ l->∀ p∈x.2.2,p≠x.1/\p≠x.2.1
 |[],_,h=>by cases h
 |a::l,Y,h=>by
  obtain⟨C,J⟩:=Ea.mp Y;rcases Bp.mp h with h|h
  .obtain⟨y,hy,rfl⟩:=Au.mp h
   have t:∀ {l:Aa Pt},l.Nodup->∀ {y:Pt × Aa Pt},y∈rk l->∀ p∈y.2,p≠y.1:=by
    intro l
    induction l with
    |nil=>intro _ y h;cases h
    |cons b r N =>
     intro Y y hy p Q;obtain⟨G,O⟩:=Ea.mp Y;rcases Az.mp hy with rfl|hy
     .exact λ(e:p=b)=>G (e▸Q)
     .exact N O hy p Q
   exact λp Q=>⟨λ(e:p=a)=>C (e▸(dJ hy).2.1 p Q),t J hy p Q⟩
  .exact YG J h
def lrB:Aa Pt->As
 |a::b::c::[]=>!decide (gy c a b=0)
 |a::b::c::r=>r.all λp=>decide (On a b c p)
 |_=>true
theorem qAK:∀ {l:Aa Pt},l.Nodup->ql l=lrB l
 |[],_=>rfl
 |[_],_=>rfl
 |[_,_],_=>rfl
 |a::b::c::r,I=>by
  have G:∀ p∈r,p≠a/\p≠b:=λp N=>by
   obtain⟨E,O⟩:=Ea.mp I;obtain⟨L,_⟩:=Ea.mp O;exact⟨λe=>E (by rw[<- e];simp[N]),λe=>L (by rw[<- e];simp[N])⟩
  have C:(sl a b c).isSome=!decide (gy c a b=0):=by
   unfold sl;by_cases h:gy c a b=0 <;> simp[h]
  show decide (Gp (sl a b) (r.length+1) (c::r)=[c::r])=_;have J:=NV (sl a b) r.length c r;cases r with
  |nil =>
   show _=!decide (gy c a b=0);rw[<- C,Iu,Bq,J];simp
  |cons p r =>
   show _=(p::r).all λp=>decide (On a b c p);rw[Iu,Bq,Bs,J];have Y:∀ x∈p::r,decide (On a b c x)=true↔(sl a b c).isSome=true/\sl a b x=sl a b c:=λx Q=>by
    rw[<- G8 (G x Q).1 (G x Q).2];unfold al;dsimp only;rw[Bj,Bq];exact⟨λh=>⟨h.1,h.2.symm⟩,λh=>⟨h.1,h.2.symm⟩⟩
   constructor
   .rintro⟨T,B⟩ x Q
    exact(Y x Q).mpr ⟨T,B x Q⟩
   .intro h
    exact⟨((Y p ba).mp (h p ba)).1,λx Q=>((Y x Q).mp (h x Q)).2⟩
theorem TK {l:Aa Pt}(nd:l.Nodup):ZS l=(h_ l).flatMap λx=>((vE x.2.2).filter (qt (sl x.1 x.2.1))).map λy=>(x.1,x.2.1,y.1,y.2):=by
 unfold ZS c4;rw[List.filter_flatMap];have:∀ {Q:Aa (Pt × Pt × Aa Pt)},(∀ x∈Q,∀ p∈x.2.2,p≠x.1/\p≠x.2.1)->(Q.flatMap λx=>((vE x.2.2).map λy=>(x.1,x.2.1,y.1,y.2)).filter _m)=Q.flatMap λx=>((vE x.2.2).filter (qt (sl x.1 x.2.1))).map λy=>(x.1,x.2.1,y.1,y.2):=by
  intro Q h
  induction Q with
  |nil=>rfl
  |cons x Q J =>
   rw[Ft,Ft,J λy Y=>h y (by simp[Y])]
   congr 1
   rw[Wr]
   congr 1
   refine List.filter_congr λy Y=>?_;have:=h x ba y.2 (VH Y).2
   exact(G8 this.1 this.2).symm
 exact this λx G=>YG nd G
theorem LN {l:Aa Pt}(nd:l.Nodup):(ZS l).length=zJ (h_ l):=by
 rw[TK nd];unfold zJ
 induction h_ l with
 |nil=>rfl
 |cons x Y Q =>
  rw[Ft,Ca,Q,Ao,Cg,AcE]
  congr 1
  exact(eA (sl x.1 x.2.1) _ x.2.2 (Ax _)).symm
def ow (D U V W:Ah)(z:Pt):Prop:=D*(z.1*z.1+z.2*z.2)+U*z.1+V*z.2+W=0
def Cy (l:Aa Pt):Prop:=∃ D U V W:Ah,D≠0/\∀ z∈l,ow D U V W z
theorem cZ {D V a b x:Ah}(h1:D*(a*a+b*b)+U*a+V*b+W=0)(h2:D*(x*x+y*y)+U*x+V*y+W=0):D*((x-a)*(x-a)+(y-b)*(y-b))=(-U-2*D*a)*(x-a)+(-V-2*D*b)*(y-b):=by
 have e:D*((x-a)*(x-a)+(y-b)*(y-b))-((-U-2*D*a)*(x-a)+(-V-2*D*b)*(y-b))=(D*(x*x+y*y)+U*x+V*y+W)-(D*(a*a+b*b)+U*a+V*b+W):=by grind
 rw[h1,h2] at e
 lia
theorem qBc {D A B J Q Y G d1 d2:Ah}(N:D≠0)(h1:D*(J*J+Q*Q)=A*J+B*Q)(h2:D*(Y*Y+G*G)=A*Y+B*G)(h3:D*(d1*d1+d2*d2)=A*d1+B*d2):(Y*Y+G*G-(Y*J+G*Q))*(d1*Q-d2*J)=(d1*d1+d2*d2-(d1*J+d2*Q))*(Y*Q-G*J):=by
 refine Cd N ?_;have e:D*((Y*Y+G*G-(Y*J+G*Q))*(d1*Q-d2*J))-D*((d1*d1+d2*d2-(d1*J+d2*Q))*(Y*Q-G*J))=(D*(Y*Y+G*G)-(A*Y+B*G))*(d1*Q-d2*J)-(D*(d1*d1+d2*d2)-(A*d1+B*d2))*(Y*Q-G*J)+(Y*d2-G*d1)*(D*(J*J+Q*Q)-(A*J+B*Q)):=by grind
 rw[h1,h2,h3,Gj,Gj,Gj] at e;simp only[Jc,Hl] at e
 lia
theorem W1 (z a b:Pt):dt z a b=(z.1-a.1)*(z.1-a.1)+(z.2-a.2)*(z.2-a.2)-((z.1-a.1)*(b.1-a.1)+(z.2-a.2)*(b.2-a.2)):=by
 unfold dt;generalize z.1=Q;generalize z.2=G;generalize a.1=N;generalize a.2=O;generalize b.1=J;generalize b.2=Y
 grind
theorem iG (z a b:Pt):gy z a b = -((z.1-a.1)*(b.2-a.2)-(z.2-a.2)*(b.1-a.1)):=by
 unfold gy;generalize z.1=Q;generalize z.2=G;generalize a.1=N;generalize a.2=O;generalize b.1=J;generalize b.2=Y
 grind
theorem E8 {D V:Ah}(J:D≠0){a b c d:Pt}(Q:ow D U V W a)(G:ow D U V W b)(N:ow D U V W c)(Y:ow D U V W d):dt c a b*gy d a b=dt d a b*gy c a b:=by
 have k:=qBc J (cZ Q G) (cZ Q N) (cZ Q Y);rw[W1 c,W1 d,iG c,iG d,Tq,Tq,k]
theorem _k {x:Ah}(h:x*x+y*y=0):x=0/\y=0:=by
 have Q:∀ t:Ah,0<=t*t:=λt=>by
  rcases Int.le_total 0 t with q|q
  .exact Ik q q
  .exact Ph q q
 have J:=Q x;have Y:=Q y;exact⟨(Iw.mp (show x*x=0 by fin2)).elim id id,(Iw.mp (show y*y=0 by fin2)).elim id id⟩
theorem IF {D A B x u v:Ah}(J:D≠0)(h1:D*(x*x+y*y)=A*x+B*y)(h2:D*(u*u+v*v)=A*u+B*v)(hz:x*v-y*u=0)(N:x*x+y*y≠0)(G:u*u+v*v≠0):x=u/\y=v:=by
 have Q:(x*x+y*y)*u=(u*u+v*v)*x:=by
  refine Cd J ?_;have e:D*((x*x+y*y)*u)-D*((u*u+v*v)*x)=(D*(x*x+y*y)-(A*x+B*y))*u-(D*(u*u+v*v)-(A*u+B*v))*x-B*(x*v-y*u):=by grind
  rw[h1,h2,hz,Gj,Gj] at e;simp only[Jc,Hl] at e
  lia
 have Y:(x*x+y*y)*v=(u*u+v*v)*y:=by
  refine Cd J ?_;have e:D*((x*x+y*y)*v)-D*((u*u+v*v)*y)=(D*(x*x+y*y)-(A*x+B*y))*v-(D*(u*u+v*v)-(A*u+B*v))*y+A*(x*v-y*u):=by grind
  rw[h1,h2,hz,Gj,Gj] at e;simp only[Jc,Hl] at e
  lia
 have O:x*x+y*y=x*u+y*v:=by
  refine Cd G ?_;have e:(u*u+v*v)*(x*x+y*y)-(u*u+v*v)*(x*u+y*v)=((x*x+y*y)*u-(u*u+v*v)*x)*u+((x*x+y*y)*v-(u*u+v*v)*y)*v:=by grind
  rw[Q,Y,Gj,Gj] at e;simp only[Jc] at e
  lia
 have C:x*u+y*v=u*u+v*v:=by
  refine Cd N ?_;have e:(x*x+y*y)*(x*u+y*v)-(x*x+y*y)*(u*u+v*v)=((x*x+y*y)*u-(u*u+v*v)*x)*x+((x*x+y*y)*v-(u*u+v*v)*y)*y:=by grind
  rw[Q,Y,Gj,Gj] at e;simp only[Jc] at e
  lia
 have:=_k (x:=x-u) (y:=y-v) (by grind)
 exact⟨by lia,by lia⟩
theorem iF {D V:Ah}(J:D≠0){a b c:Pt}(B:ow D U V W a)(T:ow D U V W b)(Y:ow D U V W c)(C:a≠c)(G:b≠c)(N:a≠b):gy c a b≠0:=by
 intro z;have Q:∀ {p:Pt},p≠c->(p.1-c.1)*(p.1-c.1)+(p.2-c.2)*(p.2-c.2)≠0:=λ{p} n e=>by
  obtain⟨L,O⟩:=_k e;exact n (Hj li li)
 obtain⟨L,O⟩:=IF J (cZ Y B) (cZ Y T) z (Q C) (Q G);exact N (Hj li li)
theorem IC (K T:Ah)(z a b:Pt):K*(z.1*z.1+z.2*z.2)+(-K*(a.1+b.1)-T*(a.2-b.2))*z.1+(-K*(a.2+b.2)-T*(b.1-a.1))*z.2+(K*(a.1*b.1+a.2*b.2)-T*(a.1*b.2-a.2*b.1))=K*dt z a b-T*gy z a b:=by
 unfold dt gy;generalize z.1=Q;generalize z.2=O;generalize a.1=J;generalize a.2=G;generalize b.1=N;generalize b.2=Y
 grind
theorem rH {a b c:Pt}{r:Aa Pt}(nd:(a::b::c::r).Nodup):Cy (a::b::c::r)↔gy c a b≠0/\∀ x∈r,dt c a b*gy x a b=dt x a b*gy c a b:=by
 have B:a≠c:=λe=>by simp[e] at nd
 have J:b≠c:=λe=>by simp[e] at nd
 have O:a≠b:=λe=>by simp[e] at nd
 constructor
 .rintro⟨D,U,V,W,Y,h⟩
  exact⟨iF Y (h a ba) (h b ba) (h c ba) B J O,λx N=>E8 Y (h a ba) (h b ba) (h c ba) (h x (by simp[N]))⟩
 .rintro⟨C,G⟩
  refine⟨gy c a b,_,_,_,C,λz hz=>(IC (gy c a b) (dt c a b) z a b).trans ?_⟩;have Q:dt a a b=0/\gy a a b=0/\dt b a b=0/\gy b a b=0:=by
   unfold dt gy;simp only[Gj,Jc,Hl]
   decide
  rcases Az.mp hz with rfl|hz
  .rw[Q.1,Q.2.1,Hl,Hl];rfl
  rcases Az.mp hz with rfl|hz
  .rw[Q.2.2.1,Q.2.2.2,Hl,Hl];rfl
  rcases Az.mp hz with rfl|hz
  .rw[Pg];exact Gj _
  .have:=G z hz
   rw[this,Pg];exact Gj _
theorem rV {l:Aa Pt}(nd:l.Nodup):ql l=true↔l.length<3\/Cy l:=by
 rw[qAK nd]
 match l,nd with
 |[],_=>exact⟨λ_=>.inl bb,λ_=>rfl⟩
 |[_],_=>exact⟨λ_=>.inl ba,λ_=>rfl⟩
 |[_,_],_=>exact⟨λ_=>.inl ba,λ_=>rfl⟩
 |[a,b,c],nd =>
  rw[rH nd];show (!decide (gy c a b=0))=true↔_;simp
 |a::b::c::d::r,nd =>
  rw[rH nd];show ((d::r).all λp=>decide (On a b c p))=true↔_;rw[Bs];constructor
  .intro h
   exact .inr ⟨(Bz (h d (.head _))).1,λx Q=>(Bz (h x Q)).2⟩
  .rintro (h|⟨J,Y⟩)
   .simp at h
    lia
   .exact λx Q=>Cn ⟨J,Y x Q⟩
theorem Cy.sub {l:Aa Pt}(h:Cy l)(k:∀ z∈m,z∈l):Cy m:=by
 obtain⟨D,U,V,W,Y,h⟩:=h;exact⟨D,U,V,W,Y,λz Q=>h z (k z Q)⟩
def E_:Aa Pt->As
 |[a,b,c,d]=>decide (On a b c d)
 |_=>false
theorem cO (Q:m.length=4)(nd:m.Nodup):E_ m=true↔Cy m:=by
 match m,Q with
 |[a,b,c,d],_ =>
  rw[rH nd];show decide (On a b c d)=true↔_;rw[Bq];unfold On;simp
def rh (l:Aa Pt):Aa (Aa Pt):=(ka 4 l).filter E_
theorem lM {l:Aa Pt}(nd:l.Nodup):zJ (h_ l)=(rh l).length:=by
 rw[<- LN nd];unfold ZS rh;rw[GK,Wr,Ao];rfl
theorem CA {l:Aa Pt}(Q:Up l)(h:3<l.length):ql l=true↔(rh l).length=(ka 4 l).length:=by
 have J:=wJ Q;unfold rh;rw[List.length_filter_eq_length_iff,rV J];constructor
 .rintro (z|z) m B
  .lia
  .obtain⟨N,O,k⟩:=(v9 4 Q m).mp B
   exact(cO N (wJ O)).mpr (z.sub k)
 .intro k
  right
  match l,h with
  |a::b::c::d::r,_ =>
   rw[rH J];have f:∀ x∈d::r,On a b c x:=λx Y=>by
    have G:[a,b,c,x].Sublist (a::b::c::d::r):=by
     refine Qg _ (Qg _ (Qg _ ?_));exact List.singleton_sublist.mpr Y
    exact Bz (k [a,b,c,x] ((v9 4 Q _).mpr ⟨rfl,Q.sublist G,λz C=>G.subset C⟩))
   exact⟨(f d (.head _)).1,λx Y=>(f x Y).2⟩
def sw (p:Pt):Pt:=(p.2,p.1)
def sx (p:Pt):Pt:=(-p.2,p.1)
def vp (p:Pt):Pt:=(p.2,-p.1)
structure nq (g h:Pt->Pt):Prop where
 lf:∀ p,h (g p)=p
 rf:∀ p,g (h p)=p
 bx:∀ p,fy 1000 p->fy 1000 (g p)
 eq:∀ D U V W:Ah,∃ U' V',∀ z,ow D U V W z->ow D U' V' W (g z)
theorem WD:nq sw sw:=⟨λ_=>rfl,λ_=>rfl,λp h=>by unfold fy sw at *;dsimp only;lia,λD U V W=>⟨V,U,λz h=>by unfold ow sw at *;dsimp only;rw[<- h];generalize z.1=x;generalize z.2=y;grind⟩⟩
theorem FC:nq sx vp:=⟨λp=>Hj rfl (by unfold vp sx;exact Xl _),λp=>Hj (by unfold vp sx;exact Xl _) rfl,λp h=>by unfold fy sx at *;dsimp only;lia,λD U V W=>⟨-V,U,λz h=>by unfold ow sx at *;dsimp only;rw[<- h];generalize z.1=x;generalize z.2=y;grind⟩⟩
theorem FD:nq vp sx:=⟨λp=>Hj (by unfold vp sx;exact Xl _) rfl,λp=>Hj rfl (by unfold vp sx;exact Xl _),λp h=>by unfold fy vp at *;dsimp only;lia,λD U V W=>⟨V,-U,λz h=>by unfold ow vp at *;dsimp only;rw[<- h];generalize z.1=x;generalize z.2=y;grind⟩⟩
def mv (g:Pt->Pt)(l:Aa Pt):Aa Pt:=pB (l.map g)
section
variable {g h:Pt->Pt}
theorem bC (i:nq g h){l:Aa Pt}{z:Pt}:z∈mv g l↔h z∈l:=by
 unfold mv;rw[(uG _).mem_iff,Au];exact⟨λ⟨y,Q,e⟩=>by rw[<- e,i.lf];exact Q,λk=>⟨h z,k,i.rf z⟩⟩
theorem P8 (i:nq g h){l:Aa Pt}(nd:l.Nodup):(l.map g).Nodup:=Dj.mpr (nd.imp λ{a b} Q e=>Q (by rw[<- i.lf a,e,i.lf]))
theorem gW (i:nq g h){l:Aa Pt}(Q:Up l):Up (mv g l):=oS (P8 i (wJ Q))
theorem WY (l:Aa Pt):(mv g l).length=l.length:=by
 unfold mv;rw[(uG _).length_eq,Ao]
theorem fF {α β:Type}{f:α->β}(Q:∀ x y,f x=f y->x=y):∀ {a b:Aa α},a.map f=b.map f->a=b
 |[],[],_=>rfl
 |[],_::_,e=>by cases e
 |_::_,[],e=>by cases e
 |x::a,y::b,e=>by
  rw[Cg,Cg] at e;injection e with J Y
  rw[Q _ _ J,fF Q Y]
theorem V0 {l:Aa Pt}(Q:Up l)(hm:Up m)(h:∀ x,x∈l↔x∈m):l=m:=by
 refine fF (λ_ _=>c9) (_S.j6 _S.xD (a:=l.map kP) (b:=m.map kP) (Dj.mpr Q) (Dj.mpr hm) λx=>?_);rw[Au,Au];exact exists_congr λp=>and_congr (h p) AcB
theorem fH (i:nq g h)(j:nq h g){l:Aa Pt}(Q:Up l):mv h (mv g l)=l:=V0 (gW j (gW i Q)) Q λx=>by rw[bC j,bC i,i.lf]
theorem ZH (i:nq g h){l:Aa Pt}(k:Cy l):Cy (mv g l):=by
 obtain⟨D,U,V,W,Y,k⟩:=k;obtain⟨Q,J,e⟩:=i.eq D U V W;refine⟨D,Q,J,W,Y,λz G=>?_⟩;have:=e _ (k _ ((bC i).mp G));rw[i.rf] at this;exact this
theorem O7 (i:nq g h)(j:nq h g){l:Aa Pt}(Q:Up l):ql (mv g l)=ql l:=by
 rw[Iu,rV (wJ Q),rV (wJ (gW i Q)),WY];refine or_congr AcB ⟨λk=>?_,ZH i⟩;have:=ZH j k;rw[fH i j Q] at this;exact this
theorem P7 (i:nq g h)(j:nq h g){l:Aa Pt}(Q:Up l):(rh l).length<=(rh (mv g l)).length:=by
 have mem:∀ {l:Aa Pt},Up l->∀ m,m∈rh l↔(m.length=4/\Up m/\∀ x∈m,x∈l)/\Cy m:=λ{l} Q m=>by
  unfold rh;rw[Gz,v9 4 Q];exact⟨λ⟨a,b⟩=>⟨a,(cO a.1 (wJ a.2.1)).mp b⟩,λ⟨a,b⟩=>⟨a,(cO a.1 (wJ a.2.1)).mpr b⟩⟩
 have T:((rh l).map (mv g)).Nodup:=by
  refine Dj.mpr (Os (λ{a b} A M Y e=>?_) ((tO 4 Q).filter E_));have B:=((mem Q a).mp A).1.2.1;have O:=((mem Q b).mp M).1.2.1;have C:a=b:=by rw[<- fH i j B,e,fH i j O]
  subst C;have:=cH Y;rw[Y] at this;cases this
 have:=bD T (G:=rh (mv g l)) λs N=>by
  obtain⟨m,L,rfl⟩:=Au.mp N;obtain⟨⟨J,I,k⟩,E⟩:=(mem Q m).mp L;exact(mem (gW i Q) _).mpr ⟨⟨by rw[WY,J],gW i I,λx H=>(bC i).mpr (k _ ((bC i).mp H))⟩,ZH i E⟩
 rw[Ao] at this;exact this
theorem O6 (i:nq g h)(j:nq h g){l:Aa Pt}(Q:Up l):(rh (mv g l)).length=(rh l).length:=by
 refine Rw ?_ (P7 i j Q);have:=P7 j i (gW i Q);rw[fH i j Q] at this;exact this
theorem RD (i:nq g h){M:Ag}{l:Aa Pt}(L:qf M l):qf M (mv g l):=GX (λz=>L.ne (Sl.mp z)) (by rw[Ao];exact L.len) (P8 i (wJ L.up)) λq Y=>by
 obtain⟨p,Q,rfl⟩:=Au.mp Y;exact i.bx p (L.box p Q)
end
def lh (x:Ag × Ag):D:=.tup [.int (x.1:Ah),.int (x.2:Ah)]
theorem WB (L:FL)(p:Ag)(S:ao)(ak:qB)(i j n:Ag)(N:ak[j]? = Ab (Ab (.loc n)))(hi:ak[i]? = Ab (Ab (.int (p:Ah))))(Y:S[n]? = Ab (.dct (fr L)))(nd:(L.map (·.1)).Nodup)(C:L.length<4000) :
  qQ (d2 zB (mr "dict" kG (q9 j) (q8 (q9 i) (q8 (dC (.int 0)) qA))) (dC (.int 1))) (ni (q9 j) (q9 i) w6) ak S=.nx ak (S.set n (.dct (fr (inc p L)))):=by
 have J:ng (.loc n) S=Ab "dict":=by simp[ng,Y]
 have O:kG (.loc n) [.int (p:Ah),.int 0] S=.ok (.int (kB p L:Ah)) S:=by
  simp only[kG,Y,yZ];rw[V3]
 have Q:(fr L).length<br:=by
  simp only[fr,Ao];unfold br
  lia
 have G:w6 (.loc n) (.int (p:Ah)) (.int ((kB p L:Ah)+1)) S=.ok () (S.set n (.dct (fr (inc p L)))):=by
  simp only[w6,Y,yZ,Q,Ds,YI p nd]
 simp only[qQ,d2,mr,q9,N,hi,az.bind,J,Gm,Ds,q8,qA,dC,O,hX,ni,G,az.toS]
theorem IW (a b c:Ag)(S:ao)(ak:qB)(i j:Ag)(hi:ak[i]? = Ab (Ab (.int (a:Ah))))(Y:ak[j]? = Ab (Ab (.int (b:Ah))))(J:a<1000000000):cg (d2 lj (d2 qT (q9 i) (q9 i)) (q9 j)) ak S=.ok (decide (a*a<=b)) S:=by
 have Q:=iL (a:Ah) (a:Ah) S ⟨by lia,by lia⟩
 have e:decide ((a:Ah)*(a:Ah)<=(b:Ah))=decide (a*a<=b):=by
  rw[Iu,Bq,Bq];constructor
  .intro h;exact_mod_cast h
  .intro h;exact_mod_cast h
 simp only[cg,d2,q9,hi,Y,az.bind,Q,lj,i2,Ds,YX,_D.uL,e]
theorem RC (a b:Ag)(S:ao)(ak:qB)(i j:Ag)(hi:ak[i]? = Ab (Ab (.int (a:Ah))))(Y:ak[j]? = Ab (Ab (.int (b:Ah))))(J:0<b):cg (d2 ig (d2 xX (q9 i) (q9 j)) (dC (.int 0))) ak S=.ok (decide (b∣a)) S:=by
 have Q:=lQ (a:Ah) (b:Ah) S li;have e:decide ((a:Ah) % (b:Ah)=0)=decide (b∣a):=by
  rw[Iu,Bq,Bq];rw[Nat.dvd_iff_mod_eq_zero]
  lia
 simp only[cg,d2,q9,hi,Y,dC,az.bind,Q,vB,YX,_D.uL,e]
theorem ET {d:Ag}(J:2<=d)(h:d∣n)(hm:∀ e,2<=e->e<d->¬ e∣n):g_ d:=⟨J,λe Q=>by
 have G:=Jf li Q;have Y:0<e:=Xm Q li;rcases Fp e 2 with g|g
 .left;lia
 .rcases Fp e d with g2|g2
  .exact absurd (Ul Q h) (hm e g g2)
  .right;lia⟩
theorem JT {d:Ag}(G:2<=n)(h:n<d*d)(hm:∀ e,2<=e->e<d->¬ e∣n):g_ n:=⟨G,λe Y=>by
 have C:=Jf li Y;have J:0<e:=Xm Y li;obtain⟨f,Q⟩:=Y;by_cases B:e=1
 .exact .inl B
 .by_cases O:f=1
  .right;rw[Q,O,Ab1]
  .exfalso
   have L:0<f:=by
    rcases sK f with g|g
    .rw[g] at Q;lia
    .exact g
   have T:d<=e:=by
    rcases Fp e d with g|g
    .exact absurd ⟨f,Q⟩ (hm e li g)
    .exact g
   have N:d<=f:=by
    rcases Fp f d with g|g
    .exact absurd ⟨e,by rw[Q,Lj]⟩ (hm f li g)
    .exact g
   have:=Ge T N
   lia⟩
theorem fQ (S:ao)(m m':MO):(S++[m]).set S.length m'=S++[m']:=by simp
theorem wU (L:FL)(S:ao)(ak:qB)(h1:ak[1]? = Ab (Ab (.loc S.length))):kT (q9 1) ak (S++[.dct (fr L)])=.ok (.lst (L.map lh)) (S++[.dct (fr L)]):=by
 have Q:(S++[MO.dct (fr L)])[S.length]? = Ab (.dct (fr L)):=by simp
 have e:((fr L).map λp=>D.tup [kD p.1,p.2])=L.map lh:=by
  unfold fr;rw[Dh];rfl
 simp only[kT,q9,h1,az.bind,Q,e]
inductive oo (n:Ag)(S:ao)(m:Ag)(env:qB)(S':ao):Prop
 |mk (L:FL) (a qC dv:Ag) (h_0:m=2*(qC+1)-dv) (h_1:env=[Ab (.int (n:Ah)),Ab (.loc S.length),Ab (.int (qC:Ah)),Ab (.int (dv:Ah))]) (h_2:S'=S++[.dct (fr L)]) (h_3:qh L a) (h_4:a*qC=n) (h_5:1<=qC) (h_6:2<=dv) (h_7:dv<=1000002) (h_8:(dv=2\/dv % 2=1)) (h_9:∀ d,2<=d->d<dv->¬ d∣qC):oo n S m env S'
theorem cV (n:Ag)(S:ao)(f:1<=n/\n<=1000000000000):∃ (L:FL) (I:ao),gb [.int (n:Ah)] S=.ok (.lst (L.map lh)) I/\qh L n/\S<+:I:=by
 have k:Rt (fz [Ab (.int (n:Ah)),none,none,none] S) λd I=>∃ L:FL,d=.lst (L.map lh)/\qh L n/\S<+:I:=by
  unfold fz;refine uF (bH (qM (d:=.loc S.length) (S:=S++[.dct []]) rfl ?_));refine uF (bH (qM (d:=.int (n:Ah)) (S:=S++[.dct []]) rfl ?_));refine uF (bH (qM (d:=.int 2) (S:=S++[.dct []]) rfl ?_));simp only[Ox,Ls];refine uF ?_;have v:2*(n+1)<big:=by rw[tM];lia
  refine JH (oo n S) ?_ (n:=2*(n+1)-2) li ?_
  .rintro m ak I ⟨L,a,qC,dv,rfl,rfl,rfl,C,Y,c,E,p,w,Q⟩
   have zc:qC<=n:=by
    have:qC∣n:=⟨a,by rw[Lj];exact Y.symm⟩
    exact Jf li this
   have t:a<=n:=Jf li ⟨qC,Y.symm⟩;have hs:=C.short li;refine⟨decide (dv*dv<=qC),S++[.dct (fr L)],IW dv qC 0 _ _ 3 2 rfl rfl li,?_⟩;by_cases l:dv*dv<=qC
   .rw[Cn l]
    simp only[Ds];have zb:dv<=qC:=Cw (Mk dv li) l;have x:dv<=1000000:=by
     rcases Fp 1000000 dv with g|g
     .have:1000001*1000001<=dv*dv:=Ge g g
      lia
     .exact g
    refine ZI (b:=decide (dv∣qC)) (S1:=S++[.dct (fr L)]) (RC qC dv _ _ 2 3 rfl rfl li) ?_;by_cases G:dv∣qC
    .rw[Cn G]
     simp only[Ds];have T:(S++[MO.dct (fr L)])[S.length]? = Ab (.dct (fr L)):=by simp
     have M:=WB L dv (S++[.dct (fr L)]) [Ab (.int (n:Ah)),Ab (.loc S.length),Ab (.int (qC:Ah)),Ab (.int (dv:Ah))] 3 1 S.length rfl rfl T C.nd li;rw[fQ] at M;refine RI (fK M ?_);obtain⟨N,J⟩:=G;have z:0<N:=by
      rcases sK N with g|g
      .rw[g] at J;lia
      .exact g
     have B:=F0 (qC:Ah) (dv:Ah) (S++[.dct (fr (inc dv L))]) ⟨by lia,by lia⟩
     have h:(qC:Ah)/(dv:Ah)=(N:Ah):=by
      have:qC/dv=N:=by rw[J];exact Nat.mul_div_cancel_left _ li
      lia
     rw[h] at B;refine fK (ak:=[Ab (.int (n:Ah)),Ab (.loc S.length),Ab (.int (N:Ah)),Ab (.int (dv:Ah))]) (S:=S++[.dct (fr (inc dv L))]) (by simp[qL,yX,oA,o9,ug,qG,fj,qW,zR,xG,qQ,bj,ni,kb,zD,wH,uO,ud,wQ,dC,q9,d1,d2,q8,qA,qN,qH,cg,vG,mQ,wG,zQ,pr,mP,U3,yC,zA,wL,u9,mr,lr,xP,wV,w5,xT,az.bind,az.toS,_D.uL,_D.uM,YX,uf,uh,uj,ue,mi,lj,nj,qq,_D.zU,uT,B]) ?_
     have q:=ET E ⟨N,J⟩ Q;refine⟨2*(N+1)-dv,?_,inc dv L,dv*a,N,dv,rfl,rfl,rfl,C.inc q,?_,z,E,p,w,λd O H u=>Q d O H (J▸Nat.dvd_mul_left_of_dvd u _)⟩
     .have:2*N<=qC:=by
       rw[J];exact Ni _ E
      lia
     .rw[<- Y,J]
      rw[Lj dv a,Zp]
    .rw[Cq G]
     simp only[Bl,Dq];by_cases H:dv=2
     .subst H
      refine fK (ak:=[Ab (.int (n:Ah)),Ab (.loc S.length),Ab (.int (qC:Ah)),Ab (.int ((3:Ag):Ah))]) (S:=S++[.dct (fr L)]) (by simp[qL,yX,oA,o9,ug,qG,fj,qW,zR,xG,qQ,bj,ni,kb,zD,wH,uO,ud,wQ,dC,q9,d1,d2,q8,qA,qN,qH,cg,vG,mQ,wG,zQ,pr,mP,U3,yC,zA,wL,u9,mr,lr,xP,wV,w5,xT,az.bind,az.toS,_D.uL,_D.uM,YX,uf,uh,uj,ue,mi,lj,nj,qq,_D.zU,uT,vB]) ?_
      refine⟨2*(qC+1)-3,by lia,L,a,qC,3,rfl,rfl,rfl,C,Y,c,by lia,by lia,by lia,λd O u A=>?_⟩
      have:d=2:=by lia
      subst this;exact G A
     .have o:¬ ((dv:Ah)=2):=by lia
      refine fK (ak:=[Ab (.int (n:Ah)),Ab (.loc S.length),Ab (.int (qC:Ah)),Ab (.int ((dv+2:Ag):Ah))]) (S:=S++[.dct (fr L)]) (by simp[qL,yX,oA,o9,ug,qG,fj,qW,zR,xG,qQ,bj,ni,kb,zD,wH,uO,ud,wQ,dC,q9,d1,d2,q8,qA,qN,qH,cg,vG,mQ,wG,zQ,pr,mP,U3,yC,zA,wL,u9,mr,lr,xP,wV,w5,xT,az.bind,az.toS,_D.uL,_D.uM,YX,uf,uh,uj,ue,mi,lj,nj,qq,_D.zU,uT,vB,o]) ?_
      refine⟨2*(qC+1)-(dv+2),by lia,L,a,qC,dv+2,rfl,rfl,rfl,C,Y,c,by lia,by lia,by lia,λd O u A=>?_⟩
      rcases Fp d dv with g|g
      .exact Q d O g A
      .by_cases s:d=dv
       .subst s;exact G A
       .have g3:d=dv+1:=by lia
        have h5:2∣d:=by lia
        exact Q 2 li li (Ul h5 A)
   .rw[Cq l]
    simp only[Bl,Dq];by_cases O:qC=1
    .subst O
     refine uF (ZI (b:=false) (S1:=S++[.dct (fr L)]) (by simp[qL,yX,oA,o9,ug,qG,fj,qW,zR,xG,qQ,bj,ni,kb,zD,wH,uO,ud,wQ,dC,q9,d1,d2,q8,qA,qN,qH,cg,vG,mQ,wG,zQ,pr,mP,U3,yC,zA,wL,u9,mr,lr,xP,wV,w5,xT,az.bind,az.toS,_D.uL,_D.uM,YX,uf,uh,uj,ue,mi,lj,nj,qq,_D.zU,uT,az.bind]) (fK (ak:=[Ab (.int (n:Ah)),Ab (.loc S.length),Ab (.int ((1:Ag):Ah)),Ab (.int (dv:Ah))]) (S:=S++[.dct (fr L)]) rfl ?_))
     refine a9 (qM (d:=.lst (L.map lh)) (S:=S++[.dct (fr L)]) ?_ ⟨L,rfl,?_,Et _ _⟩)
     .exact wU L S _ rfl
     .rw[Ab1] at Y
      exact Y▸C
    .have q:=JT (by lia:2<=qC) li Q
     have j:(1:Ah)<(qC:Ah):=by lia
     have T:(S++[MO.dct (fr L)])[S.length]? = Ab (.dct (fr L)):=by simp
     have M:=WB L qC (S++[.dct (fr L)]) [Ab (.int (n:Ah)),Ab (.loc S.length),Ab (.int (qC:Ah)),Ab (.int (dv:Ah))] 2 1 S.length rfl rfl T C.nd li;rw[fQ] at M;refine uF (ZI (b:=true) (S1:=S++[.dct (fr L)]) (by simp[qL,yX,oA,o9,ug,qG,fj,qW,zR,xG,qQ,bj,ni,kb,zD,wH,uO,ud,wQ,dC,q9,d1,d2,q8,qA,qN,qH,cg,vG,mQ,wG,zQ,pr,mP,U3,yC,zA,wL,u9,mr,lr,xP,wV,w5,xT,az.bind,az.toS,_D.uL,_D.uM,YX,uf,uh,uj,ue,mi,lj,nj,qq,_D.zU,uT,j]) ?_)
     simp only[Ds];refine fK M ?_;refine a9 (qM (d:=.lst ((inc qC L).map lh)) (S:=S++[.dct (fr (inc qC L))]) ?_ ⟨inc qC L,rfl,?_,Et _ _⟩)
     .exact wU (inc qC L) S _ rfl
     .have:=C.inc q
      rw[Lj,Y] at this;exact this
  .exact⟨[],1,n,2,rfl,rfl,rfl,BW,by lia,f.1,by lia,by lia,.inl rfl,λd O H=>by lia⟩
 obtain⟨d,I,e,L,rfl,O,H⟩:=k;exact⟨L,I,by rw[kR];exact YT rfl e,O,H⟩
def uJ:DS:=fj (cg (d2 ig (d2 xX (q9 2) (dC (.int 4))) (dC (.int 1)))) (wQ 1 qT (d2 zB (q9 3) (dC (.int 1)))) (fj (wG (cg (d2 ig (d2 xX (q9 2) (dC (.int 4))) (dC (.int 3)))) (cg (d2 ig (d2 xX (q9 3) (dC (.int 2))) (dC (.int 1))))) (qW (dC (.int 0))) zR)
def gO:DG:=kb 2 (zD (bj 2) (zD (bj 3) wH))
theorem AJ:de=qG (qQ (dC (.int 4)) (bj 1)) (qG (wY (w5 (q9 0)) gO uJ) (qW (q9 1))):=rfl
theorem BY (a:Am D)(m p t:Ah)(S:ao)(hm:0<=m/\m<=4000000000000)(hp:0<=p)(C:0<=t) :
  uJ [a,Ab (.int m),Ab (.int p),Ab (.int t)] S=(if p % 4=1 then .nx [a,Ab (.int (m*(t+1))),Ab (.int p),Ab (.int t)] S else if p % 4=3/\t % 2=1 then .rt (.int 0) S else .nx [a,Ab (.int m),Ab (.int p),Ab (.int t)] S):=by
 have Q:=lQ p 4 S li;have G:=lQ t 2 S li;have O:=iL m (t+1) S ⟨by lia,by lia⟩
 unfold uJ;by_cases N:p % 4=1
 .simp[qL,yX,oA,o9,ug,qG,fj,qW,zR,xG,qQ,bj,ni,kb,zD,wH,uO,ud,wQ,dC,q9,d1,d2,q8,qA,qN,qH,cg,vG,mQ,wG,zQ,pr,mP,U3,yC,zA,wL,u9,mr,lr,xP,wV,w5,xT,az.bind,az.toS,_D.uL,_D.uM,YX,uf,uh,uj,ue,mi,lj,nj,qq,_D.zU,uT,Q,vB,N,O,hX]
 .by_cases Y:p % 4=3
  .by_cases J:t % 2=1
   .simp[qL,yX,oA,o9,ug,qG,fj,qW,zR,xG,qQ,bj,ni,kb,zD,wH,uO,ud,wQ,dC,q9,d1,d2,q8,qA,qN,qH,cg,vG,mQ,wG,zQ,pr,mP,U3,yC,zA,wL,u9,mr,lr,xP,wV,w5,xT,az.bind,az.toS,_D.uL,_D.uM,YX,uf,uh,uj,ue,mi,lj,nj,qq,_D.zU,uT,Q,G,vB,Y,J]
   .simp[qL,yX,oA,o9,ug,qG,fj,qW,zR,xG,qQ,bj,ni,kb,zD,wH,uO,ud,wQ,dC,q9,d1,d2,q8,qA,qN,qH,cg,vG,mQ,wG,zQ,pr,mP,U3,yC,zA,wL,u9,mr,lr,xP,wV,w5,xT,az.bind,az.toS,_D.uL,_D.uM,YX,uf,uh,uj,ue,mi,lj,nj,qq,_D.zU,uT,Q,G,vB,Y,J]
  .simp[qL,yX,oA,o9,ug,qG,fj,qW,zR,xG,qQ,bj,ni,kb,zD,wH,uO,ud,wQ,dC,q9,d1,d2,q8,qA,qN,qH,cg,vG,mQ,wG,zQ,pr,mP,U3,yC,zA,wL,u9,mr,lr,xP,wV,w5,xT,az.bind,az.toS,_D.uL,_D.uM,YX,uf,uh,uj,ue,mi,lj,nj,qq,_D.zU,uT,Q,vB,N,Y]
theorem ER (p t:Ag)(hp:2<=p):t+1<=p ^ t:=by
 induction t with
 |zero=>simp
 |succ t Q =>
  rw[Hn];have:=Ge Q hp
  lia
theorem t5 (a:Am D)(S:ao):∀ (L:FL) (m:Ag) (e2 e3:Am D),(∀ x∈L,g_ x.1)->m*xY L<=4000000000000 ->
  (∃ J j,xN gO uJ (L.map lh) [a,Ab (.int (m:Ah)),e2,e3] S=.nx [a,Ab (.int ((m:Ah)*qw L)),J,j] S)\/(xN gO uJ (L.map lh) [a,Ab (.int (m:Ah)),e2,e3] S=.rt (.int 0) S/\qw L=0)
 |[],m,e2,e3,_,_=>.inl ⟨e2,e3,by simp[xN,qw]⟩
 |x::L,m,e2,e3,k,s=>by
  have d:=(k x (Cf ..)).1;have C:∀ y∈L,g_ y.1:=λy c=>k y (AT _ c);have I:1<=xY L:=by
   have:∀ M:FL,(∀ y∈M,g_ y.1)->1<=xY M:=by
    intro M
    induction M with
    |nil=>intro _;exact Ax _
    |cons y M e =>
     intro h;have g:=e λz l=>h z (AT _ l);have q:1<=y.1 ^ y.2:=Nat.pow_pos (by have:=(h y (Cf ..)).1;lia)
     exact Ge q g
   exact this L C
  have H:=ER x.1 x.2 d;have T:m*(x.1 ^ x.2*xY L)<=4000000000000:=s;have f:1<=x.1 ^ x.2*xY L:=Ge (show 1<=x.1 ^ x.2 by lia) I
  have b:m<=4000000000000:=Cw (Nat.le_mul_of_pos_right m f) T;have t:gO (lh x) [a,Ab (.int (m:Ah)),e2,e3] S=.ok [a,Ab (.int (m:Ah)),Ab (.int (x.1:Ah)),Ab (.int (x.2:Ah))] S:=rfl;have p:=BY a (m:Ah) (x.1:Ah) (x.2:Ah) S ⟨by lia,by lia⟩ li li
  have N:xN gO uJ ((x::L).map lh) [a,Ab (.int (m:Ah)),e2,e3] S=(match uJ [a,Ab (.int (m:Ah)),Ab (.int (x.1:Ah)),Ab (.int (x.2:Ah))] S with
   |.nx Q E=>xN gO uJ (L.map lh) Q E
   |.ct Q E=>xN gO uJ (L.map lh) Q E
   |.bk Q E=>.nx Q E
   |o=>o):=by
   rw[Cg]
   conv=>lhs;unfold xN
   simp only[t,az.toS] <;> cases uJ [a,Ab (.int (m:Ah)),Ab (.int (x.1:Ah)),Ab (.int (x.2:Ah))] S <;> rfl
  rw[N,p];by_cases w:x.1 % 4=1
  .have B:(x.1:Ah) % 4=1:=by lia
   rw[Be B];have G:sg x=(x.2:Ah)+1:=by unfold sg;rw[Be w]
   have Y:((m:Ah)*((x.2:Ah)+1))=((m*(x.2+1):Ag):Ah):=by simp
   rw[Y];have O:m*(x.2+1)*xY L<=4000000000000:=by
    refine Cw ?_ T;rw[Zp];exact Zq _ (Ni _ H)
   rcases t5 a S L (m*(x.2+1)) (Ab (.int (x.1:Ah))) (Ab (.int (x.2:Ah))) C O with⟨u,v,h⟩|⟨h,A⟩
   .refine .inl ⟨u,v,?_⟩
    simp only[h,qw,G];rw[<- Y,Int.mul_assoc]
   .refine .inr ⟨h,?_⟩
    simp only[qw,A,Hl]
  .have B:¬ (x.1:Ah) % 4=1:=by lia
   rw[Bc B];by_cases e2:x.1 % 4=3/\x.2 % 2=1
   .have J:(x.1:Ah) % 4=3/\(x.2:Ah) % 2=1:=by lia
    rw[Be J];refine .inr ⟨rfl,?_⟩;have:sg x=0:=by unfold sg;rw[Bc w,Be e2]
    simp only[qw,this,Jc]
   .have J:¬ ((x.1:Ah) % 4=3/\(x.2:Ah) % 2=1):=by lia
    rw[Bc J];have G:sg x=1:=by unfold sg;rw[Bc w,Bc e2]
    have O:m*xY L<=4000000000000:=by
     refine Cw (Zq _ ?_) T;exact Mk _ (show 0<x.1 ^ x.2 by lia)
    rcases t5 a S L m (Ab (.int (x.1:Ah))) (Ab (.int (x.2:Ah))) C O with⟨u,v,h⟩|⟨h,A⟩
    .refine .inl ⟨u,v,?_⟩
     simp only[h,qw,G,Ab5]
    .refine .inr ⟨h,?_⟩
     simp only[qw,A,Hl]
theorem qAJ (L:FL)(n:Ag)(S:ao)(h:qh L n)(N:n<=1000000000000):cj [.lst (L.map lh)] S=.ok (.int (4*qw L)) S:=by
 rw[v7,AJ];have Y:yX 4 [.lst (L.map lh)]=[Ab (.lst (L.map lh)),none,none,none]:=rfl;have J:w5 (q9 0) [Ab (.lst (L.map lh)),Ab (.int 4),none,none] S=.ok (L.map lh) S:=rfl;rcases t5 (Ab (.lst (L.map lh))) S L 4 none none h.prm (by rw[h.eq];lia) with⟨u,v,e⟩|⟨e,G⟩
 .have Q:xN gO uJ (L.map lh) [Ab (.lst (L.map lh)),Ab (.int 4),none,none] S=_:=e
  unfold qL;rw[Y];simp only[qG,qQ,dC,bj,az.toS,wY,Ox,Ls,J,Q,qW,q9,List.getElem?_cons_zero,Pd,oA,o9];rfl
 .have Q:xN gO uJ (L.map lh) [Ab (.lst (L.map lh)),Ab (.int 4),none,none] S=_:=e
  unfold qL;rw[Y];simp only[qG,qQ,dC,bj,az.toS,wY,Ox,Ls,J,Q,qW,q9,oA,o9,G];rfl
theorem YD (S:ao):gN (.int 10) (.int 12) S=.ok (.int 1000000000000) S:=rfl
theorem J_:∀ {L:FL} {n:Ag},qh L n->Lo n->(R n:Ah)=4*qw L
 |[],n,h,_=>by
  have:n=1:=h.eq.symm;subst this;rw[Q7];rfl
 |x::L,n,h,lo=>by
  have e:x.1 ^ x.2*xY L=n:=h.eq;have Q:=h.prm x (Cf ..);have G:=Ea.mp h.nd;subst e;have Y:x.1∣x.1 ^ x.2:=by
   have:=Nat.pow_dvd_pow x.1 (h.pos x (Cf ..))
   rwa [Ab4] at this
  rw[NY Q (lo _ Q (Ul Y (Nat.dvd_mul_right ..))) (λJ=>by
   obtain⟨y,O,N⟩:=uD Q (λy C=>h.prm y (AT _ C)) J;exact G.1 (Au.mpr ⟨y,O,N⟩)),J_ h.tail λp Y J=>lo p Y (Ul J (Nat.dvd_mul_left ..))]
  show sg x*_=4*(sg x*qw L);exact Int.mul_left_comm _ _ _
theorem RM {Q:D->ao->Prop}(Y:1<=n/\n<=1000000000000)(lo:Lo n)(h:∀ S1,S<+:S1->Q (.int (R n:Ag)) S1):Ok (cp [.int (n:Ah)] S) Q:=by
 obtain⟨L,G,e,J,N⟩:=cV n S Y;rw[uC];refine z9 (ak:=[Ab (.int (n:Ah))]) rfl ?_;rfl';refine qM e ?_;rfl';refine qM (qAJ L n G J Y.2) ?_;have:=h G N;rw[J_ J lo] at this;rfl';exact this
theorem qBZ {Q:D->ao->Prop}(c:Cl)(Y:1<=n/\n<=1000000000000)(lo:Lo n)(h:∀ S1,S<+:S1->Q (.int (R n:Ag)) S1):Ok (gc c [.int (n:Ah)] S) Q:=by
 rw[kQ];refine z9 (ak:=[Ab (.int (n:Ah))]) rfl ?_;rfl';refine qM (YD _) ?_;rfl';refine qM (fJ c S li) ?_;rfl';refine RM Y lo λS1 J=>?_;rfl';exact h S1 J
theorem qBa {Q:D->ao->Prop}{f g:DE}(h:Ok (f ak S) λd S1=>∃ b,d=.bl b/\(b=true->Q (.bl true) S1)/\(b=false->Ok (g ak S1) Q)):Ok (zj f g ak S) Q:=qX (zO h λd S1 ⟨b,e,Y,J⟩=>by
 subst e;cases b with
 |true=>exact⟨_,_,rfl,Y rfl⟩
 |false=>exact J rfl)
theorem RO {Q:D->ao->Prop}(c:Cl)(Y:1<=n/\n<=1000000000000)(lo:Lo n)(h:∀ S1,S<+:S1->Q (.bl (decide (0<R n))) S1):Ok (jv c [.int (n:Ah)] S) Q:=by
 rw[m8];refine z9 (ak:=[Ab (.int (n:Ah))]) rfl ?_;rfl';refine qM (YD _) ?_;rfl';refine qM (fJ c S li) ?_;rfl';refine qBa (qM (d:=.bl false) (S:=S) ?_ ⟨_,rfl,(λz=>by cases z),λ_=>?_⟩)
 .show ig (.int n) (.int 0) S=_
  rw[vB,Cq li]
 rfl';refine RM Y lo λS1 J=>?_;rfl';have:=h S1 J;rw[show decide (0<R n)=decide ((0:Ah)<(R n:Ah)) from Lg.mpr li] at this
 exact this
def yf (n:Ag)(ps:Aa Pt):Prop:=∀ z:Pt,z∈ps↔z.1.natAbs*z.1.natAbs+z.2.natAbs*z.2.natAbs=n
theorem M9 (h1:yf n ps)(h2:yf n Q):xV ps=xV Q:=by
 have:_S.gz _H.lexLt (ps.map kP)=_S.gz _H.lexLt (Q.map kP):=_S.j6 _S.xD (_S.yW _S.xD _) (_S.yW _S.xD _) λk=>by
  rw[_S.xF _S.xD,_S.xF _S.xD,Au,Au];constructor
  .rintro⟨p,Y,rfl⟩
   exact⟨p,(h2 p).mpr ((h1 p).mp Y),rfl⟩
  .rintro⟨p,Y,rfl⟩
   exact⟨p,(h1 p).mpr ((h2 p).mp Y),rfl⟩
 unfold xV;rw[this]
theorem X8 {x:Ah}{a:Ag}:x.natAbs=a↔x = -(a:Ah)\/x=a:=by lia
theorem pr4 {A Y B Q:Prop}:((A/\B)\/(Y/\B)\/(A/\Q)\/(Y/\Q))↔(Y\/A)/\(Q\/B):=by
 constructor
 .rintro (⟨a,b⟩|⟨a,b⟩|⟨a,b⟩|⟨a,b⟩)
  .exact⟨.inr a,.inr b⟩
  .exact⟨.inl a,.inr b⟩
  .exact⟨.inr a,.inl b⟩
  .exact⟨.inl a,.inl b⟩
 .rintro⟨a|a,b|b⟩
  .exact .inr (.inr (.inr ⟨a,b⟩))
  .exact .inr (.inl ⟨a,b⟩)
  .exact .inr (.inr (.inl ⟨a,b⟩))
  .exact .inl ⟨a,b⟩
theorem l6 (x:Ah):x*x=((x.natAbs*x.natAbs:Ag):Ah):=by rw[Dv,Nj]
theorem qAS (i:Ah)(S:ao)(h:0<=i/\i<=1000000):c6 (.int 1) (.int i) S=.ok (.int (2 ^ i.toNat)) S:=by
 unfold c6 i2 VO;have:(AbR 1)<2 ^ 64:=by decide
 simp[h,this]
theorem B3 (n:Ah)(h:0<=n/\n<=1000000000):Lb n<=30/\n<2 ^ (Lb n):=by
 unfold Lb;by_cases z:n=0
 .subst z;simp
 .have Q:(n == 0)=false:=by simp[z]
  rw[Q];obtain⟨m,rfl⟩:∃ m:Ag,n=m:=⟨n.toNat,by lia⟩
  have Y:m≠0:=by lia
  simp only[Bl,Dq,Js];refine⟨?_,?_⟩
  .have:m.log2<30:=(Nat.log2_lt Y).mpr li
   lia
  .have:=@Nat.lt_log2_self m
   exact_mod_cast this
theorem F3 (B:Ag)(n:Ah)(Y:B<=30/\n<2 ^ B):∃ q T:Ag,((B:Ah)+1)/2=q/\q<=15/\(2:Ah) ^ q=T/\T<=32768/\n<(T:Ah)*T:=by
 refine⟨(B+1)/2,2 ^ ((B+1)/2),by lia,by lia,by push_cast;rfl,?_,?_⟩
 .have:(2:Ag) ^ ((B+1)/2)<=2 ^ 15:=Kn bb li
  exact this
 .have:(2:Ag) ^ B<=2 ^ ((B+1)/2)*2 ^ ((B+1)/2):=by rw[<- Nat.pow_add];exact Kn bb li
  have Q:(2:Ah) ^ B<=((2 ^ ((B+1)/2):Ag):Ah)*((2 ^ ((B+1)/2):Ag):Ah):=by exact_mod_cast this
  lia
theorem A4 {a b:Ah}(e:ak[i]? = Ab (Ab (.int a)))(h:Wo P (.nx (ak.set i (Ab (.int (a+b)))) S)):Wo P (wQ i uT (dC (.int b)) ak S):=by
 have:wQ i uT (dC (.int b)) ak S=.nx (ak.set i (Ab (.int (a+b)))) S:=by
  unfold wQ;rw[e];rfl
 rw[this];exact h
theorem A5 {a b:Ah}(e:ak[i]? = Ab (Ab (.int a)))(h:Wo P (.nx (ak.set i (Ab (.int (a-b)))) S)):Wo P (wQ i _D.zU (dC (.int b)) ak S):=by
 have:wQ i _D.zU (dC (.int b)) ak S=.nx (ak.set i (Ab (.int (a-b)))) S:=by
  unfold wQ;rw[e];rfl
 rw[this];exact h
theorem RQ {Q:D->ao->Prop}{n:Ah}(h:0<=n/\n<=1000000000)(q:∀ T:Ag,T<=32768->n<(T:Ah)*T->Q (.int T) S):Ok (ft [.int n] S) Q:=by
 obtain⟨k,T,J,O,G,Y,N⟩:=F3 _ n (B3 n h);rw[jV];refine z9 (ak:=[Ab (.int n)]) rfl ?_;rfl';refine qM (d:=.int (Lb n)) (S:=S) rfl ?_;rfl';rw[J];refine qM (qAS (k:Ah) S ⟨by lia,by lia⟩) ?_
 rw[Fa,G];rfl';exact q T Y N
theorem qAi {sg:DS}(R:qB->ao->Prop)(h:∀ Q:jd->Prop,(∀ ak S,R ak S->Wo Q (.nx ak S))->Wo Q o)(k:∀ ak S,R ak S->Wo P (sg ak S)):Wo (ZU sg P) o:=h _ k
def wD (p:Ag × Ag):D:=.tup [.int p.1,.int p.2]
def Wy (n:Ag)(W:Aa (Ag × Ag)):Prop:=∀ a b:Ag,(a,b)∈W↔a<=b/\a*a+b*b=n
structure Kw (n:Ag)(S:ao)(W:Aa (Ag × Ag))(S':ao):Prop where
 at':S'[S.length]? = Ab (.lst (W.map wD))
 pre:∀ m,m<S.length->S'[m]? = S[m]?
 on:∀ p∈W,p.1<=p.2/\p.1*p.1+p.2*p.2=n
 up:W.Pairwise λp q=>p.1<q.1
theorem qAV {a b:Ag}(h:a<b):a*a<b*b:=Nr h (Ec h) li
theorem qAU {a b:Ag}(h:a*a<b*b):a<b:=Nat.lt_of_not_le λz=>by
 have:=Ge z z
 lia
theorem Y9 {Q:D->ao->Prop}(c:Cl){S:ao}{n:Ag}{N:Ah}(E:N=(n:Ah))(hn:n<=1000000)(q:∀ W O,S<+:O->O[S.length]? = Ab (.lst (W.map wD))->Wy n W->W.Pairwise (λp q=>p.1<q.1)->W.length<=40000->Q (.loc S.length) O):Ok (fv c [.int N] S) Q:=by
 rw[pO];refine z9 (ak:=[Ab (.int N),none,none,none,none]) rfl ?_;rfl';refine qM (d:=.int 1000000000) rfl ?_;rfl';refine qM (fJ c S li) ?_;rfl';refine RQ li λT hT M=>?_;rfl';refine dM (λm ak O=>∃ (a:Ag) (b:Ah) (W:Aa (Ag × Ag)) (u:Am D),ak=[Ab (.int N),Ab (.loc S.length),Ab (.int a),Ab (.int b),u]/\m=(b+1-a).toNat/\(a:Ah)<=b+1/\b<=32768/\W.length<=a/\(∀ p∈W,p.1<a)/\Kw n S W O/\∀ x y:Ag,x<=y->x*x+y*y=n->(x,y)∈W\/a<=x/\(y:Ah)<=b) ?_ (n:=(T+1)) (by rw[tM];lia) ⟨0,T,[],_,rfl,by lia,by lia,by lia,Fk _,(λp hp=>by cases hp),⟨uY _ _,(λm H=>Bn H),(λp hp=>by cases hp),Mr⟩,λx y _ e=>.inr ⟨Fk _,?_⟩⟩
 .rintro m _ O ⟨a,b,W,u,rfl,rfl,zc,hb,hl,lo,g,al⟩
  rfl';refine⟨λz=>?_,λz=>?_⟩
  .have z:=Bz z
   obtain⟨b,rfl⟩:∃ k:Ag,b=k:=⟨b.toNat,by lia⟩
   have I:=(Ba.mp g.at').1;have s:(a:Ah)*a+(b:Ah)*b=((a*a+b*b:Ag):Ah):=by push_cast;rfl
   rfl';rw[s];refine qAi (λak l=>∃ G,ak=[Ab (.int N),Ab (.loc S.length),Ab (.int a),Ab (.int b),Ab (.int ((a*a+b*b:Ag):Ah))]/\G.length<=a+1/\(a*a+b*b≠n->G.length<=a/\∀ p∈G,p.1<a)/\(∀ p∈G,p.1<a+1)/\Kw n S G l/\∀ x y:Ag,x<=y->x*x+y*y=n->(x,y)∈G\/a<=x/\y<=b/\¬ (x=a/\y=b)) (λP' f=>?_) ?_
   .refine wK (λw=>?_) λw=>?_
    .have w:a*a+b*b=n:=by rw[E] at w;exact_mod_cast w
     rfl';refine⟨fS g.at',?_⟩;rfl';refine rQ g.at' (by rw[Ao];unfold br;lia) ?_
     refine f _ _ ⟨W++[(a,b)],rfl,by rw[Ca];show _+1<=_;lia,(λk=>absurd w k),?_,⟨?_,λm H=>?_,λp hp=>?_,Di.mpr ⟨g.up,Li _ _,λp hp q hq=>by rw[Cz.mp hq];exact lo p hp⟩⟩,λx y Y e=>?_⟩
     .intro p hp
      rcases Bp.mp hp with hp|hp
      .exact Ps (lo p hp)
      .rw[Cz.mp hp]
       exact Ji a
     .rw[DL I,Dp]
      rfl
     .rw[Dd li]
      exact g.pre m H
     .rcases Bp.mp hp with hp|hp
      .exact g.on p hp
      .rw[Cz.mp hp]
       exact⟨by dsimp only;lia,w⟩
     .rcases al x y Y e with h|⟨J,C⟩
      .exact .inl (Cs _ h)
      .by_cases k:x=a/\y=b
       .rw[k.1,k.2]
        exact .inl (Bx _ (.head _))
       .exact .inr ⟨J,by lia,k⟩
    .have w:¬ a*a+b*b=n:=λk=>w (by rw[E,k])
     rfl';refine f _ _ ⟨W,rfl,by lia,(λ_=>⟨hl,lo⟩),(λp hp=>Ps (lo p hp)),g,λx y Y e=>?_⟩
     rcases al x y Y e with h|⟨J,C⟩
     .exact .inl h
     .refine .inr ⟨J,by lia,λk=>w ?_⟩
      rw[<- k.1,<- k.2];exact e
   .rintro _ l ⟨G,rfl,j,L,A,v,B⟩
    rfl';refine wK (λw=>?_) λw=>?_
    .have w:n<a*a+b*b:=by rw[E] at w;exact_mod_cast w
     refine A5 rfl ?_;have zb:0<b:=by
      refine Lq λk=>?_;subst k;have:a=0:=by lia
      subst this
      lia
     refine lA ((b:Ah)-1+1-a).toNat li ⟨a,(b:Ah)-1,G,_,rfl,rfl,by lia,by lia,(L li).1,(L li).2,v,λx y Y e=>?_⟩
     rcases B x y Y e with h|⟨J,C,t⟩
     .exact .inl h
     .refine .inr ⟨J,?_⟩
      have:y≠b:=λk=>by
       subst k;have:=Ge J J
       lia
      lia
    .have w:a*a+b*b<=n:=by
      refine AaM λk=>w ?_;rw[E]
      exact_mod_cast k
     refine A4 rfl ?_;refine lA ((b:Ah)+1-((a+1:Ag):Ah)).toNat li ⟨a+1,b,G,_,rfl,rfl,by lia,by lia,j,A,v,λx y Y e=>?_⟩
     rcases B x y Y e with h|⟨J,C,t⟩
     .exact .inl h
     .refine .inr ⟨?_,by lia⟩
      have:x≠a:=λk=>by
       subst k;have o:y≠b:=λo=>t ⟨rfl,o⟩;have:=qAV (show y<b by lia)
       lia
      lia
  .have z:=Lp z
   rfl';refine q W O (YE g.pre) g.at' (λx y=>⟨λh=>g.on _ h,λ⟨J,C⟩=>?_⟩) g.up li;rcases al x y J C with h|h
   .exact h
   .lia
 .have J:(y*y:Ag)<T*T:=by
   have:((y*y:Ag):Ah)<((T*T:Ag):Ah):=by
    push_cast
    push_cast at M
    have:((x*x+y*y:Ag):Ah)=(n:Ah):=by rw[e]
    push_cast at this
    have:=Ik (Oy x) (Oy x)
    lia
   exact_mod_cast this
  have:=qAU J
  lia
theorem ze {α:Type}{cb:α->D}{g:DG}{t:DT}{k:DK}(G:α->Aa D)(C:qB->ao->Prop)(A:Aa D->Prop)(B:∀ ak S,C ak S->nu o S) :
  ∀ (xs:Aa α) (ak:qB) (S:ao) (au:Aa D),C ak S->A au ->
  (∀ x∈xs,∀ ak S au,C ak S->A au->∃ Q S1,g (cb x) ak S=.ok Q S1/\t Q S1=.ok true S1/\∃ Y O,k Q S1 au=.ok (Y,au++G x) O/\C Y O/\A (au++G x)) ->
  ∃ J N,iq o g t k (xs.map cb) ak S au=.ok (J,au++xs.flatMap G) N/\C J N/\A (au++xs.flatMap G)
 |[],ak,S,au,h,L,_=>⟨ak,S,by simp[iq,wC.mpr (B _ _ h)],h,by simpa using L⟩
 |x::xs,ak,S,au,h,L,step=>by
  obtain⟨Q,S1,w,T,Y,O,I,H,M⟩:=step x (Cf ..) ak S au h L;obtain⟨J,N,e,c,a⟩:=ze G C A B xs Y O (au++G x) H M λy E=>step y (AT _ E);rw[Ch] at e a;refine⟨J,N,?_,c,a⟩;simp only[Cg,iq,wC.mpr (B _ _ h),Ds,w,T,az.bind,I,Ft];exact e
def tx (fd:Aa Pt)(au:Aa D):Prop:=∃ ps:Aa Pt,au=ps.map ax/\∀ z∈ps,z∈fd
theorem XG (N:fd.length<=628)(h:∀ z∈ps,z∈fd):yO (ps.map ax)=true:=by
 unfold yO;rw[kY,uI];have Q:(_S.gz _H.lexLt (ps.map kP)).length<=1000:=by
  refine Cw (bD (G:=fd.map kP) ((_S.yW _S.xD _).imp λ{a b} k e=>?_) λk Y=>?_) (by rw[Ao];lia)
  .subst e
   rw[_S.xD.irr] at k;cases k
  .obtain⟨p,J,rfl⟩:=Au.mp ((_S.xF _S.xD _ _).mp Y)
   exact Au.mpr ⟨p,h p J,rfl⟩
 show (decide (_<=1000)&&_)=true;rw[Cn Q,Ac8,Iy];exact Bs.mpr λ_ _=>rfl
noncomputable def bQ (x:Ah)(b:Ag):Aa Pt:=[(x,-(b:Ah)),(x,(b:Ah))]
def yQ (p:Ag × Ag):Aa Pt:=bQ (-(p.1:Ah)) p.2++bQ p.1 p.2
theorem lG {z:Pt}:z∈yQ p↔z.1.natAbs=p.1/\z.2.natAbs=p.2:=by
 obtain⟨x,y⟩:=z;rw[X8,X8,<- pr4];simp only[yQ,bQ,Vf,Iq,Az,En,Kc,Prod.mk.injEq];constructor
 .rintro (h|h|h|h)
  .exact .inr (.inr (.inr h))
  .exact .inr (.inl h)
  .exact .inr (.inr (.inl h))
  .exact .inl h
 .rintro (h|h|h|h)
  .exact .inr (.inr (.inr h))
  .exact .inr (.inl h)
  .exact .inr (.inr (.inl h))
  .exact .inl h
theorem X9 {z:Pt}(h:tx fd au)(hz:z∈fd):tx fd (au++[ax z]):=by
 obtain⟨ps,rfl,Q⟩:=h;refine⟨ps++[z],by rw[Dp];rfl,λy hy=>?_⟩
 rcases Bp.mp hy with hy|hy
 .exact Q y hy
 .rw[Cz.mp hy]
  exact hz
theorem BS {z:Pt}(Y:fd.length<=628)(h:tx fd au)(hz:z∈fd)(e:fe ak S=.ok (ax z) S):jI yO fe ak S au=.ok (ak,au++[ax z]) S:=by
 obtain⟨ps,J,Q⟩:=X9 h hz;unfold jI;rw[e,az.bind_ok,Be];rw[J];exact XG Y Q
abbrev _p:DK:=jI yO (zA (q8 (q9 2) (q8 (q9 3) qA)))
abbrev H_:DK:=kIn (j_ (zA (q8 (d1 uK (q9 1)) (q8 (q9 1) qA)))) (bj 3) zQ _p
abbrev I_:DK:=kIn (j_ (zA (q8 (d1 uK (q9 0)) (q8 (q9 0) qA)))) (bj 2) zQ H_
theorem IR (T:fd.length<=628)(p:Ag × Ag)(x:Ah)(L:∀ z∈bQ x p.2,z∈fd)(e3:Am D)(S:ao)(au:Aa D)(J:tx fd au):∃ Q,H_ [Ab (.int p.1),Ab (.int p.2),Ab (.int x),e3] S au=.ok ([Ab (.int p.1),Ab (.int p.2),Ab (.int x),Q],au++(bQ x p.2).map ax) S/\tx fd (au++(bQ x p.2).map ax):=by
 obtain⟨B,Y,e,⟨⟨Q,N⟩,G⟩,a⟩:=ze (cb:=D.int) (o:=none) (g:=bj 3) (t:=zQ) (k:=_p) (λy=>[ax (x,y)]) (λak Y=>(∃ e3,ak=[Ab (.int p.1),Ab (.int p.2),Ab (.int x),e3])/\Y=S) (tx fd) (λ_ _ _=>trivial) [-(p.2:Ah),(p.2:Ah)] [Ab (.int p.1),Ab (.int p.2),Ab (.int x),e3] S au ⟨⟨_,rfl⟩,rfl⟩ J λy C ak Y au ⟨⟨e3,N⟩,G⟩ J=>by
  subst N G;have O:((x,y):Pt)∈fd:=L _ (by
   simp only[Az,En,Kc] at C;rcases C with rfl|rfl
   .exact .head _
   .exact .tail _ (.head _))
  exact⟨_,Y,rfl,rfl,_,Y,BS T J O rfl,⟨⟨_,rfl⟩,rfl⟩,X9 J O⟩
 subst N G;exact⟨Q,e,a⟩
theorem IQ (H:fd.length<=628)(p:Ag × Ag)(I:∀ z∈yQ p,z∈fd)(e2 e3:Am D)(S:ao)(au:Aa D)(O:tx fd au):∃ Y Q,I_ [Ab (.int p.1),Ab (.int p.2),e2,e3] S au=.ok ([Ab (.int p.1),Ab (.int p.2),Y,Q],au++(yQ p).map ax) S/\tx fd (au++(yQ p).map ax):=by
 obtain⟨L,J,e,⟨⟨Y,Q,N⟩,G⟩,a⟩:=ze (cb:=D.int) (o:=none) (g:=bj 2) (t:=zQ) (k:=H_) (λx=>(bQ x p.2).map ax) (λak J=>(∃ e2 e3,ak=[Ab (.int p.1),Ab (.int p.2),e2,e3])/\J=S) (tx fd) (λ_ _ _=>trivial) [-(p.1:Ah),(p.1:Ah)] [Ab (.int p.1),Ab (.int p.2),e2,e3] S au ⟨⟨_,_,rfl⟩,rfl⟩ O λx B ak J au ⟨⟨e2,e3,N⟩,G⟩ O=>by
  subst N G;obtain⟨Q,T,A⟩:=IR H p x (λz C=>I z (by
   simp only[Az,En,Kc] at B;rcases B with rfl|rfl
   .exact Cs _ C
   .exact Bx _ C)) e3 J au O
  exact⟨_,J,rfl,rfl,_,J,T,⟨⟨_,_,rfl⟩,rfl⟩,A⟩
 subst N G;have E:[-(p.1:Ah),(p.1:Ah)].flatMap (λx=>(bQ x p.2).map ax)=(yQ p).map ax:=by
  unfold yQ;rw[Dp];simp
 rw[E] at e a;exact⟨Y,Q,e,a⟩
theorem LO {W:Aa (Ag × Ag)}(h:Wy n W):yf n ((W++W.map AcF).flatMap yQ):=λz=>by
 rw[Rc];constructor
 .rintro⟨p,hp,Q⟩
  obtain⟨a,b⟩:=lG.mp Q;rw[a,b];rcases Bp.mp hp with hp|hp
  .exact((h _ _).mp hp).2
  .obtain⟨q,Y,rfl⟩:=Au.mp hp
   have:=((h _ _).mp Y).2;show q.2*q.2+q.1*q.1=n
   lia
 .intro e
  rcases Aa1 z.1.natAbs z.2.natAbs with k|k
  .exact⟨(z.1.natAbs,z.2.natAbs),Cs _ ((h _ _).mpr ⟨k,e⟩),lG.mpr ⟨rfl,rfl⟩⟩
  .exact⟨(z.1.natAbs,z.2.natAbs),Bx _ (Au.mpr ⟨(z.2.natAbs,z.1.natAbs),(h _ _).mpr ⟨k,by lia⟩,rfl⟩),lG.mpr ⟨rfl,rfl⟩⟩
theorem RL {Q:D->ao->Prop}(c:Cl){S:ao}{n:Ag}{N:Ah}(x:N=(n:Ah))(v:n<=1000000){fd:Aa Pt}(M:yf n fd)(j:fd.length<=628)(q:∀ J,S<+:J->Q (.lst ((xV fd).map ax)) J):Ok (im c [.int N] S) Q:=by
 rw[fX];refine z9 (ak:=[Ab (.int N),none,none]) rfl ?_;rfl';refine qM (d:=.int 1000000) rfl ?_;rfl';refine qM (fJ c S li) ?_;rfl';refine Y9 c x v λW G p1 O hW _ zc=>?_;rfl';refine qM (bV (xs:=W) (cb:=wD) (SS rfl O) O (λ_=>true) (λp=>wD p.swap) (λak=>∃ a b,ak=[a,b]) ⟨none,none,rfl⟩ (by unfold br;lia) λp B ak ⟨a,b,e⟩=>?_) ?_
 .subst e
  exact⟨_,rfl,⟨_,_,rfl⟩,rfl,λ_=>rfl⟩
 rw[Lc.mpr λ_ _=>rfl];refine RJ (IV O) rfl (by rw[Ao,Ao];unfold br;lia) ?_
 have s:W.map wD++W.map (λp=>wD p.swap)=(W++W.map AcF).map wD:=by
  rw[Dp,Dh];rfl
 rw[s];have Y:=LO hW;generalize W++W.map AcF=C at Y;have L:∀ p∈C,∀ z∈yQ p,z∈fd:=λp B z I=>(M z).mpr ((Y z).mp (Rc.mpr ⟨p,B,I⟩));rfl';obtain⟨u,J,e,⟨_,T⟩,ps,ea,zb⟩:=ze (cb:=wD) (o:=none) (g:=kb 2 (zD (bj 0) (zD (bj 1) wH))) (t:=zQ) (k:=I_) (λp=>(yQ p).map ax) (λak J=>(∃ w l E H,ak=[w,l,E,H])/\J=G) (tx fd) (λ_ _ _=>trivial) C [none,none,none,none] G [] ⟨⟨_,_,_,_,rfl⟩,rfl⟩ ⟨[],rfl,λ_ h=>by cases h⟩ λp B ak J au ⟨⟨w,l,E,H,O⟩,T⟩ ha=>by
  subst O T;obtain⟨zh,zl,f,f2⟩:=IQ j p (L p B) E H J au ha;exact⟨_,J,rfl,rfl,_,J,f,⟨⟨_,_,_,_,rfl⟩,rfl⟩,f2⟩
 rw[T] at e;have ef:C.flatMap (λp=>(yQ p).map ax)=(C.flatMap yQ).map ax:=by rw[Ra]
 rw[Iq,ef] at e;have A:yO ((C.flatMap yQ).map ax)=true:=XG j λz I=>(M z).mpr ((Y z).mp I);refine qX (qM (d:=(none,C.map wD)) (S:=G) rfl ?_);show Ok (QX (kW false) (iq none _ zQ I_ (C.map wD) [none,none,none,none] G [])) _;rw[e];refine qM (d:=.lst ((xV (C.flatMap yQ)).map ax)) (S:=G) ?_ ?_
 .show (if yO ((C.flatMap yQ).map ax)=true then (match yN ((C.flatMap yQ).map ax) with|some ks=>az.ok (D.lst ((_S.gz _H.lexLt ks).map io)) G|none=>.bad) else .bad)=_
  rw[Be A,kY,uI];dsimp only;rw[(kS (l8 _)).1];rfl
 .rw[M9 Y M]
  exact q G p1
noncomputable def bo (a b c d:Ah):Ah:=2*(a*d-b*c)
def ac (a b c d:Ah):Ah:=d*(a*a+b*b)-b*(c*c+d*d)
def uu (a b c d:Ah):Ah:=a*(c*c+d*d)-c*(a*a+b*b)
def KE (x y a b c d:Ah):D:=.tup ([mq (x*bo a b c d+ac a b c d) (bo a b c d),mq (y*bo a b c d+uu a b c d) (bo a b c d),mq (ac a b c d*ac a b c d+uu a b c d*uu a b c d) (bo a b c d*bo a b c d)].map _u)
def yz (p q r:Pt):D:=KE p.1 p.2 (q.1-p.1) (q.2-p.2) (r.1-p.1) (r.2-p.2)
def xz (p q r:Pt):Ah:=bo (q.1-p.1) (q.2-p.2) (r.1-p.1) (r.2-p.2)
structure Bd (a b c d:Ah):Prop where
 a : -2000<=a/\a<=2000
 b : -2000<=b/\b<=2000
 c : -2000<=c/\c<=2000
 d : -2000<=d/\d<=2000
theorem Bd.bo {a b c d:Ah}(h:Bd a b c d) : -16000000<=bo a b c d/\bo a b c d<=16000000:=by
 have Y:=vY h.a h.d;have Q:=vY h.b h.c;unfold _K.bo;fin2
theorem Bd.sq {a b c d:Ah}(h:Bd a b c d):(-8000000<=a*a+b*b/\a*a+b*b<=8000000)/\(-8000000<=c*c+d*d/\c*c+d*d<=8000000):=by
 have G:=vY h.a h.a;have Y:=vY h.b h.b;have J:=vY h.c h.c;have Q:=vY h.d h.d;fin2
theorem Bd.ac {a b c d:Ah}(h:Bd a b c d) : -32000000000<=ac a b c d/\ac a b c d<=32000000000:=by
 have Y:=vY h.d h.sq.1;have Q:=vY h.b h.sq.2;unfold _K.ac;fin2
theorem Bd.uu {a b c d:Ah}(h:Bd a b c d) : -32000000000<=uu a b c d/\uu a b c d<=32000000000:=by
 have Y:=vY h.a h.sq.2;have Q:=vY h.c h.sq.1;unfold _K.uu;fin2
theorem AK (hp:fy 1000 p)(Y:fy 1000 q)(Q:fy 1000 r):Bd (q.1-p.1) (q.2-p.2) (r.1-p.1) (r.2-p.2):=by
 unfold fy at *;exact⟨by fin2,by fin2,by fin2,by fin2⟩
theorem M2 {Q:D->ao->Prop}(c:Cl){p q r:Pt}(hp:fy 1000 p)(N:fy 1000 q)(G:fy 1000 r)(h0:xz p q r≠0){S:ao}(k:Q (yz p q r) S):Ok (gr c [ax p,ax q,ax r] S) Q:=by
 have B:=AK hp N G;rw[pN];refine z9 (ak:=[Ab (ax p),Ab (ax q),Ab (ax r),none,none,none,none,none,none,none,none,none]) rfl ?_;rfl';refine qM (bE c S hp) ?_;rfl';refine qM (bE c S N) ?_;rfl';refine qM (bE c S G) ?_;have v : -1000<=p.1/\p.1<=1000 /\ -1000<=p.2/\p.2<=1000:=hp;have g:=B.a;have j:=B.b;have o:=B.c;have u:=B.d;rfl';unfold yz at k;unfold xz at h0;generalize q.1-p.1=a at *;generalize q.2-p.2=b at *;generalize r.1-p.1=Y at *;generalize r.2-p.2=d at *;have J:=B.bo;have A:=B.ac;have E:=B.uu;have H:=vY J J;refine wK (λz=>absurd z h0) λ_=>?_;have T:2*(a*d-b*Y)=bo a b Y d:=rfl;rw[T];rfl';have M:d*(a*a+b*b)-b*(Y*Y+d*d)=ac a b Y d:=rfl;have C:a*(Y*Y+d*d)-Y*(a*a+b*b)=uu a b Y d:=rfl;rw[M,C];generalize I:bo a b Y d=l at *;generalize O:ac a b Y d=f at *;generalize L:uu a b Y d=w at *;refine nL ⟨h0,by fin2⟩ ?_
 rfl';refine nL ⟨h0,by fin2⟩ ?_
 rfl';refine nL ⟨λz=>h0 (by rcases Iw.mp z with z|z <;> exact z),by fin2⟩ ?_
 rfl';unfold KE at k;rw[I,O,L] at k;exact k
structure Ci (n:Ag)(ps:Aa Pt):Prop where
 up:Up ps
 on:∀ x y:Ah,(x,y)∈ps↔x*x+y*y=n
theorem Ci.len (h:Ci n ps):ps.length=R n:=qA7 (wJ h.up) h.on
theorem Ci.box (h:Ci n ps)(Y:n<=1000000):∀ z∈ps,fy 1000 z:=λz Q=>by
 have e:=(h.on z.1 z.2).mp Q;have:=tz z.1;have:=tz z.2;have:=bM (x:=z.1) (m:=1001) bb li
 have:=bM (x:=z.2) (m:=1001) bb li
 unfold fy
 lia
theorem Ci.cy (h:Ci n ps):Cy ps:=⟨1,0,0,-n,by decide,λz Q=>by
 have:=(h.on z.1 z.2).mp Q;unfold ow;rw[this]
 lia⟩
theorem O9 {Q:D->ao->Prop}(c:Cl){S:ao}{n:Ag}{N:Ah}(C:N=(n:Ah))(J:n<=1000000)(G:R n<=256)(q:∀ ps Y,S<+:Y->Ci n ps->Q (.lst (ps.map ax)) Y):Ok (im c [.int N] S) Q:=by
 have O:yf n (gn n):=λ⟨x,y⟩=>by
  rw[zM,l6 x,l6 y];exact⟨λe=>by exact_mod_cast e,λe=>by exact_mod_cast e⟩
 refine RL c C J O (Cw G bb) λY p=>q _ Y p ⟨fR _,λx y=>?_⟩
 rw[vZ,zM]
theorem AH (Q:1<=n/\n<=1000000000000)(lo:Lo n)(h:R n<3):R n=0:=by
 obtain⟨L,_,_,f,_⟩:=cV n [] Q;have:=J_ f lo
 lia
def wP (z:Pt):Pt:=((min z.1.natAbs z.2.natAbs:Ag),(max z.1.natAbs z.2.natAbs:Ag))
def nP (p:Ag × Ag):Pt:=((p.1:Ah),(p.2:Ah))
theorem N2 (a b:Ag)(S:ao):yM [.lst [.int (a:Ah),.int (b:Ah)]] S=.ok (.lst [.int ((min a b:Ag):Ah),.int ((max a b:Ag):Ah)]) S:=by
 have e:_S.wZ _S.r_ [(a:Ah),(b:Ah)]=[((min a b:Ag):Ah),((max a b:Ag):Ah)]:=by
  refine _S.g6 _S.JL (_S.gC _S.JL _) ?_ ((_S.yH _).trans ?_)
  .refine List.Pairwise.cons (λy Q=>?_) (Li _ _)
   rw[Cz.mp Q];exact Cq li
  .rcases Aa1 a b with h|h
   .rw[Ry h,Vg h]
   .rw[Ab8 h,AbN h]
    exact Xx _ _ _
 have h:uB ([(a:Ah),(b:Ah)].map D.int)=Ab ((_S.wZ _S.r_ [(a:Ah),(b:Ah)]).map D.int):=by
  unfold uB;rw[b8];exact Be (Qx rfl)
 show (match uB ([(a:Ah),(b:Ah)].map D.int) with|some Y=>az.ok (D.lst Y) S|none=>.bad)=_
 rw[h,e];rfl
theorem NH (h:Ci n ps){W:Aa (Ag × Ag)}(Y:Wy n W)(up:W.Pairwise λp q=>p.1<q.1):xV (ps.map wP)=W.map nP:=by
 refine V0 (fR _) ?_ λz=>?_
 .show (W.map nP).Pairwise _
  rw[Dj];exact up.imp λ{p q} k=>by
   show _H.lexLt [(p.1:Ah),(p.2:Ah)] [(q.1:Ah),(q.2:Ah)]=true;rw[_H.a_,Bc (Int.ne_of_lt (Int.ofNat_lt.mpr k))];exact Cn (Int.ofNat_lt.mpr k)
 .rw[vZ,Au,Au]
  constructor
  .rintro⟨y,J,rfl⟩
   have e:=(h.on y.1 y.2).mp J;refine⟨(min y.1.natAbs y.2.natAbs,max y.1.natAbs y.2.natAbs),(Y _ _).mpr ⟨by lia,?_⟩,rfl⟩
   have Q:y.1.natAbs*y.1.natAbs+y.2.natAbs*y.2.natAbs=n:=by
    rw[l6 y.1,l6 y.2] at e
    exact_mod_cast e
   rcases Aa1 y.1.natAbs y.2.natAbs with k|k
   .rw[Ry k,Vg k]
    exact Q
   .rw[Ab8 k,AbN k,Vn]
    exact Q
  .rintro⟨p,G,rfl⟩
   obtain⟨k,e⟩:=(Y p.1 p.2).mp G;refine⟨nP p,(h.on _ _).mpr (by exact_mod_cast e),?_⟩
   unfold wP nP;dsimp only;rw[Js,Js,Ry k,Vg k]
theorem qBV {x a b c d n:Ah}(h0:x*x+y*y=n)(h1:(x+a)*(x+a)+(y+b)*(y+b)=n)(h2:(x+c)*(x+c)+(y+d)*(y+d)=n):x*bo a b c d+ac a b c d=0/\y*bo a b c d+uu a b c d=0/\ac a b c d*ac a b c d+uu a b c d*uu a b c d=n*(bo a b c d*bo a b c d):=by
 have Y:a*a+b*b = -2*(x*a+y*b):=by grind
 have Q:c*c+d*d = -2*(x*c+y*d):=by grind
 have J:x*bo a b c d+ac a b c d=0:=by unfold bo ac;rw[Y,Q];grind
 have G:y*bo a b c d+uu a b c d=0:=by unfold bo uu;rw[Y,Q];grind
 refine⟨J,G,?_⟩;have N:ac a b c d = -(x*bo a b c d):=by lia
 have O:uu a b c d = -(y*bo a b c d):=by lia
 rw[N,O,<- h0]
 grind
theorem II {b:Ah}(Q:b≠0):mq 0 b=(0,1):=by
 have:=(h9 (t:=0) (t':=0) Q (show (1:Ah)≠0 by decide)).mpr (by rw[Jc,Jc])
 rw[this]
 decide +kernel
theorem IH {b:Ah}(Q:b≠0):mq ((n:Ah)*b) b=((n:Ah),1):=by
 have h:=(h9 (t:=(n:Ah)*b) (t':=n) Q (show (1:Ah)≠0 by decide)).mpr (by rw[Int.mul_one])
 rw[h];unfold mq;dsimp only;rw[Bc bb,Int.gcd_one_right]
 exact Hj (Int.ediv_one _) rfl
theorem TJ {p q:Pt}(hp:p.1*p.1+p.2*p.2=n)(Y:q.1*q.1+q.2*q.2=n)(G:r.1*r.1+r.2*r.2=n)(h0:xz p q r≠0):yz p q r=qS [(0,1),(0,1),((n:Ah),1)]:=by
 obtain⟨Q,J,N⟩:=qBV (x:=p.1) (y:=p.2) (a:=q.1-p.1) (b:=q.2-p.2) (c:=r.1-p.1) (d:=r.2-p.2) hp (by rw[<- Y];grind) (by rw[<- G];grind)
 have h0:bo (q.1-p.1) (q.2-p.2) (r.1-p.1) (r.2-p.2)≠0:=h0;unfold yz KE;rw[Q,J,N,II h0,IH (AbM h0 h0)];rfl
theorem L6 {p q:Pt}(hp:p.1*p.1+p.2*p.2=n)(G:q.1*q.1+q.2*q.2=n)(N:r.1*r.1+r.2*r.2=n)(O:p≠q)(Y:p≠r)(J:q≠r):xz p q r≠0:=by
 have Q:∀ z:Pt,z.1*z.1+z.2*z.2=n->ow 1 0 0 (-n) z:=λz h=>by
  unfold ow;rw[h]
  lia
 have:=iF bb (Q q G) (Q r N) (Q p hp) (Fv O) (Fv Y) J
 unfold gy at this;unfold xz bo;intro z;exact this om
theorem OB {Q:D->ao->Prop}(hp:fy 1000 p)(Y:fy 1000 q)(h:Q (.int (sd p q)) S):Ok (eh [ax p,ax q] S) Q:=by
 unfold fy at hp Y;rw[jA];refine z9 (ak:=[Ab (ax p),Ab (ax q),none,none]) rfl ?_;rfl';exact h
theorem AI {xs:Aa D}(h:xs≠[]):_L.mj xs (-1)=Ab (xs.getLast h):=by
 have Q:=Sk.mpr h;have e:_L.pq xs.length (-1)=Ab (xs.length-1):=by
  unfold _L.pq;simp
  lia
 unfold _L.mj;rw[e];show xs[xs.length-1]? = _;rw[Vt,Ap li]
theorem VY (xs:Aa D)(n:Ag):wA xs none (Ab (n:Ah))=xs.take n:=by
 unfold wA;have Y:_H.cz xs.length 0 none=0:=rfl;have Q:_H.cz xs.length xs.length (Ab (n:Ah))=min n xs.length:=by
  show (if (n:Ah)<0 then ((n:Ah)+(xs.length:Ah)).toNat else min (n:Ah).toNat xs.length)=_
  rw[Bc li,Fa]
 rw[Y,Q];simp[Nat.min_comm]
theorem RP {Q:D->ao->Prop}{g:Pt->Pt}{l:Aa Pt}(C:l.length<=40)(G:∀ p:Pt,fe [Ab (.int p.1),Ab (.int p.2)] S=.ok (ax (g p)) S)(q:Q (.lst ((l.map g).map ax)) S):Ok (zC false [none,none] (j_ (q9 0)) (kb 2 (zD (bj 0) (zD (bj 1) wH))) zQ (zN fe) [Ab (qS l)] S) Q:=by
 refine jL l (λp=>ax (g p)) (λak Y=>Y=S/\∃ a b,ak=[a,b]) (UV rfl) ⟨rfl,none,none,rfl⟩ (by unfold br;lia) (λ_ _ _=>trivial) (λp O ak Y ⟨J,a,b,N⟩=>?_) λak Y ⟨J,_⟩=>?_
 .subst J N
  exact⟨_,Y,rfl,true,Y,rfl,rfl,_,Y,G p,rfl,rfl,_,_,rfl⟩
 .subst J
  rw[show (l.map λp=>ax (g p))=(l.map g).map ax by rw[Dh];rfl]
  exact q
theorem OI {Q:D->ao->Prop}{M:Ag}{l:Aa Pt}(c:Cl)(Y:M<=40)(h:qf M l)(q:Q (qS (mv sw l)) S):Ok (gt c [qS l] S) Q:=by
 have J:=h.len;rw[pL];refine z9 (ak:=[Ab (qS l)]) rfl ?_;rfl';refine qM (yV c Y h S) ?_;rfl';refine RP (g:=sw) li (λp=>rfl) ?_;rfl';refine ZM (by rw[Ao];lia) ?_
 rfl';exact q
theorem RV {Q:D->ao->Prop}{M:Ag}{l:Aa Pt}(c:Cl)(Y:M<=40)(h:qf M l)(q:Q (qS (mv sx l)) S):Ok (dw c [qS l] S) Q:=by
 have J:=h.len;rw[uQ];refine z9 (ak:=[Ab (qS l)]) rfl ?_;rfl';refine qM (yV c Y h S) ?_;rfl';refine RP (g:=sx) li (λp=>rfl) ?_;rfl';refine ZM (by rw[Ao];lia) ?_
 rfl';exact q
theorem rP (a b:As)(S:ao):ky (.bl a) (.bl b) S=.ok (.bl (a != b)) S:=by cases a <;> cases b <;> rfl
theorem Y2 (a b:Aa Pt)(S:ao):ky (.lst (a.map ax)) (.lst (b.map ax)) S=.ok (.bl (!decide (a=b))) S:=by
 unfold ky;rw[bK,bK,Be (show (true&&true)=true from rfl)]
 show az.ok (D.bl (!zW (a.map ax) (b.map ax))) S=_;rw[pY]
theorem RE (l:Aa Pt)(S:ao):ky (qS l) (qS l) S=.ok (.bl false) S:=by
 have h:pl wM (qS l)=true:=by
  show ((l.map ax).all (pl 29))=true;rw[Iy];exact Bs.mpr λp _=>rfl
 unfold ky;rw[h,Be (show (true&&true)=true from rfl)]
 show az.ok (D.bl (!zW (l.map ax) (l.map ax))) S=_;rw[pY,Cn rfl];rfl
theorem RF (S:ao):ky (.lst []) (.lst []) S=.ok (.bl false) S:=by kernel_rfl!
theorem SN (S:ao):hZ (.bl true) (.bl true) S=.ok (.bl true) S:=by kernel_rfl!
theorem qBX {Q:D->ao->Prop}(c:Cl){p q:Pt}{S:ao}(hp:fy 1000 p)(Y:fy 1000 q)(h:Q (.int (sd p q)) S):Ok (jw c [ax p,ax q] S) Q:=by
 rw[fY];refine z9 (ak:=[Ab (ax p),Ab (ax q)]) rfl ?_;rfl';refine qM (bE c S hp) ?_;rfl';refine qM (bE c S Y) ?_;rfl';exact OB hp Y h
theorem RN {Q:D->ao->Prop}(c:Cl){p n:Ag}{N:Ah}(eN:N=(n:Ah))(O:1<=n/\n<=1000000)(lo:Lo n)(hR:R n<=256){S:ao}(h:u7 S p)(q:∀ G,Kp p S G->Q (.bl true) G):Ok (bp c [.loc p,.int N] S) Q:=by
 subst eN;rw[yS];refine z9 (ak:=[Ab (.loc p),Ab (.int (n:Ah)),none,none,none,none]) rfl ?_;rfl';refine O9 c rfl O.2 hR λps S1 p1 C=>?_;have k:=C.len;have T:=C.box O.2;array_get_dec;array_get_dec;array_get_dec;array_get_dec;refine zO (Q:=λb G=>b=false/\S1<+:G) ?_ ?_
 .refine rS ?_
  rfl';rw[Ao];refine qBZ c ⟨O.1,by lia⟩ lo λs u=>?_
  rw[<- k];rfl';rw[Cn rfl];refine⟨(λz=>by cases z),λ_=>?_⟩
  rfl';refine RO c ⟨O.1,by lia⟩ lo λE w=>?_
  rw[<- k];rfl';refine qM (Y2 ps [] E) ?_;rfl';refine qM (rP _ _ E) ?_;rfl';refine⟨?_,u.trans w⟩;cases ps with
  |nil=>rfl
  |cons a ps=>simp
 rintro _ s ⟨rfl,u⟩;rfl';refine RU ?_;refine jL ps (λz=>ax (wP z)) (λak G=>G=s/\∃ a b,ak=[a,b]) (SR rfl) ⟨rfl,none,none,rfl⟩ (by unfold br;lia) (λ_ _ _=>trivial) (λz J ak G ⟨I,a,b,z2⟩=>?_) λak G ⟨I,_⟩=>?_
 .subst I z2
  rfl';rw[bS,bS];refine qM (N2 _ _ G) ?_;rfl';exact⟨_,_,rfl⟩
 subst I;refine⟨ps.map wP,by rw[Dh];rfl,by rw[Ao];lia,?_⟩
 rfl';refine Y9 c rfl O.2 λW E w h3 hW up zc=>?_;rw[NH C hW up];have eW:W.map wD=(W.map nP).map ax:=by rw[Dh];rfl
 rw[eW] at h3;refine cN (x:=.lst ((W.map nP).map ax)) (y:=.lst ((W.map nP).map ax)) (z:=.bl false) ?_ (t9 h3 λx hx=>?_) ?_ rfl ?_
 .show (mapO (xS 19 E) ((W.map nP).map ax)).map D.lst=_
  rw[fP E 18];rfl
 .obtain⟨y,_,rfl⟩:=Au.mp hx
  rfl
 .rw[Y2,Cn rfl]
  rfl
 generalize (W.map nP).map ax=wd;rfl';refine qM (bV (xs:=ps) (cb:=ax) (SR rfl) trivial (λ_=>false) (λ_=>D.non) (λak=>∃ a,ak=[a,Ab (.int (n:Ah))]) ⟨none,rfl⟩ (by unfold br;lia) λz J ak ⟨a,e⟩=>?_) ?_
 .subst e
  refine⟨_,rfl,⟨_,rfl⟩,?_,λz=>by cases z⟩
  refine w8 (cM ?_);rfl';refine qBX c (q:=(0,0)) (T z J) (by unfold fy;decide) ?_
  have e:=(C.on z.1 z.2).mp J;have:sd z (0,0)=n:=by
   unfold sd;rw[wE,wE];exact e
  rw[this];rfl';rw[Cn rfl];exact⟨(λz=>by cases z),λ_=>⟨rfl,rfl⟩⟩
 rw[show ps.filter (λ_=>false)=[] from Ml.mpr λ_ _ z=>by cases z]
 rfl';refine qM (RF _) ?_;rfl';rw[Ao];have g:=(p1.trans u).trans w;refine wK (λz=>?_) λz=>?_
 .have h0:=AH (n:=n) ⟨O.1,by lia⟩ lo li
  rw[<- k,Ew] at h0;rfl';refine OA (b:=[]) ?_;rw[Cn h0];exact q _ (Kp.pre h g)
 .rfl'
  have e4:wA (ps.map ax) none (Ab 40)=(ps.take 40).map ax:=by
   have:=VY (ps.map ax) 40;rw[<- AcD] at this;exact this
  rw[e4];rfl';rw[Ao];refine wX (oB h g) li λr o k4 h4=>?_;have l:ps.map ax≠[]:=λe=>by rw[Sl] at e;rw[e] at z;exact z bb
  have Y:ps≠[]:=λe=>by rw[e] at z;exact z bb
  have hr:r+1<ps.length-1:=by lia
  rfl';refine nM (d:=ax (ps[r]' li)) (by rw[mI (by rw[Ao];lia),Lf]) ?_
  rfl';rw[show (r:Ah)+1=((r+1:Ag):Ah) by lia]
  refine nM (d:=ax (ps[r+1]' li)) (by rw[mI (by rw[Ao];lia),Lf]) ?_
  rfl';refine nM (d:=ax (ps.getLast Y)) (by rw[AI l,List.getLast_map]) ?_
  rfl';have nd:=wJ C.up;have B:∀ z∈ps,z.1*z.1+z.2*z.2=n:=λz J=>(C.on z.1 z.2).mp J;have H:ps[r]' li∈ps:=Nl _;have A:ps[r+1]' li∈ps:=Nl _;have v:ps.getLast Y∈ps:=List.getLast_mem _;have el:ps.getLast Y=ps[ps.length-1]' li:=Vt ..;have M:∀ i j (t:i<ps.length) (hj:j<ps.length),i<j->ps[i]≠ps[j]:=λi j t hj zb e=>by
   have:=(Qk nd (h₀:=t) (h₁:=hj)).mp e
   lia
  have n1:=M r (r+1) li li li;have f:=M r (ps.length-1) li li li;have n3:=M (r+1) (ps.length-1) li li li;rw[<- el] at f n3;have hb:=L6 (B _ H) (B _ A) (B _ v) n1 f n3;refine M2 c (T _ H) (T _ A) (T _ v) hb ?_;rw[TJ (B _ H) (B _ A) (B _ v) hb];rfl';refine qM (RE [(0,1),(0,1),((n:Ah),1)] o) ?_;rfl';have L:qf 40 (ps.take 40):=⟨λe=>(by rcases List.take_eq_nil_iff.mp e with e|e;cases e;exact Y e),List.length_take_le _ _,C.up.sublist (Aa6 _ _),λz J=>T z (Ri J)⟩
  refine ZK ?_;rfl';refine qM (cU bb L o) ?_
  rfl';refine qM (SN o) ⟨_,rfl,λ_=>?_,λz=>by cases z⟩
  rfl';refine rR c (Ax 40) L λS5 p5=>?_;rw[(rV (wJ L.up)).mpr (.inr (C.cy.sub λz J=>Ri J))];rfl';refine qM (SN S5) ?_;exact q S5 (((Kp.pre h g).trans k4).trans (Kp.pre k4.pen p5))
theorem KC {l:Aa Pt}(Q:Up l)(h:3<l.length):ql l=decide ((zJ (h_ l):Ah)=((ka 4 l).length:Ah)):=by
 rw[Iu,CA Q h,Bq,lM (wJ Q)]
 lia
theorem SO (x:Am P4)(S:ao):zf (_n x) .non S=.ok (.bl (decide (x=none))) S:=by cases x <;> rfl
theorem J3 (c:Cl)(nd:(QN c).Nodup)(J:Aa Ah)(hl:J.length<=63):∃ S,qL 6 (se c) [.lst (J.map D.int)] [] = .ok (.bl true) S:=by
 have I:Ok (qL 6 (se c) [.lst (J.map D.int)] []) λd _=>d=.bl true:=by
  refine z9 (ak:=[Ab (.lst (J.map D.int)),none,none,none,none,none]) rfl ?_;unfold se;array_get_dec;refine qAg (TH J hl 5 rfl λms=>?_);refine yY (λ_ ak _=>∃ w T A E Y,ak=[Ab (.lst (J.map D.int)),w,T,A,E,Y]) ?_ ?_ ⟨_,_,_,_,_,rfl⟩
  .rintro y xs _ S ⟨w,T,A,E,Y,rfl⟩
   rfl';refine OJ λp S0 p0=>?_;rfl';refine qM (d:=.int 1000000) rfl ?_;rfl';refine Y7 bb p0 λn S1 o v lo hR=>?_
   rfl';refine RN c rfl ⟨v.1,by lia⟩ lo hR.2 o.pen λS2 k2=>?_
   rfl';refine wX k2.pen li λr S3 k3 hr=>?_;rfl';refine RN c (n:=1+r) (by push_cast;rfl) ⟨by lia,by lia⟩ (ZC li) (Cw (AG li) bb) k3.pen λS4 k4=>?_
   rfl';refine OG p 9 li k4.pen λl S5 k5 L _=>?_;have ll:=L.len;have G:=L.up;rw[show qS l=.tup (l.map ax) from rfl]
   rfl';refine qM (K9 l li G S5) ?_;have hf:=KC G;generalize ka 4 l=C at *;rfl';rw[Ao];refine zO (Q:=λb u=>b=false) ?_ ?_
   .refine cM ?_
    rfl';rw[Ao];refine⟨λz=>?_,λ_=>rfl⟩;have z:3<l.length:=by have:=Bz z;lia
    rfl';refine rR c li L λS6 p6=>?_;rfl';refine fL c li L λk p7=>?_;rfl';refine qM (rP _ _ k) ?_;rw[hf z,Pv];rfl';rfl
   rintro _ k rfl;rfl';refine M0 c li L λx8 S8 p8 h8=>?_;rfl';refine qM (SO _ S8) ?_;rfl';refine fL c li L λS9 p9=>?_;rfl';refine qM (rP _ _ S9) ?_;have x:decide (x8=none)=decide ((zJ (h_ l):Ah)=0):=by
    rw[Lg,h8]
    lia
   rw[x,Pv];rfl';refine RV c li L ?_;rfl';refine OI c li L ?_;rfl';refine fU (λq ak _=>(∀ d∈q,∃ m,d=qS m/\qf 9 m/\ql m=ql l/\zJ (h_ m)=zJ (h_ l))/\∃ Y,ak=[Ab (.lst (J.map D.int)),Ab (.int y),Ab (.loc p),Ab (.tup (l.map ax)),Ab (.int (C.length:Ah)),Y]) ?_ ?_ ⟨?_,_,rfl⟩
   .rintro d q _ B ⟨O,Y,rfl⟩
    obtain⟨m,rfl,M,m1,a⟩:=O d (.head _);rfl';refine rS ?_;rfl';refine rR c li M λzh zc=>?_;rfl';refine rR c li L λH zl=>?_;rfl';refine qM (rP _ _ H) ?_;rw[m1,Pv];rfl';refine⟨(λz=>by cases z),λ_=>?_⟩
    rfl';refine fL c li M λf s=>?_;rfl';refine fL c li L λt zb=>?_;rw[a];rfl';rw[Cn rfl];rfl';exact y9 ⟨λd h=>O d (.tail _ h),_,rfl⟩
   .rintro _ B ⟨_,Y,rfl⟩
    exact y9 ⟨_,_,_,_,_,rfl⟩
   .have N:∀ {g h:Pt->Pt},nq g h->nq h g->∃ m,qS (mv g l)=qS m/\qf 9 m/\ql m=ql l/\zJ (h_ m)=zJ (h_ l):=λ{g h} i j=>⟨_,rfl,RD i L,O7 i j G,by rw[lM (wJ (gW i G)),lM (wJ G),O6 i j G]⟩
    intro d O;simp only[Az,En,Kc] at O;rcases O with rfl|rfl
    .exact N FC FD
    .exact N WD WD
  .rintro _ S ⟨w,T,A,E,Y,rfl⟩
   rfl';exact rfl
 obtain⟨d,u,e,rfl⟩:=I;exact⟨u,e⟩
end _K
namespace _K
open _L _D
theorem FP {P:Bh}{K:Aj}{base:By}(T:Txt K mg c)(nd:(QN c).Nodup)(hT:(R4.all λy=>(Es K y).isSome)=true):∃ F,rZ P w K mg base true 8 "law" ["_law_script"] F/\∀ ns:Aa Ah,ns.length<=63->∃ S,F [.lst (ns.map D.int)] [] = .ok (.bl true) S:=by
 refine hv (λ_=>?_) (dq (cm:=true) P w base 0 0 T rfl ck pJ ?_);refine hv (λ_=>?_) (dq (cm:=true) P w base 1 1 T rfl ck kO ?_);refine hv (λ_=>?_) (dq (cm:=true) P w base 0 2 T rfl ck kN ?_);refine hv (λ_=>?_) (dq (cm:=true) P w base 2 3 T rfl ck (jC c) ?_);refine hv (λ_=>?_) (dq (cm:=true) P w base 2 4 T rfl ck pH ?_);refine hv (λ_=>?_) (dq (cm:=true) P w base 3 5 T rfl ck fZ ?_);refine hv (λ_=>?_) (dq (cm:=true) P w base 3 6 T rfl ck (jW c) ?_);refine hv (λ_=>?_) (dq (cm:=true) P w base 4 7 T rfl ck (pM c) ?_);refine hv (λ_=>?_) (dq (cm:=true) P w base 0 8 T rfl ck jA ?_);refine hv (λ_=>?_) (dq (cm:=true) P w base 4 9 T rfl ck (fY c) ?_);refine hv (λ_=>?_) (dq (cm:=true) P w base 0 10 T rfl ck jV ?_);refine hv (λ_=>?_) (dq (cm:=true) P w base 3 11 T rfl ck (pO c) ?_);refine hv (λ_=>?_) (dq (cm:=true) P w base 0 12 T rfl ck kR ?_);refine hv (λ_=>?_) (dq (cm:=true) P w base 0 13 T rfl ck v7 ?_);refine hv (λ_=>?_) (dq (cm:=true) P w base 1 14 T rfl ck uC ?_);refine hv (λ_=>?_) (dq (cm:=true) P w base 3 15 T rfl ck (m8 c) ?_);refine hv (λ_=>?_) (dq (cm:=true) P w base 3 16 T rfl ck (kQ c) ?_);refine hv (λ_=>?_) (dq (cm:=true) P w base 4 17 T rfl ck (fX c) ?_);refine hv (λ_=>?_) (dq (cm:=true) P w base 0 18 T rfl ck vD ?_);refine hv (λ_=>?_) (dq (cm:=true) P w base 1 19 T rfl ck pG ?_);refine hv (λ_=>?_) (dq (cm:=true) P w base 4 20 T rfl ck (pN c) ?_);refine hv (λ_=>?_) (dq (cm:=true) P w base 2 21 T rfl ck tL ?_);refine hv (λ_=>?_) (dq (cm:=true) P w base 3 22 T rfl ck uP ?_);refine hv (λ_=>?_) (dq (cm:=true) P w base 0 23 T rfl ck v3 ?_);refine hv (λ_=>?_) (dq (cm:=true) P w base 5 24 T rfl ck (pI c) ?_);refine hv (λ_=>?_) (dq (cm:=true) P w base 5 25 T rfl ck (jD c) ?_);refine hv (λ_=>?_) (dq (cm:=true) P w base 5 26 T rfl ck (jB c) ?_);refine hv (λ_=>?_) (dq (cm:=true) P w base 5 27 T rfl ck (uQ c) ?_);refine hv (λ_=>?_) (dq (cm:=true) P w base 5 28 T rfl ck (pL c) ?_);refine hv (λ_=>?_) (dq (cm:=true) P w base 0 29 T rfl ck kK ?_);refine hv (λ_=>?_) (dq (cm:=true) P w base 0 30 T rfl ck pF ?_);refine hv (λ_=>?_) (dq (cm:=true) P w base 0 31 T rfl ck kL ?_);refine hv (λ_=>?_) (dq (cm:=true) P w base 0 32 T rfl ck j8 ?_);refine hv (λ_=>?_) (dq (cm:=true) P w base 1 33 T rfl ck kM ?_);refine hv (λ_=>?_) (dq (cm:=true) P w base 2 34 T rfl ck pE ?_);refine hv (λ_=>?_) (dq (cm:=true) P w base 0 35 T rfl ck j9 ?_);refine hv (λ_=>?_) (dq (cm:=true) P w base 6 36 T rfl ck (yS c) ?_);refine⟨_,dqP 7 37 T rfl ck ?_,J3 c nd⟩
 all_goals
  intros
  repeat' first
   |with_reducible exact ck
   |((with_reducible show QE _ _ _);with_reducible first|apply aV|apply HC|apply OZ|apply HF|apply aBt|apply aGi|apply aO|apply aN|apply MZ|apply HI|apply K0|apply MW|(apply aB;first|apply qAt|apply qAs|apply qAm|apply KW|apply NM|apply qAk)|(apply aT;first|apply NN|apply AD|apply qAq)|apply aC|apply HJ|apply HE|apply MY|apply HD|apply qAB|apply JZ|apply qAC|apply HA|apply JX|apply HG|apply qAE|apply HH|apply H9|apply qAD|apply qAA|apply HB|apply i4|apply YL|(apply rT;(case slot=>apply Mq);(case' hm=>first|apply PX))|(apply nU;(case slot=>apply Mq);(case' hm=>first|apply PX))|(apply rT;(case slot=>apply Sv);(case' hm=>first|apply VA))|(apply nU;(case slot=>apply Sv);(case' hm=>first|apply VA))|(apply rT;(case slot=>apply Uw);(case' hm=>first|apply aS))|(apply nU;(case slot=>apply Uw);(case' hm=>first|apply aS))|(apply rT;(case slot=>apply Xn);(case' hm=>first|apply oZ))|(apply nU;(case slot=>apply Xn);(case' hm=>first|apply oZ)))
   |((with_reducible show _=_);first|exact T.nb ck|with_reducible apply IN|with_reducible apply Wt|with_reducible apply Vu|with_reducible apply Xo|with_reducible apply Sw|with_reducible apply Ux|with_reducible apply Xp|exact bG _|exact rfl|with_unfolding_all rfl)
   |((with_reducible show jj _ _ _);with_reducible first|apply qAl|apply A7|apply qA2|apply qAw|apply qAn|apply A8|apply qAv|apply qAz|apply qA1|apply qB0|apply _Z|apply qBw|apply qBv|apply qAo|apply qAx|apply qBu|apply qB1|apply qAr|apply qBx|apply NL|apply qAu|apply qAp)
   |((with_reducible show be _ _ _);first|assumption|exact be.mono (by assumption)|exact be.mono (be.any (by assumption))|exact be.mark (by assumption) _|exact be.mono (be.mark (by assumption) _))
   |((with_reducible show yd _ _ _ _);exact⟨rfl,rfl⟩)
   |((with_reducible show zw _ _ _ _ _ _ _ _ _ _);assumption)
   |with_reducible first|apply H8|apply YJ|apply oF|apply MU|apply H0|apply T6|apply T7|apply C6|apply C5|apply K7|(apply qAH;first|apply oG|apply YN|apply YM|apply PN)|apply C7|apply oG|apply YN|apply YM|apply PN|apply aNm|apply HM|apply HL|apply K1|apply T3|apply HQ|apply K2|apply HR|apply HP|apply HN|apply TC|apply K8|apply K3|apply T4|apply qAF|apply HY|apply qAG|apply T9|apply TB|apply HW|apply K6|apply HV|apply aAu|apply aP2|apply qAy|apply qBy|apply A9|apply AB|apply AA|apply AC|apply qA0|apply IL|apply IN|apply Wt|apply Vu|apply Xo|apply Sw|apply Ux|apply Xp
   |((with_reducible apply aCs);case hsw=>exact rfl)
   |((with_reducible apply aSt);case hs=>exact rfl)
   |with_reducible apply HS
   |exact T.gi (by kernel_rfl)
   |((with_reducible show yr _ _ _ _);first|assumption|exact yr.tr (by assumption))
   |((with_reducible show LmX _ _ _ _ _ _ _ _ _ _);assumption)
   |((with_reducible show DfL _ _ _ _ _ _ _ _ _ _ _ _ _);assumption)
   |((with_reducible show LmK _ _);refine lmK hT (by assumption) ?_ rfl)
   |((with_reducible show ZF _ _ _ _);first|apply aFn|apply aFn0)
   |exact λ_=>⟨rfl,rfl,rfl⟩
   |(intro h;cases h;done)
   |((with_reducible show oj _);first|assumption|exact NQ)
   |exact⟨rfl,rfl⟩
   |exact⟨rfl,rfl,rfl⟩
   |apply YJ
   |apply oF
   |decide
   |(intros;rfl)
   |(intro _ h;cases h <;> rfl)
   |intro _
end _K
namespace _K
open _L _D
variable {K:Aj}
theorem bdf:z_ top tab:=by
 repeat (refine⟨?_,?_⟩;(intro _ _ _ _ _ _ Q h;first|(obtain⟨_,rfl⟩:=_h h;rfl)|(obtain⟨_,_,rfl⟩:=_g h;rfl)|(obtain⟨_,_,_,rfl⟩:=_P h;rfl)))
 exact trivial
theorem AL (q0:Ga K Dr "FarError" = Ab (Ab (.ref Q)))(q1:Ga K Dr "NoPoint" = Ab (Ab (.ref U)))(q2:Ga K Dr "NoLot" = Ab (Ab (.ref G)))(q3:Ga K Dr "NoNumber" = Ab (Ab (.ref J)))(q4:Ga K Dr "NoCircle" = Ab (Ab (.ref Y))):Q2 K (qr ⟨Q,U,G,J,Y⟩):=⟨q0,q1,q2,q3,q4,trivial⟩
theorem AO (Y:Ga K Dr "LEAST_NUMBER" = Ab (Ab (.int (-1000) G)))(U:Ga K Dr "MOST_NUMBER" = Ab (Ab (.int (1000) Q)))(g2:Ga K Dr "MOST_POINTS" = Ab (Ab (.int (40) J))):Q3 K tj:=⟨⟨_,Y⟩,⟨_,U⟩,⟨_,g2⟩,trivial⟩
theorem R5 {P:Bh}{w:Ce}(T:Txt K mg c)(nd:(QN c).Nodup)(hT:(R4.all λy=>(Es K y).isSome)=true)(hfa:mg "law" = Ab (.ref fa)) :
  ∃ fd:Fw,(∀ (s:Ai) (v:Ac),Ql s fd ⟨[v],[]⟩ [("_law_script",v)])/\∀ base:By,K.In base->base.Ns Dr mg->ot P w K mg base (ox P w) 8 fa fd ["_law_script"] (rW K):=
 FQ (T.src 37 rfl) hfa (λkV doc pm an cdv ct s v=>.of_eq rfl) λbase=>FP T nd hT
end _K
namespace PySem.W.Fast
theorem tw7323074910798913306:True:=⟨⟩
theorem tw17640020250217601264:True:=⟨⟩
theorem tw10249036355770672416:True:=⟨⟩
theorem tw4322193396573447933:True:=⟨⟩
theorem tw5521356837547951563:True:=⟨⟩
theorem tw18117451870251781738:True:=⟨⟩
theorem tw14023309074162920321:True:=⟨⟩
theorem tw2176293215154231861:True:=⟨⟩
theorem tw4788688613267097091:True:=⟨⟩
theorem tw10440569061404196971:True:=⟨⟩
theorem tw6879904393056093991:True:=⟨⟩
theorem tw5121248781716844744:True:=⟨⟩
theorem tw5111440794442858935:True:=⟨⟩
theorem tw661840712775777291:True:=⟨⟩
theorem tw11899796883055850732:True:=⟨⟩
theorem tw2936759005872988588:True:=⟨⟩
theorem tw457536316433506515:True:=⟨⟩
theorem tw11050022952486558443:True:=⟨⟩
theorem tw800231631353382983:True:=⟨⟩
theorem tw3560181379555153445:True:=⟨⟩
theorem tw14195500225996464880:True:=⟨⟩
theorem tw17467901567946953364:True:=⟨⟩
theorem tw14049063277767894323:True:=⟨⟩
theorem tw3989317050132328239:True:=⟨⟩
theorem tw320390097547374397:True:=⟨⟩
theorem tw13559405139988732226:True:=⟨⟩
theorem tw15149298423543031821:True:=⟨⟩
theorem tw2129455010912788011:True:=⟨⟩
theorem tw13156172781880305996:True:=⟨⟩
theorem tw632073179119785213:True:=⟨⟩
theorem tw15118907840717957568:True:=⟨⟩
theorem tw14647664635702840450:True:=⟨⟩
theorem tw17496964556509369785:True:=⟨⟩
theorem tw8780431120048896765:True:=⟨⟩
theorem tw17348106743900910267:True:=⟨⟩
theorem tw4313851507424875382:True:=⟨⟩
theorem tw6605845696431137541:True:=⟨⟩
theorem tw5954984184400469044:True:=⟨⟩
theorem tw10218032700211866725:True:=⟨⟩
theorem tw5775621356588259157:True:=⟨⟩
theorem tw14122831682582433371:True:=⟨⟩
theorem tw124948304119303048:True:=⟨⟩
theorem tw11307233193594500454:True:=⟨⟩
theorem tw4189086072599370610:True:=⟨⟩
theorem tw8713858680706372075:True:=⟨⟩
theorem tw6899085237887721434:True:=⟨⟩
theorem tw11379643663930844229:True:=⟨⟩
theorem tw10218785151103561771:True:=⟨⟩
theorem tw17463831939704824159:True:=⟨⟩
theorem tw11597696277056776764:True:=⟨⟩
theorem tw13531908960130812036:True:=⟨⟩
theorem tw12737746350064553939:True:=⟨⟩
theorem tw6056854020545085201:True:=⟨⟩
theorem tw11569738111408468051:True:=⟨⟩
theorem tw17173043042783866717:True:=⟨⟩
theorem tw1689419224526181168:True:=⟨⟩
theorem tw10557061421525519445:True:=⟨⟩
theorem tw6221358044474271374:True:=⟨⟩
theorem tw13363394874926488868:True:=⟨⟩
theorem tw7302777226748622833:True:=⟨⟩
theorem tw2226751206712189909:True:=⟨⟩
theorem tw2737418723472780166:True:=⟨⟩
theorem tw7453636962210121402:True:=⟨⟩
theorem tw6441571947256689272:True:=⟨⟩
theorem tw6233274643625913470:True:=⟨⟩
theorem tw2914741259043465924:True:=⟨⟩
theorem tw11407547801627992458:True:=⟨⟩
theorem tw11647837465815575335:True:=⟨⟩
theorem tw6055392190672616008:True:=⟨⟩
theorem tw12753528941942035910:True:=⟨⟩
theorem tw1784906554598517672:True:=⟨⟩
theorem tw14700895201669682420:True:=⟨⟩
theorem tw2649784997341974141:True:=⟨⟩
theorem tw12645258599486482711:True:=⟨⟩
theorem tw4260274873030635731:True:=⟨⟩
theorem tw17225285047120388:True:=⟨⟩
theorem tw3381122582350493197:True:=⟨⟩
theorem tw7658240471628675035:True:=⟨⟩
theorem tw8105872781109052894:True:=⟨⟩
theorem tw16047655675572930128:True:=⟨⟩
end PySem.W.Fast
open PySem.W
set_option maxRecDepth 100000 in
set_option maxHeartbeats 0 in
theorem PySem.Challenge.cw_fewdistances_k64_whole_circles_holds : PySem.Challenge.rw_fewdistances_k64_whole_circles.Holds := by
 w_on;o_law;k_head;(case hw=>w_witness2)
 k_fill
 refine _D.qAj (l:=Um) (k:=8) (x:="_law_script") rfl rfl ⟨rfl,by decide,by decide,rfl⟩ (λ_=>by kernel_rfl) (λw h Y=>Y) ?F
 case F =>
  intro w mg fa h KX G hmg
  refine' _K.R5 (_D.qAb _K.bdf ?hp rfl KX G ?s ?z (_K.AL ?q0 ?q1 ?q2 ?q3 ?q4) (_K.AO ?gi0 ?gi1 ?gi2) ?e1 ?e2 ?e3 ?e4 ?e5 ?e6) ?nd ?hT hmg
  (case s=>(repeat (refine' ⟨_D.wu.mk ?a ?l ?c ?k,?_⟩;(case a=>k_is);(case l=>k_is);(case c=>k_is);(case k=>k_is)));exact trivial)
  (case z=>rfl)
  (case q0=>k_is)
  (case q1=>k_is)
  (case q2=>k_is)
  (case q3=>k_is)
  (case q4=>k_is)
  (case gi0=>k_is)
  (case gi1=>k_is)
  (case gi2=>k_is)
  (case hp=>intro y hy;revert hy;simp;grind)
  (case e1=>rfl)
  (case e2=>rfl)
  (case e3=>rfl)
  (case e4=>rfl)
  (case e5=>rfl)
  (case e6=>rfl)
  (case nd=>decide)
  (case hT=>rfl)
