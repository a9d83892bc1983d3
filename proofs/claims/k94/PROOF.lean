import PyProof.Rows.All
import Wide.All
import OpenK.AllK
import Wide.FinOn
import Lean
import PyProof.EqAt
import PyProof.EqKinds
import PyProof.TupleCall
import KE.KLam
import KE.KTryMore
import KE.KIsAll
import PyProof.NeKinds
import PyProof.Rows.CountFlat
import PyProof.Rows.FStr
import PyProof.ZipIter
import PyProof.EnumMake
import PyProof.EnumStmt
import KE.KDictLaws
import PyProof.DictWalks
import PyProof.Rows.SetFrom
import PyProof.SumWalkG
import PyProof.Rows.SumGenD
import PyProof.SeqI2
import KE.KItemsList
import PyProof.SetKind
import PyProof.TupleKey
import KE.KSortTup
import PyProof.ReprRoads
import PyProof.ReprBulk
import PyProof.TupleOfSeq
import PyProof.WalkInts
import PyProof.SeqI3
import PyProof.Rows.RuleDivmod
import PyProof.ListRange
import KE.KPairComp
import KE.KMinKey
import PyProof.Rows.CallKwBuiltin
import KE.KDictList
import PyProof.DictTruth
import PyProof.DictRoadsH
import PyProof.Rows.Range3
import PySem.Challenge.RW_fewdistances_k94_whole_bars
set_option Elab.async false
set_option linter.all false
set_option maxRecDepth 100000
set_option maxHeartbeats 0
set_option tactic.hygienic false
set_option bootstrap.genMatcherCode false
set_option genSizeOf false
set_option compiler.extract_closed false
open Array renaming length_toList->Bq,getElem?_toList->Br,toList_append->Dt,getElem?_eq_some_iff->Dz,getElem?_eq_getElem->Ed,toList_push->Ej,getD_eq_getD_getElem?->Fi,getD->Gw,toList_extract->Ko,size_extract->Li,toList_reverse->Mz,forIn_toList->Ou,mem_toList_iff->Rg,perm_iff_toList_perm->Tl,getElem?_eq_none->Wy,size_map->Yb,append_assoc->Zr,toList_inj->AaS,toList->AbS
open Bool renaming and_eq_true->AT,false_eq_true->Bp,false_ne_true->Fx,not_true->Jh,noConfusion->Jk,false_and->Jp,or_eq_true->Kc,and_false->So,not_false->Sr,not_eq_true'->Uh,false_or->Za,true_or->v4,eq_iff_iff->Ab4,true_and->AbO
open Classical renaming byContradiction->Fa,choose_spec->Qp,choose->Vg
open False renaming elim->Au
open ForInStep renaming yield->Lr
open Int renaming eq_of_mul_eq_mul_left->Cg,natCast_mul->Dm,mul_nonneg->Es,le_trans->Ey,toNat_natCast->Gh,le_of_lt->Go,emod_lt_of_pos->Hi,mul_eq_zero->Hx,emod_nonneg->Ip,mul_le_mul_of_nonneg_left->Iq,le_refl->Ja,eq_ofNat_of_zero_le->Jb,natCast_dvd_natCast->Jc,le_of_mul_le_mul_left->Km,ediv_nonneg->Lz,mul_le_mul->Mw,natAbs_mul_self'->Na,fdiv_eq_ediv_of_nonneg->Nc,not_lt->Nt,toNat_of_nonneg->Ny,natAbs_dvd_natAbs->Ra,emod_add_mul_ediv->Rc,lt_or_le->Sb,lt_of_lt_of_le->Te,fmod_eq_emod_of_nonneg->Tg,ofNat_sub->Us,mul_comm->Wc,mul_emod->Wd,sub_self->Wf,ofNat_le->Wg,neg_mul_neg->Xa,natCast_nonneg->sB,ediv_le_self->AaT,one_mul->AaU,neg_mul->AaW,emod_two_eq->Ab5,natAbs_dvd->AbI
open List renaming getElem?_eq_getElem->An,length_map->Ao,mem_cons_of_mem->Ap,mem_cons->Av,getElem?_eq_some_iff->Az,mem_cons_self->Bc,prefix_refl->Be,getElem?_append_left->Bk,mem_map->Bl,size_toArray->Bn,all_eq_true->Bt,length_cons->By,mem_append->Cc,range->Cd,mem_append_right->Ce,mem_of_getElem?->Cf,getElem?_set_ne->Cj,mem_iff_getElem->Cq,getElem?_append_right->Ct,length_append->Cu,append_assoc->Cy,mem_range->Dc,map_cons->De,mem_filter->Dh,nodup_cons->Dj,mem_singleton->Dn,pairwise_cons->Do,getElem?_map->Dp,not_mem_nil->Ds,mem_append_left->Du,replicate->Dx,getElem?_set_self->Dy,pairwise_append->DL,map_map->Ea,pairwise_map->Ei,prefix_append->Ek,length_take->Fl,drop_eq_getElem_cons->Fz,map_append->Ga,length_pos_iff->Gf,append_nil->Gm,length_nil->Hs,replicate_succ->Ht,take_of_length_le->Hw,extract_eq_take_drop->Ie,all_map->Ix,length_eq_zero_iff->Iy,filterMap_cons->Jg,map_congr_left->Jj,any_eq_true->Jo,mem_filterMap->Jq,getD_eq_getElem?_getD->Jv,find?_cons->Kb,nil_append->Ke,flatten_cons->Kh,nodup_append->Ki,pairwise_iff_getElem->Kk,length_range->Kl,filter_cons->Kx,lookup_cons->Ky,getD->Lb,set_cons_zero->Lj,foldl_cons->Lo,any_cons->Lp,drop_eq_nil_of_le->Lq,length_pos_of_mem->Lv,length_singleton->Mc,mem_iff_getElem?->Me,perm_append_comm->Ml,flatMap_cons->Mp,mem_of_mem_erase->Mq,nodup_nil->Mt,length_drop->Nd,perm_ext_iff_of_nodup->Nh,mem_flatMap->Nj,reverse_append->Nu,mem_map_of_mem->Nw,of_mem_zip->Oa,forIn_cons->Od,map_id->Ol,getElem?_take_of_lt->Om,length_erase_of_mem->Op,prefix_iff_getElem?->Oq,mergeSort_nil->Ox,filter_append->Oy,set_cons_succ->Pb,getElem?_replicate->Pc,getElem?_cons_succ->Pi,forIn_nil->Po,range_succ_eq_map->Qc,drop_of_length_le->Qe,filter_eq_nil_iff->Qf,length->Qk,all_cons->Qo,nodup_range->Qs,countP_mono_left->Qu,take_append_drop->Qv,length_filter_le->Qw,length_set->Rp,eq_nil_of_length_eq_zero->Ru,length_zip->Rx,countP_eq_length_filter->Si,zip_cons_cons->Ta,getElem?_zip_eq_some->TW,getElem_take->Ud,getElem_drop->Ue,mem_of_find?_eq_some->Ul,map_drop->Um,getElem_inj->Vb,getElem_mem->Vf,zipIdx_cons->Vh,Nodup->Vi,ext_getElem->Vk,map_fst_zip->Vl,cons_append->Vm,getElem_map->Vp,pairwise_singleton->Vz,filter_cons_of_neg->We,find?_cons_of_neg->Ws,pairwise_lt_range->Wv,length_replicate->Xg,singleton_append->Xo,pairwise_and_iff->Xr,mem_erase_of_ne->Yg,length_eraseIdx->Yh,mem_of_mem_drop->Yi,reverse_reverse->Yk,mem_of_mem_take->Yl,perm_cons_erase->Ym,range_eq_range'->Yn,count_le_length->Yo,lookup_append->Zz,getElem?_drop->dL,find?_eq_none->f8,map_nil->t0,ext_getElem?->AaB,foldl_append->AaC,countP_cons->AaR,range'_succ->AaV,zipIdx_nil->Ab0,find?_some->Ab3,range_succ->Ab6,count_cons->Ab7,foldl->Ab8,take_zero->AbF,map_take->AbQ
open List.Pairwise renaming filter->Hn,nil->Ps,imp_of_mem->Uw
open List.Perm renaming append_left->Ic,append_right->Lx,refl->Mu,trans->Rw,swap->AbE
open Nat renaming le_refl->Aw,lt_of_lt_of_le->Bh,ne_of_lt->Ch,le_trans->Ci,le_of_lt->Ef,lt_irrefl->Eg,lt_or_ge->Ep,mul_le_mul->Ez,exists_eq_add_of_le->Fu,add_sub_cancel_left->Gn,le_of_dvd->Gx,ne_of_gt->Gy,zero_add->Hc,mul_comm->Hd,le_add_right->Hm,zero_le->Ho,pow_succ->Hz,lt_succ_self->Ib,lt_of_le_of_ne->Im,lt_trans->Iw,add_le_add_left->Ji,eq_zero_of_not_pos->Ly,le_mul_of_pos_left->Ma,le_of_lt_succ->Mi,lt_trichotomy->Mk,add_lt_of_lt_sub'->Mm,one_pos->Mn,mul_le_mul_right->Nb,add_assoc->Nq,sub_lt->Nv,mul_le_mul_left->Nz,lt_of_le_of_lt->Ot,add_sub_cancel->Ov,pos_of_ne_zero->Ow,eq_zero_or_pos->Pa,dvd_mul_left_of_dvd->Pk,lt_succ_of_lt->Pv,not_lt->Qb,le_of_not_lt->Ql,pos_of_dvd_of_pos->Qy,mul_one->Qz,le_of_ble_eq_true->Rb,add_le_add_right->Rj,pow_le_pow_right->Rk,min_eq_left->Ry,succ_pos->Sa,mod_lt->Sg,add_right_comm->Td,le_succ->Tk,mul_add->Tn,one_mul->To,mul_lt_mul_of_lt_of_le->Tp,lt_of_succ_lt->Ui,sub_pos_of_lt->Uj,mul_assoc->Uo,mul_left_comm->Uq,dvd_trans->Ur,min_eq_right->Vn,add_comm->Vt,pow_zero->Wa,mul_div_cancel_left->Wb,le_antisymm->Wz,le_add_left->WP,strongRecOn->Xb,dvd_of_mod_eq_zero->Xc,add_le_of_le_sub'->Xp,le_of_sub_eq_zero->Xq,ble_eq_true_of_le->Xs,eq_of_beq_eq_true->Xt,add_le_add->Yd,lt_sub_of_add_lt->Yj,add_sub_cancel'->Zl,succ_mul->u8,min_self->wE,le_of_eq->xL,sub_self->x0,succ_le_succ->AaI
open Ne renaming symm->Gd
open Option renaming some->Ab,map_eq_some_iff->Dl,bind_eq_some_iff->Ex,isSome_iff_exists->Kq,getD_some->Qm,bind_some->Qx,isSome_map->Tz,map_some->Ww,isSome_some->Zy,getD_none->AaH,none->AbX
open Option.some renaming inj->Dd
open Or renaming inr->Zp,inl->AaK
open Prod renaming ext->Fc,fst->AbU,snd->AbV
open Prod.mk renaming inj->Jd
open PyProof renaming noPylong_small->Lm
open PyProof.Rows renaming wpS_bind->Bf,Keyed->Bm,wpS_pure->Bu,step_dedup->Ca,seqObj->Eu,callWith_type1->Fh,slot_tuple_getitem->Fo,SortSt->Fp,wpS_forRange->Ft,envOfC->Gs,wpS_mono->Hv,wpS_modify->Jz,IntsAre->Ku,SortKind->Of,get?_update_seq->Og,wpS_get->Pj,AllBare->Qg,callWith_builtin1->Re,assignInOrder_cons->Sz,wpS_lift->Tq,subscriptTail->Tx,IsTup->Vs,subscriptTail_builtinR->Wp,gallopOf->WF,lt_int->Yw,entry_tuple_getitem->Yy,args_tuple_getitem->Zw
open PyProof.Rows.F renaming plain_set_update_loop->Jn,entry_set_update_loop->Oe
open PyProof.Rows.IntsAre renaming int_at->Sw
open PyProof.Rows.IsTup renaming new->Aa1
open PyProof.Rows.SortSt renaming mk'->Dg
open PySem renaming Value->Ac,wpAny_bind->Ad,Addr->Af,Shared->Ai,wpAny_pure->Am,wpAny->Aq,Str->As,model->Ax,Program->Bj,starEach->Bo,Heap->Bv,Around->Bw,Expr->Bx,World->Bz,Obj->Cp,intKind->Cz,mainGlobals->Df,compareOp->Di,Comprehension->Eb,wpAny_call_entry->Eh,wpAny_callSpecial?_slot->El,Scope->Em,binaryOp->En,wpAny_field->Eo,wpAny_newObj_type->Er,cLine->EQ,Pos->Fb,wpAny_setField_rec->Fe,mem_of_lookup->Fm,wpAny_holding->Fn,FuncData->Fv,SetTable->Fw,sizeLine_eq->Fy,bootBuiltins->Gb,Stmt->Ge,foldedSetIterable->Gg,wpAny_pyIter_list->Gj,wpAny_setState_of->Gk,wpAny_pyIter_tuple->Gp,rawInt->Gq,backTo->Gr,wpAny_rule->Gu,wpAny_seqItems->Hb,wpAny_mono->Hk,assignEach->Hl,ofAClassStatement->Hr,cellsFrom->HT,NameKind->Ig,wpAny_Call_Name_kw->Ih,Env->Jf,codeAny->Jr,IsPair->Jt,sysModules->Jw,wpAny_passesOwn->Ka,attributeBase->Kj,Sem->Kt,Builtin->Kv,wpAny_forIn_list->Kw,wpAny_askSetting->La,letOwnedTupleGo->Ll,wpAny_attempt->Lu,codeAny_builtin->Lw,wpAny_typeOf->Mx,swappedStores->Nl,swapsWithSole->Nm,behindInMarks->Nn,TriplesOk->Np,sliceBounds->Ob,wpAny_specialOf->Oc,tupleKind_room_in1->Os,getItem->Pe,codeAny_mono->Pg,wpAny_Call_method0_late->Ph,pyNext->Pl,wpAny_setField->Pp,Model->Pq,swapsWith->Pu,wpAny_storeSet_of->Px,Operator->Py,wpAny_standAt->Qh,pyIter->Qi,BindsTo->Qj,wpAny_isInstance->Qr,hashByValue->Qt,wpAny_updateSeq_pair->Ri,wpAny_execs_nil->Rm,Arguments->Ro,codeAmong->Rq,pickOrder->Rv,call_meetsIn->Rz,builtinsNs->Sd,evalArgs_none->Se,IsTupleKey->Sh,recursionLimit->Sk,firstArgMember->Sm,IsZip->Sn,wpAny_newFunctionEnv_cells->Th,IsPart->Ti,tupleKind->Tt,PassesOwn->Tv,callerA->T0,standAt->TD,wpAny_onRaise->Ua,setSearchFrom->Uf,plainId_quiet->Ug,wpAny_comprehension_free->Ut,noFill_tuple_add->Vc,call_meets->Vd,closureFor->Ve,Tok->Vr,tupleKeyHash->Vx,wpAny_pyNext_range_end->Wl,wpAny_pyIter_rangeiter->Wm,bindArgs->Wn,valueAt->Wq,codeAny_of_tree->Wt,wpAny_ite_split->Wx,IsRangeIter->Xf,codeAny_call_function->Xh,wpAny_letGo->Xi,IsEnum->Xk,builtinLookup_eq_fast->Xm,wpAny_newTuple->Xz,isSubtype_stop->XV,newFunctionEnv->Ya,isSubtype_type->Yc,wpAny_loadName_local->Ye,wpAny_loadName_cell->Yq,assignInOrder->Yr,CmpOp->Ys,bindL->Yu,bindC->Yv,seq_tuple_add->Yx,atKey->Zb,reduceHash->Zc,PlainAttrs->Ze,intKind_is->Zh,wpAny_setEntries_of->Zk,wpAny_newList->Zm,setState->Zq,wpAny_pyIter_range->Zt,concat_meets->sK,seqIndex?->Aa4,list_append->Aa5,lastMarks->Aa6,pushCells->Aa8,unaryOp->AaE,seqIndex_of->AaG,wpAny_of_eq->AaM,argsOk->AaP,setAdd->AaQ,GenState->AaX,bindName->AaY,compTurn->Ab1,call->Ab9,Within->AbR,isTrue->AbT
open PySem.Around renaming under_plainId->Kn,frames_deeper->Rh
open PySem.AutoSeq1 renaming wpAny_loadPart'->Hg
open PySem.Builtin.Frozenset renaming sizeOf->Ux,updateFrom->AbC,newClass->AbJ
open PySem.Builtin.Int renaming intBits->Kz
open PySem.Builtin.List renaming listTooLong->Oo,listLengthHint->Ss,listExtendWith->Su,listSameRef->Uy
open PySem.Builtin.Range renaming rangeSize->Ir,small->Zo
open PySem.Builtin.Slice renaming slicePlaces->Kg,sliceAdjust->No,sliceApplied->Tj
open PySem.Builtin.SmallTypes renaming nextOf->Ec,ownedTupleIsFree->Ev,ownedTupleHandOut->He
open PySem.Builtin.Tuple renaming tupleHashOf->Ia,tupleExact->Kr,tupleItemsOf->Ng
open PySem.Calls renaming spliced_cons->Lh,callWith_builtin->Ls,spliced_nil->Pr,Name_function_global->Tf,call_function_entry->Uk
open PySem.Challenge renaming pw_fewdistances_k94_whole_bars->Vo,rw_fewdistances_k94_whole_bars->Vq
open PySem.Code renaming compLoop->AbM
open PySem.F renaming called_set->Hj,slot_tuple_iterator_next->Js,plainAttrs_dict->Lc,slot_dict_items->Ld,slot_tuple_hash->Lg,slot_dict_setdefault->Mb,slot_dict_get->Md,slot_enumerate_next->Mf,args_tuple_add_2->On,entry_tuple_add->Pd,slot_tuple_add->Pz,slot_zip_next->Rr,args_tuple_iterator_next_1->Sf,type_dict_setdefault->Sj,entry_tuple_iterator_next->Sl,slot_int_bit_length->Sx,type_int_bit_length->Sy,args_dict_items_1->Uc,entry_dict_items->Uu,slot_list_append->Uz,type_list_append->Va,args_dict_get_3->Vu,args_enumerate_next_1->Vv,type_dict_items->Vw,plain_list_iadd->Vy,plainAttrs_list->Wh,entry_dict_get->Wr,entry_enumerate_next->Wu,plainAttrs_int->Xd,plain_set_new->Xl,slot_set_iter->Xn,slot_list_pop->Xu,type_dict_get->Xv,type_list_pop->Xw,args_list_append_2->Yf,entry_list_append->Yz,slot_list_append->Zx,args_zip_next_1->Aa7,entry_zip_next->AaO
open PySem.Heap renaming get?_push_of_some->Aj,lt_size->Ba,get?_push_size->Bb,get?_update_other->Dk,size_push->Ee,SameBut->Ew,get?_update_self->Gi,get?_none_of_le->Rf,FlyingW->v6,IsTuple->wP,IsList->AaN,MadeExcOf->AbD
open PySem.Heap.IsSliceOf renaming new->AbY
open PySem.Heap.SameBut renaming update->Hu,refl->Ub
open PySem.IsL renaming update->AaJ
open PySem.IsRange renaming new->AbW
open PySem.NameKind renaming free->Gv,cell->Qn
open PySem.Obj renaming mapSeq->Fd,mapFields->Zj,data_mapFields->ZB,putSet->AbB
open PySem.SeqAt.EqAt renaming same->AbL
open PySem.SetTable renaming insertAt->Cb,below->Cn,sizeAbove->Ff,grown->Hq,runEnd->Hy,insertAt_perm->Jl,fill->Nr,Probe->Pw,toList_insertAt->Uv,tooFull->Vj,laid->Zf,fits->Zg,has->wS,layClean->AaA,slot->AbN
open PySem.SetTable.below renaming go->Aa9
open PySem.SetTable.layClean renaming free->Jm
open PySem.SetTable.probe renaming go->Mj
open PySem.Shared renaming heap->Qq,TypeIs->Zi
open PySem.Str renaming ofString->Iu
open PySem.Value renaming ref->Cw,none->Dr,type->Je,bool->Nk,int->Ts,str->Aa0,isInt->AaD,isStrOf->AbK
open PySem.W renaming Frag->Ak,tabIn->Dw,kia_one->Fg,nsIn->Fq,fnOf->Gz,keepIn->Ha,cellsFrom_some->Ln,kitOne->Mr,codeIn->Ms,tabObj->Mv,envX->My,kla_obj->Oh,findIn->Pm,hideAll->Rl,callWith_K->Tc,methodObj->Tu,kitx_list->Tw,instObj->Wj,CodeHd->Xx,lookIn->Xy,hideAll_get->Yp,mroIn->Yt,mg_of->Zn,of_hideAll->Zs,kitx_tuple->Zu,codeRec_of->Zv,specialIn->Aa2,kitx_dict->Aa3,plainGet->AaF,takesIn->AaZ,OpenLaw->Ab2,exmOne->AbG,kla_fn->AbH,WalkO->AbP
open PySem.Walks renaming tuple->AaL,list->AbA
open PySem.pickOrder renaming go->wT
open Sum renaming inl->Fj,inr->Wi
open Sum.inl renaming inj->Xe
open True renaming intro->Jx
open _root_ renaming List->Aa,Nat->Ag,Int->Ah,Option->Al,Bool->Ar,Array->Ay,if_pos->Bd,if_neg->Bg,decide_eq_true_eq->Bi,of_decide_eq_true->Bs,decide_eq_true->Co,decide_eq_false->Cs,if_true->Dq,if_false->Dv,String->Et,False->Fk,beq_self_eq_true->Gc,or_false->Ik,of_decide_eq_false->Il,Decidable->Io,decide_eq_false_iff_not->IN,decide_true->Ju,decide_false->Jy,beq_eq_false_iff_ne->Ks,StateT->Ni,DecidableEq->NE,True->Sc,Unit->Wk,not_or->Xj,beq_iff_eq->Zd
open PySem PySem.Spec PyProof.Rows
local macro_rules|`(tactic|fin2)=>`(tactic|omega)
abbrev aa:=Aa (Af × Cp)
abbrev ab:=Ac->Ai->Prop
abbrev ae:=Aa Af
abbrev ag:=As->Al Ac
abbrev ah:=Aa Ac
noncomputable section
theorem om {p:Prop}(h:p:=by fin2):p:=h
theorem cz {p:Prop}[Decidable p](h:p:=by decide):p:=h
theorem ca {p:Prop}(h:p:=by lia):p:=h
theorem cy {p:Prop}(h:p:=by simp):p:=h
theorem li {p:Prop}(h:p:=by lia):p:=h
theorem kd {p:Prop}[Io p](h:p:=by decide +kernel):p:=h
section
namespace _L
abbrev be:=Sum Ah As
def pI:be->Ac->Ar
 |.inl k,v=>AaD k v
 |.inr x,v=>AbK x v
noncomputable def _X (w:Bz):be->Ah
 |.inl k=>hashInt k
 |.inr x=>hashStr w x
theorem zW:∀ {k:be} {v:Ac},pI k v=true->(∃ i t,k=Fj i/\v=Ts i t)\/(∃ x t,k=Wi x/\v=Aa0 x t)
 |.inl i,v,h=>by
  obtain⟨t,e⟩:=Value.isInt_shape (k:=i) (v:=v) h;exact .inl ⟨i,t,rfl,e⟩
 |.inr x,v,h=>by
  obtain⟨t,e⟩:=Value.isStrOf_shape (x:=x) (v:=v) h;exact .inr ⟨x,t,rfl,e⟩
theorem WY (i:Ah)(t:Vr):pI (.inl i) (.int i t)=true:=by simp[pI,AaD]
theorem WZ (x:As)(t:Vr):pI (.inr x) (.str x t)=true:=by simp[pI,AbK]
theorem RO (a b:Ah):decide ((Fj a:be)=Fj b)=(a == b):=by
 by_cases e:a=b
 .subst e;simp
 .have h:¬ (Fj a:be)=Fj b:=λq=>e (Xe q)
  rw[Cs h];exact(Ks.mpr e).symm
theorem RS (a b:As):decide ((Wi a:be)=Wi b)=decide (a=b):=by
 by_cases e:a=b
 .subst e;simp
 .have h:¬ (Wi a:be)=Wi b:=λq=>e (Sum.inr.inj q)
  rw[Cs h,Cs e]
theorem RP (a:Ah)(b:As):decide ((Fj a:be)=Wi b)=false:=Cs (λq=>nomatch q)
theorem RQ (a:As)(b:Ah):decide ((Wi a:be)=Fj b)=false:=Cs (λq=>nomatch q)
def zI (prog:Bj)(w:Bz):PySem.KeyKind prog w be where
 is:=pI
 hash:=_X w
 inj:=λv a b U Y=>by
  rcases zW U with⟨i,t,rfl,rfl⟩|⟨x,t,rfl,rfl⟩
  .rcases zW Y with⟨j,u,rfl,e⟩|⟨y,u,rfl,e⟩
   .injection e with Q _;rw[Q]
   .exact nomatch e
  .rcases zW Y with⟨j,u,rfl,e⟩|⟨y,u,rfl,e⟩
   .exact nomatch e
   .injection e with Q _;rw[Q]
 byValue:=λk v h=>by
  rcases zW h with⟨i,t,rfl,rfl⟩|⟨x,t,rfl,rfl⟩ <;> rfl
 pyHash:=λhv h=>by
  rcases zW hv with⟨i,t,rfl,rfl⟩|⟨x,t,rfl,rfl⟩
  .exact wpAny_pyHash_int h
  .exact wpAny_pyHash_str h
 eqBool:=λJ hv h=>by
  rcases zW J with⟨i,t,rfl,rfl⟩|⟨x,t,rfl,rfl⟩
  .rcases zW hv with⟨j,u,rfl,rfl⟩|⟨y,u,rfl,rfl⟩
   .rw[RO] at h;exact wpAny_eqBool_int h
   .rw[RP] at h;exact SeqAt.EqAt.int_str i t y u _ _ _ _ h
  .rcases zW hv with⟨j,u,rfl,rfl⟩|⟨y,u,rfl,rfl⟩
   .rw[RQ] at h;exact SeqAt.EqAt.str_int x t j u _ _ _ _ h
   .rw[RS] at h;exact wpAny_eqBool_str h
 «strs»:=λk x t v h=>by
  rcases zW h with⟨i,u,rfl,e⟩|⟨y,u,rfl,e⟩
  .exact nomatch e
  .injection e with Q _
   subst Q;cases v <;> rfl
theorem i8 (prog:Bj)(w:Bz)(i:Ah)(t:Vr):(zI prog w).is (.inl i) (.int i t)=true:=WY i t
theorem i9 (prog:Bj)(w:Bz)(x:As)(t:Vr):(zI prog w).is (.inr x) (.str x t)=true:=WZ x t
end _L
namespace _L
inductive V where
 |non|bl (b:Ar)|int (i:Ah)|str (x:As)|byt (b:Ay UInt8)|flt (b:UInt64)|ref (a:Af)|ty (n:Et)
 deriving NE
def qH:V->Ac->Prop
 |.non,u=>u=Dr
 |.bl b,u=>u=Nk b
 |.int i,u=>∃ t,u=Ts i t
 |.str x,u=>∃ t,u=Aa0 x t
 |.byt b,u=>∃ t,u=Value.bytes b t
 |.flt b,u=>∃ t,u=Value.float b t
 |.ref a,u=>u=Cw a
 |.ty n,u=>u=Je n
abbrev qI:Aa V->Aa Ac->Prop:=Paired qH
theorem qI.length (r:qI xs us):xs.length=us.length:=Paired.length r
theorem qI.get:∀ {xs:Aa V} {us:ah} {i:Ag} {x:V},qI xs us->xs[i]? = Ab x->∃ u,us[i]? = Ab u/\qH x u
 |_,_,_,_,.nil,e=>by simp at e
 |_,_,0,_,.cons r _,e=>by simp at e;subst e;exact⟨_,rfl,r⟩
 |_,_,i+1,x,.cons _ t,e=>by
  obtain⟨u,Q,Y⟩:=qI.get (i:=i) (x:=x) t (by simpa using e)
  exact⟨u,by simpa using Q,Y⟩
theorem qI.set (r:qH x u):∀ {xs:Aa V} {us:ah} (i:Ag),qI xs us->qI (xs.set i x) (us.set i u)
 |_,_,_,.nil=>.nil
 |_,_,0,.cons _ t=>.cons r t
 |_,_,i+1,.cons q t=>.cons q (qI.set r i t)
theorem qI.append (h:qI xs us)(s:qI Y Q):qI (xs++Y) (us++Q):=by
 induction h with
 |nil=>exact s
 |cons r t J=>exact .cons r J
theorem qI.take:∀ {xs:Aa V} {us:ah} (n:Ag),qI xs us->qI (xs.take n) (us.take n)
 |_,_,0,_=>.nil
 |_,_,_+1,.nil=>.nil
 |_,_,n+1,.cons r t=>.cons r (qI.take n t)
theorem qI.drop:∀ {xs:Aa V} {us:ah} (n:Ag),qI xs us->qI (xs.drop n) (us.drop n)
 |_,_,0,r=>r
 |_,_,_+1,.nil=>.nil
 |_,_,n+1,.cons _ t=>qI.drop n t
def vK:Al V->Al Ac->Prop
 |some v,Ab u=>qH v u
 |none,none=>Sc
 |_,_=>Fk
def KV {κ : Type}:Aa (κ × V)->Aa (κ × Ac)->Prop:=Paired λ(p:κ × V) (q:κ × Ac)=>p.1=q.1/\qH p.2 q.2
def kV:be->V
 |.inl i=>.int i
 |.inr x=>.str x
inductive HO where
  |lst (xs:Aa V)
  |tup (xs:Aa V)
  |dK (kvs:Aa (be × V))|dT (kvs:Aa (Aa be × V))
  |set (S:Ah->Ar) (n:Ag)
  |ins (C dx:Af) (fs:Aa (As × V))
  |own (x:Af)
  |xd (fs:Aa (As × V))
  |met (f x:Af)
  |rng (lo hi:Ah)
  |frz (o:Cp) (u:HO)
  |tbl (ps:Ay Ac)
  |ext (φ : Bv->Prop)
abbrev Hp:=Af->Al HO
noncomputable def bv (H:Hp)(a:Af)(o:HO):Hp:=λb=>if b=a then Ab o else H b
theorem qQ {a:Af}:bv H a o a=Ab o:=by unfold bv;rw[Bd rfl]
theorem qJ {a b:Af}(h:b≠a):bv H a o b=H b:=by unfold bv;rw[Bg h]
theorem OQ {H:Hp}{a b:Af}(h:H a=Ab o)(h':H b=Ab u)(d:o≠u):a≠b:=by
 intro e;subst e;rw[h] at h';exact d (Dd h')
theorem qZ {H:Hp}{a b:Af}(h:H a=Ab o)(h':H b=none):a≠b:=by
 intro e;subst e;rw[h] at h';cases h'
section
variable (P:Bj)(w:Bz)
def zJ (H:Hp)(h:Bv)(a:Af):HO->Prop
 |.lst Y=>Y.length<=sizeLine/\∃ (G:ah) (n:Ag),qI Y G/\h.get? a=Ab { cls:=.type "list",data:=.seq G.toArray n }
 |.tup Y=>Y.length<=sizeLine/\∃ G:Aa Ac,qI Y G/\Vs h a G.toArray
 |.dK Q=>Q.length<=sizeLine/\(a == Jw)=false/\∃ T,KV Q T/\h.DictOf (zI P w) a T
 |.dT Q=>Q.length<=sizeLine/\(a == Jw)=false/\∃ Y:Aa (Aa be × Af × Ac),
   Paired (λ(p:Aa be × V) (q:Aa be × Af × Ac)=>p.1=q.1/\H q.2.1=Ab (.tup (p.1.map kV))/\qH p.2 q.2.2) Q Y /\
   ∃ o B I,h.get? a=Ab o/\o.ExactDict/\o.data=.dict B I/\B.toList=Y.map (entryOfKey (Tt (zI P w)))/\(Y.map (·.1)).Nodup
 |.set S n=>h.SetOf (Cz P w) a S n
 |.ins C N U=>H N=Ab (.own a)/\U.length<=1000/\N≠a/\h.get? a=Ab (Wj C N) /\
   ∃ J,h.Ns1 N J/\(∀ f,vK (U.lookup f) (J f))/\AbR J (U.map (·.1))
 |.own _=>∃ o,h.get? a=Ab o
 |.xd U=>∃ J,h.Ns1 a J/\∀ f,vK (U.lookup f) (J f)
 |.rng lo A=>∃ t u v,h.get? a=Ab { cls:=.type "range",data:=.fields #[.int lo t,.int A u,.int 1 v] }
 |.frz o u=>h.get? a=Ab o/\zJ H h a u
 |.tbl E=>h.get? a=Ab { cls:=.none,data:=.fields E }
 |.met f x=>h.get? a=Ab (Tu (.ref f) (.ref x))
 |.ext φ => φ h/\(∃ o,h.get? a=Ab o)/\∀ O L:Bv,φ O->(∀ o,O.get? a=Ab o->L.get? a=Ab o)->φ L
def gz (H:Hp)(h:Bv):Prop:=∀ a o,H a=Ab o->zJ P w H h a o
end
section
variable {P:Bj}{w:Bz}{H H':Hp}{h h':Bv}{a:Af}{o:HO}
theorem zJ.lt (x:zJ P w H h a o):a<h.objs.size:=by
 cases o with
 |lst J=>obtain⟨_,_,_,_,e⟩:=x;exact Ba e
 |tup J=>obtain⟨_,_,_,p⟩:=x;exact p.lt
 |dK Q=>obtain⟨_,_,_,_,o,_,_,e,_⟩:=x;exact Ba e
 |dT Q=>obtain⟨_,_,_,_,o,_,_,e,_⟩:=x;exact Ba e
 |set S n=>obtain⟨o,_,_,_,e,_⟩:=x;exact Ba e
 |ins C G Y=>obtain⟨_,_,_,e,_⟩:=x;exact Ba e
 |own y=>obtain⟨_,e⟩:=x;exact Ba e
 |xd Y=>obtain⟨_,⟨_,_,_,e,_⟩,_⟩:=x;exact Ba e
 |rng lo O=>obtain⟨_,_,_,e⟩:=x;exact Ba e
 |frz N u=>obtain⟨e,_⟩:=x;exact Ba e
 |tbl U=>exact Ba (show h.get? a=Ab _ from x)
 |met f y=>exact Ba (show h.get? a=Ab _ from x)
 |ext φ => obtain⟨_,⟨_,e⟩,_⟩:=x;exact Ba e
theorem Paired.mapP {α β:Type}{F G:α->β->Prop}{l₁:Aa α}{l₂:Aa β}(h:Paired F l₁ l₂)(f:∀ a b,F a b->G a b):Paired G l₁ l₂:=by
 induction h with
 |nil=>exact .nil
 |cons r t Q=>exact .cons (f _ _ r) Q
theorem zJ.stay (x:zJ P w H h a o)(k:∀ b u,(b=a\/H b=Ab (.own a))->h.get? b=Ab u->h'.get? b=Ab u)
  (L:∀ b,H b=Ab (.own a)->H' b=Ab (.own a)) (M:∀ b xs,H b=Ab (.tup xs)->H' b=Ab (.tup xs)):zJ P w H' h' a o:=by
 induction o with
 |lst xs=>obtain⟨z,O,n,r,e⟩:=x;exact⟨z,O,n,r,k _ _ (.inl rfl) e⟩
 |tup xs=>obtain⟨z,O,r,Q,e,c⟩:=x;exact⟨z,O,r,Q,k _ _ (.inl rfl) e,c⟩
 |dK N=>obtain⟨z,y,I,r,Q,J,Y,e,c⟩:=x;exact⟨z,y,I,r,Q,J,Y,k _ _ (.inl rfl) e,c⟩
 |dT N =>
  obtain⟨z,y,xs,r,Q,J,Y,e,c⟩:=x;exact⟨z,y,xs,Paired.mapP r λp q z=>⟨z.1,M _ _ z.2.1,z.2.2⟩,Q,J,Y,k _ _ (.inl rfl) e,c⟩
 |set S n=>obtain⟨Q,J,Y,t,e,c⟩:=x;exact⟨Q,J,Y,t,k _ _ (.inl rfl) e,c⟩
 |ins C l A =>
  obtain⟨d,z,j,e,G,⟨U,J,Y,E,c⟩,r⟩:=x;exact⟨L _ d,z,j,k _ _ (.inl rfl) e,G,⟨U,J,Y,k _ _ (.inr d) E,c⟩,r⟩
 |own y=>obtain⟨Q,e⟩:=x;exact⟨Q,k _ _ (.inl rfl) e⟩
 |xd A=>obtain⟨G,⟨U,J,Y,e,c⟩,r⟩:=x;exact⟨G,⟨U,J,Y,k _ _ (.inl rfl) e,c⟩,r⟩
 |rng lo g=>obtain⟨t,u,v,e⟩:=x;exact⟨t,u,v,k _ _ (.inl rfl) e⟩
 |frz Q u T=>obtain⟨e,q⟩:=x;exact⟨k _ _ (.inl rfl) e,T q⟩
 |tbl B =>
  have e:h.get? a=Ab { cls:=.none,data:=.fields B }:=x;show h'.get? a=Ab { cls:=.none,data:=.fields B };exact k a _ (.inl rfl) e
 |met f y =>
  have e:h.get? a=Ab (Tu (.ref f) (.ref y)):=x;show h'.get? a=Ab (Tu (.ref f) (.ref y));exact k a _ (.inl rfl) e
 |ext φ => obtain⟨p,⟨o,e⟩,st⟩:=x;exact⟨st _ _ p λo q=>k _ _ (.inl rfl) q,⟨o,k _ _ (.inl rfl) e⟩,st⟩
theorem gz.lt (x:gz P w H h)(e:H a=Ab o):a<h.objs.size:=(x a o e).lt
theorem gz.fresh (x:gz P w H h)(e:h.objs.size<=a):H a=none:=by
 cases q:H a with
 |none=>rfl
 |some u=>exact absurd (Bh (x.lt q) e) (Eg _)
theorem gz.kept (x:gz P w H h)(k:∀ b u,h.get? b=Ab u->h'.get? b=Ab u):gz P w H h':=λa o e =>
 (x a o e).stay (λb u _ q=>k b u q) (λ_ q=>q) λ_ _ q=>q
theorem gz.laid (x:gz P w H h)(k:∀ b u,h.get? b=Ab u->h'.get? b=Ab u)(hp:h.objs.size<=a)(Q:zJ P w (bv H a o) h' a o):gz P w (bv H a o) h':=λb u e=>by
 have J:=x.fresh hp;by_cases Y:b=a
 .subst Y;rw[qQ] at e;cases e;exact Q
 .rw[qJ Y] at e
  exact(x b u e).stay (λc v _ q=>k c v q) (λc q=>by rw[qJ (qZ q J)];exact q) λc U q=>by rw[qJ (qZ q J)];exact q
end
def Rd (H:Hp)(a:Af)(u:HO):Prop:=H a=Ab u\/∃ o,H a=Ab (.frz o u)
theorem Rd.of {H:Hp}{a:Af}(h:H a=Ab u):Rd H a u:=.inl h
theorem Rd.ok {P:Bj}{a:Af}(r:Rd H a u)(x:gz P w H h):zJ P w H h a u:=by
 rcases r with r|⟨o,r⟩
 .exact x a u r
 .obtain⟨_,q⟩:=x a _ r
  exact q
def xo:Al HO->Prop
 |some (.lst _)=>Sc
 |some (.dK _)=>Sc
 |some (.dT _)=>Sc
 |some (.set _ _)=>Sc
 |some (.ins _ _ _)=>Sc
 |some (.ext _)=>Sc
 |_=>Fk
section
variable {P:Bj}{w:Bz}{H:Hp}{h h':Bv}{x e:Af}{o':HO}
theorem gz.write (ok:gz P w H h)(G:xo (H x))(B:e=x\/H e=Ab (.own x))(k:∀ b u,b≠e->h.get? b=Ab u->h'.get? b=Ab u)(C:∃ u,h'.get? e=Ab u)
  (O:zJ P w (bv H x o') h' x o'):gz P w (bv H x o') h':=λb u q=>by
 have Y:∀ c y,H c=Ab (.own y)->c≠x:=λc y r z=>by subst z;rw[r] at G;exact G
 have J:∀ c N,H c=Ab (.tup N)->c≠x:=λc N r z=>by subst z;rw[r] at G;exact G
 by_cases U:b=x
 .subst U;rw[qQ] at q;cases q;exact O
 .rw[qJ U] at q
  by_cases Q:b=e
  .have L:H b=Ab (.own x):=by
    rcases B with z|z
    .exact absurd (Q.trans z) U
    .rw[Q];exact z
   rw[q] at L;cases L;obtain⟨v,hv⟩:=C;exact⟨v,by rw[Q];exact hv⟩
  .refine(ok b u q).stay (λc v hc r=>k c v ?_ r) (λc r=>by rw[qJ (Y c b r)];exact r) λc N r=>by rw[qJ (J c N r)];exact r
   rcases hc with rfl|hc
   .exact Q
   .rintro rfl
    rcases B with z|z
    .exact Y c b hc z
    .rw[hc] at z;cases z;exact U rfl
end
structure Un (fs ex:ae)(H H':Hp)(h h':Bv):Prop where
 keep:∀ b o,h.get? b=Ab o->H b=none->b ∉ fs->b ∉ ex->h'.get? b=Ab o
 slot:∀ b o,h.get? b=Ab o->H b=none->b∈fs->b ∉ ex->∃ sl,h'.get? b=Ab { o with slots:=sl }
 free:∀ b o,h.get? b=Ab o->H b=none->b ∉ ex->H' b=none
 there:∀ b o,h.get? b=Ab o->b ∉ ex->∃ o',h'.get? b=Ab o'
 tups:∀ b xs,H b=Ab (.tup xs)->H' b=Ab (.tup xs)
 frzs:∀ b o u,H b=Ab (.frz o u)->H' b=Ab (.frz o u)
 tbls:∀ b ps,H b=Ab (.tbl ps)->∃ more,H' b=Ab (.tbl (ps++more))
section
variable {fs zo ex Y_:ae}{H H1 H2:Hp}{h h1 h2 h':Bv}{a x e:Af}{o:HO}
theorem Un.any (u:Un fs ex H H1 h h1){b:Af}{Q:Cp}(q:h.get? b=Ab Q)(n:H b=none)(J:b ∉ ex):∃ U,h1.get? b=Ab { Q with slots:=U }:=by
 by_cases Y:b∈fs
 .exact u.slot b Q q n Y J
 .exact⟨Q.slots,u.keep b Q q n Y J⟩
theorem Un.trans (a:Un fs ex H H1 h h1)(b:Un fs ex H1 H2 h1 h2):Un fs ex H H2 h h2 where
 keep:=λc Y q n U Q=>b.keep c Y (a.keep c Y q n U Q) (a.free c Y q n Q) U Q
 slot:=λc Y q n U Q=>by
  obtain⟨E,J⟩:=a.slot c Y q n U Q;obtain⟨O,N⟩:=b.slot c _ J (a.free c Y q n Q) U Q;exact⟨O,N⟩
 free:=λc Y q n Q=>by
  obtain⟨C,J⟩:=a.there c Y q Q;exact b.free c C J (a.free c Y q n Q) Q
 there:=λc Y q Q=>by
  obtain⟨C,J⟩:=a.there c Y q Q;exact b.there c C J Q
 tups:=λc G q=>b.tups c G (a.tups c G q)
 frzs:=λc Y G q=>b.frzs c Y G (a.frzs c Y G q)
 tbls:=λc T q=>by
  obtain⟨L,J⟩:=a.tbls c T q;obtain⟨B,N⟩:=b.tbls c _ J;exact⟨L++B,by rw[N,Zr]⟩
theorem Un.kept (k:∀ b u,h.get? b=Ab u->h'.get? b=Ab u):Un fs ex H H h h':=
 ⟨λb Q q _ _ _=>k b Q q,λb Q q _ _ _=>⟨Q.slots,k b Q q⟩,λ_ _ _ n _=>n,λb Q q _=>⟨Q,k b Q q⟩,λ_ _ q=>q,λ_ _ _ q=>q,λ_ Y q=>⟨#[],by rw[q];simp⟩⟩
theorem Un.refl:Un fs ex H H h h:=Un.kept λ_ _ q=>q
theorem Un.laid (k:∀ b u,h.get? b=Ab u->h'.get? b=Ab u)(hp:h.objs.size<=a)(Q:H a=none):Un fs ex H (bv H a o) h h' where
 keep:=λb u q _ _ _=>k b u q
 slot:=λb u q _ _ _=>⟨u.slots,k b u q⟩
 free:=λb u q n _=>by rw[qJ (Ch (Bh (Ba q) hp))];exact n
 there:=λb u q _=>⟨u,k b u q⟩
 tups:=λb Y q=>by rw[qJ (qZ q Q)];exact q
 frzs:=λb u Y q=>by rw[qJ (qZ q Q)];exact q
 tbls:=λb J q=>⟨#[],by rw[qJ (qZ q Q),q];simp⟩
theorem Un.write (Y:xo (H x))(B:e=x\/H e=Ab (.own x))(k:∀ b u,b≠e->h.get? b=Ab u->h'.get? b=Ab u)(U:∃ u,h'.get? e=Ab u):Un fs ex H (bv H x o) h h':=by
 have N:∀ b,H b=none->b≠x:=λb n z=>by subst z;rw[n] at Y;exact Y
 have G:∀ b,H b=none->b≠e:=λb n z=>by
  subst z;rcases B with r|r
  .exact N b n r
  .rw[n] at r;cases r
 have J:∀ b u,H b=Ab u->¬ xo (Ab u)->b≠x:=λb u q O z=>by subst z;rw[q] at Y;exact O Y
 refine⟨λb u q n _ _=>k b u (G b n) q,λb u q n _ _=>⟨u.slots,k b u (G b n) q⟩,λb u q n _=>by rw[qJ (N b n)];exact n,λb u q _=>?_,
  λb C q=>by rw[qJ (J b _ q λz=>z)];exact q,λb u C q=>by rw[qJ (J b _ q λz=>z)];exact q,λb L q=>⟨#[],by rw[qJ (J b _ q λz=>z),q];simp⟩⟩
 by_cases Q:b=e
 .subst Q;exact U
 .exact⟨u,k b u Q q⟩
theorem Un.mono (u:Un fs ex H H1 h h1)(hs:∀ b∈fs,b∈zo)(J:∀ b∈ex,b∈Y_):Un zo Y_ H H1 h h1:=
 ⟨λb Y q n U Q=>u.keep b Y q n (λz=>U (hs b z)) λz=>Q (J b z),λ_ _ q n _ Q=>u.any q n λz=>Q (J _ z),λb Y q n Q=>u.free b Y q n λz=>Q (J b z),λb Y q Q=>u.there b Y q λz=>Q (J b z),u.tups,u.frzs,u.tbls⟩
end
noncomputable def yf (h:Bv)(H:Hp):Aa Af:=(Cd h.objs.size).filter λa=>(H a).isSome
def pE (h:Bv)(H:Hp):Bv:=Rl h (yf h H)
theorem WT (h:Bv)(H:Hp):(pE h H).objs.size=h.objs.size:=PySem.W.hideAll_size _ _
theorem J6 {h:Bv}{H:Hp}{b:Af}(e:h.get? b=Ab o)(n:H b=none):(pE h H).get? b=Ab o:=
 Yp _ e λQ=>by
  have q:(H b).isSome=true:=(Dh.mp Q).2;rw[n] at q;simp at q
theorem TB {b:Af}(e:(pE h H).get? b=Ab o):h.get? b=Ab o/\H b=none:=by
 have Q:h.get? b=Ab o:=Zs (yf h H) e;refine⟨Q,?_⟩;cases q:H b with
 |none=>rfl
 |some x =>
  have Y:b∈yf h H:=Dh.mpr ⟨Dc.mpr (Ba Q),by simp[q]⟩
  have z:(pE h H).get? b=none:=PySem.W.hideAll_none (yf h H) Y;rw[z] at e;cases e
noncomputable def BR (g h:Bv)(L:Af):Aa (Af × Cp):=(Cd h.objs.size).filterMap λa=>if a=L\/(g.get? a).isSome=true then none else (h.get? a).map λo=>(a,o)
def qD (g h:Bv)(L d:Af):Aa (Af × Cp):=(BR g h L).filter λp=>decide (p.1≠d)
end _L
namespace _L
variable {E:ab}{t':Ag}{g':Ay AaX}{d':Drawn}{M:Pq}{Q:Wk->Ai->Prop}
noncomputable def wC:Aa As:=["law","_law_right","by_hull","pair_bound","hub","greatest_often"]
def LL (mg:ag)(h:Bv):Prop:=∃ Y o,mg "__builtins__" = Ab (.ref Y)/\Y≠Sd/\h.get? Y=Ab o/\o.cls=.type "module" /\ o.dict=Ab Sd/\o.data=.plain
structure Mod (K:Ak)(mg:ag)(base:Bv):Prop where
 kin:K.In base
 glob:base.Ns Df mg
 blt:∃ mb,base.Ns Sd mb/\∀ x:As,x ≠ "__name__" -> mb x=Gb x
 nolimit:base.NoLimit
 bm:LL mg base
 code:∀ x∈wC,∀ c T,Dw K x=Ab (c,T)->Xx base c T
 inj:∀ x∈wC,∀ y∈wC,∀ c d T,Dw K x=Ab (c,T)->Dw K y=Ab (d,T)->x=y
structure Cx where
 prog:Bj
 w:Bz
 K:Ak
 mg:As->Al Ac
 base:Bv
 A:Bw
 N:Aa As
 s₀:Ai
 H₀:Hp
 env:Jf
 outer:Aa Jf
 stack:Aa Jf
 ex:Aa Af
 fn:As->Ar
 calm:Ar
 pn:Aa (Af × Cp)
 xe:Ac->Ai->Prop
noncomputable def ir (l:Aa Jf):Aa Af:=l.filterMap (·.frame)
abbrev Cx.fs (X:Cx):Aa Af:=ir X.outer
def qw (Y:Em)(x:As):Prop:=Y.names.lookup x=Ab .local \/ Y.names.lookup x=Ab .cell\/Y.names.lookup x=Ab .free
def Loc (Y:Em)(x:As):Prop:=Y.names.lookup x=Ab .local \/ Y.names.lookup x=Ab .cell
def qBH (aj:Jf)(h:Bv)(m:ag)(x:As)(u:Ac):Prop:=
 (aj.kindOf x=Ab .local /\ m x=Ab u)\/((aj.kindOf x=Ab .cell\/aj.kindOf x=Ab .free)/\∃ c,aj.cells.lookup x=Ab c/\h.IsCell c (Ab u))
structure Cx.Ok (X:Cx):Prop where
 mod:Mod X.K X.mg X.base
 kind:X.env.scope.kind=.function
 glob:X.env.globals=Df
 blt:X.env.builtins=Sd
 above:X.s₀.heap.objs.size<=X.env.locals
 inj:∀ x y c,X.env.cells.lookup x=Ab c->X.env.cells.lookup y=Ab c->x=y
 has:∀ x,(X.env.kindOf x=Ab .cell\/X.env.kindOf x=Ab .free)->∃ c,X.env.cells.lookup x=Ab c
 cab:∀ x c,X.fn x=true->X.env.cells.lookup x=Ab c->X.s₀.heap.objs.size<=c
 hd:X.calm=true->X.A.handled=none
 frames:X.A.frames=Ab X.stack
 stk:X.stack=X.outer\/(X.stack=X.env::X.outer/\X.env.frame=Ab X.env.locals)
 exf:∀ b∈X.ex,b≠X.env.locals/\∀ x c,X.env.cells.lookup x=Ab c->c≠b
 bs:∀ b o,X.base.get? b=Ab o->X.s₀.heap.get? b=Ab o/\X.H₀ b=none
 bsz:X.base.objs.size<=X.s₀.heap.objs.size
 noex:∀ b o,X.base.get? b=Ab o->b ∉ X.ex
 exfs:∀ b∈X.ex,b ∉ X.fs
 funs:X.s₀.heap.FunFrames X.base X.outer
 frf:∀ b∈X.fs,X.H₀ b=none
structure Inv (X:Cx)(pins:aa)(σ : Aa (Al V))(H:Hp)(s:Ai):Prop where
 ok:X.Ok
 os:s.os=X.s₀.os
 bare:Qg s.gens
 base:Un X.fs X.ex X.H₀ H X.s₀.heap s.heap
 loc:∃ m,s.heap.Ns X.env.locals m/\∀ (i:Ag) (x:As) (v:V),X.N[i]? = Ab x->σ[i]? = Ab (Ab v)->qw X.env.scope x->∃ u,qH v u/\qBH X.env s.heap m x u
 cell:∀ x c,X.env.cells.lookup x=Ab c->∃ v,s.heap.IsCell c v
 free:H X.env.locals=none
 freeC:∀ x c,X.env.cells.lookup x=Ab c->H c=none
 pin:∀ p∈X.pn++pins,s.heap.get? p.1=Ab p.2/\H p.1=none/\p.1≠X.env.locals/\p.1 ∉ X.fs/\∀ v,p.2.data≠.cell v
 hok:gz X.prog X.w H s.heap
 len:σ.length=X.N.length
section
variable {X:Cx}{ai:aa}{σ: Aa (Al V)}{H H':Hp}{s:Ai}{h':Bv}
theorem Cx.Ok.nofr (ok:X.Ok){b:Af}{o:Cp}(e:X.base.get? b=Ab o):b ∉ X.fs:=λY=>by
 have:=(ok.funs.mem Y).1;rw[e] at this;cases this
theorem Inv.bs (I:Inv X ai σ H s):∀ b o,X.base.get? b=Ab o->s.heap.get? b=Ab o/\H b=none:=λb o e =>
 ⟨I.base.keep b o (I.ok.bs b o e).1 (I.ok.bs b o e).2 (I.ok.nofr e) (I.ok.noex b o e),I.base.free b o (I.ok.bs b o e).1 (I.ok.bs b o e).2 (I.ok.noex b o e)⟩
theorem Inv.bk (I:Inv X ai σ H s):∀ b o,X.base.get? b=Ab o->s.heap.get? b=Ab o:=λb o e=>(I.bs b o e).1
theorem Inv.mod (I:Inv X ai σ H s):Mod X.K X.mg X.base:=I.ok.mod
theorem Inv.kIn (I:Inv X ai σ H s):X.K.In s.heap:=I.ok.mod.kin.keeps I.bk
theorem Inv.nolimit (I:Inv X ai σ H s):s.heap.NoLimit:=I.ok.mod.nolimit.keeps I.bk
theorem Inv.lt (I:Inv X ai σ H s):X.env.locals<s.heap.objs.size:=let ⟨_,Y,_⟩:=I.loc;Y.lt
theorem Inv.sz (I:Inv X ai σ H s):X.s₀.heap.objs.size<=s.heap.objs.size:=Ci I.ok.above (Ef I.lt)
theorem Inv.nofs (I:Inv X ai σ H s){a:Af}(h:s.heap.objs.size<=a):a ∉ X.fs:=λY=>by
 obtain⟨_,o,J,_⟩:=I.ok.funs.mem Y;exact absurd (Bh (Ba J) (Ci I.sz h)) (Eg _)
theorem Inv.cne (I:Inv X ai σ H s):∀ x c,X.env.cells.lookup x=Ab c->c≠X.env.locals:=λx c e z=>by
 obtain⟨v,o,G,U⟩:=I.cell x c e;obtain⟨m,⟨C,O,N,Y,J,_⟩,_⟩:=I.loc;rw[z,Y] at G;cases G;rw[J] at U;cases U
theorem Inv.funs (I:Inv X ai σ H s):s.heap.FunFrames X.base X.outer:=by
 have G:∀ (l:Aa Jf),(∀ b∈ir l,b∈X.fs)->X.s₀.heap.FunFrames X.base l->s.heap.FunFrames X.base l:=by
  intro l
  induction l with
  |nil=>intro _ _;trivial
  |cons j r B =>
   intro hs N;obtain⟨T,⟨L,o,J,C,O,A⟩,w⟩:=N;have U:L∈X.fs:=hs L (by unfold ir;rw[Jg,J];exact Bc)
   obtain⟨y,e⟩:=I.base.slot L o O (I.ok.frf L U) U λz=>I.ok.exfs L z U;exact⟨T,⟨L,_,J,C,e,A⟩,B (λb Y=>hs b (by unfold ir;rw[Jg,J];exact Ap _ Y)) w⟩
 exact G X.outer (λ_ Y=>Y) I.ok.funs
theorem Inv.stack (I:Inv X ai σ H s):s.heap.FunFrames X.base X.stack:=by
 rcases I.ok.stk with e|⟨e,J⟩
 .rw[e];exact I.funs
 .rw[e]
  obtain⟨m,Y,_⟩:=I.loc;refine .cons (by rw[I.ok.kind];decide) J Y ?_ I.funs
  exact Rf (Ci I.ok.bsz I.ok.above)
theorem Inv.stkSub (I:Inv X ai σ H s):∀ b∈ir X.stack,b∈X.env.locals::X.fs:=λb Y=>by
 rcases I.ok.stk with e|⟨e,J⟩
 .rw[e] at Y;exact Ap _ Y
 .rw[e] at Y
  unfold ir at Y;rw[Jg,J] at Y;exact Y
theorem Inv.stkFree (I:Inv X ai σ H s):∀ b∈ir X.stack,H b=none:=λb hb=>by
 rcases Av.mp (I.stkSub b hb) with e|hb
 .rw[e];exact I.free
 .obtain⟨_,o,Y,_⟩:=I.ok.funs.mem hb
  exact I.base.free b o Y (I.ok.frf b hb) λz=>I.ok.exfs b z hb
theorem Inv.step {g':Ay AaX}{t':Ag}{d':Drawn}{ch:ae}(I:Inv X ai σ H s)
  (G:∀ b∈ch,(b∈X.ex\/X.s₀.heap.objs.size<=b)/\b≠X.env.locals/\(∀ x c,X.env.cells.lookup x=Ab c->c≠b)/\∀ p∈X.pn++ai,p.1≠b)
  (O:∀ b o,b≠X.env.locals->b ∉ X.fs->b ∉ ch->s.heap.get? b=Ab o->H b=none->h'.get? b=Ab o)
  (slot:∀ b o,b≠X.env.locals->b∈X.fs->b ∉ ch->s.heap.get? b=Ab o->H b=none->∃ h,h'.get? b=Ab { o with slots:=h }) (J:∀ b o,b ∉ ch->s.heap.get? b=Ab o->H b=none->H' b=none)
  (T:∀ b o,b ∉ ch->s.heap.get? b=Ab o->∃ o',h'.get? b=Ab o')
  (w:∀ b xs,H b=Ab (.tup xs)->H' b=Ab (.tup xs)) (y:∀ b o u,H b=Ab (.frz o u)->H' b=Ab (.frz o u)) (t:∀ b ps,H b=Ab (.tbl ps)->∃ f,H' b=Ab (.tbl (ps++f)))
  (ns:∀ m,s.heap.Ns X.env.locals m->h'.Ns X.env.locals m) (zb:gz X.prog X.w H' h') (hg:Qg g') :
  Inv X ai σ H' { s with heap:=h',gens:=g',drawn:=d',toks:=t' }:=by
 have g:∀ b o,X.s₀.heap.get? b=Ab o->b≠X.env.locals:=λb o e=>Ch (Bh (Ba e) I.ok.above);have B:∀ b o,X.s₀.heap.get? b=Ab o->b ∉ X.ex->b ∉ ch:=λb o e Y L=>by
  rcases (G b L).1 with z|z
  .exact Y z
  .exact absurd (Bh (Ba e) z) (Eg _)
 have N:∀ x c,X.env.cells.lookup x=Ab c->∀ v,s.heap.IsCell c v->h'.IsCell c v:=λx c e v ⟨o,A,a⟩=>by
  have U:c ∉ ch:=λz=>(G c z).2.2.1 x c e rfl;by_cases hc:c∈X.fs
  .obtain⟨h,q⟩:=slot c o (I.cne x c e) hc U A (I.freeC x c e)
   exact⟨_,q,a⟩
  .exact⟨o,O c o (I.cne x c e) hc U A (I.freeC x c e),a⟩
 refine⟨I.ok,I.os,hg,⟨λb o e n L Y=>?_,λb o e n L Y=>?_,λb o e n Y=>?_,λb o e Y=>?_,λb xs e=>w b xs (I.base.tups b xs e),λb o xs e=>y b o xs (I.base.frzs b o xs e),λb ps e=>?_⟩,?_,λx c e=>?_,?_,λx c e=>?_,λp hp=>?_,zb,I.len⟩
 .exact O b o (g b o e) L (B b o e Y) (I.base.keep b o e n L Y) (I.base.free b o e n Y)
 .obtain⟨h,C⟩:=I.base.slot b o e n L Y
  obtain⟨zc,j⟩:=slot b _ (g b o e) L (B b o e Y) C (I.base.free b o e n Y);exact⟨zc,j⟩
 .obtain⟨o',C⟩:=I.base.there b o e Y
  exact J b o' (B b o e Y) C (I.base.free b o e n Y)
 .obtain⟨o',C⟩:=I.base.there b o e Y
  exact T b o' (B b o e Y) C
 .obtain⟨m1,C⟩:=I.base.tbls b ps e
  obtain⟨m2,j⟩:=t b _ C;exact⟨m1++m2,by rw[j,Zr]⟩
 .obtain⟨m,hn,hl⟩:=I.loc
  refine⟨m,ns m hn,λi x v C j e3=>?_⟩;obtain⟨u,r,l⟩:=hl i x v C j e3;refine⟨u,r,?_⟩;rcases l with l|⟨k,c,e,z⟩
  .exact .inl l
  .exact .inr ⟨k,c,e,N x c e _ z⟩
 .obtain⟨v,z⟩:=I.cell x c e
  exact⟨v,N x c e v z⟩
 .obtain⟨m,⟨o,_,_,A,_⟩,_⟩:=I.loc
  exact J _ o (λz=>(G _ z).2.1 rfl) A I.free
 .obtain⟨v,o,A,a⟩:=I.cell x c e
  exact J c o (λz=>(G c z).2.2.1 x c e rfl) A (I.freeC x c e)
 .obtain⟨e,n,ne,nf,d⟩:=I.pin p hp
  have U:p.1 ∉ ch:=λz=>(G p.1 z).2.2.2 p hp rfl;exact⟨O p.1 p.2 ne nf U e n,J p.1 p.2 U e n,ne,nf,d⟩
theorem Inv.un {t':Ag}(I:Inv X ai σ H s)(u:Un X.fs [] H H' s.heap h')(G:gz X.prog X.w H' h'):Inv X ai σ H' { s with heap:=h',toks:=t' }:=by
 obtain⟨m,⟨o,w,y,N,r⟩,_⟩:=id I.loc;obtain⟨j,C⟩:=u.any N I.free cy
 exact I.step (g':=s.gens) (d':=s.drawn) (ch:=[]) (λ_ z=>nomatch z) (λb o _ J _ e n=>u.keep b o e n J cy) (λb o _ J _ e n=>u.slot b o e n J cy) (λb o _ e n=>u.free b o e n cy) (λb o _ e=>u.there b o e cy) u.tups u.frzs u.tbls (λT O=>by
  obtain⟨A,L,U,Y,B⟩:=O;rw[N] at Y;cases Y;exact⟨_,L,U,C,B⟩) G I.bare
theorem Inv.call {t':Ag}{d':Drawn}{ch:ae}(I:Inv X ai σ H s)(u:Un (ir X.stack) ch H H' s.heap h')(O:gz X.prog X.w H' h')(A:Qg g')
  (J:∀ b∈ch,(b∈X.ex\/X.s₀.heap.objs.size<=b)/\b≠X.env.locals/\(∀ x c,X.env.cells.lookup x=Ab c->c≠b)/\∀ p∈X.pn++ai,p.1≠b) :
  Inv X ai σ H' { s with heap:=h',gens:=g',drawn:=d',toks:=t' }:=by
 obtain⟨m,⟨o,l,k,C,r⟩,_⟩:=id I.loc;obtain⟨y,N⟩:=u.any C I.free λz=>(J _ z).2.1 rfl;exact I.step (ch:=ch) J (λb o N B Y e n=>u.keep b o e n (λz=>(Av.mp (I.stkSub b z)).elim N B) Y) (λb o _ _ Y e n=>u.any e n Y) (λb o Y e n=>u.free b o e n Y) (λb o Y e=>u.there b o e Y) u.tups u.frzs u.tbls (λj T=>by
  obtain⟨q,L,G,U,w⟩:=T;rw[C] at U;cases U;exact⟨_,L,G,N,w⟩) O A
theorem Inv.turned {t':Ag}{it:Af}(I:Inv X ai σ H s)(k:∀ b o,b≠it->s.heap.get? b=Ab o->h'.get? b=Ab o)(O:H it=none)(U:it≠X.env.locals)
  (h1:it∈X.ex\/X.s₀.heap.objs.size<=it) (h2:∀ x c,X.env.cells.lookup x=Ab c->c≠it) (h3:∀ p∈X.pn++ai,p.1≠it):Inv X ai σ H { s with heap:=h',toks:=t' }:=by
 have J:∀ b u,H b=Ab u->b≠it:=λb u e z=>by rw[z,O] at e;cases e
 refine I.step (g':=s.gens) (d':=s.drawn) (ch:=[it]) (λb G=>?_) (λb o _ _ Y e _=>k b o (λz=>Y (by simp[z])) e) (λb o _ _ Y e _=>⟨o.slots,k b o (λz=>Y (by simp[z])) e⟩) (λ_ _ _ _ n=>n)
  (λb o Y e=>⟨o,k b o (λz=>Y (by simp[z])) e⟩) (λ_ _ e=>e) (λ_ _ _ e=>e) (λb T e=>⟨#[],by rw[e];simp⟩) (λm C=>?_) (λb u e=>?_) I.bare
 .have e:b=it:=by simpa using G
  subst e;exact⟨h1,U,h2,h3⟩
 .obtain⟨o,B,L,N,r⟩:=C
  exact⟨o,B,L,k _ o (Gd U) N,r⟩
 .refine(I.hok b u e).stay (λc v Y q=>k c v ?_ q) (λ_ q=>q) λ_ _ q=>q
  rcases Y with z|z
  .rw[z];exact J b u e
  .exact J c _ z
theorem Inv.tok (I:Inv X ai σ H s)(t:Ag):Inv X ai σ H { s with toks:=t }:=I.un (h':=s.heap) (t':=t) Un.refl I.hok
theorem Inv.kept {t':Ag}(I:Inv X ai σ H s)(k:∀ b u,s.heap.get? b=Ab u->h'.get? b=Ab u):Inv X ai σ H { s with heap:=h',toks:=t' }:=I.un (Un.kept k) (I.hok.kept k)
theorem Inv.laid {a:Af}{t':Ag}(I:Inv X ai σ H s)(k:∀ b u,s.heap.get? b=Ab u->h'.get? b=Ab u)(hp:s.heap.objs.size<=a)(Y:zJ X.prog X.w (bv H a o) h' a o) :
  Inv X ai σ (bv H a o) { s with heap:=h',toks:=t' }:=I.un (Un.laid k hp (I.hok.fresh hp)) (I.hok.laid k hp Y)
theorem Inv.write {x e:Af}{o:HO}{t':Ag}(I:Inv X ai σ H s)(G:xo (H x))(U:e=x\/H e=Ab (.own x))(k:∀ b u,b≠e->s.heap.get? b=Ab u->h'.get? b=Ab u)(Y:∃ u,h'.get? e=Ab u)
  (J:zJ X.prog X.w (bv H x o) h' x o):Inv X ai σ (bv H x o) { s with heap:=h',toks:=t' }:=I.un (Un.write G U k Y) (I.hok.write G U k Y J)
theorem Inv.pins_of {Y:aa}(I:Inv X ai σ H s)(h:∀ p∈Y,s.heap.get? p.1=Ab p.2/\H p.1=none/\p.1≠X.env.locals/\p.1 ∉ X.fs/\∀ v,p.2.data≠.cell v):Inv X Y σ H s:=
 ⟨I.ok,I.os,I.bare,I.base,I.loc,I.cell,I.free,I.freeC,λp J=>(Cc.mp J).elim (λz=>I.pin p (Du _ z)) (h p),I.hok,I.len⟩
theorem cH {N:Aa As}(J:N.Nodup){i j:Ag}{x:As}(a:N[i]? = Ab x)(b:N[j]? = Ab x):i=j:=by
 obtain⟨G,U⟩:=Az.mp a;obtain⟨O,Y⟩:=Az.mp b;exact(Vb J).mp (U.trans Y.symm)
theorem sX {A:Bw}{i:Ag}(I:Inv X ai σ H s)(hN:X.N.Nodup)(hi:X.N[i]? = Ab x)(U:Loc X.env.scope x)(r:qH v u)
  (h:∀ s',Inv X ai (σ.set i (Ab v)) H s'->(∃ a,Ew a s.heap s'.heap/\(a=X.env.locals\/X.env.cells.lookup x=Ab a))->Q () s') (hf:X.fn x=true\/X.env.scope.names.lookup x=Ab .local:=by first|exact .inl rfl|exact .inr rfl|assumption):Aq M A (storeName X.env x u) Q E s:=by
 obtain⟨m,hn,hl⟩:=id I.loc;have l:(X.env.scope.kind == .class||(X.env.scope.kind == .module&&X.env.locals != X.env.globals))=false:=by rw[I.ok.kind];rfl
 have O:i<σ.length:=by rw[I.len];exact(Az.mp hi).1
 have L:=I.cne;have Y:∀ {a:Af} {h':Bv},(∃ o,s.heap.get? a=Ab o/\H a=none)->Ew a s.heap h'->gz X.prog X.w H h':=λ{a h'} ha hs b ob e=>by
  obtain⟨_,_,G⟩:=ha;refine(I.hok b ob e).stay (λc w' hc q=>(hs.2 c ?_).trans q) (λ_ q=>q) λ_ _ q=>q;rintro rfl;rcases hc with rfl|hc
  .rw[G] at e;cases e
  .rw[G] at hc;cases hc
 rcases U with hk|hk
 .refine wpAny_storeName_local hk hn (λh' zc hs=>?_) l
  obtain⟨oL,_,_,zb,_⟩:=id hn;refine h _ ⟨I.ok,I.os,I.bare,⟨λb o e n C U=>?_,λb o e n C U=>?_,I.base.free,λb o e U=>?_,I.base.tups,I.base.frzs,I.base.tbls⟩,⟨_,zc,λj y v' J N e3=>?_⟩,λy c e=>?_,I.free,I.freeC,λp hp=>?_,Y ⟨oL,zb,I.free⟩ hs,by simpa using I.len⟩ ⟨_,hs,.inl rfl⟩
  .exact(hs.2 b (Ch (Bh (Ba e) I.ok.above))).trans (I.base.keep b o e n C U)
  .obtain⟨sl,J⟩:=I.base.slot b o e n C U
   exact⟨sl,(hs.2 b (Ch (Bh (Ba e) I.ok.above))).trans J⟩
  .obtain⟨o',J⟩:=I.base.there b o e U
   exact⟨o',(hs.2 b (Ch (Bh (Ba e) I.ok.above))).trans J⟩
  .by_cases T:j=i
   .subst T
    rw[hi] at J;cases J;rw[Dy O] at N;cases N;exact⟨u,r,.inl ⟨hk,by simp⟩⟩
   .rw[Cj (Gd T)] at N
    obtain⟨u',r',q⟩:=hl j y v' J N e3;refine⟨u',r',?_⟩;rcases q with⟨k,e⟩|⟨k,c,e,z⟩
    .refine .inl ⟨k,?_⟩
     have:y≠x:=λe=>T (cH hN J (e▸hi));simp[this,e]
    .exact .inr ⟨k,c,e,z.sameBut hs (L y c e)⟩
  .obtain⟨w',z⟩:=I.cell y c e
   exact⟨w',z.sameBut hs (L y c e)⟩
  .obtain⟨e,n,ne,nf,d⟩:=I.pin p hp
   exact⟨(hs.2 p.1 ne).trans e,n,ne,nf,d⟩
 .have B:X.fn x=true:=by
   rcases hf with z|z
   .exact z
   .rw[z] at hk;cases hk
  obtain⟨c,hc⟩:=I.ok.has x (.inl hk);obtain⟨w',z⟩:=I.cell x c hc;refine wpAny_storeName_cell I.ok.kind hk hc z (λh' f hs=>?_);obtain⟨oc,t,g⟩:=id z;refine h { s with heap:=h' } ⟨I.ok,I.os,I.bare,⟨λb o e n C U=>?_,λb o e n C U=>?_,I.base.free,λb o e U=>?_,I.base.tups,I.base.frzs,I.base.tbls⟩,⟨m,hn.sameBut hs (Gd (L x c hc)),λj y v' J N e3=>?_⟩,λy c' e=>?_,I.free,I.freeC,λp hp=>?_,Y ⟨oc,t,I.freeC x c hc⟩ hs,by simpa using I.len⟩ ⟨c,hs,.inr hc⟩
  .exact(hs.2 b (Ch (Bh (Ba e) (I.ok.cab x c B hc)))).trans (I.base.keep b o e n C U)
  .obtain⟨sl,J⟩:=I.base.slot b o e n C U
   exact⟨sl,(hs.2 b (Ch (Bh (Ba e) (I.ok.cab x c B hc)))).trans J⟩
  .obtain⟨o',J⟩:=I.base.there b o e U
   exact⟨o',(hs.2 b (Ch (Bh (Ba e) (I.ok.cab x c B hc)))).trans J⟩
  .by_cases T:j=i
   .subst T
    rw[hi] at J;cases J;rw[Dy O] at N;cases N;exact⟨u,r,.inr ⟨.inl hk,c,hc,f⟩⟩
   .rw[Cj (Gd T)] at N
    obtain⟨u',r',q⟩:=hl j y v' J N e3;refine⟨u',r',?_⟩;rcases q with q|⟨k,c',e,z'⟩
    .exact .inl q
    .refine .inr ⟨k,c',e,z'.sameBut hs ?_⟩
     rintro rfl;exact T (cH hN J (I.ok.inj _ _ _ e hc▸hi))
  .by_cases w:c'=c
   .subst w;exact⟨_,f⟩
   .obtain⟨w2,z2⟩:=I.cell y c' e
    exact⟨w2,z2.sameBut hs w⟩
  .obtain⟨e,n,ne,nf,d⟩:=I.pin p hp
   refine⟨(hs.2 p.1 ?_).trans e,n,ne,nf,d⟩;intro q;rw[q,t] at e;have q':oc=p.2:=Dd e;exact d w' (by rw[<- q'];exact g)
theorem jR {A:Bw}{i:Ag}(I:Inv X ai σ H s)(U:X.N.Nodup)(hi:X.N[i]? = Ab x)(J:Loc X.env.scope x)(r:qH v u)
  (h:∀ s',Inv X ai (σ.set i (Ab v)) H s'->Q () s') (Y:X.fn x=true\/X.env.scope.names.lookup x=Ab .local:=by first|exact .inl rfl|exact .inr rfl|assumption):Aq M A (storeName X.env x u) Q E s:=
 sX I U hi J r (λs' G _=>h s' G) Y
theorem Inv.call' {s':Ai}{ch:ae}(I:Inv X ai σ H s)(U:s'.os=s.os)(u:Un (ir X.stack) ch H H' s.heap s'.heap)(J:gz X.prog X.w H' s'.heap)(N:Qg s'.gens)
  (Y:∀ b∈ch,(b∈X.ex\/X.s₀.heap.objs.size<=b)/\b≠X.env.locals/\(∀ x c,X.env.cells.lookup x=Ab c->c≠b)/\∀ p∈X.pn++ai,p.1≠b):Inv X ai σ H' s':=by
 obtain⟨h',g',d',t',G⟩:=s';have e:G=s.os:=U;subst e;exact I.call (g':=g') (t':=t') (d':=d') u J N Y
end
abbrev XK:=Ac->Al Af->Hp->Prop
abbrev St:=Aa (Al V)
abbrev VK:=V->Hp->Prop
abbrev TE:=St->Hp->VK->Prop
abbrev TT:=St->Hp->(Ar->Hp->Prop)->Prop
abbrev TA:=St->Hp->(Aa V->Hp->Prop)->Prop
structure Ends where
 nx:St->Hp->Prop
 rt:VK
 bk:St->Hp->Prop:=λ_ _=>Fk
 ct:St->Hp->Prop:=λ_ _=>Fk
abbrev TS:=Ends->St->Hp->Prop
inductive EP (X:Cx)(pins:aa)(σ : St)(Q:VK)(u:Ac)(s':Ai):Prop
 |mk (v:V) (H':Hp) (I:Inv X pins σ H' s') (r:qH v u) (q:Q v H'):EP X pins σ Q u s'
inductive TP (X:Cx)(pins:aa)(σ : St)(Q:Ar->Hp->Prop)(b:Ar)(s':Ai):Prop
 |mk (H':Hp) (I:Inv X pins σ H' s') (q:Q b H'):TP X pins σ Q b s'
inductive AP (X:Cx)(pins:aa)(σ : St)(Q:Aa V->Hp->Prop)(us:ah)(s':Ai):Prop
 |mk (vs:Aa V) (H':Hp) (I:Inv X pins σ H' s') (r:qI vs us) (q:Q vs H'):AP X pins σ Q us s'
def SP (X:Cx)(ai:aa)(D:Ends)(f:Flow)(s':Ai):Prop:=
 match f with
 |.next=>∃ Y J,Inv X ai Y J s'/\D.nx Y J
 |.brk=>∃ Y J,Inv X ai Y J s'/\D.bk Y J
 |.cont=>∃ Y J,Inv X ai Y J s'/\D.ct Y J
 |.ret u=>∃ v Y J,Inv X ai Y J s'/\qH v u/\D.rt v J
abbrev c3 (X:Cx){α:Type}(m:PySem.Sem α):=Aq (Ax X.prog X.w) X.A m
def PE (X:Cx)(e:Bx)(t:TE):Prop:=
 ∀ (Y:aa) (s:Ai) (σ : St) (H:Hp) (Q:VK),Inv X Y σ H s->t σ H Q->c3 X (eval e X.env) (EP X Y σ Q) X.xe s
def PT (X:Cx)(e:Bx)(t:TT):Prop:=
 ∀ (Y:aa) (s:Ai) (σ : St) (H:Hp) (Q:Ar->Hp->Prop),Inv X Y σ H s->t σ H Q->c3 X (isTrue e X.env (eval e X.env)) (TP X Y σ Q) X.xe s
def PW (X:Cx)(e:Bx)(t:TT):Prop:=
 ∀ (Y:Kt Ac) (J:aa) (s:Ai) (σ : St) (H:Hp) (Q:Ar->Hp->Prop),Inv X J σ H s->t σ H Q->c3 X (isTrue e X.env Y) (TP X J σ Q) X.xe s
def PA (X:Cx)(es:Aa Bx)(t:TA):Prop:=
 ∀ (J:Fb) (Y:aa) (s:Ai) (σ : St) (H:Hp) (Q:Aa V->Hp->Prop),Inv X Y σ H s->t σ H Q->c3 X (spliced (Gr J (Bo es X.env))) (AP X Y σ Q) X.xe s
def PS (X:Cx)(st:Ge)(t:TS):Prop:=
 ∀ (Y:aa) (s:Ai) (σ : St) (H:Hp) (D:Ends),Inv X Y σ H s->t D σ H->c3 X (exec st X.env) (SP X Y D) X.xe s
def jn (X:Cx)(st:Aa Ge)(t:TS):Prop:=
 ∀ (Y:aa) (s:Ai) (σ : St) (H:Hp) (D:Ends),Inv X Y σ H s->t D σ H->c3 X (execs st X.env) (SP X Y D) X.xe s
theorem bj {α:Type}{t:Kt α}{Q Y:α->Ai->Prop}(h:Aq M A t Q E s)(J:∀ a s,Q a s->Y a s):Aq M A t Y E s:=Hk h J λ_ _ x=>x
end _L
namespace _L
variable {ai:aa}{u:Ac}{E Q:ab}{x:As}
section
variable {X:Cx}
theorem zr {a b:Bx}(w:PE X a O)(L:PE X b C){ai:aa}{s:Ai}{σ : St}{H:Hp}{R:V->V->Hp->Prop}(I:Inv X ai σ H s)(h:O σ H λx N=>C σ N λy Y=>R x y Y)
  {α:Type} {Q:α->Ai->Prop} {f:Ac->Ac->Kt α}
  (T:∀ v u G x y Y,Inv X ai σ Y G->qH x v->qH y u->R x y Y->c3 X (f v u) Q X.xe G) :
  c3 X (eval a X.env) (λv J=>c3 X (eval b X.env) (λu U=>c3 X (f v u) Q X.xe U) X.xe J) X.xe s:=by
 refine bj (w ai s σ H _ I h) λv k ⟨x,N,A,q,z⟩=>?_;refine bj (L ai k σ N _ A z) λu G ⟨y,Y,j,M,B⟩=>?_;exact T v u G x y Y j q M B
def AK (i:Ag):TE:=λσ H Q=>∃ v,σ[i]? = Ab (Ab v)/\Q v H
def tC (v:V):TE:=λ_ H Q=>Q v H
theorem YQ {i:Ag}(B:X.N[i]? = Ab x)(hv:qw X.env.scope x)(U:(x == ("__debug__" : As))=false:=by decide)(G:(x == ("__classdict__" : As))=false:=by decide):PE X (.Name x C) (AK i):=by
 intro ai s σ H Q I h;obtain⟨v,e,h⟩:=h;obtain⟨m,L,O⟩:=I.loc;obtain⟨u,r,l⟩:=O i x v B e hv;have J:EP X ai σ Q u s:=⟨v,H,I,r,h⟩;rcases l with⟨hk,T⟩|⟨hk,c,N,Y⟩
 .exact wpAny_Name (Ye I.ok.kind hk L T J) U
 .rcases hk with hk|hk
  .exact wpAny_Name (Yq I.ok.kind hk N Y J) U
  .exact wpAny_Name (wpAny_loadName_free I.ok.kind hk N Y J G) U
theorem HF:PE X (.Constant (.int i) j ap) (tC (.int i)):=λ_ _ _ H _ I h=>wpAny_Constant_int ⟨.int i,H,I.tok _,⟨_,rfl⟩,h⟩
theorem qAS:PE X (.Constant (.bool b) j ap) (tC (.bl b)):=λ_ _ _ H _ I h=>Constant_bool ⟨.bl b,H,I,rfl,h⟩
theorem HG:PE X (.Constant .none j ap) (tC .non):=λ_ _ _ H _ I h=>Constant_none ⟨.non,H,I,rfl,h⟩
def Gl (X:Cx)(x:As):Prop:=X.env.kindOf x=Ab .globalImplicit
theorem fM {σ:St}{U:Fb}(I:Inv X ai σ H s)(J:Gl X x)(hm:X.mg x=Ab u)(h:Q u s)
  (Y:(x == ("__debug__" : As))=false:=by decide):c3 X (eval (.Name x U) X.env) Q E s:=
 Tf I.ok.kind J (Calls.loadGlobal_global (by rw[I.ok.glob];exact I.mod.glob.keeps I.bk) hm h) Y
theorem yN {σ:St}{G:Fb}(I:Inv X ai σ H s)(U:Gl X x)(hm:X.mg x=none)(hv:Gb x=Ab u)(h:Q u s)
  (J:x ≠ "__name__":=by decide) (Y:(x == ("__debug__" : As))=false:=by decide):c3 X (eval (.Name x G) X.env) Q E s:=by
 obtain⟨C,N,O⟩:=I.mod.blt;exact Tf I.ok.kind U (Calls.loadGlobal_builtin (by rw[I.ok.glob];exact I.mod.glob.keeps I.bk) hm (by rw[I.ok.blt];exact N.keeps I.bk) ((O x J).trans hv) h) Y
theorem TJ (U:Gl X x)(hm:X.mg x=Ab u)(r:qH v u)(Y:(x == ("__debug__" : As))=false:=by decide):PE X (.Name x J) (tC v):=
 λ_ _ _ H _ I h=>fM I U hm ⟨v,H,I,r,h⟩ Y
theorem TH (G:Gl X x)(hm:X.mg x=none)(hv:Gb x=Ab u)(r:qH v u)(U:x ≠ "__name__":=by decide)(Y:(x == ("__debug__" : As))=false:=by decide):PE X (.Name x J) (tC v):=
 λ_ _ _ H _ I h=>yN I G hm hv ⟨v,H,I,r,h⟩ U Y
variable {a:Bx}{ap:Fb}
variable {tA:TT}
theorem TY (Y:PT X a tA):PW X (.BoolOp .And [a] ap) tA:=by
 intro U ai s σ H Q I h;refine isTrue_and (bj (Y ai s σ H Q I h) λc J e=>?_);cases c with
 |true=>exact isTrue_and_nil e
 |false=>exact e
theorem HZ (Y:PT X a tA):PW X (.BoolOp .Or [a] ap) tA:=by
 intro U ai s σ H Q I h;refine isTrue_or (bj (Y ai s σ H Q I h) λc J e=>?_);cases c with
 |false=>exact isTrue_or_nil e
 |true=>exact e
theorem HH {t:TE}(h:PE X a t):PE X (.BoolOp op [a] ap) t:=λai s σ H Q I Y=>BoolOp_one (h ai s σ H Q I Y)
end
end _L
namespace _L
variable {es:Aa Bx}{i:Ag}{K:Ak}{x:As}{P:Bj}{tg:Bx}{w:Bz}
def kj (K:Ak)(H:Hp)(a:Af)(xs:Aa V):Prop:=
 Rd H a (.lst xs) \/
  ∃ (o:Cp) (Q:Ay Ac) (n:Ag),K.lookup a=Ab o/\o.cls=.type "list" /\ o.dict=none/\o.data=.seq Q n/\Q.size<=sizeLine/\qI xs Q.toList
def jp (K:Ak)(H:Hp)(a:Af)(xs:Aa V):Prop:=
 Rd H a (.tup xs) \/
  ∃ (o:Cp) (Q:Ay Ac) (n:Ag),K.lookup a=Ab o/\o.cls=.type "tuple" /\ o.data=.seq Q n/\Q.size<=sizeLine/\qI xs Q.toList
noncomputable def qBL:Ac->Al V
 |.none=>Ab .non
 |.bool b=>Ab (.bl b)
 |.int i _=>Ab (.int i)
 |.str x _=>Ab (.str x)
 |.bytes b _=>Ab (.byt b)
 |.float b _=>Ab (.flt b)
 |.ref a=>Ab (.ref a)
 |.type n=>Ab (.ty n)
 |_=>none
theorem qH.abs {x:V}(r:qH x u):qBL u=Ab x:=by
 cases x with
 |non=>cases r;rfl
 |bl _=>cases r;rfl
 |int _=>obtain⟨t,rfl⟩:=r;rfl
 |str _=>obtain⟨t,rfl⟩:=r;rfl
 |byt _=>obtain⟨t,rfl⟩:=r;rfl
 |flt _=>obtain⟨t,rfl⟩:=r;rfl
 |ref _=>cases r;rfl
 |ty _=>cases r;rfl
theorem qH.inj {x y:V}(r:qH x u)(q:qH y u):x=y:=Dd (r.abs.symm.trans q.abs)
theorem qI.inj (h:qI xs us)(k:qI Q us):xs=Q:=by
 induction h generalizing Q with
 |nil=>cases k;rfl
 |cons r t U =>
  cases k with
  |cons J Y=>rw[r.inj J,U Y]
section
variable {X:Cx}{ai:aa}{σ: St}{H:Hp}{s:Ai}{a:Af}{xs ys:Aa V}
theorem kj.of (h:H a=Ab (.lst xs)):kj K H a xs:=.inl (.inl h)
theorem jp.of (h:H a=Ab (.tup xs)):jp K H a xs:=.inl (.inl h)
theorem Inv.list (I:Inv X ai σ H s)(h:kj X.K H a xs):∃ am:Aa Ac,qI xs am/\PlainL s.heap a am.toArray/\xs.length<=sizeLine:=by
 rcases h with h|⟨o,am,n,J,Q,Y,hs,U,r⟩
 .obtain⟨z,am,n,r,e⟩:=h.ok I.hok
  exact⟨am,r,⟨_,n,e,rfl,rfl,rfl⟩,z⟩
 .refine⟨am.toList,r,⟨o,n,I.kIn a o J,Q,Y,by simpa using hs⟩,?_⟩
  have e:=r.length;simp only[Bq] at e
  lia
theorem Inv.tuple (I:Inv X ai σ H s)(h:jp X.K H a xs):∃ am:Aa Ac,qI xs am/\Vs s.heap a am.toArray/\xs.length<=sizeLine:=by
 rcases h with h|⟨o,am,n,Y,Q,hs,J,r⟩
 .obtain⟨z,am,r,p⟩:=h.ok I.hok
  exact⟨am,r,p,z⟩
 .refine⟨am.toList,r,⟨o,I.kIn a o Y,Q,n,by simpa using hs⟩,?_⟩
  have e:=r.length;simp only[Bq] at e
  lia
theorem Inv.list_inj (I:Inv X ai σ H s)(h:kj X.K H a xs)(h':kj X.K H a ys):xs=ys:=by
 obtain⟨U,r,⟨o,n,e,_,_,d⟩,_⟩:=I.list h;obtain⟨G,J,⟨O,N,Y,_,_,Q⟩,_⟩:=I.list h';rw[e] at Y;cases Y;rw[d] at Q;injection Q with d1 _
 have:U=G:=by simpa using congrArg AbS d1
 subst this;exact r.inj J
theorem Inv.tuple_inj (I:Inv X ai σ H s)(h:jp X.K H a xs)(h':jp X.K H a ys):xs=ys:=by
 obtain⟨U,r,⟨o,e,_,n,d⟩,_⟩:=I.tuple h;obtain⟨G,J,⟨O,Y,_,N,Q⟩,_⟩:=I.tuple h';rw[e] at Y;cases Y;rw[d] at Q;injection Q with d1 _
 have:U=G:=by simpa using congrArg AbS d1
 subst this;exact r.inj J
end
noncomputable abbrev Cx.wish (X:Cx)(E:ab):Cx:={ X with xe:=E }
abbrev Cx.nox (X:Cx):Cx:=X.wish λ_ _=>Fk
theorem Cx.Ok.wish {X:Cx}(ok:X.Ok)(E:ab):(X.wish E).Ok:=
 ⟨ok.mod,ok.kind,ok.glob,ok.blt,ok.above,ok.inj,ok.has,ok.cab,ok.hd,ok.frames,ok.stk,ok.exf,ok.bs,ok.bsz,ok.noex,ok.exfs,ok.funs,ok.frf⟩
theorem Cx.Ok.unwish {X:Cx}(ok:(X.wish E).Ok):X.Ok:=
 ⟨ok.mod,ok.kind,ok.glob,ok.blt,ok.above,ok.inj,ok.has,ok.cab,ok.hd,ok.frames,ok.stk,ok.exf,ok.bs,ok.bsz,ok.noex,ok.exfs,ok.funs,ok.frf⟩
section
variable {X:Cx}{ai:aa}{σ: St}{H:Hp}{s:Ai}{E:ab}
theorem Inv.wish (I:Inv X ai σ H s)(E:ab):Inv (X.wish E) ai σ H s:=⟨I.ok.wish E,I.os,I.bare,I.base,I.loc,I.cell,I.free,I.freeC,I.pin,I.hok,I.len⟩
theorem Inv.unwish (I:Inv (X.wish E) ai σ H s):Inv X ai σ H s:=⟨I.ok.unwish,I.os,I.bare,I.base,I.loc,I.cell,I.free,I.freeC,I.pin,I.hok,I.len⟩
theorem SP.unwish {D:Ends}(h:SP (X.wish E) ai D f s'):SP X ai D f s':=by
 cases f with
 |next=>obtain⟨Q,Y,I,q⟩:=h;exact⟨Q,Y,I.unwish,q⟩
 |brk=>obtain⟨Q,Y,I,q⟩:=h;exact⟨Q,Y,I.unwish,q⟩
 |cont=>obtain⟨Q,Y,I,q⟩:=h;exact⟨Q,Y,I.unwish,q⟩
 |ret u=>obtain⟨v,Q,Y,I,r,q⟩:=h;exact⟨v,Q,Y,I.unwish,r,q⟩
theorem PE.nox {t:TE}(h:PE X.nox e t):PE X e t:=λai s σ H Q I Y =>
 Hk (h ai s σ H Q (I.wish _) Y) (λ_ _ ⟨v,U,J,r,q⟩=>⟨v,U,J.unwish,r,q⟩) λ_ _ z=>Au z
theorem PT.nox {t:TT}(h:PT X.nox e t):PT X e t:=λai s σ H Q I Y =>
 Hk (h ai s σ H Q (I.wish _) Y) (λ_ _ ⟨U,J,q⟩=>⟨U,J.unwish,q⟩) λ_ _ z=>Au z
theorem jn.nox {st:Aa Ge}{t:TS}(h:jn X.nox st t):jn X st t:=λai s σ H D I Q =>
 Hk (h ai s σ H D (I.wish _) Q) (λ_ _ q=>q.unwish) λ_ _ z=>Au z
end
section
variable {X:Cx}{st:Ge}{qD:Aa Ge}{t u:TS}{ap:Fb}
def qAp:TS:=λD σ H=>D.nx σ H
def _I (t u:TS):TS:=λD σ H=>t { D with nx:=u D } σ H
theorem TV:jn X [] qAp:=λ_ _ σ H _ I h=>Rm ⟨σ,H,I,h⟩
theorem KE (h1:PS X st t)(h2:jn X qD u):jn X (st::qD) (_I t u):=by
 intro Y s σ H D I h;refine wpAny_execs_cons (bj (h1 Y s σ H { D with nx:=u D } I h) λf J q=>?_)
 cases f with
 |next =>
  obtain⟨Q,U,G,q⟩:=q;exact h2 Y J Q U D G q
 |ret v=>exact q
 |brk=>exact q
 |cont=>exact q
theorem TX (h1:PS X st t):jn X [st] t:=by
 intro Q s σ H D I h;refine wpAny_execs_cons (bj (h1 Q s σ H D I h) λf Y q=>?_);cases f with
 |next=>exact Rm q
 |ret v=>exact q
 |brk=>exact q
 |cont=>exact q
def AI:TS:=λD σ H=>D.bk σ H
theorem KC:PS X (.Break ap) AI:=λ_ _ σ H _ I h=>wpAny_Break ⟨σ,H,I,h⟩
theorem Inv.quiet {σ:St}(I:Inv X ai σ H s):interactive X.env=false:=by simp[interactive,I.ok.kind]
end
abbrev TG:=V->St->Hp->(St->Hp->Prop)->Prop
abbrev vk:=Aa V->St->Hp->(St->Hp->Prop)->Prop
def PG (X:Cx)(Y:Bx)(t:TG):Prop:=
 ∀ (G:aa) (s:Ai) (σ : St) (H:Hp) (v:V) (u:Ac) (Q:St->Hp->Prop),Inv X G σ H s->qH v u->t v σ H Q ->
  c3 X (assign Y X.env u) (λ_ N=>∃ J U,Inv X G J U N/\Q J U) X.xe s
def uq (X:Cx)(O:Aa Bx)(t:vk):Prop:=
 ∀ (U:aa) (s:Ai) (σ : St) (H:Hp) (G:Aa V) (J:ah) (Q:St->Hp->Prop),Inv X U σ H s->qI G J->t G σ H Q ->
  c3 X (Yr ((Hl O X.env).map (·.2)) J) (λ_ C=>∃ Y N,Inv X U Y N C/\Q Y N) X.xe s
abbrev VT:=V->V->V->Hp->(Hp->Prop)->Prop
def rT (X:Cx)(t:VT):Prop:=
 ∀ (G:aa) (s:Ai) (σ : St) (H:Hp) (o i v:V) (Y U u:Ac) (Q:Hp->Prop),Inv X G σ H s->qH o Y->qH i U->qH v u->t o i v H Q ->
  c3 X (setItem Y U u) (λ_ N=>∃ J,Inv X G σ J N/\Q J) X.xe s
abbrev xk:=V->V->Hp->VK->Prop
def A_ (X:Cx)(op:Py)(t:xk):Prop:=
 ∀ (Y:aa) (s:Ai) (σ : St) (H:Hp) (x y:V) (v u:Ac) (Q:VK),Inv X Y σ H s->qH x v->qH y u->t x y H Q ->
  c3 X (inplaceOp op v u) (EP X Y σ Q) X.xe s
section
variable {X:Cx}{ap:Fb}
def OE (i:Ag):TG:=λv σ H Q=>Q (σ.set i (Ab v)) H
theorem TL (U:X.N.Nodup)(hi:X.N[i]? = Ab x)(J:Loc X.env.scope x)(Y:X.fn x=true\/X.env.scope.names.lookup x=Ab .local:=by first|exact .inl rfl|exact .inr rfl|assumption):PG X (.Name x ap) (OE i):=by
 intro N s σ H v u Q I r h;exact wpAny_assign_Name (jR I U hi J r (λO G=>⟨_,H,G,h⟩) Y)
def qBc:vk:=λY σ H Q=>Y=[]/\Q σ H
def OD (t:TG)(u:vk):vk:=λJ σ H Q=>∃ v r,J=v::r/\t v σ H λY U=>u r Y U Q
theorem TM:uq X [] qBc:=by
 intro J s σ H U Y Q I r h;obtain⟨e,h⟩:=h;subst e;cases r;exact assignInOrder_nil ⟨σ,H,I,h⟩
theorem KA {t:TG}(h1:PG X e t)(h2:uq X es u)
  (hs:(Hl (e::es) X.env).map (·.2)=assign e X.env::(Hl es X.env).map (·.2):=by rfl):uq X (e::es) (OD t u):=by
 intro J s σ H T B Q I r h;obtain⟨v,L,C,h⟩:=h;subst C;cases r with
 |cons r rr =>
  rw[hs];refine Sz (bj (h1 J s σ H _ _ _ I r h) λ_ O ⟨Y,U,G,N⟩=>?_);exact h2 J O Y U _ _ Q G rr N
def qBd (K:Ak)(n:Ag)(t:vk):TG:=λv σ H Q=>∃ a Y,v=.ref a/\jp K H a Y/\Y.length=n/\t Y σ H Q
theorem HJ {k:Ag}{t:vk}{n:Ag}(E:X.calm=true)(h:uq X es t)
  (A:(Hl es X.env).length=n:=by rfl) (J:(Hl es X.env).findIdx? (·.1)=none:=by rfl):PG X (.Tuple es k ap) (qBd X.K n t):=by
 intro G s σ H v u Q I r Y;obtain⟨a,M,z,L,O,Y⟩:=Y;subst z;cases r;obtain⟨y,U,N,j⟩:=I.tuple L;refine assign_Tuple_tuple (I.ok.hd E) N (by simp[A,<- O,U.length]) J λC T=>?_
 have B:Inv X G σ H { s with heap:=C }:=I.kept (t':=s.toks) λb o e=>T b o (Ch (Ba e)) e
 exact h G _ σ H M _ Q B (by simpa using U) Y
def x5 (J N:TE)(t:VT):TG:=λv σ H Q=>J σ H λo U=>N σ U λi Y=>t o i v Y λG=>Q σ G
def _J (i j:Ag)(Q:TA):TS:=λD σ H=>Q σ H λY J=>∃ v w,Y=[v,w]/\D.nx ((σ.set i (Ab v)).set j (Ab w)) J
theorem HW {j:Ag}{a b:Bx}{M:TA}{B L U:Fb}{kt k2 pt2}(hc:X.calm=true) (u:X.N.Nodup) (hi:X.N[i]? = Ab x) (n:X.N[j]? = Ab y) (O:i≠j)
  (A:X.env.scope.names.lookup x=Ab .local) (T:X.env.scope.names.lookup y=Ab .local) (ha:PA X [a,b] M)
  (hw:Nl [.Tuple [.Name x B,.Name y L] kt U] (.Tuple [a,b] k2 pt2) X.env=pure (Ab [x,y]))
  (hs:Nm [.Tuple [.Name x B,.Name y L] kt U] (.Tuple [a,b] k2 pt2) ap.line X.env=pure false:=by rfl) :
  PS X (.Assign [.Tuple [.Name x B,.Name y L] kt U] (.Tuple [a,b] k2 pt2) ap) (_J i j M):=by
 intro z s σ H D I h;rw[exec_Assign_arm];refine Ad (Qh ?_);rw[hs];refine Ad (Am ?_);rw[Bg cz]
 refine Ad (Tuple_ (bj (ha _ z s σ H _ I h) λd Q ⟨vs,E,m,r1,C⟩=>?_));obtain⟨v,w,e1,C⟩:=C;subst e1;obtain⟨Y,J,rfl,t,G⟩:∃ Y J,d=[Y,J]/\qH v Y/\qH w J:=by
  cases r1 with
  |cons p q =>
   cases q with
   |cons r g =>
    cases g;exact⟨_,_,rfl,p,r⟩
 refine Er ?_ (by show 2<=sizeLine;decide)
 have l:Inv X z σ E { Q with heap:=Q.heap.push { cls:=.type "tuple",data:=.seq [Y,J].toArray } }:=m.kept (t':=Q.toks) λb o e=>Aj _ e
 rw[hw];refine Ad (Am ?_);show c3 X (do rule "assign.swapped-stores";let items <- unpackItems (.ref Q.heap.objs.size) 2 none;Yr [λv=>AaY X.env y v,λv=>AaY X.env x v] items.reverse;pure Flow.next) _ _ _
 refine Ad (Gu (Ad (unpackItems_tuple (items:=#[Y,J]) (I.ok.hd hc) (Aa1 Q.heap _) λh' N=>?_)));have f:=l.kept (h':=h') (t':=Q.toks) λb o e=>N b o (Ch (Ba e)) e;show Aq _ _ (Yr [λv=>AaY X.env y v,λv=>AaY X.env x v] [J,Y] >>= λ_=>pure Flow.next) _ _ _;refine Ad (Sz (wpAny_bindName (jR f u n (.inl T) G (λs2 c=>?_) (.inr T))));refine Sz (wpAny_bindName (jR c u hi (.inl A) t (λs3 k=>assignInOrder_nil (Am ?_)) (.inr A)));rw[List.set_comm _ _ (Gd O)] at k;exact⟨_,E,k,C⟩
def qB6 (i:Ag)(te:TE)(J:xk):TS:=λD σ H=>∃ x,σ[i]? = Ab (Ab x)/\te σ H λy Y=>J x y Y λz Q=>D.nx (σ.set i (Ab z)) Q
theorem HU {U:Fb}(b:X.N.Nodup)(hi:X.N[i]? = Ab x)(N:Loc X.env.scope x)(M:PE X e te)(A:A_ X op B)(T:X.fn x=true\/X.env.scope.names.lookup x=Ab .local:=by first|exact .inl rfl|exact .inr rfl|assumption) :
  PS X (.AugAssign (.Name x U) op e ap) (qB6 i te B):=by
 intro O s σ H D I h;obtain⟨v,e1,h⟩:=h;obtain⟨m,o,L⟩:=I.loc;have G:qw X.env.scope x:=by rcases N with k|k;exact .inl k;exact .inr (.inl k)
 obtain⟨u,r,l⟩:=L i x v hi e1 G;refine wpAny_AugAssign_Name ?_;have C:c3 X (eval e X.env) (λw J=>c3 X (inplaceOp op u w) (λr Y=>c3 X (storeName X.env x r) (λ_=>SP X O D .next) X.xe Y) X.xe J) X.xe s:=by
  refine bj (M O s σ H _ I h) λw q ⟨y,E,t,r1,n⟩=>?_;refine bj (A O q σ E v y u w _ t r r1 n) λz s2 ⟨zv,H2,j,f,g⟩=>?_;exact jR j b hi N f (λs3 d=>⟨_,H2,d,g⟩) T
 rcases l with⟨hk,p⟩|⟨hk,c,a,Q⟩
 .exact Ye I.ok.kind hk o p C
 .rcases hk with hk|hk
  .exact Yq I.ok.kind hk a Q C
  .rcases N with k|k
   .have:X.env.scope.names.lookup x=Ab .free:=hk
    rw[k] at this;cases this
   .have:X.env.scope.names.lookup x=Ab .free:=hk
    rw[k] at this;cases this
def ipI (f:Ah->Ah->Ah):xk:=λx y H Q=>∃ i j,x=.int i/\y=.int j/\Q (.int (f i j)) H
theorem RE:A_ X .Add (ipI λi j=>i+j):=by
 intro O s σ H x y v u Q I U J h;obtain⟨i,j,G,Y,q⟩:=h;subst G;subst Y;obtain⟨t,rfl⟩:=U;obtain⟨N,rfl⟩:=J;exact iadd_int ⟨.int _,H,I.tok _,⟨_,rfl⟩,q⟩
end
section
variable {X:Cx}{ap:Fb}
def AL (c:TT)(G:TS):TS:=λD σ H=>∃ W:Ag->St->Hp->Prop,(∃ m,W m σ H)/\∀ m σ H,W m σ H ->
 c σ H λb Y=>if b=true then ∃ N:St->Hp->Prop,(∀ Q U,N Q U->∃ J,J<m/\W J Q U)/\G { D with nx:=N,ct:=N,bk:=D.nx } σ Y else D.nx σ Y
theorem KD {k:Aa Ge}{z:TT}(hp:Tv (Ax X.prog X.w) X.A X.env X.xe)(hc:PT X c z)(l:jn X k o):PS X (.While c k [] ap) (AL z o):=by
 intro E s σ H D I h;obtain⟨W,⟨a,t⟩,U⟩:=h;refine wpAny_While (codeAny_whileLoop (λn r=>∃ J u,Inv X E J u r/\W n J u) ?_ a ⟨σ,H,I,t⟩);rintro n m ⟨Y,j,g,e⟩;refine Ka hp (bj (hc E m Y j _ g (U n Y j e)) λb d ⟨p,y,O⟩=>?_);cases b with
 |true =>
  obtain⟨N,q,O⟩:=O;rw[Bd rfl];refine Ka hp (bj (l E d Y p _ y O) λf s3 C=>?_);cases f with
  |next =>
   obtain⟨Q,G,L,A⟩:=C;obtain⟨B,T,M⟩:=q Q G A;exact⟨B,T,Q,G,L,M⟩
  |cont =>
   obtain⟨Q,G,L,A⟩:=C;obtain⟨B,T,M⟩:=q Q G A;exact⟨B,T,Q,G,L,M⟩
  |brk=>exact C
  |ret v=>exact C
 |false =>
  rw[Bg Fx];exact Rm ⟨Y,p,y,O⟩
end
structure It where
 go:Ag->Hp->Prop
 yld:Ag->Hp->V->Hp->Prop
 stop:Ag->Hp->Prop
def x9 (X:Cx)(ai:aa)(H:Hp)(b:Af):Prop:=
 H b=none/\b≠X.env.locals/\b ∉ X.fs/\(b∈X.ex\/X.s₀.heap.objs.size<=b)/\(∀ x c,X.env.cells.lookup x=Ab c->c≠b)/\∀ p∈X.pn++ai,p.1≠b
theorem Inv.fpOk {X:Cx}{σ:St}{H Y:Hp}{b:Af}(I:Inv X ai σ H s)(Q:s.heap.objs.size<=b)(J:Y b=none):x9 X ai Y b:=by
 refine⟨J,Gy (Bh I.lt Q),I.nofs Q,.inr (Ci I.sz Q),λx c e z=>?_,λp U z=>?_⟩
 .obtain⟨v,q⟩:=I.cell x c e
  exact absurd (Bh q.lt (by rw[z];exact Q)) (Eg _)
 .exact absurd (Bh (Ba (I.pin p U).1) (by rw[z];exact Q)) (Eg _)
structure kr (P:Bj)(w:Bz)(K:Ak)(tg:Bx)(J:It)(fp:ae)(it:Af)(tn:Ag->Bv->Prop):Prop where
 mem:it∈fp
 obj:∀ i h,tn i h->∀ b∈fp,∃ o,h.get? b=Ab o/\∀ v,o.data≠.cell v
 keep:∀ i h h',tn i h->(∀ b∈fp,∀ o,h.get? b=Ab o->h'.get? b=Ab o)->tn i h'
 item:∀ (X:Cx),X.prog=P->X.w=w->X.K=K->X.calm=true->∀ (i:Ag) (pins:aa) (s:Ai) (σ : St) (H:Hp) (E:ab),Inv X pins σ H s->(∀ b∈fp,x9 X pins H b)->tn i s.heap->J.go i H ->
  Aq (Ax P w) X.A (Pl (.ref it)) (λr s1=>∃ u,r=Ab u /\
   Aq (Ax P w) X.A (Ll tg (.ref it) u) (λ_ s2=>∃ x H',Inv X pins σ H' s2/\qH x u/\J.yld i H x H'/\tn (i+1) s2.heap/\∀ b∈fp,H' b=none) E s1) E s
 done:∀ (X:Cx),X.prog=P->X.w=w->X.K=K->X.calm=true->∀ (i:Ag) (pins:aa) (s:Ai) (σ : St) (H:Hp) (E:ab),Inv X pins σ H s->(∀ b∈fp,x9 X pins H b)->tn i s.heap->J.stop i H ->
  Aq (Ax P w) X.A (Pl (.ref it)) (λr s1=>r=none/\Inv X pins σ H s1) E s
 self:∀ (A:Bw) (i:Ag) (s:Ai) (Q:ab) (E:ab),tn i s.heap->Q (.ref it) s->Aq (Ax P w) A (Qi (.ref it)) Q E s
abbrev TI:=St->Hp->(It->Hp->Prop)->Prop
inductive vo (X:Cx)(pins:aa)(σ : St)(tg:Bx)(R:It->Hp->Prop)(itv:Ac)(s2:Ai):Prop
 |mk (it:Af) (fp:ae) (tn:Ag->Bv->Prop) (J:It) (H':Hp) (e:itv=.ref it) (I:Inv X pins σ H' s2) (t:kr X.prog X.w X.K tg J fp it tn) (z:tn 0 s2.heap) (f:∀ b∈fp,x9 X pins H' b) (q:R J H'):vo X pins σ tg R itv s2
def PI (X:Cx)(tg U:Bx)(J:TI):Prop:=
 ∀ (Q:aa) (s:Ai) (σ : St) (H:Hp) (R:It->Hp->Prop),Inv X Q σ H s->J σ H R ->
  c3 X (eval U X.env) (λv Y=>c3 X (Qi v) (vo X Q σ tg R) X.xe Y) X.xe s
theorem rK {M:Pq}{A:Bw}{E:ab}{s:Ai}{it:Af}{u:Ac}{Q:Wk->Ai->Prop}(J:s.heap.get? it=Ab o)(N:o.cls=.type n)(G:o.data=.fields vs)
    (U:["enumerate","zip","dict_itemiterator","dict_reverseitemiterator","odict_iterator","itertools.zip_longest","itertools.pairwise"].contains n=false) (Y:Q () s):Aq M A (Ll tg (.ref it) u) Q E s:=by
  unfold Ll;cases tg <;> first
    |exact Am Y
    |(cases u <;> first
        |exact Am Y
        | (refine Ad (wpAny_load J ?_)
           rw[N,G];show Aq M A (if (["enumerate","zip","dict_itemiterator","dict_reverseitemiterator","odict_iterator","itertools.zip_longest","itertools.pairwise"].contains n&&vs[0]? == Ab (Gq _))=true then _ else _) Q E s
           rw[Bg (by intro h;rw[U,Jp] at h;cases h)]
           exact Am Y))
def G_ (K:Ak)(a:Af):It:=
 ⟨λi H=>∃ Q x,kj K H a Q/\Q[i]? = Ab x,λi H x Y=>Y=H/\∀ Q,kj K H a Q->Q[i]? = Ab x,λi H=>∃ Q,kj K H a Q/\Q.length<=i⟩
def _h (K:Ak)(a:Af):It:=
 ⟨λi H=>∃ Q x,jp K H a Q/\Q[i]? = Ab x,λi H x Y=>Y=H/\∀ Q,jp K H a Q->Q[i]? = Ab x,λi H=>∃ Q,jp K H a Q/\Q.length<=i⟩
def xu (lo:Ah)(n:Ag):It:=⟨λi _=>i<n,λi H x Q=>Q=H/\x=.int (lo+i),λi _=>n<=i⟩
theorem sZ (a it:Af):kr P w K tg (G_ K a) [it] it (λi h=>h.IsListIter it a i) where
 mem:=by simp
 obj:=λi h st b Q=>by
  have e:b=it:=by simpa using Q
  subst e;obtain⟨o,e,c,d⟩:=st;exact⟨o,e,λv z=>by rw[d] at z;cases z⟩
 keep:=λi h U st k=>st.at λo e=>k it cy o e
 item:=by
  intro X N y A g i l s σ H E I J st j;subst N y A;obtain⟨xs,x,G,T⟩:=j;obtain⟨m,M,p,hz⟩:=I.list G;obtain⟨u,f,ru⟩:=M.get T;obtain⟨q,B,f2,C,O,L⟩:=J it cy
  refine wpAny_pyNext_list_item st p.isList (x:=u) (by simpa using f) λU Y n=>?_
  have I1:Inv X l σ H { s with heap:=U }:=I.turned (t':=s.toks) (λb o Q e=>(n.2 b Q).trans e) q B C O L
  obtain⟨o,e,c,d⟩:=id Y;exact⟨u,rfl,rK (s:={ s with heap:=U }) e c d cz ⟨x,H,I1,ru,⟨rfl,λys r=>by rw[I.list_inj r G];exact T⟩,Y,λb Q=>(J b Q).1⟩⟩
 done:=by
  intro X N y A g i l s σ H E I J st j;subst N y A;obtain⟨xs,G,T⟩:=j;obtain⟨m,M,p,hz⟩:=I.list G;obtain⟨q,B,f2,C,O,L⟩:=J it cy
  have hl:=M.length;exact wpAny_pyNext_list_end (I.ok.hd g) st p.isList (by simp;lia) λU t=>⟨rfl,I.turned (t':=s.toks) (λb o Q e=>t b o Q e) q B C O L⟩
 self:=λ_ _ _ _ _ st h=>wpAny_pyIter_listiter st h
theorem XI (a it:Af):kr P w K tg (_h K a) [it] it (λi h=>h.IsTupleIter it a i) where
 mem:=by simp
 obj:=λi h st b Q=>by
  have e:b=it:=by simpa using Q
  subst e;obtain⟨o,e,c,d⟩:=st;exact⟨o,e,λv z=>by rw[d] at z;cases z⟩
 keep:=λi h U st k=>st.at λo e=>k it cy o e
 item:=by
  intro X N q A f i g s σ H E I J st y;subst N q A;obtain⟨xs,x,G,T⟩:=y;obtain⟨M,j,p,hz⟩:=I.tuple G;obtain⟨u,r,ru⟩:=j.get T;obtain⟨l,B,f2,C,O,L⟩:=J it cy
  refine wpAny_pyNext_tuple_item st (show s.heap.IsTuple a M.toArray from p) (x:=u) (by simpa using r) λU Y n=>?_
  have I1:Inv X g σ H { s with heap:=U }:=I.turned (t':=s.toks) (λb o Q e=>(n.2 b Q).trans e) l B C O L
  obtain⟨o,e,c,d⟩:=id Y;exact⟨u,rfl,rK (s:={ s with heap:=U }) e c d cz ⟨x,H,I1,ru,⟨rfl,λys t=>by rw[I.tuple_inj t G];exact T⟩,Y,λb Q=>(J b Q).1⟩⟩
 done:=by
  intro X N q A f i g s σ H E I J st y;subst N q A;obtain⟨xs,G,T⟩:=y;obtain⟨M,j,p,hz⟩:=I.tuple G;obtain⟨l,B,f2,C,O,L⟩:=J it cy
  have hl:=j.length;exact wpAny_pyNext_tuple_end (I.ok.hd f) st (show s.heap.IsTuple a M.toArray from p) (by simp;lia) λU m=>⟨rfl,I.turned (t':=s.toks) (λb o Q e=>m b o Q e) l B C O L⟩
 self:=λ_ _ _ _ _ st h=>wpAny_pyIter_tupleiter st h
theorem XH (it:Af)(lo:Ah)(n:Ag):kr P w K tg (xu lo n) [it] it (λi h=>Xf h it (lo+(i:Ag)*1) ((n:Ah)-(i:Ag)) 1) where
 mem:=by simp
 obj:=λi h st b Q=>by
  have e:b=it:=by simpa using Q
  subst e;exact⟨_,st,λv z=>by
   have q:Data.fields _=Data.cell v:=z;cases q⟩
 keep:=λi h U st k=>k it cy _ st
 item:=by
  intro X G M L T i u s σ H E I J st A;subst G M L;obtain⟨j,C,c,O,N,B⟩:=J it cy
  have W:=Walks.range (prog:=X.prog) (w:=X.w) (I.ok.hd T) it lo 1 n;refine W.item i s _ _ A st λv U y hv Y g=>?_;obtain⟨t,rfl⟩:=hv;have l:Inv X u σ H { s with heap:=U,toks:=y }:=I.turned (λb o Q e=>g b o (by simpa using Q) e) j C O N B
  refine⟨_,rfl,rK (s:={ s with heap:=U,toks:=y }) (n:="range_iterator") Y rfl rfl cz ⟨.int (lo+i),H,l,⟨t,?_⟩,⟨rfl,rfl⟩,Y,λb Q=>(J b Q).1⟩⟩
  rw[Int.mul_one]
 done:=by
  intro X G M L T i u s σ H E I J st A;subst G M L;obtain⟨j,C,c,O,N,B⟩:=J it cy
  exact Wl (I.ok.hd T) st (by have:n<=i:=A;lia) λU p=>⟨rfl,I.turned (t':=s.toks) (λb o Q e=>p b o Q e) j C O N B⟩
 self:=λ_ _ _ _ _ st h=>Wm st h
end _L
namespace _L
variable {ai:aa}{fp:ae}{s:Ai}{H:Hp}{σ:St}
section
variable {X:Cx}{tg:Bx}
theorem cV {R:It->Hp->Prop}{E:ab}{lo hi:Ah}{t u v:Vr}{tk:Ag}(I:Inv X ai σ H s)(h1 : -(2 ^ 62)<=lo)(h2:lo<2 ^ 62)(h3 : -(2 ^ 62)<=hi)(J:hi<2 ^ 62)
  (q:R (xu lo (hi-lo).toNat) H):c3 X (Qi (.ref s.heap.objs.size)) (vo X ai σ tg R) E { s with heap:=s.heap.push { cls:=.type "range",data:=.fields #[.int lo t,.int hi u,.int 1 v] },toks:=tk }:=by
 refine Zt (AbW ..) (small_one h1 h2 h3 J) ?_;have Q:Inv X ai σ H { s with heap:=s.heap.push { cls:=.type "range",data:=.fields #[.int lo t,.int hi u,.int 1 v] },toks:=tk }:=I.kept λb o e=>Aj _ e
 refine⟨(s.heap.push { cls:=.type "range",data:=.fields #[.int lo t,.int hi u,.int 1 v] }).objs.size,[(s.heap.push { cls:=.type "range",data:=.fields #[.int lo t,.int hi u,.int 1 v] }).objs.size],_,_,H,rfl,
  Q.kept (t':=tk) λb o e=>Aj _ e,XH _ lo (hi-lo).toNat,?_,λb Y=>?_,q⟩
 .have G:lo+((0:Ag):Ah)*1=lo:=by simp
  have U:(((hi-lo).toNat:Ag):Ah)-((0:Ag):Ah)=Ir lo hi 1:=by rw[rangeSize_one];split <;> lia
  show Xf _ _ (lo+((0:Ag):Ah)*1) ((((hi-lo).toNat:Ag):Ah)-((0:Ag):Ah)) 1;rw[G,U];exact Bb _ rfl
 .have e:b=(s.heap.push { cls:=.type "range",data:=.fields #[.int lo t,.int hi u,.int 1 v] }).objs.size:=by simpa using Y
  subst e;exact Q.fpOk (Aw _) (Q.hok.fresh (Aw _))
def qB7 (C:TI)(g:TG)(B:TS):TS:=λD σ H=>C σ H λJ O=>∃ W:Ag->Ag->St->Hp->Prop,(∃ m,W 0 m σ O)/\∀ i m σ H,W i m σ H ->
 (J.stop i H/\D.nx σ H)\/(J.go i H/\∃ N:St->Hp->Prop,(∀ Q Y,N Q Y->∃ G,G<m/\W (i+1) G Q Y)/\∀ x Y,J.yld i H x Y->g x σ Y λU L=>B { D with nx:=N,ct:=N,bk:=D.nx } U L)
def vD (fp:ae)(h:Bv):Aa (Af × Cp):=fp.filterMap λb=>(h.get? b).map λo=>(b,o)
theorem uU {h:Bv}{b:Af}(Q:b∈fp)(e:h.get? b=Ab o):(b,o)∈vD fp h:=Jq.mpr ⟨b,Q,by rw[e];rfl⟩
theorem sO {p:Af × Cp}(hp:p∈vD fp h):p.1∈fp/\h.get? p.1=Ab p.2:=by
 obtain⟨b,Q,e⟩:=Jq.mp hp;cases q:h.get? b with
 |none=>rw[q] at e;cases e
 |some o =>
  rw[q] at e;have Y:(b,o)=p:=Dd e;subst Y;exact⟨Q,q⟩
theorem Inv.pinned (I:Inv X ai σ H s)(J:∀ b∈fp,x9 X ai H b)(G:∀ b∈fp,∃ o,s.heap.get? b=Ab o/\∀ v,o.data≠.cell v):Inv X (ai++vD fp s.heap) σ H s:=
 I.pins_of λp O=>(Cc.mp O).elim (λz=>I.pin p (Ce _ z)) λz=>by
  obtain⟨Q,e⟩:=sO z;obtain⟨N,U,C,_⟩:=J p.1 Q;obtain⟨o,Y,d⟩:=G p.1 Q;rw[e] at Y;cases Y;exact⟨e,N,U,C,d⟩
theorem Inv.unpinned {pl:aa}(I:Inv X (ai++pl) σ H s):Inv X ai σ H s:=I.pins_of λp Q=>I.pin p (Ce _ (Du _ Q))
inductive wq (X:Cx)(pins:aa)(fp:ae)(tn:Ag->Bv->Prop)(W:Ag->Ag->St->Hp->Prop)(n:Ag)(s':Ai):Prop
 |mk (i:Ag) (σ' : St) (H':Hp) (I:Inv X pins σ' H' s') (t:tn i s'.heap) (f:∀ b∈fp,H' b=none) (w:W i n σ' H'):wq X pins fp tn W n s'
theorem HV {ap:Fb}(hp:Tv (Ax X.prog X.w) X.A X.env X.xe)(hc:X.calm=true)(hi:PI X tg c wi)(hg:PG X tg g)(Y:jn X bo tb)
  (hs:∀ x,Gg c X.env x=pure x:=by intro _;rfl):PS X (.For tg c bo [] ap) (qB7 wi g tb):=by
 intro ai s σ H D I h;refine wpAny_For (bj (hi ai s σ H _ I h) λv s1 h1=>bj h1 λzb s2 h2=>?_) hs;obtain⟨it,fp,tn,J,H2,e,I2,T,y,f2,W,⟨m0,w0⟩,w⟩:=h2;subst e;have U:∀ {H':Hp},(∀ b∈fp,H' b=none)->∀ b∈fp,x9 X ai H' b:=λhn b Y=>⟨hn b Y,(f2 b Y).2⟩;refine codeAny_forLoop_any (wq X ai fp tn W) ?_ m0 ⟨0,σ,H2,I2,y,λb Y=>(f2 b Y).1,w0⟩;rintro n a ⟨i,G,j,t,A,M,w3⟩;rcases w i n G j w3 with⟨z,qn⟩|⟨go,N,hN,step⟩
 .refine Ka hp (bj (T.done X rfl rfl rfl hc i ai a G j X.xe t (U M) A z) λr s4 ⟨p,I4⟩=>?_)
  subst p;exact Rm ⟨G,j,I4,qn⟩
 .refine Ka hp (bj (T.item X rfl rfl rfl hc i ai a G j X.xe t (U M) A go) λr s4 ⟨u,p,h4⟩=>?_)
  subst p;refine Ka hp (bj h4 λ_ s5 ⟨x,H5,I5,r5,y5,L,q⟩=>?_);have k:=I5.pinned (U q) (T.obj _ _ L);refine Ka hp (bj (hg _ s5 G H5 x u _ k r5 (step x H5 y5)) λ_ s6 ⟨l,H6,I6,q6⟩=>?_);refine Ka hp (bj (Y _ s6 l H6 _ I6 q6) λf s7 B=>?_);have again:∀ {Q:St} {C:Hp},Inv X (ai++vD fp s5.heap) Q C s7->N Q C->∃ m,m<n/\wq X ai fp tn W m s7:=λ{Q C} O E=>by
   obtain⟨m',hm,w7⟩:=hN Q C E;refine⟨m',hm,i+1,Q,C,O.unpinned,T.keep _ _ _ L λb Y o e=>(O.pin (b,o) (Ce _ (Ce _ (uU Y e)))).1,λb Y=>?_,w7⟩;obtain⟨o,e,d⟩:=T.obj _ _ L b Y;exact(O.pin (b,o) (Ce _ (Ce _ (uU Y e)))).2.1
  cases f with
  |next=>obtain⟨Q,C,O,E⟩:=B;exact again O E
  |cont=>obtain⟨Q,C,O,E⟩:=B;exact again O E
  |brk=>obtain⟨Q,C,O,B⟩:=B;exact⟨Q,C,O.unpinned,B⟩
  |ret v=>obtain⟨x7,Q,C,O,r7,B⟩:=B;exact⟨x7,Q,C,O.unpinned,r7,B⟩
end
end _L
namespace _L
variable {us:ah}{f:Ac->Ac->Kt Ac}{g:Ah->Ah->Ah}
abbrev R2:=V->V->Hp->VK->Prop
def ma (X:Cx)(f:Ac->Ac->Kt Ac)(r:R2):Prop:=
 ∀ (Y:aa) (s:Ai) (σ : St) (H:Hp) (x y:V) (v u:Ac) (Q:VK),Inv X Y σ H s->qH x v->qH y u->r x y H Q ->
  c3 X (f v u) (EP X Y σ Q) X.xe s
def _b (X:Cx)(f:Ac->Kt Ac)(r:V->Hp->VK->Prop):Prop:=
 ∀ (Y:aa) (s:Ai) (σ : St) (H:Hp) (x:V) (v:Ac) (Q:VK),Inv X Y σ H s->qH x v->r x H Q ->
  c3 X (f v) (EP X Y σ Q) X.xe s
def gS (X:Cx)(f:Ac)(r:Aa V->Hp->VK->Prop):Prop:=
 ∀ (Y:aa) (s:Ai) (σ : St) (H:Hp) (J:Aa V) (us:ah) (Q:VK),Inv X Y σ H s->qI J us->r J H Q ->
  c3 X (call f us) (EP X Y σ Q) X.xe s
def qBJ (X:Cx)(r:V->Hp->(Ar->Hp->Prop)->Prop):Prop:=
 ∀ (Y:aa) (s:Ai) (σ : St) (H:Hp) (x:V) (v:Ac) (Q:Ar->Hp->Prop),Inv X Y σ H s->qH x v->r x H Q ->
  c3 X (truthy v) (TP X Y σ Q) X.xe s
def _q (r:R2)(Y J:TE):TE:=λσ H Q=>Y σ H λx G=>J σ G λy U=>r x y U Q
def rI (C:Ah->Ah->Prop)(g:Ah->Ah->V):R2:=λx y H Q=>∃ i j,x=.int i/\y=.int j/\C i j/\Q (g i j) H
def ud (g:Ah->Ah->V):R2:=λx y H Q=>∃ i j,x=.int i/\y=.int j/\Q (g i j) H
def rU (g:Ah->V):V->Hp->VK->Prop:=λx H Q=>∃ i,x=.int i/\Q (g i) H
section
variable {X:Cx}{a b:Bx}{ta tb:TE}
theorem qBP (w:PE X a ta)(O:PE X b tb){ai:aa}{s:Ai}{σ : St}{H:Hp}{R:V->V->Hp->Prop}(I:Inv X ai σ H s)
  (h:ta σ H λx N=>tb σ N λy Y=>R x y Y) {Q:ab} {f:Ac->Ac->Kt Ac}
  (C:∀ v u G x y Y,Inv X ai σ Y G->qH x v->qH y u->R x y Y->c3 X (f v u) Q X.xe G) :
  c3 X (eval a X.env) (λv J=>c3 X (eval b X.env) (λu U=>c3 X (f v u) Q X.xe U) X.xe J) X.xe s:=by
 refine bj (w ai s σ H _ I h) λv L ⟨x,N,A,z,M⟩=>?_;refine bj (O ai L σ N _ A M) λu G ⟨y,Y,B,E,T⟩=>?_;exact C v u G x y Y B z E T
theorem xb {f:Ac->Ac->Kt Ac}{C:Ah->Ah->Prop}
  (rule:∀ (i j:Ah) (t u:Vr) (s:Ai) (Q:ab) (E:ab),C i j->Q (.int (g i j) s.toks) { s with toks:=s.toks+1 } -> c3 X (f (.int i t) (.int j u)) Q E s) :
  ma X f (rI C λi j=>.int (g i j)):=by
 intro N s σ H x y v u Q I J U h;obtain⟨i,j,rfl,rfl,G,q⟩:=h;obtain⟨t,rfl⟩:=J;obtain⟨Y,rfl⟩:=U;exact rule i j t Y s _ _ G ⟨.int (g i j),H,I.tok _,⟨_,rfl⟩,q⟩
theorem EZ {f:Ac->Ac->Kt Ac}
  (rule:∀ (i j:Ah) (t u:Vr) (s:Ai) (Q:ab) (E:ab),Q (.int (g i j) s.toks) { s with toks:=s.toks+1 } -> c3 X (f (.int i t) (.int j u)) Q E s) :
  ma X f (ud λi j=>.int (g i j)):=by
 intro G s σ H x y v u Q I J U h;obtain⟨i,j,rfl,rfl,q⟩:=h;obtain⟨t,rfl⟩:=J;obtain⟨Y,rfl⟩:=U;exact rule i j t Y s _ _ ⟨.int (g i j),H,I.tok _,⟨_,rfl⟩,q⟩
theorem X3 {g:Ah->Ah->Ar}
  (rule:∀ (i j:Ah) (t u:Vr) (s:Ai) (Q:ab) (E:ab),Q (.bool (g i j)) s->c3 X (f (.int i t) (.int j u)) Q E s) :
  ma X f (ud λi j=>.bl (g i j)):=by
 intro G s σ H x y v u Q I J U h;obtain⟨i,j,rfl,rfl,q⟩:=h;obtain⟨t,rfl⟩:=J;obtain⟨Y,rfl⟩:=U;exact rule i j t Y s _ _ ⟨.bl (g i j),H,I,rfl,q⟩
def qBF (i j:Ah):Prop:=0<j/\j<1073741824
def LM (i j:Ah):Prop:=0<=j/\j<=1000000/\i.natAbs<2 ^ 64
def QL (i j:Ah):Prop:=(-(2 ^ 64)<i/\i<2 ^ 64)\/(-(2 ^ 64)<j/\j<2 ^ 64)
theorem QL.ok (h:QL i j):IntMulOk i j:=by
 rcases h with⟨Q,Y⟩|⟨Q,Y⟩
 .exact .of_left (intBits_le_64 Q Y)
 .exact .of_right (intBits_le_64 Q Y)
theorem H0:ma X (En .Add) (ud λi j=>.int (i+j)):=EZ λ_ _ _ _ _ _ _ q=>add_int q
theorem HD:ma X (En .Sub) (ud λi j=>.int (i-j)):=EZ λ_ _ _ _ _ _ _ q=>sub_int q
theorem HA:ma X (En .Mult) (rI QL λi j=>.int (i*j)):=xb λ_ _ _ _ _ _ _ Q q=>mul_int q Q.ok
theorem TC:ma X (En .FloorDiv) (rI qBF λi j=>.int (i/j)):=xb λi j _ _ _ _ _ Q q=>by
 have Y:(0:Ah)<j:=Q.1;have J:j<1073741824:=Q.2;exact floordiv_int li (by rw[Nc i li];exact q) (.inl (Lm li))
theorem H9:ma X (En .Mod) (rI (λ_ j=>0<j) λi j=>.int (i % j)):=xb λi j _ _ _ _ _ Q q=>by
 have Y:(0:Ah)<j:=Q;exact mod_int' li (by rw[Tg i li];exact q)
theorem HB:ma X (En .Pow) (rI LM λi j=>.int (i ^ j.toNat)):=xb λ_ _ _ _ _ _ _ Q q=>pow_int_small Q.1 Q.2.1 Q.2.2 q
theorem HC:ma X (En .LShift) (rI LM λi j=>.int (i*2 ^ j.toNat)):=xb λ_ _ _ _ _ _ _ Q q=>lshift_int_small Q.1 Q.2.1 Q.2.2 q
theorem _o {f:Ac->Kt Ac}{g:Ah->Ah}
  (rule:∀ (i:Ah) (t:Vr) (s:Ai) (Q:ab) (E:ab),Q (.int (g i) s.toks) { s with toks:=s.toks+1 } -> c3 X (f (.int i t)) Q E s) :
  _b X f (rU λi=>.int (g i)):=by
 intro J s σ H x v Q I Y h;obtain⟨i,rfl,q⟩:=h;obtain⟨t,rfl⟩:=Y;exact rule i t s _ _ ⟨.int (g i),H,I.tok _,⟨_,rfl⟩,q⟩
theorem AW:_b X (AaE .USub) (rU λi=>.int (-i)):=_o λ_ _ _ _ _ q=>neg_int q
end
section
variable {X:Cx}{b:Bx}
theorem R5 {σ:St}{Q:VK}{k Y:Ar}(I:Inv X ai σ H s)(q:Q (.bl k) H)(e:k=Y):EP X ai σ Q (.bool Y) s:=by
 subst e;exact⟨.bl k,H,I,rfl,q⟩
theorem qAQ:ma X (Di .Lt) (ud λi j=>.bl (decide (i<j))):=X3 λ_ _ _ _ _ _ _ q=>lt_int q
theorem qAP:ma X (Di .LtE) (ud λi j=>.bl (decide (i<=j))):=X3 λ_ _ _ _ _ _ _ q=>le_int q
theorem qAO:ma X (Di .Gt) (ud λi j=>.bl (decide (j<i))):=X3 λ_ _ _ _ _ _ _ q=>gt_int q
theorem qAN:ma X (Di .GtE) (ud λi j=>.bl (decide (j<=i))):=X3 λ_ _ _ _ _ _ _ q=>ge_int q
theorem H8:ma X (Di .Is) (λx y H Q=>y=.non/\Q (.bl (decide (x=.non))) H):=by
 intro U s σ H x y v u Q I Y J h;obtain⟨rfl,q⟩:=h;cases J;refine is_none_gen (R5 I q ?_);cases x <;> first
  |(cases Y;rfl)
  |(obtain⟨t,rfl⟩:=Y;rfl)
theorem ma.or (h:ma X f r)(h':ma X f Y):ma X f (λx y H Q=>r x y H Q\/Y x y H Q):=by
 intro J s σ H x y v u Q I U G q;rcases q with q|q
 .exact h J s σ H x y v u Q I U G q
 .exact h' J s σ H x y v u Q I U G q
theorem bS (b:Bx){op:Ys}(h:op≠.In:=by decide)(h2:op≠.NotIn:=by decide):Nn op b=false:=by
 have Y:(op == CmpOp.In)=false:=by cases op <;> first|rfl|exact absurd rfl h
 have Q:(op == CmpOp.NotIn)=false:=by cases op <;> first|rfl|exact absurd rfl h2
 cases b <;> simp[Nn,Y,Q]
def QX (K:Ak)(x:V)(H:Hp)(k:Ar):Prop:=
 match x with
 |.non=>k=false
 |.bl b=>k=b
 |.int i=>k=(i != 0)
 |.str y=>y.length<=sizeLine/\k=((y.length:Ah) != 0)
 |.byt y=>y.size<=sizeLine/\k=((y.size:Ah) != 0)
 |.ref p=>(∃ Q,kj K H p Q/\k=!Q.isEmpty)\/(∃ Q,jp K H p Q/\k=!Q.isEmpty)\/∃ Y,H p=Ab (.dK Y)/\k=!Y.isEmpty
 |_=>Fk
theorem ZL {κ:Type}{kvs:Aa (κ × V)}{vs:Aa (κ × Ac)}(r:KV kvs vs):(!vs.isEmpty)=!kvs.isEmpty:=by
 cases r <;> rfl
theorem nH (r:qI xs am):(!am.toArray.isEmpty)=!xs.isEmpty:=by
 cases r <;> simp
theorem bR:(sizeLine:Ag)<2 ^ 63:=by rw[Fy];decide
theorem f9:qBJ X (λx H Q=>∃ k,QX X.K x H k/\Q k H):=by
 intro M s σ H x v Q I N h;obtain⟨k,e,q⟩:=h;have A:=bR;have hs:sizeLine=16777216:=Fy;cases x with
 |non =>
  cases N;have Y:k=false:=e;subst Y;exact truthy_none ⟨H,I,q⟩
 |bl b =>
  cases N;have Y:k=b:=e;subst Y;exact wpAny_truthy_bool ⟨H,I,q⟩
 |int i =>
  obtain⟨t,rfl⟩:=N;have Y:k=(i != 0):=e;subst Y;exact PySem.P.truthy_int ⟨H,I,q⟩
 |str y =>
  obtain⟨t,rfl⟩:=N;obtain⟨T,Y⟩:y.length<=sizeLine/\k=((y.length:Ah) != 0):=e;subst Y;exact PySem.P.truthy_str li ⟨H,I.tok _,q⟩
 |byt y =>
  obtain⟨t,rfl⟩:=N;obtain⟨T,Y⟩:y.size<=sizeLine/\k=((y.size:Ah) != 0):=e;subst Y;exact PySem.W.truthy_bytes li ⟨H,I.tok _,q⟩
 |ref p =>
  cases N;have Y:(∃ G,kj X.K H p G/\k=!G.isEmpty)\/(∃ G,jp X.K H p G/\k=!G.isEmpty)\/∃ J,H p=Ab (.dK J)/\k=!J.isEmpty:=e;rcases Y with⟨G,O,Y⟩|⟨G,O,Y⟩|⟨J,O,Y⟩
  .subst Y
   obtain⟨E,r,pl,B⟩:=I.list O;have U:=r.length;exact wpAny_truthy_list pl.isList (by simp only[Bn];lia) ⟨H,I.tok _,by rw[nH r];exact q⟩
  .subst Y
   obtain⟨E,r,pl,B⟩:=I.tuple O;have U:=r.length;exact truthy_tuple pl (by simp only[Bn];lia) ⟨H,I.tok _,by rw[nH r];exact q⟩
  .subst Y
   obtain⟨B,L,C,r,m⟩:J.length<=sizeLine/\(p == Jw)=false/\∃ C,KV J C/\s.heap.DictOf (zI X.prog X.w) p C:=I.hok p _ O;have U:J.length=C.length:=Paired.length r;exact wpAny_truthy_dict L m li ⟨H,I.tok _,by rw[ZL r];exact q⟩
 |_=>exact(show Fk from e).elim
theorem X4:ma X (En .Add) (λx y H Q=>∃ i j,x=.str i/\y=.str j/\i.length+j.length<=sizeLine/\Q (.str (i++j)) H):=by
 intro O s σ H x y v u Q I J G h;obtain⟨i,j,rfl,rfl,U,q⟩:=h;obtain⟨t,rfl⟩:=J;obtain⟨Y,rfl⟩:=G;exact add_str (λY N=>⟨.str (i++j),H,I.tok _,⟨_,rfl⟩,q⟩) U
theorem pW {x:V}(r:qI [x] us):∃ u,us=[u]/\qH x u:=by
 cases r with
 |cons Y Q=>cases Q;exact⟨_,rfl,Y⟩
theorem XJ {x y:V}(r:qI [x,y] us):∃ u Q,us=[u,Q]/\qH x u/\qH y Q:=by
 cases r with
 |cons U J =>
  cases J with
  |cons G Y=>cases Y;exact⟨_,_,rfl,U,G⟩
theorem dS:gS X (.type "int") (λxs H Q=>(∃ i,xs=[.int i]/\Q (.int i) H)\/∃ k,xs=[.bl k]/\Q (.int (if k then 1 else 0)) H):=by
 intro J s σ H xs us Q I r h;rcases h with⟨i,rfl,q⟩|⟨k,rfl,q⟩
 .obtain⟨u,rfl,t,rfl⟩:=pW r
  exact call_int_int ⟨.int i,H,I,⟨_,rfl⟩,q⟩
 .obtain⟨u,rfl,Y⟩:=pW r
  cases Y;exact call_int_bool ⟨.int (if k then 1 else 0),H,I.tok _,⟨_,rfl⟩,q⟩
def LO (K:Ak)(x:V)(H:Hp)(n:Ag):Prop:=
 match x with
 |.str y=>y.length<=sizeLine/\n=y.length
 |.byt y=>y.size<=sizeLine/\n=y.size
 |.ref p=>(∃ Q,kj K H p Q/\n=Q.length)\/∃ Q,jp K H p Q/\n=Q.length
 |_=>Fk
theorem VZ:gS X (.builtin "len") (λxs H Q=>∃ x n,xs=[x]/\LO X.K x H n/\Q (.int n) H):=by
 intro T s σ H xs us Q I r h;obtain⟨x,n,rfl,e,q⟩:=h;obtain⟨u,rfl,G⟩:=pW r;have L:=bR;have hs:sizeLine=16777216:=Fy;cases x with
 |str y =>
  obtain⟨t,rfl⟩:=G;obtain⟨O,J⟩:y.length<=sizeLine/\n=y.length:=e;subst J;exact len_str li ⟨.int _,H,I.tok _,⟨_,rfl⟩,q⟩
 |byt y =>
  obtain⟨t,rfl⟩:=G;obtain⟨O,J⟩:y.size<=sizeLine/\n=y.size:=e;subst J;exact PySem.W.len_bytes li ⟨.int _,H,I.tok _,⟨_,rfl⟩,q⟩
 |ref p =>
  cases G;have J:(∃ xs,kj X.K H p xs/\n=xs.length)\/∃ xs,jp X.K H p xs/\n=xs.length:=e;rcases J with⟨xs,U,J⟩|⟨xs,U,J⟩
  .subst J
   obtain⟨C,N,pl,B⟩:=I.list U;have Y:=N.length;exact Calls.call_len_list pl.isList (by simp only[Bn];lia) ⟨.int xs.length,H,I.tok _,⟨_,by simp only[Bn];rw[Y]⟩,q⟩
  .subst J
   obtain⟨C,N,pl,B⟩:=I.tuple U;have Y:=N.length;exact len_tuple pl (by simp only[Bn];lia) ⟨.int xs.length,H,I.tok _,⟨_,by simp only[Bn];rw[Y]⟩,q⟩
 |_=>exact(show Fk from e).elim
end
end _L
namespace _L
variable {mA:ag}
structure wp (h:Bv)(x dx C:Af)(mA:ag):Prop where
 obj:h.get? x=Ab (Wj C dx)
 ns:h.Ns1 dx mA
 ne:dx≠x
set_option tactic.hygienic true in
theorem Y4 {h:Bv}(n:h.Ns1 J mA):∃ Y,h.get? J=Ab Y/\∀ name,Xy name Y=Ab (mA name):=by
 obtain⟨o,U,T,N,B,C,_,O⟩:=n;refine⟨o,N,λname=>?_⟩;have e:=O name;unfold nsFind findBy at e;rw[<- Array.find?_toList] at e;unfold Xy;rw[B];dsimp only
 split
 .rename_i y q
  rw[q] at e;exact congrArg Ab e
 .rename_i q
  rw[q] at e;have a:U.toList.any (·.refKey)=false:=by
   rw[List.any_eq_false];intro y G;obtain⟨z,t,Q⟩:=C y (Rg.mp G);simp[DictEntry.refKey,Q]
  have L:¬ U.toList.any (·.refKey)=true:=by rw[a];exact Fx
  rw[Bg L];exact congrArg Ab e
theorem wp.look (I:wp h x Y C mA):∃ Q,PySem.W.InstAt h x (Wj C Y) C (Ab Q)/\∀ name,Xy name Q=Ab (mA name):=
 let ⟨Q,U,J⟩:=Y4 I.ns
 ⟨Q,⟨I.obj,rfl,rfl,U⟩,J⟩
theorem vK.some_of (r:vK (Ab v) o):∃ u,o=Ab u/\qH v u:=by
 cases o with
 |none=>exact(show Fk from r).elim
 |some u=>exact⟨u,rfl,r⟩
section
variable {P:Bj}{w:Bz}{H:Hp}{h:Bv}{a C dx:Af}{fs:Aa (As × V)}
theorem FY (Q:gz P w H h)(e:H a=Ab (.ins C dx fs)):∃ mA,wp h a dx C mA/\(∀ f,vK (fs.lookup f) (mA f))/\AbR mA (fs.map (·.1))/\fs.length<=1000/\H dx=Ab (.own a):=by
 obtain⟨d,z,J,Y,mA,n,r,q⟩:=(show zJ P w H h a (.ins C dx fs) from Q a _ e)
 exact⟨mA,⟨Y,n,J⟩,r,q,z,d⟩
end
structure N_ (K:Ak)(C:Af):Prop where
 pg:AaF K C Str.empty=true
 hd:PySem.W.hasDictIn K C=true
 po:PySem.W.plainOver K C=true
 sa:Pm K (.ref C) "__setattr__" = Ab (Ab (.builtin "object.__setattr__"))
theorem N_.get {K:Ak}(c:N_ K C)(f:As):AaF K C f=true:=c.pg
section
variable {X:Cx}{ai:aa}{σ: St}{H:Hp}{s:Ai}{A:Bw}{E:ab}{Q:ab}{c:Ac}{b:Ar}
inductive jt (K:Ak)(H:Hp):V->Ac->Prop where
 |non:jt K H .non (.type "NoneType")
 |bl (x:Ar):jt K H (.bl x) (.type "bool")
 |int (i:Ah):jt K H (.int i) (.type "int")
 |str (x:As):jt K H (.str x) (.type "str")
 |flt (x:UInt64):jt K H (.flt x) (.type "float")
 |lst {a:Af} {xs:Aa V} (e:H a=Ab (.lst xs)):jt K H (.ref a) (.type "list")
 |frz {a:Af} {o:Cp} {xs:Aa V} (e:H a=Ab (.frz o (.lst xs))):jt K H (.ref a) (.type "list")
 |tup {a:Af} {xs:Aa V} (e:H a=Ab (.tup xs)):jt K H (.ref a) (.type "tuple")
 |dK {a:Af} {kvs:Aa (be × V)} (e:H a=Ab (.dK kvs)):jt K H (.ref a) (.type "dict")
 |dT {a:Af} {kvs:Aa (Aa be × V)} (e:H a=Ab (.dT kvs)):jt K H (.ref a) (.type "dict")
 |ins {a C dx:Af} {fs:Aa (As × V)} (e:H a=Ab (.ins C dx fs)) (cl:N_ K C) (ha:Pm K (.ref C) "__class__" = Ab (Ab (.builtin "object.__class__")))
   (hn:Aa2 K (.builtin "object.__class__") "__get__" = Ab (Ab (.builtin "getset_descriptor.__get__"))) (htk:AaZ K (.builtin "object.__class__")=Ab true)
   (hm:Yt K C (.type "object")=Ab true):jt K H (.ref a) (.ref C)
theorem WV {u t:Ac}(I:Inv X ai σ H s)(U:qH x u)(ty:jt X.K H x t)(e:Mr X.K t c=Ab b)(h:∀ tk,Q (.bool b) { s with toks:=tk }) :
  Aq (Ax X.prog X.w) A (call (.builtin "isinstance") [u,c]) Q E s:=by
 cases ty with
 |non=>cases (show u=Dr from U);exact Fg PySem.W.kitx_none I.kIn Jx e (λz=>nomatch z) h
 |bl y=>cases (show u=Nk y from U);exact Fg PySem.W.kitx_bool I.kIn Jx e (λz=>nomatch z) h
 |int i=>obtain⟨t,q⟩:=(show ∃ t,u=Ts i t from U);cases q;exact Fg PySem.W.kitx_int I.kIn Jx e (λz=>nomatch z) h
 |str y=>obtain⟨t,q⟩:=(show ∃ t,u=Aa0 y t from U);cases q;exact Fg PySem.W.kitx_str I.kIn Jx e (λz=>nomatch z) h
 |flt y=>obtain⟨t,q⟩:=(show ∃ t,u=Value.float y t from U);cases q;exact Fg PySem.W.kitx_float I.kIn Jx e (λz=>nomatch z) h
 |@lst a B Y =>
  cases (show u=Cw a from U)
  obtain⟨_,_,n,_,G⟩:=(show zJ X.prog X.w H s.heap a (.lst B) from I.hok a _ Y)
  exact Fg Tw I.kIn ⟨_,G,rfl⟩ e (λz=>nomatch z) h
 |@frz a d B Y =>
  cases (show u=Cw a from U)
  obtain⟨_,_,_,n,_,G⟩:=(show zJ X.prog X.w H s.heap a (.frz d (.lst B)) from I.hok a _ Y)
  exact Fg Tw I.kIn ⟨_,G,rfl⟩ e (λz=>nomatch z) h
 |@tup a B Y =>
  cases (show u=Cw a from U)
  obtain⟨_,_,_,p⟩:=(show zJ X.prog X.w H s.heap a (.tup B) from I.hok a _ Y)
  obtain⟨o,G,L,_⟩:=p;exact Fg Zu I.kIn ⟨o,G,L⟩ e (λz=>nomatch z) h
 |@dK a N Y =>
  cases (show u=Cw a from U)
  obtain⟨_,_,f,_,p⟩:=(show zJ X.prog X.w H s.heap a (.dK N) from I.hok a _ Y)
  obtain⟨o,g,w,G,L,_⟩:=p;exact Fg Aa3 I.kIn ⟨o,G,L.1⟩ e (λz=>nomatch z) h
 |@dT a N Y =>
  cases (show u=Cw a from U)
  obtain⟨_,_,B,_,o,g,w,G,L,_⟩:=(show zJ X.prog X.w H s.heap a (.dT N) from I.hok a _ Y)
  exact Fg Aa3 I.kIn ⟨o,G,L.1⟩ e (λz=>nomatch z) h
 |@ins a C r m Y M j k T l =>
  cases (show u=Cw a from U)
  obtain⟨mA,O,_⟩:=FY I.hok Y;obtain⟨v,J,_⟩:=O.look;exact Fg (PySem.W.kitx_own (M.get _) M.hd j k T l) I.kIn J e (λz=>nomatch z) h
end
end _L
namespace _L
variable {ps:Aa As}{f:Af}{K:Ak}{mg:ag}{kindOf:As->Al Ig}{P:Bj}{A:Bw}{w:Bz}{ak:Em}
structure ip (k:Ag)(A:Bw):Prop where
 hd:A.handled=none
 dp:A.depth+3*k+5<Sk
 un:A.units+16*k+200<EQ
 gd:A.guards=Ab []
theorem ip.mono {j k:Ag}(r:ip k A)(h:j<=k):ip j A:=⟨r.hd,by have:=r.dp;lia,by have:=r.un;lia,r.gd⟩
theorem ip.deeper {k:Ag}(r:ip (k+1) A)(aj:Jf):ip k (A.deeper aj):=
 ⟨r.hd,by have:=r.dp;show A.depth+1+3*k+5<_;lia,by have:=r.un;show A.units+3+16*k+200<_;lia,r.gd⟩
theorem ip.depth {k:Ag}(r:ip k A):A.depth<Sk:=by have:=r.dp;lia
theorem ip.units {k:Ag}(r:ip k A):A.units+64<EQ:=by have:=r.un;lia
def _M:TA:=λ_ H Q=>Q [] H
section
variable {X:Cx}{e:Bx}{es:Aa Bx}{t:TA}{ap:Fb}
theorem HE:PA X [] _M:=λ_ _ _ _ H Q I h=>Pr ⟨[],H,I,.nil,h⟩
def _G (t:TA):TE:=λσ H Q=>t σ H λY J=>Y.length<=sizeLine/\∀ p,J p=none->Q (.ref p) (bv J p (.tup Y))
def qB9 (t:TA):TE:=λσ H Q=>t σ H λY J=>Y.length<=sizeLine/\∀ p,J p=none->Q (.ref p) (bv J p (.lst Y))
theorem HI  (h:PA X es t):PE X (.Tuple es x1 ap) (_G t):=by
 intro O s σ H Q I C;refine wpAny_Tuple_spliced (bj (h ap O s σ H _ I C) λN Y ⟨B,J,U,r,z,q⟩=>⟨by rw[<- r.length];exact z,?_⟩)
 have G:J Y.heap.objs.size=none:=U.hok.fresh (Aw _);refine⟨.ref Y.heap.objs.size,bv J Y.heap.objs.size (.tup B),U.laid (t':=Y.toks) (λb u e=>Aj _ e) (Aw _) ?_,rfl,q _ G⟩;exact⟨z,N,r,⟨_,Bb _ rfl,rfl,_,rfl⟩⟩
theorem YO (h:PA X es t):PE X (.List es ap) (qB9 t):=by
 intro O s σ H Q I C;refine wpAny_List_spliced (bj (h ap O s σ H _ I C) λN Y ⟨B,J,U,r,z,q⟩=>⟨by rw[<- r.length];exact z,?_⟩)
 have G:J Y.heap.objs.size=none:=U.hok.fresh (Aw _);refine⟨.ref Y.heap.objs.size,bv J Y.heap.objs.size (.lst B),U.laid (t':=Y.toks) (λb u e=>Aj _ e) (Aw _) ?_,rfl,q _ G⟩;exact⟨z,N,0,r,Bb _ rfl⟩
end
abbrev Sp:=Aa V->Hp->VK->XK->Prop
abbrev vy:=Aa Jf->Hp->Ai->XK->Ac->Ai->Prop
variable {CX:vy}
structure ni (P:Bj)(w:Bz)(K:Ak)(mg:ag)(base:Bv)(A:Bw)(outer:Aa Jf)(s:Ai)(H:Hp):Prop where
 frames:A.frames=Ab outer
 mod:Mod K mg base
 bs:∀ b o,base.get? b=Ab o->s.heap.get? b=Ab o/\H b=none
 bsz:base.objs.size<=s.heap.objs.size
 funs:s.heap.FunFrames base outer
 frf:∀ b∈ir outer,H b=none
 hok:gz P w H s.heap
 bare:Qg s.gens
def CE (J:Aa Jf)(P:Bj)(w:Bz)(H:Hp)(s:Ai)(Q:VK)(u:Ac)(s':Ai):Prop:=
 ∃ v Y,s'.os=s.os/\Qg s'.gens/\Un (ir J) [] H Y s.heap s'.heap/\gz P w Y s'.heap/\qH v u/\Q v Y
def CR (CX:vy)(Y:Aa Jf)(P:Bj)(w:Bz)(H:Hp)(s:Ai)(Q:VK)(E:XK)(r:Result)(s':Ai):Prop:=
 match r with
 |.ok (.ret u)=>CE Y P w H s Q u s'
 |.ok _=>Fk
 |.error e=>CX Y H s E e s'
structure md (P:Bj)(w:Bz)(K:Ak)(mg:ag)(base:Bv)(CX:vy)(k:Ag)(f:Af)(fd:Fv)(ps:Aa As)(sp:Sp):Prop where
 len:∀ vs H Q E,sp vs H Q E->vs.length=ps.length
 run:∀ (A:Bw) (outer:Aa Jf) (s:Ai) (H:Hp) (args:Args) (us:ah) (vs:Aa V) (Q:VK) (E:XK),ip k A->ni P w K mg base A outer s H->Qj s fd args (ps.zip us)->qI vs us->sp vs H Q E ->
  Jr (Ax P w) A (.call (.ref f) args) (CR CX outer P w H s Q E) s
theorem md.mono {base:Bv}{j k:Ag}(F:md P w K mg base CX j f fd ps sp)(h:j<=k) :
  md P w K mg base CX k f fd ps sp:=⟨F.len,λA G s H Y J N Q E U=>F.run A G s H Y J N Q E (U.mono h)⟩
section
variable {X:Cx}{ai:aa}{σ: St}{H:Hp}{s s':Ai}
theorem Inv.env0 (I:Inv X ai σ H s):ni X.prog X.w X.K X.mg X.base X.A X.stack s H:=
 ⟨I.ok.frames,I.ok.mod,I.bs,Ci I.ok.bsz I.sz,I.stack,I.stkFree,I.hok,I.bare⟩
theorem Inv.after (I:Inv X ai σ H s)(h:CE X.stack X.prog X.w H s Q u s'):EP X ai σ Q u s':=by
 obtain⟨v,O,os,Y,G,U,r,q⟩:=h;obtain⟨N,g,d,t,J⟩:=s';obtain rfl:J=s.os:=os;exact⟨v,O,I.call (h':=N) (g':=g) (d':=d) (t':=t) (ch:=[]) G U Y (λb z=>absurd z cy),r,q⟩
end
def vZ (K:Ak)(fd:Fv)(ps:Aa As)(Y:ah):Prop:=
 ∀ (s:Ai) (Q:ah),K.In s.heap->(Q++Y).length=ps.length->Qj s fd ⟨Q,[]⟩ (ps.zip (Q++Y))
theorem vZ.all (h:∀ us:Aa Ac,us.length=ps.length->Wn fd ⟨us,[]⟩=pure (ps.zip us)):vZ K fd ps []:=λs us _ Q=>by
 rw[Gm] at Q ⊢;exact .of_eq (h us Q)
structure cj (N P:Aa As)(sc:Em):Prop where
 kind:sc.kind=.function
 co:sc.isCoroutine=false
 gen:sc.isGenerator=false
 nd:N.Nodup
 pre:N.take P.length=P
 par:∀ x∈P,sc.names.lookup x=Ab .local \/ sc.names.lookup x=Ab .cell
 nofree:∀ y∈sc.names,y.2≠.free
theorem dQ {x:As}:∀ {Q:Aa (As × Ac)} {m:ag},(∀ v,(x,v) ∉ Q)->Yu kindOf Q m x=m x
 |[],_,_=>rfl
 |(n,v)::r,m,h=>by
  unfold Yu;rw[dQ λw Y=>h w (Ap _ Y)]
  split
  .have:x≠n:=by rintro rfl;exact h v Bc
   simp[this]
  .rfl
theorem dO {x:As}:∀ {Q:Aa (As × Ac)} {m:ag},(∀ v,(x,v) ∉ Q)->Yv kindOf Q m x=m x
 |[],_,_=>rfl
 |(n,v)::r,m,h=>by
  unfold Yv;rw[dO λw Y=>h w (Ap _ Y)]
  split
  .rfl
  .have:x≠n:=by rintro rfl;exact h v Bc
   simp[this]
theorem dP:∀ {P:Aa As} {vs:ah} {i:Ag} {m:ag},P.Nodup->P[i]? = Ab x->vs[i]? = Ab v->kindOf x=Ab .local ->
  Yu kindOf (P.zip vs) m x=Ab v
 |[],_,_,_,_,h,_,_=>by simp at h
 |_::_,[],_,_,_,_,h,_=>by simp at h
 |p::P,w::vs,0,m,J,Q,Y,U=>by
  simp at Q Y;subst Q;subst Y;show Yu kindOf ((p,w)::P.zip vs) m p=_;unfold Yu;rw[dQ λv hv=>(Dj.mp J).1 (Oa hv).1,Bd U];simp
 |p::P,w::vs,i+1,m,J,Q,Y,U=>by
  show Yu kindOf ((p,w)::P.zip vs) m x=_;unfold Yu;exact dP (i:=i) (Dj.mp J).2 (by simpa using Q) (by simpa using Y) U
theorem dN:∀ {P:Aa As} {vs:ah} {i:Ag} {m:ag},P.Nodup->P[i]? = Ab x->vs[i]? = Ab v->kindOf x≠Ab .local ->
  Yv kindOf (P.zip vs) m x=Ab v
 |[],_,_,_,_,h,_,_=>by simp at h
 |_::_,[],_,_,_,_,h,_=>by simp at h
 |p::P,w::vs,0,m,J,Q,Y,U=>by
  simp at Q Y;subst Q;subst Y;show Yv kindOf ((p,w)::P.zip vs) m p=_;unfold Yv;rw[dO λv hv=>(Dj.mp J).1 (Oa hv).1,Bg U];simp
 |p::P,w::vs,i+1,m,J,Q,Y,U=>by
  show Yv kindOf ((p,w)::P.zip vs) m x=_;unfold Yv;exact dN (i:=i) (Dj.mp J).2 (by simpa using Q) (by simpa using Y) U
def xR (N:Aa As)(vs:Aa V):St:=vs.map Ab++Dx (N.length-vs.length) none
noncomputable def lF (CX:vy)(P:Bj)(w:Bz)(K:Ak)(mg:ag)(base:Bv)(N:Aa As)(Y:As)(ak:Em)(f:Af)(cd:Ac)(A:Bw)(J:Aa Jf)(s:Ai)(H:Hp)(E:XK):Cx where
 prog:=P
 w:=w
 K:=K
 mg:=mg
 base:=base
 A:=A.deeper (Gs Y ak s.heap.objs.size f cd)
 N:=N
 s₀:=s
 H₀:=H
 env:=Gs Y ak s.heap.objs.size f cd
 outer:=J
 stack:=Gs Y ak s.heap.objs.size f cd::J
 ex:=[]
 calm:=true
 fn:=λ_=>true
 pn:=[]
 xe:=λe G=>Aq (Ax P w) (A.deeper (Gs Y ak s.heap.objs.size f cd)) (leaving (Gs Y ak s.heap.objs.size f cd) e) (λ_ Q=>CX J H s E e Q) (λU Q=>CX J H s E U Q) G
theorem eB {Q:Em}(h:Q.names.lookup x=Ab .cell):∃ c,(HT n Q.names []).lookup x=Ab c:=by
 have q:=Ln Q.names n [] (.inl h);exact Kq.mp q
theorem sD {base:Bv}{N:Aa As}{C:As}{cd:Ac}{L:Aa Jf}{s I:Ai}{H:Hp}{E:XK}{us:ah}{vs:Aa V}
  (S:cj N ps ak) (o:A.handled=none) (Y:ni P w K mg base A L s H) (d:vs.length=ps.length) (r:qI vs us)
  (x:InCallC s s.heap.objs.size (Yu (Gs C ak s.heap.objs.size f cd).kindOf (ps.zip us) λ_=>none) (HT (s.heap.objs.size+1) ak.names []) (Yv (Gs C ak s.heap.objs.size f cd).kindOf (ps.zip us) λ_=>none) I) :
  Inv (lF CX P w K mg base N C ak f cd A L s H E) [] (xR N vs) H I:=by
 have j:ps.length<=N.length:=by have:=congrArg Qk S.pre;rw[Fl] at this;lia
 obtain⟨O,t,rfl,M⟩:=x.done;have J:∀ b:Af,b ∉ (lF CX P w K mg base N C ak f cd A L s H E).ex:=λb z=>absurd (show b∈([]:ae) from z) cy
 refine⟨⟨Y.mod,S.kind,rfl,rfl,Aw _,λy z c O Q=>?_,λy hy=>?_,λy c _ h=>?_,λ_=>o,Rh Y.frames,.inr ⟨rfl,rfl⟩,λb z=>absurd z (J b),Y.bs,Y.bsz,λb _ _=>J b,λb z=>absurd z (J b),Y.funs,Y.frf⟩,
  rfl,Y.bare,Un.kept M,⟨_,x.toInCall.ns,λi y v O Q m=>?_⟩,λy c h=>⟨_,x.cell y c h⟩,Y.hok.fresh (Aw _),λy c h=>?_,λp U=>absurd (show p∈([]:aa) from U) cy,Y.hok.kept M,?_⟩
 .exact name_of_addr x.apart (Fm O) (Fm Q)
 .have hy:ak.names.lookup y=Ab .cell\/ak.names.lookup y=Ab .free:=hy
  rcases hy with hy|hy
  .exact eB hy
  .exact absurd rfl (S.nofree _ (Fm hy))
 .exact Ef (x.above y c (Fm h))
 .have B:i<vs.length:=by
   unfold xR at Q;by_cases B:i<vs.length
   .exact B
   .rw[Ct (by simpa using B)] at Q
    rw[Pc] at Q
    split at Q <;> cases Q
  have g:vs[i]? = Ab v:=by
   unfold xR at Q;rw[Bk (by simpa using B),Dp] at Q
   cases e:vs[i]? with
   |none=>rw[e] at Q;cases Q
   |some a=>rw[e] at Q;cases Q;rfl
  obtain⟨u,T,l⟩:=r.get g;have U:ps[i]? = Ab y:=by
   rw[<- S.pre,Om li];exact O
  have G:ps.Nodup:=by rw[<- S.pre];exact S.nd.sublist (List.take_sublist _ _)
  refine⟨u,l,?_⟩;rcases S.par y (Cf U) with k|k
  .exact .inl ⟨k,dP G U T k⟩
  .obtain⟨c,e⟩:=eB (n:=s.heap.objs.size+1) k
   refine .inr ⟨.inl k,c,e,?_⟩;have q:=x.cell y c e;rw[dN G U T (by show ak.names.lookup y≠_;rw[k];decide)] at q
   exact q
 .exact Y.hok.fresh (Ef (x.above y c (Fm h)))
 .unfold xR
  show _=N.length;rw[Cu,Ao,Xg]
  lia
theorem OC {base:Bv}{k:Ag}{name C:As}{bf:Ro}{d:Aa Ge}{dV kV T pm Y ct oc:Ac}{h od:Al Af}
  {g:Ay (Al Ac)} {N ps:Aa As} {sp:Sp} (lk:K.lookup f=Ab ⟨oc,od,.func (Gz name C bf d ak dV kV T pm h Y ct),g⟩) (l:Ms K Y C=true) (S:cj N ps ak)
  (M:∀ vs H Q E,sp vs H Q E->vs.length=ps.length)
  (B:∀ (A:Bw) (L:Aa Jf) (s:Ai) (H:Hp) (vs:Aa V) (Q:VK) (E:XK),ip k (A.deeper (Gs C ak s.heap.objs.size f Y))->sp vs H Q E ->
   ∃ t,jn (lF CX P w K mg base N C ak f Y A L s H E) d t/\t { nx:=λ_ G=>Q .non G,rt:=Q } (xR N vs) H) :
  md P w K mg base CX (k+1) f (Gz name C bf d ak dV kV T pm h Y ct) ps sp:=by
 refine⟨M,λA L s H zb us vs Q E m j hb r z=>?_⟩;have hl:=M _ _ _ _ z;have a:K.In s.heap:=j.mod.kin.keeps λb o e=>(j.bs b o e).1;have bq:s.heap.NoLimit:=j.mod.nolimit.keeps λb o e=>(j.bs b o e).1;have O:∀ y∈ps.zip us,ak.names.lookup y.1=Ab .local \/ (ak.names.lookup y.1=Ab .cell/\((HT (s.heap.objs.size+1) ak.names []).lookup y.1).isSome=true):=λ⟨n,v⟩ hy=>by
  rcases S.par n (Oa hy).1 with q|q
  .exact .inl q
  .exact .inr ⟨q,Ln _ _ _ (.inl q)⟩
 refine Xh m.depth (a _ _ lk) rfl S.co S.gen rfl (Zv a l) (hb _ _ _ _ ?_);refine Th S.kind O λaj he s1 x=>?_;subst he;refine⟨bq.keeps x.toInCall.keep,codeAny_func ?_⟩;obtain⟨t,ht,hq⟩:=B A L s H vs Q E (m.deeper _) z;have I:Inv (lF CX P w K mg base N C ak f Y A L s H E) [] (xR N vs) H s1:=sD S m.hd j hl r x;refine Hk (ht [] s1 (xR N vs) H _ I hq) (λfl c hs=>?_) λe c hs=>hs;have p:∀ {U : St} {G:Hp} {v:V} {u:Ac},Inv (lF CX P w K mg base N C ak f Y A L s H E) [] U G c->qH v u->Q v G->CE L P w H s Q u c:=
  λ{U G v u} J i q=>⟨v,G,J.os,J.bare,J.base,J.hok,i,q⟩
 cases fl with
 |ret u =>
  obtain⟨v,U,G,J,i,q⟩:=hs;exact p J i q
 |next =>
  obtain⟨U,G,J,q⟩:=hs;exact p (v:=V.non) (u:=Dr) J rfl q
 |brk =>
  obtain⟨_,_,_,q⟩:=hs;exact Au q
 |cont =>
  obtain⟨_,_,_,q⟩:=hs;exact Au q
end _L
namespace _H
variable {Q:ab}{lo hi:Al Ah}{items:Ay Ac}
noncomputable def lexLt:Aa Ah->Aa Ah->Ar
 |[],[]=>false
 |[],_::_=>true
 |_::_,[]=>false
 |x::Y,y::J=>if x=y then lexLt Y J else decide (x<y)
theorem cq (x y:Ah)(xs Y:Aa Ah):lexLt (x::xs) (y::Y)=if x=y then lexLt xs Y else decide (x<y):=rfl
theorem r9:lexLt [] []=false:=rfl
theorem lZ (y:Ah)(Y:Aa Ah):lexLt [] (y::Y)=true:=rfl
theorem lY (x:Ah)(xs:Aa Ah):lexLt (x::xs) [] = false:=rfl
theorem UV (A:Bw)(s:Ai)(a:Ah)(t:Vr)(c:Ah)(u:Vr):∃ e,SeqAt.EqAt A s (.int a t) (.int c u) e/\(e=true↔a=c):=
 ⟨(a == c),SeqAt.EqAt.int_int a t c u,by simp⟩
theorem KY (A:Bw)(s:Ai)(a:Ah)(t:Vr)(c:Ah)(u:Vr)(prog:Bj)(w:Bz)(E:ab)(Q:ab)(h:Q (.bool (decide (a<c))) s) :
  Aq (Ax prog w) A (richCompare .Lt (.int a t) (.int c u)) Q E s:=
 (Yw h:Aq (Ax prog w) A (Di .Lt (.int a t) (.int c u)) Q E s)
section
open PySem.SeqAt
open PySem.AutoSeq1 (wpAny_loadPart')
open PySem.MeetsSeq PySem.MeetsSeq2 PySem.MeetsSeq3
theorem rB (l b:Af)(items Y:Ay Ac)(n n2:Ag)(dd f:Al Af)(sl r:Ay (Al Ac))(p k:Aa Ah)(hi:Ku items.toList p)(hj:Ku Y.toList k) :
  Meets (Kv.«tuple.__lt__» ⟨[.ref l,.ref b],[]⟩)
   (λ_ R s=>s.heap.get? l=Ab { cls:=.type "tuple",dict:=dd,data:=.seq items n,slots:=sl } /\ s.heap.get? b=Ab { cls:=.type "tuple",dict:=f,data:=.seq Y n2,slots:=r } /\
    R (.ok (.ret (.bool (lexLt p k)))) s):=
 .of_wp λL w A R s h=>by
  obtain⟨o,g,d,z,os⟩:=s;obtain⟨hl,hb,h⟩:=h;have f2:=AutoSeq1.sub_tuple_tuple;have z1:items.size=p.length:=by rw[<- hi.length];simp
  have z2:Y.size=k.length:=by rw[<- hj.length];simp
  wp_walk using wpAny_loadPart' hl,wpAny_loadPart' hb,Kw _ (λqD b i=>b.1=none/\i=⟨o,g,d,z,os⟩/\∃ (v j:ah) (U G:Aa Ah),qD=v.zip j /\
   Ku v U/\Ku j G/\U.length+Y.size=G.length+items.size/\R (.ok (.ret (.bool (lexLt U G)))) ⟨o,g,d,z,os⟩) _
  case turn =>
   rintro⟨y,x⟩ qD b i ⟨E,rfl,v,j,U,G,O,T,N,J,B⟩;cases T with
   |nil=>rw[List.zip_nil_left] at O;cases O
   |cons a t M =>
    cases N with
    |nil=>rw[List.zip_nil_right] at O;cases O
    |cons c u H =>
     rw[Ta] at O;injection O with zb I
     injection zb with hy hx
     subst hy hx;rw[cq] at B;simp only[By] at J;obtain⟨e,he,C⟩:=UV A.in1 ⟨o,g,d,z,os⟩ a t c u;refine Ad (he L w _ _ ?_);cases e with
     |true =>
      rw[Bd (C.mp rfl)] at B
      wp_walk
      exact⟨rfl,rfl,_,_,_,_,I,M,H,by lia,B⟩
     |false =>
      rw[Bg (λq=>absurd (C.mpr q) Fx)] at B;have m:=KY A.in1 ⟨o,g,d,z,os⟩ a t c u L w
      wp_walk using m
      exact⟨_,rfl,by simpa using B⟩
  case fin =>
   rintro⟨b1,b2⟩ i ⟨E,rfl,v,j,U,G,O,T,N,J,B⟩;simp only at E;subst E;have hv:lexLt U G=decide (items.size<Y.size):=by
    cases T with
    |nil =>
     cases N with
     |nil =>
      simp only[Hs] at J;rw[r9];exact(Cs li).symm
     |cons c u hw =>
      simp only[Hs,By] at J;rw[lZ];exact(Co li).symm
    |cons a t hv =>
     cases N with
     |nil =>
      simp only[Hs,By] at J;rw[lY];exact(Cs li).symm
     |cons c u hw =>
      rw[Ta] at O;cases O
   rw[hv] at B
   wp_walk
   exact⟨_,rfl,by simpa [Builtin.Tuple.tupleCompareSizes] using B⟩
  case h =>
   exact⟨rfl,rfl,items.toList,Y.toList,p,k,rfl,hi,hj,by lia,h⟩
end
section
variable {prog:Bj}{w:Bz}{A:Bw}{E:ab}{s:Ai}
theorem ol {l b:Af}(z:Vs s.heap l items)(M:Vs s.heap b Y)(hi:Ku items.toList U)(q:Ku Y.toList J)
  (j:A.units<EQ) (h:Q (.bool (lexLt U J)) s):Aq (Ax prog w) A (Di .Lt (.ref l) (.ref b)) Q E s:=by
 obtain⟨⟨cls,y,data,k⟩,L,I,n,T⟩:=id z;obtain⟨⟨H,C,data2,B⟩,O,G,u,N⟩:=id M;simp only at I T G N;subst I T G N;exact richCompare_meets_room (op:=.Lt) ⟨_,L,rfl⟩ ⟨_,O,rfl⟩ PySem.F.slot_tuple_lt PySem.F.entry_tuple_lt (PySem.F.args_tuple_lt_2 _ _) (rB l b items Y n u y C k B U J hi q)
  ⟨L,O,show Nk (lexLt U J)≠Value.notImplemented/\Q (.bool (lexLt U J)) s from⟨(λx=>nomatch x),h⟩⟩ j
theorem uo {t b:Af}{vs Y:ah}(y:Vs s.heap t vs.toArray)(j:Vs s.heap b Y.toArray)(hv:vs≠[])
  (h1:Y=[]->Q (.ref t) s) (h2:Y≠[]->Q (.ref s.heap.objs.size) { s with heap:=s.heap.push { cls:=.type "tuple",data:=.seq (vs++Y).toArray } })
  (hsz:vs.length+Y.length<=sizeLine):Aq (Ax prog w) A (En .Add (.ref t) (.ref b)) Q E s:=by
 obtain⟨⟨cls,L,data,I⟩,C,M,n,T⟩:=id y;obtain⟨⟨z,U,data2,G⟩,J,N,H,O⟩:=id j;simp only at M T N O;subst M T N O;have e:vs.toArray++Y.toArray=(vs++Y).toArray:=by simp
 by_cases B:Y=[]
 .exact sK ⟨_,C,rfl⟩ ⟨_,J,rfl⟩ Vc Yx Pz Pd (On _ _)
   (tuple_addW1 t b vs.toArray Y.toArray n H L U I G (by simpa using hv) (by simp[B])) ⟨C,J,h1 B⟩
 .refine sK ⟨_,C,rfl⟩ ⟨_,J,rfl⟩ Vc Yx Pz Pd (On _ _)
   (tuple_addW2 t b vs.toArray Y.toArray n H L U I G (by simpa using hv) (by simpa using B) (by rw[Bn,Bn];exact hsz)) ⟨C,J,?_⟩
  rw[e];exact h2 B
noncomputable def cc (n d:Ag):Al Ah->Ag
 |none=>d
 |some v=>if v<0 then (v+(n:Ah)).toNat else min v.toNat n
theorem rj (n d:Ag):cc n d none=d:=rfl
theorem t_ (n d k:Ag):cc n d (Ab (k:Ah))=min k n:=by
 show (if (k:Ah)<0 then ((k:Ah)+(n:Ah)).toNat else min (k:Ah).toNat n)=min k n
 rw[Bg li,Gh]
theorem A8 (n d:Ag)(Y:d<=n)(o:Al Ah):cc n d o<=n:=by
 cases o with
 |none=>exact Y
 |some v =>
  show (if v<0 then (v+(n:Ah)).toNat else min v.toNat n)<=n
  by_cases hv:v<0
  .rw[Bd hv];lia
  .rw[Bg hv];exact Nat.min_le_right _ _
theorem iM (v:Ah)(n d:Ag):(if v<0 then max (v+(n:Ah)) 0 else min v (n:Ah))=((cc n d (Ab v):Ag):Ah):=by
 show (if v<0 then max (v+(n:Ah)) 0 else min v (n:Ah))=(((if v<0 then (v+(n:Ah)).toNat else min v.toNat n):Ag):Ah)
 by_cases hv:v<0
 .simp only[Bd hv];lia
 .simp only[Bg hv];lia
theorem QZ (lo hi:Al Ah)(n:Ag):No lo hi 1 (n:Ah)=(((cc n 0 lo:Ag):Ah),((cc n n hi:Ag):Ah)):=by
 have Y:¬ ((1:Ah)<0):=by lia
 unfold No;simp only[Y,Dv];refine Fc ?_ ?_
 .cases lo with
  |none=>rfl
  |some v=>exact iM v n 0
 .cases hi with
  |none=>rfl
  |some v=>exact iM v n n
theorem X6 (i j:Ag):Kg (i:Ah) (j:Ah) 1=j-i:=by
 unfold Kg;have Y:(1:Ah)>0:=by lia
 simp only[Y,Dq,Int.ediv_one]
 split <;> lia
theorem nY {Q:Al Ah->Ai->Prop}(p:Ti v o)(h:Q o s):Aq (Ax prog w) A (Builtin.Slice.slicePartIndex v) Q E s:=by
 cases p with
 |none=>exact slicePart_none h
 |int i t=>exact slicePart_int h
theorem jO {n:Ag}{Q:Ah × Ah × Ag->Ai->Prop}(hs:s.heap.IsSliceOf N U G .none)(pl:Ti U lo)(C:Ti G hi)
  (h:Q (((cc n 0 lo:Ag):Ah),1,cc n n hi-cc n 0 lo) s):Aq (Ax prog w) A (Tj (.ref N) (pure (n:Ah))) Q E s:=by
 obtain⟨os,Y,O,J⟩:=id hs;unfold Tj Builtin.Slice.sliceFields;refine Ad (Ad (Eo Y J (x:=U) rfl (Ad (Eo Y J (x:=G) rfl (Ad (Eo Y J (x:=.none) rfl (Am ?_)))))));refine Ad (slicePart_none ?_);show Aq _ _ (if ((1:Ah) == 0)=true then _ else _) _ _ s
 rw[Bg cz]
 refine Ad (nY pl (Ad (nY C (Ad (Am ?_)))));show Aq _ _ (match No lo hi 1 (n:Ah) with|(lo,hi)=>pure (lo,(1:Ah),Kg lo hi 1)) _ _ s
 rw[QZ lo hi n];show Aq _ _ (pure (((cc n 0 lo:Ag):Ah),(1:Ah),Kg ((cc n 0 lo:Ag):Ah) ((cc n n hi:Ag):Ah) 1)) _ _ s;rw[X6];exact Am h
theorem KB (xs:Ay Ac)(i k:Ag):((Cd k).filterMap λ(m:Ag)=>xs[((i:Ah)+(m:Ah)*1).toNat]?).toArray=((xs.toList.drop i).take k).toArray:=by
 have e:(λ(m:Ag)=>xs[((i:Ah)+(m:Ah)*1).toNat]?)=λm=>xs[i+m]?:=by
  funext m
  have:((i:Ah)+(m:Ah)*1).toNat=i+m:=by lia
  rw[this]
 rw[e];have:=pick_run xs i k;rw[List.filterMap_map] at this;have Y:((λx=>xs[x]?)∘λx=>i+x)=λm=>xs[i+m]?:=rfl;rw[Y] at this;rw[this]
theorem jc {t N:Af}(J:Vs s.heap t items)(hs:s.heap.IsSliceOf N B L .none)(pl:Ti B lo)(I:Ti L hi)
  (hw:¬ (cc items.size 0 lo=0/\cc items.size items.size hi=items.size))
  (h:Q (.ref s.heap.objs.size) { s with heap:=s.heap.push { cls:=.type "tuple",data:=.seq ((items.toList.drop (cc items.size 0 lo)).take (cc items.size items.size hi-cc items.size 0 lo)).toArray } })
  (hsz:items.size<=sizeLine):Aq (Ax prog w) A (Pe (.ref t) (.ref N)) Q E s:=by
 have Y:sizeOk (.seq ((items.toList.drop (cc items.size 0 lo)).take (cc items.size items.size hi-cc items.size 0 lo)).toArray):=by
  show ((items.toList.drop (cc items.size 0 lo)).take (cc items.size items.size hi-cc items.size 0 lo)).toArray.size<=sizeLine;rw[Bn,Fl,Nd,Bq]
  lia
 have M:cc items.size items.size hi<=items.size:=A8 _ _ (Aw _) hi;obtain⟨os,G,U,T⟩:=id hs;have O:s.TypeIs (.ref N) "slice":=⟨os,G,U⟩;unfold Pe
 try with_reducible refine Fn ?_
 first|refine Ad (Am ?_)|skip
 refine Ad (wpAny_sequenceKey J.typeIs cz ?_)
 refine Ad (El (name:=Iu "__getitem__") J.typeIs Fo
  (Eh Fo J.typeIs Yy ?_ (Zw _ _)))
 show Aq _ _ (Ng (.ref t) >>= _) _ _ s;refine Ad (tupleItemsOf_ J ?_);refine Ad (Mx O ?_);rw[Bd cz]
 refine Ad (jO hs pl I ?_);have C:¬ ((((cc items.size 0 lo:Ag):Ah) == 0&&(1:Ah) == 1&&(cc items.size items.size hi-cc items.size 0 lo) == items.size)=true):=by
  intro q;rw[AT,AT] at q;have z:((cc items.size 0 lo:Ag):Ah)=0:=eq_of_beq q.1.1;have H:cc items.size items.size hi-cc items.size 0 lo=items.size:=eq_of_beq q.2;exact hw ⟨by lia,by lia⟩
 show Aq _ _ (if (((cc items.size 0 lo:Ag):Ah) == 0&&(1:Ah) == 1&&(cc items.size items.size hi-cc items.size 0 lo) == items.size)=true then _ else _) _ _ s
 rw[Bg C,KB]
 first
  |exact Ad (m:=Kr _) (Er (Am ⟨_,rfl,Am h⟩) Y)
  |exact Ad (m:=Kr _) (Er (Ad (Am (Am ⟨_,rfl,Am h⟩))) Y)
  |exact Ad (Ad (m:=Kr _) (Er (Am (Am ⟨_,rfl,Am h⟩)) Y))
  |exact Ad (Ad (m:=Kr _) (Er (Am ⟨_,rfl,Am h⟩) Y))
end
end _H
namespace _L
abbrev TO:=St->Hp->(Al Ah->Hp->Prop)->Prop
def PO (X:Cx)(e:Al Bx)(t:TO):Prop:=
 ∀ (J:aa) (s:Ai) (σ : St) (H:Hp) (Q:Al Ah->Hp->Prop),Inv X J σ H s->t σ H Q ->
  c3 X (evalPart e X.env) (λu U=>∃ o Y,Inv X J σ Y U/\Ti u o/\Q o Y) X.xe s
def NY:TO:=λ_ H Q=>Q none H
def qAq (t:TE):TO:=λσ H Q=>t σ H λx Y=>∃ i,x=.int i/\Q (Ab i) Y
theorem pF {Q:Aa Ah}:∀ {us:ah},qI (Q.map V.int) us->Ku us Q:=by
 induction Q with
 |nil=>intro us r;rw[t0] at r;cases r;exact .nil
 |cons n Q J =>
  intro us r;rw[De] at r;cases r with
  |cons U Y =>
   obtain⟨t,e⟩:=U;subst e;exact .cons n t (J Y)
section
variable {X:Cx}{e:Bx}{te:TE}{lo hi:Al Bx}{tl th:TO}{ap p2:Fb}
theorem TQ:PO X none NY:=by
 intro Y s σ H Q I h;rw[evalPart_none];exact Am ⟨none,H,I,.none,h⟩
theorem TR (h:PE X e te):PO X (Ab e) (qAq te):=by
 intro J s σ H Q I N;rw[evalPart_some];refine bj (h J s σ H _ I N) λu C ⟨x,Y,U,O,G⟩=>?_;obtain⟨i,rfl,q⟩:=G;obtain⟨t,rfl⟩:=O;exact⟨Ab i,Y,U,.int i t,q⟩
def vn (X:Cx)(r:V->Al Ah->Al Ah->Hp->VK->Prop):Prop:=
 ∀ (U:aa) (s:Ai) (σ : St) (H:Hp) (x:V) (v Y G:Ac) (lo hi:Al Ah) (J:Af) (Q:VK),Inv X U σ H s->qH x v->s.heap.IsSliceOf J Y G .none->Ti Y lo->Ti G hi->r x lo hi H Q ->
  ∃ T id,typeLookup (.type T) "__getitem__" = pure (Ab (.builtin id))/\s.TypeIs v T/\c3 X (Pe v (.ref J)) (EP X U σ Q) X.xe s
theorem vn.or {r C:V->Al Ah->Al Ah->Hp->VK->Prop}(h:vn X r)(h':vn X C):vn X (λx lo hi H Q=>r x lo hi H Q\/C x lo hi H Q):=by
 intro G s σ H x v J O lo hi U Q I N hs pl Y q;rcases q with q|q
 .exact h G s σ H x v J O lo hi U Q I N hs pl Y q
 .exact h' G s σ H x v J O lo hi U Q I N hs pl Y q
def _p (r:V->Al Ah->Al Ah->Hp->VK->Prop)(te:TE)(tl th:TO):TE:=λσ H Q=>te σ H λx J=>tl σ J λl Y=>th σ Y λu U=>r x l u U Q
theorem K9 {r:V->Al Ah->Al Ah->Hp->VK->Prop}(f:vn X r)(k:PE X e te)(C:PO X lo tl)(O:PO X hi th):PE X (.Subscript e (.Slice lo hi none p2) ap) (_p r te tl th):=by
 intro J s σ H Q I h;refine Subscript_ (bj (k J s σ H _ I h) λv p ⟨x,B,w,y,j⟩=>?_);refine wpAny_Slice (bj (C J p σ B _ w j) λU z ⟨l,t,L,pl,A⟩=>bj (O J z σ t _ L A) λG Y ⟨u,N,M,E,c⟩=>?_);rw[evalPart_none];refine Am ?_;have g:Inv X J σ N { Y with heap:=Y.heap.push { cls:=.type "slice",data:=.fields #[U,G,.none] } }:=M.kept (t':=Y.toks) λb n q=>Aj _ q
 obtain⟨T,id,o,d,m⟩:=f J { Y with heap:=Y.heap.push { cls:=.type "slice",data:=.fields #[U,G,.none] } } σ N x v U G l u Y.heap.objs.size Q g y (AbY ..) pl E c
 show c3 X (Tx e (.Slice lo hi none p2) v (.ref Y.heap.objs.size)) (EP X J σ Q) X.xe { Y with heap:=Y.heap.push { cls:=.type "slice",data:=.fields #[U,G,.none] } }
 exact tail_any (ops:=[.ref Y.heap.objs.size,v]) d o m (by with_unfolding_all rfl)
def bJ (xs:Aa V)(lo hi:Al Ah):Aa V:=(xs.drop (_H.cc xs.length 0 lo)).take (_H.cc xs.length xs.length hi-_H.cc xs.length 0 lo)
theorem mC (xs:Aa V)(lo hi:Al Ah):(bJ xs lo hi).length<=xs.length:=by
 unfold bJ;rw[Fl,Nd]
 lia
def qB3 (K:Ak):V->Al Ah->Al Ah->Hp->VK->Prop:=λx lo hi H Q=>∃ a Y,x=.ref a/\jp K H a Y /\
 ¬ (_H.cc Y.length 0 lo=0/\_H.cc Y.length Y.length hi=Y.length)/\∀ p,H p=none->Q (.ref p) (bv H p (.tup (bJ Y lo hi)))
theorem AC:vn X (qB3 X.K):=by
 intro M s σ H x v E w lo hi A Q I B hs pl C h;obtain⟨a,J,rfl,N,L,q⟩:=h;cases B;obtain⟨O,r,U,G⟩:=I.tuple N;have Y:O.toArray.size=J.length:=by rw[Bn];exact r.length.symm
 refine⟨"tuple",_,Fo.lookup,U.typeIs,?_⟩;refine _H.jc U hs pl C (by rw[Y];exact L) ?_ (by rw[Y];exact G)
 rw[Y];refine⟨.ref s.heap.objs.size,_,I.laid (t':=s.toks) (o:=.tup (bJ J lo hi)) (λb T q=>Aj _ q) (Aw _) ?_,rfl,q _ (I.hok.fresh (Aw _))⟩;exact⟨Ci (mC J lo hi) G,_,(r.drop (_H.cc J.length 0 lo)).take (_H.cc J.length J.length hi-_H.cc J.length 0 lo),Aa1 _ _⟩
end
end _L
namespace _L
variable {ai:aa}{s:Ai}{H:Hp}{σ:St}
noncomputable def og (n:Ag)(i:Ah):Al Ag:=if 0<=i then (if i<n then Ab i.toNat else none) else if -(n:Ah)<=i then Ab (i+n).toNat else none
def mi {α:Type}(xs:Aa α)(i:Ah):Al α:=(og xs.length i).bind λj=>xs[j]?
theorem oC (h:og n i=Ab j):Aa4 i n=Ab j/\j<n /\ -(n:Ah)<=i/\i<n:=by
 unfold og at h;by_cases Y:0<=i
 .rw[Bd Y] at h
  by_cases Q:i<n
  .rw[Bd Q] at h
   have e:i.toNat=j:=Dd h;exact⟨by rw[AaG Y Q,e],by lia,by lia,Q⟩
  .rw[Bg Q] at h;cases h
 .rw[Bg Y] at h
  by_cases Q : -(n:Ah)<=i
  .rw[Bd Q] at h
   have e:(i+n).toNat=j:=Dd h;exact⟨by rw[seqIndex_neg li Q,e],by lia,Q,by lia⟩
  .rw[Bg Q] at h;cases h
theorem iJ {α:Type}{xs:Aa α}{v:α}(h:mi xs i=Ab v):∃ j,Aa4 i xs.length=Ab j/\xs[j]? = Ab v/\j<xs.length /\ -(xs.length:Ah)<=i/\i<xs.length:=by
 unfold mi at h;cases e:og xs.length i with
 |none=>rw[e] at h;cases h
 |some j =>
  rw[e] at h;obtain⟨Y,U,Q,J⟩:=oC e;exact⟨j,Y,h,U,Q,J⟩
def lC (b:Bx):Prop:=∀ o i,subscripted b false o i=operate [o,i] (Pe o i)
def vq (X:Cx)(r:R2):Prop:=
 ∀ (J Y:Bx) (ai:aa) (s:Ai) (σ : St) (H:Hp) (x y:V) (v u:Ac) (Q:VK),Inv X ai σ H s->qH x v->qH y u->r x y H Q ->
  subscripted Y false v u=operate [v,u] (Pe v u)->c3 X (Tx J Y v u) (EP X ai σ Q) X.xe s
def xp (X:Cx)(id:Et)(r:V->Aa V->Hp->VK->Prop):Prop:=
 ∀ (ai:aa) (s:Ai) (σ : St) (H:Hp) (x:V) (J:Aa V) (v:Ac) (Y:ah) (Q:VK),Inv X ai σ H s->qH x v->qI J Y->r x J H Q ->
  c3 X (call (.builtin id) (v::Y)) (EP X ai σ Q) X.xe s
section
variable {X:Cx}{a b:Bx}{ta tb:TE}{ap:Fb}
theorem vq.or (h:vq X r)(h':vq X N):vq X (λx y H Q=>r x y H Q\/N x y H Q):=by
 intro Y J ai s σ H x y v u Q I U G q hs;rcases q with q|q
 .exact h Y J ai s σ H x y v u Q I U G q hs
 .exact h' Y J ai s σ H x y v u Q I U G q hs
theorem xp.or {id:Et}{r U:V->Aa V->Hp->VK->Prop}(h:xp X id r)(h':xp X id U):xp X id (λx xs H Q=>r x xs H Q\/U x xs H Q):=by
 intro ai s σ H x xs v Y Q I J rs q;rcases q with q|q
 .exact h ai s σ H x xs v Y Q I J rs q
 .exact h' ai s σ H x xs v Y Q I J rs q
theorem qAT (G:vq X r)(N:PE X a ta)(Y:PE X b tb)(hs:lC b):PE X (.Subscript a b ap) (_q r ta tb):=by
 intro ai s σ H Q I h;exact Subscript_ (qBP N Y I h λv u J x y B O U C q=>G a b ai J σ B x y v u Q O U C q (hs _ _))
def _N (K:Ak):R2:=λx y H Q=>∃ p Y i v,x=.ref p/\y=.int i/\kj K H p Y/\mi Y i=Ab v/\Q v H
def qB0 (K:Ak):R2:=λx y H Q=>∃ p Y i v,x=.ref p/\y=.int i/\jp K H p Y/\mi Y i=Ab v/\Q v H
theorem oD:vq X (_N X.K):=by
 intro U O ai s σ H x y v u Q I o g h hs;obtain⟨p,n,i,z,rfl,rfl,l,T,q⟩:=h;cases o;obtain⟨t,rfl⟩:=g;obtain⟨k,r,pl,m⟩:=I.list l;obtain⟨j,J,M,f,E,A⟩:=iJ T;obtain⟨w,B,G⟩:=r.get M;have L:=r.length;have d:=bR;have Y:EP X ai σ Q w s:=⟨z,H,I,G,q⟩;by_cases C:0<=i
 .have N:i.toNat=j:=by
   rw[AaG C A] at J;exact Dd J
  exact item_listR pl.isList C li (by rw[N];simpa using B) Y hs
 .have N:(i+(k.toArray.size:Ah)).toNat=j:=by
   rw[seqIndex_neg li E] at J;rw[Bn,<- L];exact Dd J
  exact Wp (x:=w) pl.isList.typeIs slot_list_getitem.lookup
   (wpAny_getItem_list_neg (Q:=λr c=>r=w/\EP X ai σ Q r c) pl.isList li (by rw[Bn] <;> lia) li (by rw[N];simpa using B) ⟨rfl,Y⟩) hs
theorem RL:vq X (qB0 X.K):=by
 intro J G ai s σ H x y v u Q I L A h hs;obtain⟨p,f,i,z,rfl,rfl,T,C,q⟩:=h;cases L;obtain⟨t,rfl⟩:=A;obtain⟨g,r,pl,d⟩:=I.tuple T;obtain⟨j,O,B,c,o,l⟩:=iJ C;obtain⟨w,E,U⟩:=r.get B;have N:=r.length;have k:=bR;have Y:EP X ai σ Q w s:=⟨z,H,I,U,q⟩;exact Wp (x:=w) pl.typeIs slot_tuple_getitem.lookup
  (getItem_tuple (j:=j) (Q:=λr M=>r=w/\EP X ai σ Q r M) pl li li (by rw[Bn,<- N];exact O) (by simpa using E) ⟨rfl,Y⟩) hs
theorem ZU (am:ah)(n j:Ag)(u:Ac):Fd (·.setIfInBounds j u) { cls:=.type "list",data:=.seq am.toArray n } = { cls:=.type "list",data:=.seq (am.set j u).toArray n }:=by
 simp[Fd]
theorem Inv.lst {p:Af}{xs:Aa V}(I:Inv X ai σ H s)(h:H p=Ab (.lst xs)) :
  ∃ (am:ah) (n:Ag),qI xs am/\s.heap.get? p=Ab { cls:=.type "list",data:=.seq am.toArray n } /\ xs.length<=sizeLine:=by
 obtain⟨z,am,n,r,e⟩:=I.hok p _ h;exact⟨am,n,r,e,z⟩
theorem Inv.lstUpd {xs Q:Aa V}{am ja:ah}{n Y:Ag}{f:Cp->Cp}(I:Inv X ai σ H s)(h:H p=Ab (.lst xs))
  (G:s.heap.get? p=Ab { cls:=.type "list",data:=.seq am.toArray n }) (J:f { cls:=.type "list",data:=.seq am.toArray n } = { cls:=.type "list",data:=.seq ja.toArray Y }) (r:qI Q ja) (hz:Q.length<=sizeLine) (t:Ag) :
  Inv X ai σ (bv H p (.lst Q)) { s with heap:=s.heap.update p f,toks:=t }:=by
 have e:(s.heap.update p f).get? p=Ab { cls:=.type "list",data:=.seq ja.toArray Y }:=by
  rw[Gi f G (by rw[J] <;> rfl),J]
 refine I.write (x:=p) (e:=p) (by rw[h];trivial) (.inl rfl) (λb u U q=>(Dk _ _ (Gd U)).trans q) ⟨_,e⟩ ?_
 exact⟨hz,ja,Y,r,e⟩
def qAe:V->V->V->Hp->(Hp->Prop)->Prop:=λo i v H Q=>∃ p Y k j,o=.ref p/\i=.int k/\H p=Ab (.lst Y)/\og Y.length k=Ab j/\Q (bv H p (.lst (Y.set j v)))
theorem GB:rT X qAe:=by
 intro ai s σ H o i v l d u Q I A E M h;obtain⟨p,y,k,j,rfl,rfl,C,z,q⟩:=h;cases A;obtain⟨t,rfl⟩:=E;obtain⟨B,n,r,U,w⟩:=I.lst C;obtain⟨Y,c,L,O⟩:=oC z;have J:=r.length;have g:=bR;have T:Inv X ai σ (bv H p (.lst (y.set j v))) { s with heap:=s.heap.update p (Fd (·.setIfInBounds j u)) }:=
  I.lstUpd C U (ZU B n j u) (r.set M j) (by rw[Rp];exact w) s.toks
 by_cases N:0<=k
 .have G:k.toNat=j:=by
   rw[AaG N O] at Y;exact Dd Y
  exact PySem.W.ki_setAt U N li (by rw[Bn,<- J];exact O) (by rw[G];exact⟨_,T,q⟩)
 .have G:(k+(B.toArray.size:Ah)).toNat=j:=by
   rw[seqIndex_neg li L] at Y;rw[Bn,<- J];exact Dd Y
  exact PySem.W.ki_setBack U li (by rw[Bn,<- J];exact L) li (by rw[G];exact⟨_,T,q⟩)
theorem aG (lo hi:Al Ah)(n:Ag):(Ob lo hi none n).1=((_H.cc n 0 lo:Ag):Ah)/\(Ob lo hi none n).2.1=((_H.cc n n hi:Ag):Ah)/\(Ob lo hi none n).2.2=1:=by
 refine⟨?_,?_,rfl⟩
 .cases lo with
  |none=>simp[Ob,_H.cc]
  |some i =>
   simp only[Ob,_H.cc,AaH,show (1:Ah)>0 by decide,Dq]
   by_cases h:i<0
   .simp only[h,Dq] <;> lia
   .simp only[h,Dv] <;> lia
 .cases hi with
  |none=>simp[Ob,_H.cc]
  |some i =>
   simp only[Ob,_H.cc,AaH,show (1:Ah)>0 by decide,Dq]
   by_cases h:i<0
   .simp only[h,Dq] <;> lia
   .simp only[h,Dv] <;> lia
theorem rA (am:ah)(lo hi:Al Ah):slicePick am.toArray lo hi none=((am.drop (_H.cc am.length 0 lo)).take (_H.cc am.length am.length hi-_H.cc am.length 0 lo)).toArray:=by
 obtain⟨Y,J,Q⟩:=aG lo hi am.toArray.size;unfold slicePick;rw[Y,J,Q];simp only[sliceRange_one,pick_run,Bn] <;> rfl
def qB2 (K:Ak):V->Al Ah->Al Ah->Hp->VK->Prop:=λx lo J H Q=>∃ a Y,x=.ref a/\kj K H a Y/\∀ p,H p=none->Q (.ref p) (bv H p (.lst (bJ Y lo J)))
theorem Q3:vn X (qB2 X.K):=by
 intro ai s σ H x v E M lo U A Q I C hs pl O h;obtain⟨a,Y,rfl,N,q⟩:=h;cases C;obtain⟨T,r,G,B⟩:=I.list N;have J:=r.length;refine⟨"list",_,slot_list_getitem.lookup,G.isList.typeIs,?_⟩;refine wpAny_getItem_list_slice G.isList hs pl O .none cy ?_ (by rw[Bn] <;> lia)
 rw[rA,<- J];refine⟨.ref s.heap.objs.size,_,I.laid (t':=s.toks) (o:=.lst (bJ Y lo U)) (λb L q=>Aj _ q) (Aw _) ?_,rfl,q _ (I.hok.fresh (Aw _))⟩;exact⟨Ci (mC Y lo U) B,_,0,(r.drop (_H.cc Y.length 0 lo)).take (_H.cc Y.length Y.length U-_H.cc Y.length 0 lo),Bb _ rfl⟩
theorem gS.or {r J:Aa V->Hp->VK->Prop}(h:gS X f r)(h':gS X f J):gS X f (λxs H Q=>r xs H Q\/J xs H Q):=by
 intro ai s σ H xs Y Q I rs q;rcases q with q|q
 .exact h ai s σ H xs Y Q I rs q
 .exact h' ai s σ H xs Y Q I rs q
theorem bB:gS X (.type "tuple") (λxs H Q=>∃ p Y,xs=[.ref p]/\((kj X.K H p Y/\∀ l,H l=none->Q (.ref l) (bv H l (.tup Y)))\/(jp X.K H p Y/\Q (.ref p) H))):=by
 intro ai s σ H xs A Q I r h;obtain⟨p,Y,rfl,h⟩:=h;obtain⟨u,rfl,E⟩:=pW r;cases E;rcases h with⟨G,q⟩|⟨G,q⟩
 .obtain⟨U,N,pl,B⟩:=I.list G
  have O:=N.length;refine call_tuple_list pl.isList (λJ T=>?_) (by simp only[Bn] <;> lia)
  have C:Inv X ai σ H { s with heap:=J }:=I.kept (t':=s.toks) T
  have L:Inv X ai σ (bv H J.objs.size (.tup Y)) { s with heap:=J.push { cls:=.type "tuple",data:=.seq U.toArray } }:=
   C.laid (t':=s.toks) (λb o e=>Aj _ e) (Aw _) (show zJ X.prog X.w _ _ _ (.tup Y) from⟨B,U,N,Aa1 _ _⟩)
  exact⟨.ref J.objs.size,_,L,rfl,q _ (C.hok.fresh (Aw _))⟩
 .obtain⟨U,N,pl,B⟩:=I.tuple G
  exact call_tuple_same pl ⟨.ref p,H,I,rfl,q⟩
def R_ (K:Ak)(T:Et)(x:V)(H:Hp):Prop:=match x with
 |.str _=>T = "str"
 |.int _=>T = "int"
 |.ref p=>(T = "list" /\ ∃ Y,kj K H p Y)\/(T = "tuple" /\ ∃ o,K.lookup p=Ab o/\o.cls=.type "tuple" /\ o.dict=none) \/
   (T = "dict" /\ ((∃ Q,H p=Ab (.dK Q))\/∃ Q,H p=Ab (.dT Q)))\/(T = "set" /\ ∃ S n,H p=Ab (.set S n))
 |_=>Fk
theorem l4 (I:Inv X ai σ H s)(r:qH x v)(ty:R_ X.K T x H) :
  s.TypeIs v T/\∀ a,v=.ref a->∃ N,s.heap.get? a=Ab N/\N.dict=none:=by
 cases x with
 |str z =>
  obtain⟨t,rfl⟩:=r;cases (show T = "str" from ty)
  exact⟨typeIs_str s z t,λ_ e=>nomatch e⟩
 |int i =>
  obtain⟨t,rfl⟩:=r;cases (show T = "int" from ty)
  exact⟨typeIs_int s i t,λ_ e=>nomatch e⟩
 |ref p =>
  cases r;rcases ty with⟨rfl,B,O⟩|⟨rfl,o,Q,C,U⟩|⟨rfl,Q⟩|⟨rfl,S,n,Q⟩
  .obtain⟨L,_,pl,_⟩:=I.list O
   refine⟨pl.isList.typeIs,λa e=>?_⟩;cases e;obtain⟨o,n,e,c,U,_⟩:=pl;exact⟨o,e,U⟩
  .refine⟨⟨o,I.kIn p o Q,C⟩,λa e=>?_⟩
   cases e;exact⟨o,I.kIn _ o Q,U⟩
  .have z:∃ o,s.heap.get? p=Ab o/\o.ExactDict:=by
    rcases Q with⟨G,Q⟩|⟨G,Q⟩
    .obtain⟨_,_,_,_,o,_,_,e,Y,_⟩:=I.hok p _ Q
     exact⟨o,e,Y⟩
    .obtain⟨_,_,_,_,o,_,_,e,Y,_⟩:=I.hok p _ Q
     exact⟨o,e,Y⟩
   obtain⟨o,e,Y⟩:=z;refine⟨⟨o,e,Y.1⟩,λa J=>?_⟩;cases J;exact⟨o,e,Y.2.1⟩
  .obtain⟨o,_,_,_,e,Y,_⟩:=I.hok p _ Q
   refine⟨⟨o,e,Y.1⟩,λa J=>?_⟩;cases J;exact⟨o,e,Y.2.1⟩
 |_=>exact Au ty
variable {e:Bx}
/- xs.append(e),list.index on a module's tuple .. are xp facts of 06m -/
end
end _L
namespace _L
variable {us:ah}
def _e (X:Cx)(id:Et)(r:V->Aa V->Hp->VK->Prop):Prop:=
 ∀ (Y:aa) (s:Ai) (σ : St) (H:Hp) (x:V) (J:Aa V) (v:Ac) (us:ah) (Q:VK),Inv X Y σ H s->qH x v->qI J us->r x J H Q ->
  c3 X (call (.builtin id) (v::us)) (EP X Y σ Q) X.xe s
theorem qI.one {x:V}(h:qI [x] us):∃ u,us=[u]/\qH x u:=pW h
theorem qI.two {x y:V}(h:qI [x,y] us):∃ u v,us=[u,v]/\qH x u/\qH y v:=XJ h
theorem qI.zero:∀ {us:ah},qI [] us->us=[]
 |_,.nil=>rfl
theorem qI.eraseIdx:∀ {xs:Aa V} {us:ah} (i:Ag),qI xs us->qI (xs.eraseIdx i) (us.eraseIdx i)
 |_,_,_,.nil=>.nil
 |_,_,0,.cons _ t=>t
 |_,_,i+1,.cons r t=>.cons r (qI.eraseIdx i t)
theorem qI.rep (h:qI xs us):∀ k:Ag,qI (Dx k xs).flatten (Dx k us).flatten
 |0=>.nil
 |k+1=>by
  rw[Ht,Ht,Kh,Kh];exact qI.append h (qI.rep h k)
theorem sH {α:Type}:∀ (l:Aa α) (i:Ag),(l.eraseIdx i).length<=l.length
 |[],_=>Aw _
 |_::_,0=>Tk _
 |_::r,i+1=>AaI (sH r i)
theorem s9 (am:ah):∀ (k:Ag) (ar:ah),
  Ab8 (λY J=>Y++J) ar.toArray (Dx k am.toArray)=(ar++(Dx k am).flatten).toArray
 |0,ar=>by simp
 |k+1,ar=>by
  have e:ar.toArray++am.toArray=(ar++am).toArray:=by simp
  have Q:(ar++am)++(Dx k am).flatten=ar++(Dx (k+1) am).flatten:=by
   rw[Ht,Kh,Cy]
  rw[<- Q,<- s9 am k (ar++am),<- e,Ht,Lo]
section
variable {X:Cx}{ai:aa}{σ: St}{H:Hp}{s:Ai}{l:Af}{xs ys:Aa V}
theorem Inv.lset {am ja:ah}{n:Ag}{f:Ay Ac->Ay Ac}{t':Ag}(I:Inv X ai σ H s)(U:H l=Ab (.lst xs))
  (e:s.heap.get? l=Ab { cls:=.type "list",data:=.seq am.toArray n }) (J:f am.toArray=ja.toArray) (hv:qI ys ja) (hz:ys.length<=sizeLine) :
  Inv X ai σ (bv H l (.lst ys)) { s with heap:=s.heap.update l (Fd f),toks:=t' }:=by
 have q:=AaJ e f;rw[J] at q;refine I.write (x:=l) (e:=l) (by rw[U];exact trivial) (.inl rfl) (λG u Q Y=>(Dk s.heap (Fd f) (Gd Q)).trans Y) ⟨_,q⟩ ?_
 exact⟨hz,ja,_,hv,q⟩
theorem Inv.lstM (I:Inv X ai σ H s)(Q:H l=Ab (.lst xs)):xs.length<=sizeLine/\∃ (am:ah) (n:Ag),qI xs am/\xs.length=am.length/\s.heap.get? l=Ab { cls:=.type "list",data:=.seq am.toArray n }:=by
 obtain⟨z,am,n,r,e⟩:=I.hok l _ Q;exact⟨z,am,n,r,r.length,e⟩
theorem JZ {n:Ag}(h:n<=sizeLine):Oo n=false:=by
 unfold Oo;exact Cs li
end
section
variable {X:Cx}
def NB:V->Aa V->Hp->VK->Prop:=λx J H Q=>∃ l Y y,x=.ref l/\J=[y]/\H l=Ab (.lst Y)/\Y.length<sizeLine/\Q .non (bv H l (.lst (Y++[y])))
theorem YC:_e X "list.append" NB:=by
 intro C s σ H x T v us Q I G U h;obtain⟨l,L,y,rfl,rfl,Y,B,q⟩:=h;cases G;obtain⟨u,rfl,N⟩:=U.one;obtain⟨z,J,n,r,O,e⟩:=I.lstM Y;refine Vd Zx ⟨_,e,rfl⟩ Yz (Yf _ _) (Aa5 l J.toArray n u (by rw[Bn];lia)) ⟨e,?_⟩
 refine⟨.non,_,I.lset (ja:=J++[u]) Y e cy (r.append (.cons N .nil)) ?_,rfl,q⟩
 rw[Cu,Mc]
 lia
def A3:V->Aa V->Hp->VK->Prop:=λx J H Q=>∃ l Y i k y,x=.ref l/\J=[.int i]/\H l=Ab (.lst Y) /\ -(2 ^ 63)<=i/\i<2 ^ 63/\Aa4 i Y.length=Ab k/\Y[k]? = Ab y/\Q y (bv H l (.lst (Y.eraseIdx k)))
theorem JX:_e X "list.pop" A3:=by
 intro j s σ H x o v us Q I T L h;obtain⟨l,A,i,k,y,rfl,rfl,U,O,C,B,N,q⟩:=h;cases T;obtain⟨u,rfl,E⟩:=L.one;obtain⟨t,rfl⟩:=E;obtain⟨z,Y,n,r,G,e⟩:=I.lstM U;obtain⟨w,M,J⟩:=r.get N;refine Vd F.slot_list_pop ⟨_,e,rfl⟩ F.entry_list_pop (F.args_list_pop_2 _ _)
  (MeetsSeq.list_pop_at l Y.toArray n i t k w (fitsIndex_both O C) (by rw[Bn,<- G];exact B) (by rw[<- Br];exact M) (by rw[Bn];lia)) ⟨e,?_⟩
 refine⟨y,_,I.lset (ja:=Y.eraseIdx k) U e ?_ (r.eraseIdx k) ?_,J,q⟩
 .show Y.toArray.eraseIdxIfInBounds k=(Y.eraseIdx k).toArray
  rw[List.eraseIdxIfInBounds_toArray]
 .have:=sH A k
  lia
theorem MN {α:Type}(xs:Aa α)(k:Ag):(Dx k xs).flatten.length=k*xs.length:=by
 induction k with
 |zero=>simp
 |succ k Q=>rw[Ht,Kh,Cu,Q,u8,Vt]
end
end _L
namespace _L
variable {xs:Aa (Aa be × Af × Ac)}{kvs:Aa (Aa be × V)}{Q:ab}{H':Hp}
section
variable {κ: Type}[NE κ]
noncomputable def yL (kvs:Aa (κ × V))(k:κ):Al V:=(kvs.find? λY=>decide (Y.1=k)).map (·.2)
noncomputable def yU (kvs:Aa (κ × V))(k:κ)(v:V):Aa (κ × V):=
 if (kvs.any λY=>decide (Y.1=k))=true then kvs.map (λY=>if Y.1=k then (Y.1,v) else Y) else kvs++[(k,v)]
noncomputable def PN (kvs:Aa (κ × V))(k:κ):Aa (κ × V):=kvs.filter λY=>decide (Y.1≠k)
theorem tL {p:κ × V}{r:Aa (κ × V)}{k:κ}(e:p.1=k):yL (p::r) k=Ab p.2:=by simp[yL,Kb,e]
theorem tK {p:κ × V}{r:Aa (κ × V)}{k:κ}(e:¬ p.1=k):yL (p::r) k=yL r k:=by simp[yL,Kb,e]
theorem aU (k:κ):∀ kvs:Aa (κ × V),(kvs.any λY=>decide (Y.1=k))=(yL kvs k).isSome
 |[]=>rfl
 |p::r=>by
  rw[Lp];by_cases e:p.1=k
  .simp only[tL e,Co e,v4,Zy]
  .rw[tK e,Cs e,Za];exact aU k r
theorem kN (kvs:Aa (κ × V))(k:κ)(v:V):(yU kvs k v).length<=kvs.length+1:=by
 unfold yU
 split
 .rw[Ao];lia
 .rw[Cu,By,Hs];lia
theorem vK.isSome_eq (r:vK o u):o.isSome=u.isSome:=by
 cases o with
 |none=>cases u with
  |none=>rfl
  |some _=>exact(show Fk from r).elim
 |some _=>cases u with
  |none=>exact(show Fk from r).elim
  |some _=>rfl
theorem vK.getD (r:vK o u)(Y:qH d d'):qH (o.getD d) (u.getD d'):=by
 cases o with
 |none=>cases u with
  |none=>exact Y
  |some _=>exact(show Fk from r).elim
 |some _=>cases u with
  |none=>exact(show Fk from r).elim
  |some _=>exact r
theorem KV.val {kvs:Aa (κ × V)}(r:KV kvs vs)(k:κ):vK (yL kvs k) (Wq vs k):=by
 unfold KV at r
 induction r with
 |nil=>exact Jx
 |@cons p q O J h t G =>
  obtain⟨U,N⟩:=h;by_cases e:p.1=k
  .have Y:q.1=k:=U.symm.trans e
   have b:Wq (q::J) k=Ab q.2:=by simp[Wq,Kb,Y]
   rw[tL e,b];exact N
  .have Y:¬ q.1=k:=λz=>e (U.trans z)
   have b:Wq (q::J) k=Wq J k:=by simp[Wq,Kb,Y]
   rw[tK e,b];exact G
theorem KV.any {kvs:Aa (κ × V)}(r:KV kvs vs)(k:κ):(kvs.any λY=>decide (Y.1=k))=vs.any λY=>decide (Y.1=k):=by
 unfold KV at r
 induction r with
 |nil=>rfl
 |cons h t J=>rw[Lp,Lp,J,h.1]
theorem KV.repl {kvs:Aa (κ × V)}(r:KV kvs vs)(k:κ){y:V}{u:Ac}(U:qH y u) :
  KV (kvs.map λY=>if Y.1=k then (Y.1,y) else Y) (vs.map λY=>if Y.1=k then (Y.1,u) else Y):=by
 unfold KV at r ⊢
 induction r with
 |nil=>exact .nil
 |@cons p q O C h t G =>
  rw[De,De];refine .cons ?_ G;obtain⟨J,N⟩:=h;by_cases e:p.1=k
  .rw[Bd e,Bd (J.symm.trans e)];exact⟨J,U⟩
  .rw[Bg e,Bg (λz=>e (J.trans z))];exact⟨J,N⟩
theorem KV.put {kvs:Aa (κ × V)}(r:KV kvs vs)(k:κ){y:V}{u:Ac}(Y:qH y u):KV (yU kvs k y) (stored vs k u):=by
 unfold yU stored;rw[r.any k];by_cases e:(vs.any λJ=>decide (J.1=k))=true
 .rw[Bd e,Bd e];exact r.repl k Y
 .rw[Bg e,Bg e];exact Paired.snoc r ⟨rfl,Y⟩
theorem KV.drop {kvs:Aa (κ × V)}(r:KV kvs vs)(k:κ):KV (PN kvs k) (without vs k):=by
 unfold KV at r ⊢;unfold PN without
 induction r with
 |nil=>exact .nil
 |@cons p q N O h t J =>
  obtain⟨Y,U⟩:=h;rw[Kx,Kx];by_cases e:p.1=k
  .have a:¬ decide (p.1≠k)=true:=by simp[e]
   have b:¬ decide (q.1≠k)=true:=by simp[Y.symm.trans e]
   rw[Bg a,Bg b];exact J
  .have G:¬ q.1=k:=λz=>e (Y.trans z)
   have a:decide (p.1≠k)=true:=by simp[e]
   have b:decide (q.1≠k)=true:=by simp[G]
   rw[Bd a,Bd b];exact .cons ⟨Y,U⟩ J
theorem KV.length {kvs:Aa (κ × V)}(r:KV kvs vs):kvs.length=vs.length:=Paired.length r
end
theorem kE {P:Bj}{k:be}(r:qH (kV k) u):(zI P w).is k u=true:=by
 cases k with
 |inl i=>obtain⟨t,e⟩:=(show ∃ t,u=Ts i t from r);subst e;exact i8 P w i t
 |inr x=>obtain⟨t,e⟩:=(show ∃ t,u=Aa0 x t from r);subst e;exact i9 P w x t
theorem sF {P:Bj}:∀ {ks:Aa be} {us:ah},qI (ks.map kV) us->ItemsAre (zI P w) ks us
 |[],_,r=>by rw[t0] at r;cases r;exact .nil
 |k::ks,_,r=>by
  rw[De] at r;cases r with
  |cons h t=>exact .cons (kE h) (sF t)
abbrev KT (H:Hp):Aa (Aa be × V)->Aa (Aa be × Af × Ac)->Prop:=Paired λp q=>p.1=q.1/\H q.2.1=Ab (.tup (p.1.map kV))/\qH p.2 q.2.2
theorem KT.val (r:KT H kvs xs)(k:Aa be):vK (yL kvs k) ((Zb xs k).map (·.2)):=by
 induction r with
 |nil=>exact Jx
 |@cons p q O Y h t G =>
  obtain⟨U,_,N⟩:=h;by_cases e:p.1=k
  .have J:q.1=k:=U.symm.trans e
   have b:Zb (q::Y) k=Ab q.2:=by simp[Zb,Kb,J]
   rw[tL e,b];exact N
  .have J:¬ q.1=k:=λz=>e (U.trans z)
   have b:Zb (q::Y) k=Zb Y k:=by simp[Zb,Kb,J]
   rw[tK e,b];exact G
theorem KT.repl (r:KT H kvs xs)(k:Aa be){y:V}{u:Ac}(N:qH y u) :
  KT H (kvs.map λJ=>if J.1=k then (J.1,y) else J) (xs.map (putAt k u)):=by
 induction r with
 |nil=>exact .nil
 |@cons p q C B h t O =>
  rw[De,De];refine .cons ?_ O;obtain⟨Y,U,G⟩:=h;unfold putAt;by_cases e:p.1=k
  .rw[Bd e,Bd (Y.symm.trans e)];exact⟨Y,U,N⟩
  .rw[Bg e,Bg (λz=>e (Y.trans z))];exact⟨Y,U,G⟩
theorem KT.put (r:KT H kvs xs)(k:Aa be){b:Af}{y:V}{u:Ac}(J:H b=Ab (.tup (k.map kV)))(Y:qH y u) :
  KT H (yU kvs k y) (storedH xs k b u):=by
 have e:(kvs.any λU=>decide (U.1=k))=(Zb xs k).isSome:=by
  rw[aU,(r.val k).isSome_eq,Tz]
 unfold yU storedH;rw[e];by_cases q:(Zb xs k).isSome=true
 .rw[Bd q,Bd q];exact r.repl k Y
 .rw[Bg q,Bg q];exact Paired.snoc r ⟨rfl,J,Y⟩
theorem KT.keeps (r:KT H kvs xs)(J:∀ b Y,H b=Ab (.tup Y)->H' b=Ab (.tup Y)):KT H' kvs xs:=
 Paired.mapP r λ_ _ z=>⟨z.1,J _ _ z.2.1,z.2.2⟩
section
variable {P:Bj}{w:Bz}{H:Hp}{h:Bv}{a:Af}
theorem BI (ok:gz P w H h)(e:Rd H a u):zJ P w H h a u:=e.ok ok
theorem tU {kvs:Aa (be × V)}(ok:gz P w H h)(e:Rd H a (.dK kvs)):kvs.length<=sizeLine/\(a == Jw)=false/\∃ vs,KV kvs vs/\h.DictOf (zI P w) a vs:=
 show zJ P w H h a (.dK kvs) from BI ok e
theorem rG {kvs:Aa (be × V)}(ok:gz P w H h)(e:H a=Ab (.dK kvs)):kvs.length<=sizeLine/\(a == Jw)=false/\∃ vs,KV kvs vs/\h.DictOf (zI P w) a vs:=tU ok (.inl e)
theorem uD {ks:Aa be}(ok:gz P w H h)(e:H a=Ab (.tup (ks.map kV))):(Tt (zI P w)).is h ks a:=by
 obtain⟨_,G,r,o,J,U,n,Y⟩:=(show zJ P w H h a (.tup (ks.map kV)) from ok a _ e)
 exact⟨o,G.toArray,n,J,U,Y,by simpa using sF r⟩
theorem tV (ok:gz P w H h)(e:Rd H a (.dT kvs)):kvs.length<=sizeLine/\(a == Jw)=false /\
  ∃ xs,KT H kvs xs/\h.DictOfH (Tt (zI P w)) a xs:=by
 obtain⟨z,y,xs,r,o,C,T,U,B,L,G,N⟩:=(show zJ P w H h a (.dT kvs) from BI ok e)
 refine⟨z,y,xs,r,o,C,T,U,B,L,G,λx hx=>?_,N⟩;have Y:∀ {l:Aa (Aa be × V)} {m:Aa (Aa be × Af × Ac)},KT H l m->∀ x∈m,(Tt (zI P w)).is h x.1 x.2.1:=by
  intro l m q
  induction q with
  |nil=>intro x hx;exact nomatch hx
  |@cons p q E I J t O =>
   intro x hx;rcases Av.mp hx with e|hx
   .subst e
    exact uD ok (by rw[<- J.1];exact J.2.1)
   .exact O x hx
 exact Y r x hx
theorem O6 (ok:gz P w H h)(e:H a=Ab (.dT kvs)):kvs.length<=sizeLine/\(a == Jw)=false /\
  ∃ xs,KT H kvs xs/\h.DictOfH (Tt (zI P w)) a xs:=tV ok (.inl e)
end
def j7 (H:Hp)(a:Af)(y:V)(r:Al V):Prop:=
 (∃ kvs k,Rd H a (.dK kvs)/\y=kV k/\r=yL kvs k)\/∃ kvs k b,Rd H a (.dT kvs)/\y=.ref b/\H b=Ab (.tup (k.map kV))/\r=yL kvs k
def lA (H:Hp)(a:Af)(y v:V)(H':Hp):Prop:=
 (∃ kvs k,H a=Ab (.dK kvs)/\y=kV k/\kvs.length<sizeLine/\H'=bv H a (.dK (yU kvs k v))) \/
 ∃ kvs k b,H a=Ab (.dT kvs)/\y=.ref b/\H b=Ab (.tup (k.map kV))/\kvs.length<sizeLine/\H'=bv H a (.dT (yU kvs k v))
theorem j7.k {H:Hp}{a:Af}{kvs:Aa (be × V)}{k:be}(e:H a=Ab (.dK kvs)):j7 H a (kV k) (yL kvs k):=.inl ⟨kvs,k,.inl e,rfl,rfl⟩
theorem j7.t {H:Hp}{a b:Af}{k:Aa be}(e:H a=Ab (.dT kvs))(Y:H b=Ab (.tup (k.map kV))):j7 H a (.ref b) (yL kvs k):=.inr ⟨kvs,k,b,.inl e,rfl,Y,rfl⟩
theorem lA.k {H:Hp}{a:Af}{kvs:Aa (be × V)}{k:be}(e:H a=Ab (.dK kvs))(Y:kvs.length<sizeLine):lA H a (kV k) v (bv H a (.dK (yU kvs k v))):=.inl ⟨kvs,k,e,rfl,Y,rfl⟩
theorem lA.t {H:Hp}{a b:Af}{k:Aa be}{v:V}(e:H a=Ab (.dT kvs))(Y:H b=Ab (.tup (k.map kV)))(J:kvs.length<sizeLine) :
  lA H a (.ref b) v (bv H a (.dT (yU kvs k v))):=.inr ⟨kvs,k,b,e,rfl,Y,J,rfl⟩
section
variable {X:Cx}{ai:aa}{σ: St}{H:Hp}{s:Ai}{a:Af}{y v:V}{u r:Ac}{o:Al V}{A:Bw}{E:ab}
theorem Inv.big (I:Inv X ai σ H s):Jw<s.heap.objs.size:=by
 have h:Df<s.heap.objs.size:=(I.mod.glob.keeps I.bk).lt;exact Iw cz h
theorem W8 (L:A.units+1<EQ)(I:Inv X ai σ H s)(g:j7 H a y (Ab v))(B:qH y u)(h:∀ U s',Inv X ai σ H s'->qH v U->Q U s') :
  Aq (Ax X.prog X.w) A (Pe (.ref a) u) Q E s:=by
 rcases g with⟨kvs,k,e,C,l⟩|⟨kvs,k,b,e,C,M,l⟩
 .subst C
  obtain⟨z,T,w,Y,G⟩:=tU I.hok e;obtain⟨U,O,J⟩:=vK.some_of (v:=v) (o:=Wq w k) (by rw[l];exact Y.val k)
  exact wpAny_getItem_of (kE B) G.mapOf O (h U _ (I.tok _) J)
 .subst C
  cases (show u=Cw b from B)
  obtain⟨z,T,xs,Y,G⟩:=tV I.hok e;obtain⟨U,O,J⟩:=vK.some_of (v:=v) (o:=(Zb xs k).map (·.2)) (by rw[l];exact Y.val k)
  obtain⟨p,j,N⟩:=Dl.mp O;refine wpAny_getItem_heap (Os L) (uD I.hok M) G j ?_;rw[N];exact h U _ (I.tok _) J
theorem qBW (O:A.units+1<EQ)(I:Inv X ai σ H s)(g:j7 H a y o)(N:qH y u)(h:∀ s',Inv X ai σ H s'->Q (.bool o.isSome) s') :
  Aq (Ax X.prog X.w) A (Di .In u (.ref a)) Q E s:=by
 rcases g with⟨kvs,k,e,G,l⟩|⟨kvs,k,b,e,G,C,l⟩
 .subst G
  obtain⟨z,J,B,Y,U⟩:=tU I.hok e;refine wpAny_in_of (kE N) J U.mapOf ?_;rw[<- (Y.val k).isSome_eq,<- l];exact h _ (I.tok _)
 .subst G
  cases (show u=Cw b from N)
  obtain⟨z,J,xs,Y,U⟩:=tV I.hok e;refine wpAny_in_heap (Os O) (uD I.hok C) J U ?_;have q:=(Y.val k).isSome_eq;rw[Tz] at q;rw[<- q,<- l];exact h _ (I.tok _)
theorem lG {t':Ag}(I:Inv X ai σ H s)(N:xo (H a))(hs:Ew a s.heap h')(G:∃ q,h'.get? a=Ab q)(Y:zJ X.prog X.w (bv H a J) h' a J) :
  Inv X ai σ (bv H a J) { s with heap:=h',toks:=t' }:=
 I.write (x:=a) (e:=a) N (.inl rfl) (λb q U z=>(hs.2 b U).trans z) G Y
theorem WJ {P:Bj}{h':Bv}{kvs:Aa (be × V)}(z:kvs.length<=sizeLine)(J:(a == Jw)=false)(Y:KV kvs vs)(U:h'.DictOf (zI P w) a vs) :
  zJ P w H' h' a (.dK kvs):=⟨z,J,vs,Y,U⟩
theorem W9 {Q:Wk->Ai->Prop}(d:A.units+1<EQ)(I:Inv X ai σ H s)(g:lA H a y v H')(j:qH y u)(p:qH v r)(h:∀ s',Inv X ai σ H' s'->Q () s') :
  Aq (Ax X.prog X.w) A (setItem (.ref a) u r) Q E s:=by
 rcases g with⟨kvs,k,e,C,l,B⟩|⟨kvs,k,b,e,C,M,l,B⟩
 .subst C B
  obtain⟨z,O,i,Y,N⟩:=rG I.hok e;have L:i.length<=sizeLine:=by rw[<- Y.length];exact z
  have G:(yU kvs k v).length<=sizeLine:=by have:=kN kvs k v;lia
  refine wpAny_setItem_pairs (hsz:=L) (kE j) N λw J hs=>h _ ?_;have x:∃ q,w.get? a=Ab q:=let ⟨q,_,_,U,_⟩:=J;⟨q,U⟩
  exact lG I (by rw[e];exact Jx) hs x (WJ G O (Y.put k p) J)
 .subst C B
  cases (show u=Cw b from j)
  obtain⟨z,O,xs,Y,N⟩:=O6 I.hok e;have L:xs.length<=sizeLine:=by rw[<- Paired.length Y];exact z
  have G:(yU kvs k v).length<=sizeLine:=by have:=kN kvs k v;lia
  refine wpAny_setItem_heap (hsz:=L) (Os d) (uD I.hok M) N λw J hs=>h _ ?_;obtain⟨q,es,n,U,t,m,h4,_,f⟩:=J;refine lG I (by rw[e];exact Jx) hs ⟨q,U⟩ ⟨G,O,_,(Y.put k M p).keeps λc ys T=>?_,q,es,n,U,t,m,h4,f⟩
  rw[qJ (OQ T e (λz=>nomatch z))];exact T
end
def VS (i:Bx):Prop:=∀ J Y,subscripted i false J Y=operate [J,Y] (Pe J Y)
theorem NW {prog:Bj}{w:Bz}{A:Bw}{E:ab}{s:Ai}{aj:Jf}{J Y:Bx}{M:Fb}{T id:Et}
  (H:typeLookup (.type T) "__getitem__" = pure (Ab (.builtin id))) (hs:VS Y)
  (h:Aq (Ax prog w) A (eval J aj) (λo O=>Aq (Ax prog w) A (eval Y aj) (λi U=>U.TypeIs o T/\Aq (Ax prog w) A (Pe o i) Q E U) E O) E s) :
  Aq (Ax prog w) A (eval (.Subscript J Y M) aj) Q E s:=by
 refine Subscript_ (Hk h (λo O L=>Hk L (λi U G=>?_) λ_ _ x=>x) λ_ _ x=>x);obtain⟨I,G⟩:=G;unfold Tx;refine Ad ?_;rw[getitemInPython_of_ne I.not_modules];refine Ad (Oc I H ?_);have C:Aq (Ax prog w) A (subscripted Y false o i) (λr N=>Aq (Ax prog w) A (letTemporaryGo J o r >>= λ_=>pure r) Q E N) E U:=by
  rw[hs o i];exact wpAny_operating (Hk G (λr N B=>Ad (wpAny_letTemporaryGo (Am B))) λ_ _ x=>x)
 first
  |exact Am (Ad C)
  |exact Ad (Am (Ad C))
  |exact Ad C
theorem i7 {X:Cx}{σ:St}{a:Af}(I:Inv X ai σ H s)(g:j7 H a y o):s.TypeIs (.ref a) "dict":=by
 rcases g with⟨kvs,k,e,_,_⟩|⟨kvs,k,b,e,_,_,_⟩
 .obtain⟨_,_,J,_,Y⟩:=tU I.hok e
  exact Y.typeIs
 .obtain⟨_,_,xs,_,Y⟩:=tV I.hok e
  exact Y.typeIs
theorem UJ {P:Bj}(h:Bv)(Y:Jw<h.objs.size):zJ P w H (h.push { cls:=.type "dict",data:=.dict #[] }) h.objs.size (.dK []):=
 ⟨Ho _,Ks.mpr (Gd (Ch Y)),[],.nil,Heap.DictOf.new h⟩
def AJ:TE:=λ_ H Q=>∀ p,H p=none->Q (.ref p) (bv H p (.dK []))
section
variable {X:Cx}{ap:Fb}
theorem K8:PE X (.Dict [] [] ap) AJ:=λY s σ H Q I h =>
 wpAny_Dict_empty ⟨.ref s.heap.objs.size,_,I.laid (a:=s.heap.objs.size) (o:=.dK []) (t':=s.toks) (λ_ _ q=>Aj _ q) (Aw _) (UJ s.heap I.big),rfl,h _ (I.hok.fresh (Aw _))⟩
end
section
variable {X:Cx}{ai:aa}{σ: St}{H:Hp}{s:Ai}{a:Af}{y d:V}{u r:Ac}{o:Al V}{A:Bw}{E:ab}
theorem DN (B:A.units+1<EQ)(I:Inv X ai σ H s)(g:j7 H a y o)(O:qH y u)(C:qH d r)(h:∀ N s',Inv X ai σ H s'->qH (o.getD d) N->Q N s') :
  Aq (Ax X.prog X.w) A (call (.builtin "dict.get") [.ref a,u,r]) Q E s:=by
 rcases g with⟨kvs,k,e,G,l⟩|⟨kvs,k,b,e,G,L,l⟩
 .subst G
  obtain⟨z,U,T,Y,J⟩:=tU I.hok e;refine Rz Md J.typeIs Wr (Vu _ _ _) (meets_dict_get_default (zI X.prog X.w) a (kE O) U r) ⟨_,J.mapOf,h _ _ (I.tok _) ?_⟩;rw[l];exact(Y.val k).getD C
 .subst G
  cases (show u=Cw b from O)
  obtain⟨z,U,xs,Y,J⟩:=tV I.hok e;refine Rz Md J.typeIs Wr (Vu _ _ _) (meetsH_dict_get_default (Tt (zI X.prog X.w)) a b U r) ⟨Os B,k,xs,uD I.hok L,J,h _ _ (I.tok _) ?_⟩;rw[l];exact(Y.val k).getD C
end
end _L
namespace _A
open PySem.W PySem.Calls
theorem nG {P:Params}:∀ (Q:Aa Ah) (vs:ah),WellAll P h vs (Q.map WData.int)->Ku vs Q:=by
 intro Q
 induction Q with
 |nil =>
  intro vs w;rw[t0] at w;cases w;exact .nil
 |cons n Q Y =>
  intro vs w;rw[De] at w;cases w with
  |cons a b =>
   cases a;exact .cons _ _ (Y _ b)
theorem V8 {l:OpenLaw}(H:l.most=Ab n){P:Params}{h:Bv}{args:Aa WData}{J:ah}
  (Y:l.row.toRowW.claim.pre args=true) (C:WellAll P h J args) :
  ∃ a vs Q,J=[Cw a]/\args=[WData.list (Q.map WData.int)]/\h.get? a=Ab { cls:=.type "list",data:=.seq vs.toArray } /\ Ku vs Q/\Q.length<=n:=by
 have B:WShape.hasAll [] args [.list .int]=true:=(pre_splitW Y).1;have L:l.pre.holds [] { args:=args } = true:=(pre_splitW Y).2;obtain⟨d,r,rfl,T,M⟩:=hasAllW_cons B;obtain rfl:=hasAllW_nil M;obtain⟨j,rfl,z⟩:=hasW_list T;obtain⟨Q,rfl⟩:=items_int z;have U:Q.length<=n:=by
  unfold OpenLaw.pre at L;have N:(WTm.not (.lt (.lit (.int (n:Ah))) (.len (.arg 0)))).holds [] { args:=[.list (Q.map .int)] } = true:=by
   have N:=(holds_andW L).1;rw[H] at N;exact N
  have O:=condW_of N (w_not (w_lt w_lit (w_len_list (w_arg rfl))));rw[Ao] at O;refine Ql λq=>?_;have A:(n:Ah)<((Q.length:Ag):Ah):=by lia
  first
   |(rw[Co A] at O;exact absurd O cz)
   |(simp at O;lia)
 cases C with
 |cons w I =>
  cases I;cases w with
  |list E G=>exact⟨_,_,Q,rfl,rfl,E,nG Q _ G,U⟩
theorem YU (l:OpenLaw)(args:Aa WData):l.row.toRowW.claim.post args (.bool true) args=true:=
 postW_of (r:=l.row.toRowW) (X:=(true == true))
  (show WShape.has [] (.bool true) .bool=true by first|rfl|decide|simp[WShape.has,WShape.arms,WShape.armsAll])
  (show (WTm.eq .res (.lit (.bool true))).value [] { args:=args,res:=Ab (.bool true),after:=args } = Ab (.bool (true == true)) from w_eq_bool (w_res rfl) w_lit) rfl
theorem nu {l:OpenLaw}{n:Ag}{q:Bj}{g:Aa As}{p:(As->Al Ac)->Bv->Prop}{k:Bz->Bv->Prop}{d:DefRec}
  (m:l.most=Ab n) (A:d.params.defaults=[])
  (call:∀ (w:Bz) (J Q:Ai) (mg I:ag) (L:Af) (o:Cp) (M cd N:Ac) (a:Af) (vs:ah) (T:Aa Ah),
   Ground q g [] p w J mg I Q.heap->k w Q.heap ->
   Q.heap.get? L=Ab o->o.data=.func (docDef d.name d.params d.body d.scope M cd N)->Q.heap.CodeRec cd d.name->mg d.name=Ab (.ref L) ->
   Q.heap.get? a=Ab { cls:=.type "list",data:=.seq vs.toArray } -> Ku vs T->T.length<=n->Q.gens=#[] ->
   Jr (Ax l.prog w) T0 (.call (.ref L) ⟨[.ref a],[]⟩) (λr s'=>r=.ok (.ret (.bool true))/\OldK Q.heap s'.heap/\s'.os=Q.os/\Qg s'.gens) Q) :
  WalkO q g p k l.row.toRowW d [] (λf vs=>Ab9 f vs):=by
 intro w J Q mg I G Y L o M cd N dV kV t x z u H hg c j as C y v E zb;obtain rfl:dV=.none:=Dflts.none u A;obtain rfl:kV=.none:=Dflts.noKw u;obtain⟨a,vs,T,rfl,rfl,B,U,O⟩:=V8 m C E;refine enter_call (Pg (call w J Q mg I L o M cd N a vs T G Y t (fd_plain x) z H B U O hg) λr s' h=>?_);obtain⟨rfl,s,b,i⟩:=h;exact⟨.inl ⟨.bool true,.bool true,[],rfl,λ_=>rfl,.bool true,YU l _,λ_=>⟨Ps,λ_ e=>(nomatch e)⟩⟩,s,b,i⟩
end _A
namespace _L
theorem VI (h:Ku vs Q):qI (Q.map V.int) vs:=by
 induction h with
 |nil=>exact .nil
 |cons n t h Y=>exact .cons ⟨t,rfl⟩ Y
def ql (K:Ak)(H:Hp)(a:Af)(xs:Aa V):Prop:=
 Rd H a (.lst xs)\/∃ (Q:ah) (n:Ag),K.lookup a=Ab { cls:=.type "list",data:=.seq Q.toArray n } /\ xs.length<=sizeLine/\qI xs Q
theorem ql.l {K:Ak}{a:Af}(h:ql K H a xs):kj K H a xs:=by
 rcases h with h|⟨Q,n,e,l,v⟩
 .exact .inl h
 .exact .inr ⟨_,Q.toArray,n,e,rfl,rfl,rfl,by rw[Bn,<- v.length];exact l,by simpa using v⟩
end _L
namespace _L
variable {ps:Aa As}{f:Af}{x ba:As}{H:Hp}
noncomputable def yG (s:Ge):Ro:=match s with
 |.FunctionDef _ a _ _ _ _ _ _ _ _=>a
 |_=>{ posonlyargs:=[],args:=[],vararg:=none,kwonlyargs:=[],kw_defaults:=[],kwarg:=none,defaults:=[] }
def zN (s:Ge):Aa Ge:=match s with
 |.FunctionDef _ _ b _ _ _ _ _ _ _=>b
 |_=>[]
def qG (s:Ge):Em:=match s with
 |.FunctionDef _ _ _ _ _ _ Q _ _ _=>Q
 |_=>{ kind:=.function,names:=[],isGenerator:=false,isCoroutine:=false }
abbrev _k:vy:=λ_ _ _ _ _ _=>Fk
structure tz (K:Ak)(x qual:As)(st:Ge)(f:Af)(fd:Fv):Prop where
 ex:∃ (oc:Ac) (od:Al Af) (kV doc pm:Ac) (an:Al Af) (cdv ct:Ac) (osl:Ay (Al Ac)),
  fd=Gz x qual (yG st) (zN st) (qG st) .none kV doc pm an cdv ct/\K.lookup f=Ab ⟨oc,od,.func fd,osl⟩/\Ms K cdv qual=true
 kp:Ha K (.ref f)=true
section
variable {P:Bj}{w:Bz}{K:Ak}{mg:ag}{base:Bv}
theorem tz.ok {st:Ge}{k:Ag}{sp:Sp}(F:tz K x ba st f fd)(S:cj N ps (qG st))(G:∀ vs H Q E,sp vs H Q E->vs.length=ps.length)
  (J:∀ (Y:Ac) (A:Bw) (C:Aa Jf) (s:Ai) (H:Hp) (vs:Aa V) (Q:VK) (E:XK),ip k (A.deeper (Gs ba (qG st) s.heap.objs.size f Y))->sp vs H Q E ->
   ∃ t,jn (lF _k P w K mg base N ba (qG st) f Y A C s H E).nox (zN st) t/\t { nx:=λ_ T=>Q .non T,rt:=Q } (xR N vs) H):md P w K mg base _k (k+1) f fd ps sp:=by
 obtain⟨j,M,kV,B,u,z,Y,y,L,rfl,lk,U⟩:=F.ex;refine OC lk U S G λA C s H vs Q E I O=>?_;obtain⟨t,h,q⟩:=J Y A C s H vs Q E I O;exact⟨t,h.nox,q⟩
theorem tz.binds {st:Ge}(F:tz K x ba st f fd)
  (h:∀ (kV Q G:Ac) (J:Al Af) (Y U:Ac) (us:ah),us.length=ps.length->Wn (Gz x ba (yG st) (zN st) (qG st) .none kV Q G J Y U) ⟨us,[]⟩=pure (ps.zip us)):vZ K fd ps []:=by
 obtain⟨B,C,kV,Q,G,J,Y,U,O,rfl,lk,N⟩:=F.ex;exact .all (h kV Q G J Y U)
theorem RB {st:Ge}{O:Ac}{C N:Al Af}{J:Ay (Al Ac)}{kV Y U Q G:Ac}(l:K.lookup f=Ab ⟨O,C,.func (Gz x ba (yG st) (zN st) (qG st) .none kV Y U N Q G),J⟩)
  (c:Ms K Q ba=true) (k:Ha K (.ref f)=true):tz K x ba st f (Gz x ba (yG st) (zN st) (qG st) .none kV Y U N Q G):=⟨⟨O,C,kV,Y,U,N,Q,G,J,rfl,l,c⟩,k⟩
end
def qE (H Q:Hp):Prop:=∀ b o,H b=Ab o->Q b=Ab o
theorem qE.refl (H:Hp):qE H H:=λ_ _ h=>h
theorem qE.trans (a:qE H Y)(b:qE Y Q):qE H Q:=λc o h=>b c o (a c o h)
theorem qE.free (e:qE H Q){l:Af}(h:Q l=AbX):H l=AbX:=by
 cases q:H l with
 |none=>rfl
 |some o =>
  rw[e l o q] at h;cases h
theorem qE.seq {K:Ak}{a:Af}(e:qE H Q)(h:kj K H a xs):kj K Q a xs:=by
 rcases h with (h|⟨o,h⟩)|h
 .exact .inl (.inl (e _ _ h))
 .exact .inl (.inr ⟨o,e _ _ h⟩)
 .exact .inr h
end _L
end
section
namespace _D
open _L
inductive D where
 |non|bl (b:Ar)|int (i:Ah)|str (x:As)|ty (n:Et)|obj (a:Af)|tup (xs:Aa D)|lst (xs:Aa D)|dct0|loc (i:Ag)|exn (c:Ac)|fd (ks:Aa be) (ds:Aa D)|clo (a:Af) (vs:Aa V) (ds:Aa D)
def qBb (a:Af)(c:Ac):HO:=.ext λh=>∃ Q,h.get? a=Ab Q/\Q.cls=c
inductive MO where
 |dead|lst (xs:Aa D)|dct (kvs:Aa (be × D))|dcT (kvs:Aa (Aa Ah × D))|ins (C:Af) (fs:Aa (As × D))
abbrev ao:=Aa MO
inductive aw (β : Type) where
 |ok (d:β) (S:ao)|ex (c:Ac) (x:D) (S:ao)|bad
@[inline] noncomputable def aw.bind {β γ:Type}(r:aw β)(f:β->ao->aw γ) : aw γ:=
 match r with
 |.ok d S=>f d S
 |.ex c x S=>.ex c x S
 |.bad=>.bad
theorem aw.bind_ok {β γ:Type}(d:β)(S:ao)(f:β->ao->aw γ) : (aw.ok d S).bind f=f d S:=rfl
section
variable (K:Ak)(P:Hp)(α: Aa Af)
mutual
def aq:D->V->Prop
 |.non,v=>v=.non
 |.bl b,v=>v=.bl b
 |.int i,v=>v=.int i
 |.str x,v=>v=.str x
 |.ty n,v=>v=.ty n
 |.obj a,v=>v=.ref a/\Ha K (.ref a)=true
 |.tup Y,v=>∃ a Q,v=.ref a/\jp K P a Q/\qB Y Q
 |.lst Y,v=>∃ a Q,v=.ref a/\ql K P a Q/\qB Y Q
 |.dct0,v=>∃ a,v=.ref a/\P a=Ab (.dK [])
 |.loc i,v=>∃ a,v=.ref a/\α[i]? = Ab a
 |.exn c,v=>∃ a,v=.ref a/\P a=Ab (qBb a c)
 |.fd J Y,v=>∃ a o Q,v=.ref a/\P a=Ab (.frz o (.dK (J.zip Q)))/\J.length=Q.length/\qB Y Q
 |.clo a Q Y,v=>v=.ref a/\qB Y Q
def qB:Aa D->Aa V->Prop
 |[],Q=>Q=[]
 |d::J,Q=>∃ w Y,Q=w::Y/\aq d w/\qB J Y
end
end
section
variable {K:Ak}{P P':Hp}{α α':ae}
theorem yB (e:qE P P'){a:Af}{xs:Aa V}(h:jp K P a xs):jp K P' a xs:=by
 rcases h with (h|⟨o,h⟩)|h
 .exact .inl (.inl (e _ _ h))
 .exact .inl (.inr ⟨o,e _ _ h⟩)
 .exact .inr h
theorem oW (e:qE P P'){a:Af}{u:HO}(h:Rd P a u):Rd P' a u:=by
 rcases h with h|⟨o,h⟩
 .exact .inl (e _ _ h)
 .exact .inr ⟨o,e _ _ h⟩
theorem xE (e:qE P P'){a:Af}{xs:Aa V}(h:ql K P a xs):ql K P' a xs:=by
 rcases h with h|h
 .exact .inl (oW e h)
 .exact .inr h
theorem fS {i:Ag}{a:Af}(h:α<+:α')(e:α[i]? = Ab a):α'[i]? = Ab a:=by
 obtain⟨r,rfl⟩:=h;rw[Bk (Az.mp e).1];exact e
mutual
theorem aq.mono (e:qE P P')(h:α<+:α'):∀ (d:D) (v:V),aq K P α d v->aq K P' α' d v
 |.non,_,r=>by simpa only [aq] using r
 |.bl _,_,r=>by simpa only [aq] using r
 |.int _,_,r=>by simpa only [aq] using r
 |.str _,_,r=>by simpa only [aq] using r
 |.ty _,_,r=>by simpa only [aq] using r
 |.obj _,_,r=>by simpa only [aq] using r
 |.tup Y,v,r=>by
  simp only[aq] at r ⊢;obtain⟨a,Q,rfl,q,t⟩:=r;exact⟨a,Q,rfl,yB e q,qB.mono e h Y Q t⟩
 |.lst Y,v,r=>by
  simp only[aq] at r ⊢;obtain⟨a,Q,rfl,q,t⟩:=r;exact⟨a,Q,rfl,xE e q,qB.mono e h Y Q t⟩
 |.dct0,v,r=>by
  simp only[aq] at r ⊢;obtain⟨a,rfl,q⟩:=r;exact⟨a,rfl,e _ _ q⟩
 |.loc i,v,r=>by
  simp only[aq] at r ⊢;obtain⟨a,rfl,q⟩:=r;exact⟨a,rfl,fS h q⟩
 |.exn c,v,r=>by
  simp only[aq] at r ⊢;obtain⟨a,rfl,q⟩:=r;exact⟨a,rfl,e _ _ q⟩
 |.fd U Y,v,r=>by
  simp only[aq] at r ⊢;obtain⟨a,o,Q,rfl,q,J,t⟩:=r;exact⟨a,o,Q,rfl,e _ _ q,J,qB.mono e h Y Q t⟩
 |.clo a Q Y,v,r=>by
  simp only[aq] at r ⊢;exact⟨r.1,qB.mono e h Y Q r.2⟩
theorem qB.mono (e:qE P P')(h:α<+:α'):∀ (Q:Aa D) (vs:Aa V),qB K P α Q vs->qB K P' α' Q vs
 |[],vs,r=>by simpa only [qB] using r
 |d::Q,vs,r=>by
  simp only[qB] at r ⊢;obtain⟨w,Y,rfl,U,J⟩:=r;exact⟨w,Y,rfl,aq.mono e h d w U,qB.mono e h Q Y J⟩
end
theorem qB.nil:qB K P α [] []:=by simp only[qB]
theorem qB.cons {d:D}{v:V}{Q:Aa D}{vs:Aa V}(r:aq K P α d v)(t:qB K P α Q vs):qB K P α (d::Q) (v::vs):=by
 simp only[qB];exact⟨v,vs,rfl,r,t⟩
theorem qB.nil_inv {vs:Aa V}(r:qB K P α [] vs):vs=[]:=by simpa only [qB] using r
theorem qB.cons_inv {d:D}{Y:Aa D}(r:qB K P α (d::Y) vs):∃ w Q,vs=w::Q/\aq K P α d w/\qB K P α Y Q:=by simpa only [qB] using r
theorem qB.length:∀ {Q:Aa D} {vs:Aa V},qB K P α Q vs->Q.length=vs.length
 |[],vs,r=>by rw[r.nil_inv];rfl
 |d::Q,vs,r=>by
  obtain⟨w,Y,rfl,_,t⟩:=r.cons_inv;rw[By,By,t.length]
theorem qB.append:∀ {Y es:Aa D} {vs Q:Aa V},qB K P α Y vs->qB K P α es Q->qB K P α (Y++es) (vs++Q)
 |[],es,vs,Q,r,t=>by rw[r.nil_inv];exact t
 |d::Y,es,vs,Q,r,t=>by
  obtain⟨w,G,rfl,U,J⟩:=r.cons_inv;exact .cons U (J.append t)
theorem qB.get:∀ {Q:Aa D} {vs:Aa V} {i:Ag} {d:D},qB K P α Q vs->Q[i]? = Ab d->∃ v,vs[i]? = Ab v/\aq K P α d v
 |[],_,_,_,_,e=>by simp at e
 |d::Q,vs,i,Y,r,e=>by
  obtain⟨w,O,rfl,N,G⟩:=r.cons_inv;cases i with
  |zero=>simp at e;subst e;exact⟨w,rfl,N⟩
  |succ i =>
   obtain⟨v,J,U⟩:=G.get (i:=i) (d:=Y) (by simpa using e)
   exact⟨v,by simpa using J,U⟩
theorem qB.drop:∀ {Q:Aa D} {vs:Aa V} (n:Ag),qB K P α Q vs->qB K P α (Q.drop n) (vs.drop n)
 |Q,vs,0,r=>by simpa using r
 |[],vs,n+1,r=>by rw[r.nil_inv];exact .nil
 |d::Q,vs,n+1,r=>by
  obtain⟨w,J,rfl,_,Y⟩:=r.cons_inv;simpa using Y.drop n
theorem qB.take:∀ {Q:Aa D} {vs:Aa V} (n:Ag),qB K P α Q vs->qB K P α (Q.take n) (vs.take n)
 |Q,vs,0,r=>by simpa using qB.nil
 |[],vs,n+1,r=>by rw[r.nil_inv];exact .nil
 |d::Q,vs,n+1,r=>by
  obtain⟨w,U,rfl,J,Y⟩:=r.cons_inv;simpa using qB.cons J (Y.take n)
theorem qB.set (q:aq K P α d v):∀ {Q:Aa D} {vs:Aa V} (n:Ag),qB K P α Q vs->qB K P α (Q.set n d) (vs.set n v)
 |[],vs,n,r=>by rw[r.nil_inv];exact .nil
 |e::Q,vs,0,r=>by
  obtain⟨w,U,rfl,J,Y⟩:=r.cons_inv;exact .cons q Y
 |e::Q,vs,n+1,r=>by
  obtain⟨w,U,rfl,J,Y⟩:=r.cons_inv;exact .cons J (Y.set q n)
end
abbrev qC:=Aa (Al D)
def zE (K:Ak)(P:Hp)(α : Aa Af)(σ : _L.St)(aj:qC):Prop:=aj.length=σ.length/\∀ (i:Ag) (d:D),aj[i]? = Ab (Ab d)->∃ v,σ[i]? = Ab (Ab v)/\aq K P α d v
def mr (K:Ak)(P:Hp)(α : Aa Af){κ : Type}:Aa (κ × D)->Aa (κ × V)->Prop:=Paired λ(p:κ × D) (q:κ × V)=>p.1=q.1/\aq K P α p.2 q.2
def ZJ (Q:Aa Ah):Ah:=Zc (Ia (Q.map hashInt))
def qBG (a:Af)(xs:Aa (Aa Ah × Af × V))(h:Bv):Prop:=∃ Q:Aa (Aa Ah × Af × Ac),Paired (λ(p:Aa Ah × Af × V) (q:Aa Ah × Af × Ac)=>p.1=q.1/\p.2.1=q.2.1/\qH p.2.2 q.2.2) xs Q /\
 ∃ o Y J,h.get? a=Ab o/\o.ExactDict/\o.data=.dict Y J/\Y.toList=Q.map λx=>⟨ZJ x.1,.ref x.2.1,x.2.2⟩
abbrev dtO (a:Af)(xs:Aa (Aa Ah × Af × V)):HO:=.ext (qBG a xs)
def yz (K:Ak)(P:Hp)(α : Aa Af):Aa (Aa Ah × D)->Aa (Aa Ah × Af × V)->Prop:=Paired λ(p:Aa Ah × D) (q:Aa Ah × Af × V)=>p.1=q.1/\jp K P q.2.1 (q.1.map V.int)/\aq K P α p.2 q.2.2
def tw (K:Ak)(H P:Hp)(α : Aa Af)(a:Af):MO->Prop
 |.dead=>Sc
 |.lst U=>∃ Q,H a=Ab (.lst Q)/\qB K P α U Q
 |.dct Y=>∃ Q,H a=Ab (.dK Q)/\mr K P α Y Q
 |.dcT Y=>∃ J,H a=Ab (dtO a J)/\(a == Jw)=false/\J.length<=sizeLine/\(J.map (·.1)).Nodup/\yz K P α Y J
 |.ins C N=>∃ G Q,H a=Ab (.ins C G Q)/\mr K P α N Q
inductive xi (x:As)(H P:Hp)(α : Aa Af)(T:Af):Prop
 |mk (ps:Ay Ac) (e:H T=Ab (.tbl ps)) (pn:P T=none) (an:T ∉ α) (ok:Np ps.toList) (cd:∀ pos cv,Rq pos ps.toList=Ab cv->∃ c oc vs t,cv=.ref c/\H c=Ab (.frz oc (.frz oc (.own 0)))/\oc.data=.fields vs/\vs[1]? = Ab (.str (x ++ ".<locals>." ++ "<lambda>") t)):xi x H P α T
def QV (K:Ak)(H P:Hp)(α : Aa Af):Prop:=∀ x∈wC,∀ c T,Dw K x=Ab (c,T)->xi x H P α T
def RK (u:HO):Prop:=(∃ Q,u=.tbl Q)\/∃ o,u=.frz o (.frz o (.own 0))
theorem QV.keep {K:Ak}{H J P Y:Hp}{α Q:ae}(r:QV K H P α)(e:∀ b u,H b=Ab u->RK u->J b=Ab u)(hp:∀ b u,H b=Ab u->RK u->P b=none->b ∉ α->Y b=none/\b ∉ Q):QV K J Y Q:=λx O c T h =>
 let ⟨N,U,A,C,ok,L⟩:=r x O c T h
 let z:=hp _ _ U (.inl ⟨_,rfl⟩) A C
 ⟨N,e _ _ U (.inl ⟨_,rfl⟩),z.1,z.2,ok,λI G q=>let ⟨c,B,E,t,a,b,d⟩:=L I G q;⟨c,B,E,t,a,e _ _ b (.inr ⟨_,rfl⟩),d⟩⟩
structure a_ (K:Ak)(H P:Hp)(α : Aa Af)(S:ao):Prop where
 tb:QV K H P α
 sub:qE P H
 len:α.length=S.length
 nd:α.Nodup
 sep:∀ (i:Ag) (a:Af) (o:MO),α[i]? = Ab a->S[i]? = Ab o->o≠.dead->P a=none
 at':∀ (i:Ag) (a:Af) (o:MO),α[i]? = Ab a->S[i]? = Ab o->tw K H P α a o
 own:∀ (i:Ag) (a:Af),α[i]? = Ab a->H a≠none
section
variable {K:Ak}{H P P':Hp}{α α':ae}{S:ao}
theorem zE.mono {σ : _L.St}(e:qE P P')(h:α<+:α')(r:zE K P α σ aj):zE K P' α' σ aj:=
 ⟨r.1,λi d q=>let ⟨v,Q,Y⟩:=r.2 i d q;⟨v,Q,aq.mono e h d v Y⟩⟩
theorem mr.mono {κ : Type}(e:qE P P')(h:α<+:α'){kvs:Aa (κ × D)}{vs:Aa (κ × V)}(r:mr K P α kvs vs):mr K P' α' kvs vs:=by
 refine Paired.mapP r λp q z=>⟨z.1,aq.mono e h _ _ z.2⟩
theorem yz.mono (e:qE P P')(h:α<+:α'){kvs:Aa (Aa Ah × D)}{xs:Aa (Aa Ah × Af × V)}(r:yz K P α kvs xs):yz K P' α' kvs xs:=
 Paired.mapP r λp q z=>⟨z.1,yB e z.2.1,aq.mono e h _ _ z.2.2⟩
theorem tw.mono {a:Af}(e:qE P P')(h:α<+:α'):∀ {o:MO},tw K H P α a o->tw K H P' α' a o
 |.dead,_=>trivial
 |.lst _,⟨Q,q,r⟩=>⟨Q,q,qB.mono e h _ _ r⟩
 |.dct _,⟨Q,q,r⟩=>⟨Q,q,r.mono e h⟩
 |.dcT _,⟨Q,q,d,l,n,r⟩=>⟨Q,q,d,l,n,r.mono e h⟩
 |.ins _ _,⟨Y,Q,q,r⟩=>⟨Y,Q,q,r.mono e h⟩
theorem a_.grow (r:a_ K H P α S)(e:qE H J):a_ K J P α S where
 tb:=r.tb.keep (λb u q _=>e _ _ q) λ_ _ _ _ p n=>⟨p,n⟩
 sub:=r.sub.trans e
 len:=r.len
 nd:=r.nd
 sep:=r.sep
 at':=λi a o N G=>by
  have m:=r.at' i a o N G;cases o with
  |dead=>trivial
  |lst O=>obtain⟨Q,q,t⟩:=m;exact⟨Q,e _ _ q,t⟩
  |dct Y=>obtain⟨Q,q,t⟩:=m;exact⟨Q,e _ _ q,t⟩
  |dcT Y=>obtain⟨Q,q,t⟩:=m;exact⟨Q,e _ _ q,t⟩
  |ins C B=>obtain⟨U,Q,q,t⟩:=m;exact⟨U,Q,e _ _ q,t⟩
 own:=λi a q=>by
  have m:=r.own i a q;cases z:H a with
  |none=>exact absurd z m
  |some o=>rw[e _ _ z];intro w;cases w
theorem pU {H:Hp}{a:Af}(h:H a=none):qE H (bv H a o):=λb u e=>by rw[qJ (qZ e h)];exact e
theorem a_.pure {a:Af}(r:a_ K H P α S)(h:H a=none):a_ K (bv H a o) (bv P a o) α S/\qE P (bv P a o):=by
 have N:P a=none:=by
  cases z:P a with
  |none=>rfl
  |some u=>rw[r.sub _ _ z] at h;cases h
 have U:qE P (bv P a o):=pU N;have G:=r.grow (pU (o:=o) h);refine⟨⟨r.tb.keep (λb u q _=>(qJ (qZ q h)).trans q) λb u q _ p n=>⟨(qJ (qZ q h)).trans p,n⟩,λb u e=>?_,r.len,r.nd,λi b u Y J O=>?_,λi b u Y J=>(G.at' i b u Y J).mono U (Be _),G.own⟩,U⟩
 .by_cases Q:b=a
  .subst Q;rw[qQ] at e ⊢;exact e
  .rw[qJ Q] at e ⊢;exact r.sub _ _ e
 .have Q:b≠a:=by rintro rfl;exact r.own i b Y h
  rw[qJ Q];exact r.sep i b u Y J O
theorem a_.new {a:Af}(r:a_ K H P α S)(h:H a=none)(hm:tw K (bv H a o) P (α ++ [a]) a m):a_ K (bv H a o) P (α ++ [a]) (S++[m]):=by
 have C:P a=none:=by
  cases z:P a with
  |none=>rfl
  |some u=>rw[r.sub _ _ z] at h;cases h
 have U:=r.grow (pU (o:=o) h);have L:α<+:α++[a]:=Ek _ _;have split:∀ (i:Ag) (b:Af),(α++[a])[i]? = Ab b->(i<α.length/\α[i]? = Ab b)\/(i=α.length/\b=a):=λi b q=>by
  by_cases Q:i<α.length
  .rw[Bk Q] at q;exact .inl ⟨Q,q⟩
  .rw[Ct om] at q
   cases N:i-α.length with
   |zero=>rw[N] at q;simp at q;exact .inr ⟨by fin2,q.symm⟩
   |succ k=>rw[N] at q;simp at q
 refine⟨r.tb.keep (λb u q _=>(qJ (qZ q h)).trans q) λb u q _ p n=>⟨p,λz=>(Cc.mp z).elim n λw=>qZ q h (by simpa using w)⟩,U.sub,by simp[r.len],?_,λi b u J Y B=>?_,λi b u J Y=>?_,λi b q=>?_⟩
 .rw[Ki]
  refine⟨r.nd,by simp,λb O c G e=>?_⟩
  simp at G;subst G;subst e;obtain⟨i,Q,e⟩:=Cq.mp O;exact r.own i b (by rw[An Q,e]) h
 .rcases split i b J with⟨Q,z⟩|⟨Q,rfl⟩
  .rw[Bk (by rw[<- r.len];exact Q)] at Y
   exact r.sep i b u z Y B
  .exact C
 .rcases split i b J with⟨Q,z⟩|⟨Q,rfl⟩
  .rw[Bk (by rw[<- r.len];exact Q)] at Y
   exact(U.at' i b u z Y).mono (qE.refl _) L
  .rw[Q,r.len,Ct (Aw _)] at Y
   simp at Y;subst Y;exact hm
 .rcases split i b q with⟨_,z⟩|⟨_,rfl⟩
  .exact U.own i b z
  .rw[qQ];intro z;cases z
theorem sN {N:ae}(Y:N.Nodup){i j:Ag}{x:Af}(a:N[i]? = Ab x)(b:N[j]? = Ab x):i=j:=by
 obtain⟨U,J⟩:=Az.mp a;obtain⟨G,Q⟩:=Az.mp b;exact(Vb Y).mp (J.trans Q.symm)
theorem a_.put {a:Af}{i:Ag}(r:a_ K H P α S)(O:α[i]? = Ab a)(hs:S[i]? = Ab m)(E:m≠.dead)(hm:tw K (bv H a o) P α a m'):a_ K (bv H a o) P α (S.set i m'):=by
 have L:=r.sep i a m O hs E;have w:i<S.length:=(Az.mp hs).1;refine⟨r.tb.keep (λb u q B=>?_) λ_ _ _ _ p n=>⟨p,n⟩,λb u e=>?_,by simp[r.len],r.nd,λj b u J G A=>?_,λj b u J G=>?_,λj b q=>?_⟩
 .refine(qJ ?_).trans q
  rintro rfl;have z:=r.at' i _ m O hs;cases m with
  |dead=>exact E rfl
  |lst I=>obtain⟨Q,z,_⟩:=z;rw[q] at z;rcases B with⟨_,rfl⟩|⟨_,rfl⟩ <;> cases z
  |dct U=>obtain⟨Q,z,_⟩:=z;rw[q] at z;rcases B with⟨_,rfl⟩|⟨_,rfl⟩ <;> cases z
  |dcT U=>obtain⟨Q,z,_⟩:=z;rw[q] at z;rcases B with⟨_,rfl⟩|⟨_,rfl⟩ <;> cases z
  |ins C M=>obtain⟨T,Q,z,_⟩:=z;rw[q] at z;rcases B with⟨_,rfl⟩|⟨_,rfl⟩ <;> cases z
 .have Y:b≠a:=by rintro rfl;rw[L] at e;cases e
  rw[qJ Y];exact r.sub _ _ e
 .by_cases N:j=i
  .subst N;rw[O] at J;cases J;exact L
  .rw[Cj (Gd N)] at G;exact r.sep j b u J G A
 .by_cases N:j=i
  .subst N;rw[O] at J;cases J
   rw[Dy w] at G;cases G;exact hm
  .rw[Cj (Gd N)] at G
   have Y:b≠a:=by rintro rfl;exact N (sN r.nd J O)
   have z:=r.at' j b u J G;cases u with
   |dead=>trivial
   |lst I=>obtain⟨Q,q,t⟩:=z;exact⟨Q,by rw[qJ Y];exact q,t⟩
   |dct U=>obtain⟨Q,q,t⟩:=z;exact⟨Q,by rw[qJ Y];exact q,t⟩
   |dcT U=>obtain⟨Q,q,t⟩:=z;exact⟨Q,by rw[qJ Y];exact q,t⟩
   |ins C M=>obtain⟨T,Q,q,t⟩:=z;exact⟨T,Q,by rw[qJ Y];exact q,t⟩
 .by_cases Y:b=a
  .subst Y;rw[qQ];intro z;cases z
  .rw[qJ Y];exact r.own j b q
end
theorem nn {β : Type}{a:β}{p:Prop}(h:(none:Al β) = Ab a):p:=by cases h
theorem pG {β : Type}{c:Prop}[Io c]{a b:β}(h:(if c then Ab a else none)=Ab b):c/\a=b:=by
 by_cases z:c
 .rw[Bd z] at h;exact⟨z,Dd h⟩
 .rw[Bg z] at h;exact nn h
end _D
end
namespace _D
open _L
variable {us:ah}{bo:Aa Ge}{vs:Aa V}{u vv:Ac}{p:Af}{sp:Sp}{S:ao}{Q:VK}
abbrev DE:=qC->ao->aw D
abbrev DT:=qC->ao->aw Ar
abbrev DA:=qC->ao->aw (Aa D)
inductive jo where
 |nx (env:qC) (S:ao)|rt (d:D) (S:ao)|bk (env:qC) (S:ao)|ct (env:qC) (S:ao)|ex (c:Ac) (x:D) (env:qC) (S:ao)|bad
abbrev DS:=qC->ao->jo
def wn (X:Cx)(ai:aa)(H:Hp)(b:Af):Prop:=
 (∃ o,X.s₀.heap.get? b=Ab o)\/H b≠none\/(∃ p∈X.pn++ai,p.1=b)\/∃ x,X.env.cells.lookup x=Ab b
def Cv (X:Cx)(ai:aa)(H:Hp)(B h:Bv):Prop:=∀ b o,h.get? b=Ab o->wn X ai H b->b ∉ ir X.stack->B.get? b=Ab o
inductive sn (X:Cx)(pins:aa)(H:Hp)(c:Ac)(e:Af)(h:Bv):Prop where
 |new (g:Bv) (args:ah):AbD g h e c args->g.FunFrames X.base X.stack->(∀ b o,h.get? b=Ab o->wn X pins H b->g.get? b=Ab o)->sn X pins H c e h
 |fly (B:Bv) (a0:Ac):v6 B X.stack e c a0 h->Cv X pins H B h->sn X pins H c e h
inductive wf (X:Cx)(P:Hp)(α : Aa Af)(c:Ac)(x:D)(S:ao)(u:Ac)(s:Ai):Prop
 |mk (e:Af) (pins:aa) (σ : _L.St) (H:Hp) (P':Hp) (α' : Aa Af) (e1:u=.ref e) (I:Inv X pins σ H s) (r:a_ X.K H P' α' S) (q1:qE P P') (q2:α<+:α') (q3:X.ex=[]/\X.stack=X.env::X.outer/\X.env.frame=Ab X.env.locals) (q4:sn X pins H c e s.heap):wf X P α c x S u s
theorem wf.base {X:Cx}{P P1:Hp}{α Y:ae}(e:qE P P1)(h:α<+:Y)(k:wf X P1 Y c x S u s):wf X P α c x S u s:=by
 obtain⟨a,C,σ,H,U,J,L,I,r,B,O,N,G⟩:=k;exact⟨a,C,σ,H,U,J,L,I,r,e.trans B,h.trans O,N,G⟩
section
variable (X:Cx)
def qK {β:Type}(P:Hp)(α : Aa Af)(r:aw β)(Ok:β->ao->Prop):Prop:=
 match r with
 |.ok d Y=>Ok d Y
 |.ex c x Y=>∀ u J,wf X P α c x Y u J->X.xe u J
 |.bad=>Fk
def ju (P:Hp)(α : Aa Af)(Q:VK)(d:D)(G:ao):Prop:=∀ v U J Y,a_ X.K U J Y G->qE P J->α<+:Y->aq X.K J Y d v->Q v U
def yu (P:Hp)(α : Aa Af)(Q:Ar->Hp->Prop)(b:Ar)(G:ao):Prop:=∀ U J Y,a_ X.K U J Y G->qE P J->α<+:Y->Q b U
def _d (P:Hp)(α : Aa Af)(Q:Aa V->Hp->Prop)(G:Aa D)(N:ao):Prop:=∀ vs U J Y,a_ X.K U J Y N->qE P J->α<+:Y->qB X.K J Y G vs->Q vs U
abbrev qU (P:Hp)(α : Aa Af)(r:aw D)(Q:VK):Prop:=qK X P α r (ju X P α Q)
abbrev wW (P:Hp)(α : Aa Af)(r:aw Ar)(Q:Ar->Hp->Prop):Prop:=qK X P α r (yu X P α Q)
abbrev bF (P:Hp)(α : Aa Af)(r:aw (Aa D))(Q:Aa V->Hp->Prop):Prop:=qK X P α r (_d X P α Q)
def zC (P:Hp)(α : Aa Af)(r:jo)(D:Ends):Prop:=
 match r with
 |.nx U O=>∀ J N G Y,a_ X.K N G Y O->zE X.K G Y J U->qE P G->α<+:Y->D.nx J N
 |.bk U O=>∀ J N G Y,a_ X.K N G Y O->zE X.K G Y J U->qE P G->α<+:Y->D.bk J N
 |.ct U O=>∀ J N G Y,a_ X.K N G Y O->zE X.K G Y J U->qE P G->α<+:Y->D.ct J N
 |.rt d O=>∀ v N G Y,a_ X.K N G Y O->qE P G->α<+:Y->aq X.K G Y d v->D.rt v N
 |.ex c x _ O=>∀ u C,wf X P α c x O u C->X.xe u C
 |.bad=>Fk
inductive tD (f:DE)(σ : _L.St)(H:Hp)(Q:VK):Prop
 |mk (P:Hp) (α : Aa Af) (env:qC) (S:ao) (r:a_ X.K H P α S) (re:zE X.K P α σ env) (af:qU X P α (f env S) Q):tD f σ H Q
inductive my (f:DT)(σ : _L.St)(H:Hp)(Q:Ar->Hp->Prop):Prop
 |mk (P:Hp) (α : Aa Af) (env:qC) (S:ao) (r:a_ X.K H P α S) (re:zE X.K P α σ env) (af:wW X P α (f env S) Q):my f σ H Q
inductive lc (f:DA)(σ : _L.St)(H:Hp)(Q:Aa V->Hp->Prop):Prop
 |mk (P:Hp) (α : Aa Af) (env:qC) (S:ao) (r:a_ X.K H P α S) (re:zE X.K P α σ env) (af:bF X P α (f env S) Q):lc f σ H Q
inductive i_ (f:DS)(D:Ends)(σ : _L.St)(H:Hp):Prop
 |mk (P:Hp) (α : Aa Af) (env:qC) (S:ao) (r:a_ X.K H P α S) (re:zE X.K P α σ env) (af:zC X P α (f env S) D):i_ f D σ H
end
section
variable {X:Cx}{P P1:Hp}{α α1:ae}
theorem qU.base (e:qE P P1)(h:α<+:α1)(k:qU X P α r Q):qU X P1 α1 r Q:=by
 cases r with
 |ok d S=>exact λv C G Y r O J N=>k v C G Y r (e.trans O) (h.trans J) N
 |ex c x S=>exact λu U q=>k u U (q.base e h)
 |bad=>exact k
theorem wW.base {Q:Ar->Hp->Prop}(e:qE P P1)(h:α<+:α1)(k:wW X P α r Q):wW X P1 α1 r Q:=by
 cases r with
 |ok d S=>exact λO U Y r G J=>k O U Y r (e.trans G) (h.trans J)
 |ex c x S=>exact λu N q=>k u N (q.base e h)
 |bad=>exact k
theorem bF.base {Q:Aa V->Hp->Prop}(e:qE P P1)(h:α<+:α1)(k:bF X P α r Q):bF X P1 α1 r Q:=by
 cases r with
 |ok d S=>exact λv C U Y r G J O=>k v C U Y r (e.trans G) (h.trans J) O
 |ex c x S=>exact λu N q=>k u N (q.base e h)
 |bad=>exact k
theorem zC.base {D:Ends}(e:qE P P1)(h:α<+:α1)(k:zC X P α r D):zC X P1 α1 r D:=by
 cases r with
 |nx C S=>exact λv N U Y r O G J=>k v N U Y r O (e.trans G) (h.trans J)
 |bk C S=>exact λv N U Y r O G J=>k v N U Y r O (e.trans G) (h.trans J)
 |ct C S=>exact λv N U Y r O G J=>k v N U Y r O (e.trans G) (h.trans J)
 |rt d S=>exact λv N U Y r G J L=>k v N U Y r (e.trans G) (h.trans J) L
 |ex c x C S=>exact λu B q=>k u B (q.base e h)
 |bad=>exact k
theorem xr (k:ju X P α Q d S)(r:a_ X.K H P α S)(q:aq X.K P α d v):Q v H:=k v H P α r (qE.refl _) (Be _) q
end
section
variable {X:Cx}{a b e:Bx}{ap:Fb}
theorem qt {t t':TE}(h:PE X e t)(w:∀ σ H Q,t' σ H Q->t σ H Q):PE X e t':=λY s σ H Q I q=>h Y s σ H Q I (w σ H Q q)
theorem wz {st:Ge}{t t':TS}(h:PS X st t)(w:∀ D σ H,t' D σ H->t D σ H):PS X st t':=λY s σ H D I q=>h Y s σ H D I (w D σ H q)
theorem HX {st:Aa Ge}{t t':TS}(h:jn X st t)(w:∀ D σ H,t' D σ H->t D σ H):jn X st t':=λY s σ H D I q=>h Y s σ H D I (w D σ H q)
theorem paW {t t':TA}(h:PA X es t)(w:∀ σ H Q,t' σ H Q->t σ H Q):PA X es t':=λap Y s σ H Q I q=>h ap Y s σ H Q I (w σ H Q q)
structure Got (X:Cx)(pins:aa)(σ : _L.St)(env:qC)(P:Hp)(α : Aa Af)(u:Ac)(s1:Ai)(v:V)(H1 P1:Hp)(α1:ae)(d:D)(S1:ao):Prop where
 inv:Inv X pins σ H1 s1
 val:qH v u
 rel:a_ X.K H1 P1 α1 S1
 env:zE X.K P1 α1 σ env
 rep:aq X.K P1 α1 d v
 same:qE P P1
 pre:α<+:α1
inductive x_ (X:Cx)(pins:aa)(σ : _L.St)(env:qC)(P:Hp)(α : Aa Af)(u:Ac)(s1:Ai){γ : Type}(g:D->ao->aw γ)(Ok:γ->ao->Prop):Prop
 |mk (v:V) (H1 P1:Hp) (α1:ae) (d:D) (S1:ao) (G:Got X pins σ env P α u s1 v H1 P1 α1 d S1) (q:qK X P α (g d S1) Ok):x_ X pins σ env P α u s1 g Ok
inductive vt (X:Cx)(pins:aa)(σ : _L.St)(env:qC)(P:Hp)(α : Aa Af)(us:ah)(s1:Ai){γ : Type}(g:Aa D->ao->aw γ)(Ok:γ->ao->Prop):Prop
 |mk (vs:Aa V) (H1 P1:Hp) (α1:ae) (ds:Aa D) (S1:ao) (I:Inv X pins σ H1 s1) (rv:qI vs us) (r:a_ X.K H1 P1 α1 S1) (re:zE X.K P1 α1 σ env) (rp:qB X.K P1 α1 ds vs) (e1:qE P P1) (e2:α<+:α1) (q:qK X P α (g ds S1) Ok):vt X pins σ env P α us s1 g Ok
inductive xx (X:Cx)(pins:aa)(σ : _L.St)(env:qC)(P:Hp)(α : Aa Af)(b:Ar)(s1:Ai){γ : Type}(g:Ar->ao->aw γ)(Ok:γ->ao->Prop):Prop
 |mk (H1 P1:Hp) (α1:ae) (S1:ao) (I:Inv X pins σ H1 s1) (r:a_ X.K H1 P1 α1 S1) (re:zE X.K P1 α1 σ env) (e1:qE P P1) (e2:α<+:α1) (q:qK X P α (g b S1) Ok):xx X pins σ env P α b s1 g Ok
theorem zS {γ:Type}{g:D->ao->aw γ}{Ok:γ->ao->Prop}{σ:_L.St}{H P:Hp}{α:ae}{aj:qC}(M:PE X e (tD X f))(I:Inv X ai σ H s)(r:a_ X.K H P α S)
  (L:zE X.K P α σ aj) (U:qK X P α ((f aj S).bind g) Ok) :
  c3 X (eval e X.env) (λu C=>x_ X ai σ aj P α u C g Ok) X.xe s:=by
 refine bj (M ai s σ H (λv N=>∃ J Y d G,a_ X.K N J Y G/\zE X.K J Y σ aj/\aq X.K J Y d v/\qE P J/\α<+:Y/\qK X P α (g d G) Ok) I ⟨P,α,aj,S,r,L,?_⟩) λu C ⟨v,N,o,m,J,Y,d,G,l,y,j,z,w,k⟩=>⟨v,N,J,Y,d,G,⟨o,m,l,y,j,z,w⟩,k⟩;cases q:f aj S with
 |bad=>rw[q] at U;exact U
 |ex c x B=>rw[q] at U;exact U
 |ok d B =>
  rw[q] at U;exact λv i A O t E T n=>⟨A,O,d,B,t,L.mono E T,n,E,T,U⟩
theorem wJ {γ:Type}{g:Aa D->ao->aw γ}{Ok:γ->ao->Prop}{σ:_L.St}{H P:Hp}{α:ae}{aj:qC}(w:PA X es (lc X f))(I:Inv X ai σ H s)(r:a_ X.K H P α S)
  (T:zE X.K P α σ aj) (U:qK X P α ((f aj S).bind g) Ok) (ap:Fb) :
  c3 X (spliced (Gr ap (Bo es X.env))) (λus B=>vt X ai σ aj P α us B g Ok) X.xe s:=by
 refine bj (w ap ai s σ H (λvs N=>∃ J Y C G,a_ X.K N J Y G/\zE X.K J Y σ aj/\qB X.K J Y C vs/\qE P J/\α<+:Y/\qK X P α (g C G) Ok) I ⟨P,α,aj,S,r,T,?_⟩) λu B ⟨v,N,l,n,J,Y,d,G,t,k,y,j,z,o⟩=>⟨v,N,J,Y,d,G,l,n,t,k,y,j,z,o⟩;cases q:f aj S with
 |bad=>rw[q] at U;exact U
 |ex c x L=>rw[q] at U;exact U
 |ok d L =>
  rw[q] at U;exact λv h M O m A E i=>⟨M,O,d,L,m,T.mono A E,i,A,E,U⟩
theorem gF {γ:Type}{f:DT}{g:Ar->ao->aw γ}{Ok:γ->ao->Prop}{ai:aa}{s:Ai}{σ:_L.St}{H P:Hp}{α:ae}{aj:qC}{m:Kt Ar}
  (k:∀ (Q:Ar->Hp->Prop),my X f σ H Q->c3 X m (TP X ai σ Q) X.xe s) (r:a_ X.K H P α S) (E:zE X.K P α σ aj) (J:qK X P α ((f aj S).bind g) Ok) :
  c3 X m (λb L=>xx X ai σ aj P α b L g Ok) X.xe s:=by
 refine bj (k (λb N=>∃ U Y G,a_ X.K N U Y G/\zE X.K U Y σ aj/\qE P U/\α<+:Y/\qK X P α (g b G) Ok) ⟨P,α,aj,S,r,E,?_⟩) λb L ⟨N,z,U,Y,G,j,M,A,I,w⟩=>⟨N,U,Y,G,z,j,M,A,I,w⟩;cases q:f aj S with
 |bad=>rw[q] at J;exact J
 |ex c x T=>rw[q] at J;exact J
 |ok d T =>
  rw[q] at J;exact λl y O o B C=>⟨y,O,T,o,E.mono B C,B,C,J⟩
def dC (d:D):DE:=λ_ S=>.ok d S
def q9 (i:Ag):DE:=λY S=>match Y[i]? with
 |some (Ab d)=>.ok d S
 |_=>.bad
theorem DX:PE X (.Constant (.int i) j ap) (tD X (dC (.int i))):=qt HF λσ H Q ⟨P,α,U,S,r,J,Y⟩=>xr Y r (by simp only[aq])
theorem IT:PE X (.Constant (.bool i) j ap) (tD X (dC (.bl i))):=qt qAS λσ H Q ⟨P,α,U,S,r,J,Y⟩=>xr Y r (by simp only[aq])
theorem S9:PE X (.Constant .none j ap) (tD X (dC .non)):=qt HG λσ H Q ⟨P,α,U,S,r,J,Y⟩=>xr Y r (by simp only[aq])
set_option tactic.hygienic true in
theorem NZ {σ:_L.St}(h:tD X (q9 i) σ H Q):AK i σ H Q:=by
 obtain⟨P,α,N,S,r,J,Y⟩:=h;unfold q9 at Y
 split at Y
 .rename_i d q
  obtain⟨v,U,G⟩:=J.2 i d q;exact⟨v,U,xr Y r G⟩
 .exact Au Y
theorem dv (i:Ag){x:As}(J:X.N[i]? = Ab x:=by rfl)(hv:qw X.env.scope x:=by first|exact AaK rfl|exact Zp (AaK rfl)|exact Zp (Zp rfl))(U:(x == ("__debug__" : As))=false:=by decide)
  (Y:(x == ("__classdict__" : As))=false:=by decide):PE X (.Name x ap) (tD X (q9 i)):=qt (YQ J hv U Y) λσ H Q h=>NZ h
theorem F6 (J:Gl X x)(hm:X.mg x=Ab u)(r:qH v u)(q:∀ P α,aq X.K P α d v)(Y:(x == ("__debug__" : As))=false:=by decide):PE X (.Name x ap) (tD X (dC d)):=
 qt (TJ J hm r Y) λσ H Q ⟨P,α,G,S,r,N,U⟩=>xr U r (q _ _)
theorem F4 (U:Gl X x)(hm:X.mg x=none)(hv:Gb x=Ab (.type n))(J:x ≠ "__name__":=by decide)(Y:(x == ("__debug__" : As))=false:=by decide):PE X (.Name x ap) (tD X (dC (.ty n))):=
 qt (TH (v:=.ty n) U hm hv rfl J Y) λσ H Q ⟨P,α,N,S,r,O,G⟩=>xr G r (by simp only[aq])
abbrev G2:=D->D->ao->aw D
def gy (X:Cx)(f:Ac->Ac->Kt Ac)(g:G2):Prop:=
 ∀ (Y:aa) (σ : _L.St) (H:Hp) (s:Ai) (P:Hp) (α : Aa Af) (S:ao) (v u:V) (vv J:Ac) (a b:D) (Q:VK),Inv X Y σ H s->a_ X.K H P α S->qH v vv->qH u J->aq X.K P α a v->aq X.K P α b u->qU X P α (g a b S) Q ->
  c3 X (f vv J) (EP X Y σ Q) X.xe s
theorem gy.of {f:Ac->Ac->Kt Ac}{g:G2}(h:ma X f r)(w:∀ H P α S v u a b Q,a_ X.K H P α S->aq X.K P α a v->aq X.K P α b u->qU X P α (g a b S) Q->r v u H Q):gy X f g:=
 λJ σ H s P α S v u vv U a b Q I N C G Y O B=>h J s σ H v u vv U Q I C G (w H P α S v u a b Q N Y O B)
def zz (X:Cx)(f:Ac->Kt Ac)(g:D->ao->aw D):Prop:=
 ∀ (Y:aa) (σ : _L.St) (H:Hp) (s:Ai) (P:Hp) (α : Aa Af) (S:ao) (v:V) (vv:Ac) (a:D) (Q:VK),Inv X Y σ H s->a_ X.K H P α S->qH v vv->aq X.K P α a v->qU X P α (g a S) Q ->
  c3 X (f vv) (EP X Y σ Q) X.xe s
def F_ (X:Cx)(g:G2):Prop:=
 ∀ (J Y:Bx) (G:aa) (σ : _L.St) (H:Hp) (s:Ai) (P:Hp) (α : Aa Af) (S:ao) (v u:V) (vv U:Ac) (a b:D) (Q:VK),Inv X G σ H s->a_ X.K H P α S->qH v vv->qH u U->aq X.K P α a v->aq X.K P α b u->qU X P α (g a b S) Q ->
  subscripted Y false vv U=operate [vv,U] (Pe vv U)->c3 X (Tx J Y vv U) (EP X G σ Q) X.xe s
def wA (X:Cx)(f:Ac)(g:Aa D->ao->aw D):Prop:=
 ∀ (J:aa) (σ : _L.St) (H:Hp) (s:Ai) (P:Hp) (α : Aa Af) (S:ao) (vs:Aa V) (us:ah) (Y:Aa D) (Q:VK),Inv X J σ H s->a_ X.K H P α S->qI vs us->qB X.K P α Y vs->qU X P α (g Y S) Q ->
  c3 X (call f us) (EP X J σ Q) X.xe s
def d2 (g:G2)(G N:DE):DE:=λY S=>(G Y S).bind λx U=>(N Y U).bind λy J=>g x y J
def d1 (g:D->ao->aw D)(Y:DE):DE:=λJ S=>(Y J S).bind g
variable {fa fb:DE}
theorem eQ {f:Ac->Ac->Kt Ac}{σ:_L.St}(A:gy X f g)(k:PE X a (tD X fa))(T:PE X b (tD X fb))(I:Inv X ai σ H s)(h:tD X (d2 g fa fb) σ H Q) :
  c3 X (eval a X.env) (λv U=>c3 X (eval b X.env) (λu G=>c3 X (f v u) (EP X ai σ Q) X.xe G) X.xe U) X.xe s:=by
 obtain⟨P,α,c,S,r,w,o⟩:=h;refine bj (zS k I r w o) λvv t ⟨v,l,L,J,d,m,Y,C⟩=>?_;refine bj (zS T Y.inv Y.rel Y.env (P:=L) (α:=J) (Ok:=ju X L J Q) (g:=λy B=>g d y B) ?_) λz j ⟨u,q,M,O,E,B,G2,N⟩=>?_
 .exact qU.base Y.same Y.pre C
 .exact A ai σ q j M O B v u vv z d E Q G2.inv G2.rel Y.val G2.val (aq.mono G2.same G2.pre _ _ Y.rep) G2.rep (qU.base G2.same G2.pre N)
theorem IX (J:gy X (En op) g)(U:PE X a (tD X fa))(Y:PE X b (tD X fb)):PE X (.BinOp a op b ap) (tD X (d2 g fa fb)):=
 λG s σ H Q I h=>wpAny_BinOp (eQ J U Y I h)
theorem DV (J:gy X (Di op) g)(U:PE X a (tD X fa))(Y:PE X b (tD X fb))(hm:Nn op b=false:=by first|exact bS _|with_unfolding_all rfl):PE X (.Compare a [op] [b] ap) (tD X (d2 g fa fb)):=
 λG s σ H Q I h=>wpAny_Compare1 (eQ J U Y I h) hm
theorem IY {g:D->ao->aw D}(N:zz X (AaE op) g)(T:PE X a (tD X fa)):PE X (.UnaryOp op a ap) (tD X (d1 g fa)):=by
 intro L s σ H Q I h;obtain⟨P,α,M,S,r,C,A⟩:=h;exact UnaryOp_ (bj (zS T I r C A) λvv O ⟨v,G,B,J,d,E,Y,U⟩=>N L σ G O B J E v vv d Q Y.inv Y.rel Y.val Y.rep (qU.base Y.same Y.pre U))
theorem IW (n:F_ X g)(ha:PE X a (tD X fa))(t:PE X b (tD X fb))(hs:lC b:=by intro _ _;rfl):PE X (.Subscript a b ap) (tD X (d2 g fa fb)):=by
 intro w s σ H Q I h;obtain⟨P,α,G,S,r,C,J⟩:=h;have O:vq X (λx y H Q=>∃ P α S a b,a_ X.K H P α S/\aq X.K P α a x/\aq X.K P α b y/\qU X P α (g a b S) Q):=λU N w s σ H x y v u Q I rx ry ⟨P,α,S,a,b,r,m,p2,J⟩ k =>
  n U N w σ H s P α S x y v u a b Q I r rx ry m p2 J k
 refine qt (qAT O ha t hs) (t':=tD X (d2 g fa fb)) (λσ H Q h=>?_) w s σ H Q I ⟨P,α,G,S,r,C,J⟩;obtain⟨P,α,G,S,r,C,J⟩:=h;refine⟨P,α,G,S,r,C,?_⟩;unfold d2 at J;cases q:fa G S with
 |bad=>rw[q] at J;exact J
 |ex c x S'=>rw[q] at J;exact J
 |ok d j =>
  rw[q] at J;intro v H1 i B r1 A L rp;refine⟨i,B,G,j,r1,C.mono A L,?_⟩;have Y:qU X P α ((fb G j).bind λy o=>g d y o) Q:=J;cases T:fb G j with
  |bad=>rw[T] at Y;exact Y
  |ex c x S'=>rw[T] at Y;exact λu s' z=>Y u s' (z.base A L)
  |ok d' o =>
   rw[T] at Y;intro u H2 P2 M r2 l f E;exact⟨P2,M,o,d,d',r2,aq.mono l f _ _ rp,E,qU.base (A.trans l) (L.trans f) Y⟩
def qA:DA:=λ_ S=>.ok [] S
def q8 (f:DE)(g:DA):DA:=λY S=>(f Y S).bind λx G=>(g Y G).bind λU J=>.ok (x::U) J
theorem DP:PA X [] (lc X qA):=paW HE λσ H Q ⟨P,α,U,S,r,J,Y⟩=>Y [] H P α r (qE.refl _) (Be _) .nil
theorem F3 (T:PE X e (tD X fa))(z:PA X es (lc X g))(hs:Bo (e::es) X.env=(false,eval e X.env)::Bo es X.env:=by rfl):PA X (e::es) (lc X (q8 fa g)):=by
 intro ap m s σ H Q I h;obtain⟨P,α,l,S,r,E,q⟩:=h;rw[hs];show Aq _ _ (spliced ((false,eval e X.env)::Gr ap (Bo es X.env))) _ _ s;refine Lh (bj (zS T I r E q) λu t ⟨x,o,O,J,d,n,Y,G⟩=>?_);refine bj (wJ z Y.inv Y.rel Y.env (P:=O) (α:=J) (Ok:=_d X O J Q) (bF.base Y.same Y.pre G) ap) λus c ⟨k,y,f,A,v,i,L,M,w,j,U,B,C,N⟩=>?_;exact⟨x::k,y,L,.cons Y.val M,N _ _ _ _ w B C (.cons (aq.mono B C _ _ Y.rep) U)⟩
noncomputable def bq:Ag:=16777216
theorem x8:bq=sizeLine:=Fy.symm
def zV (f:DA):DE:=λU S=>(f U S).bind λY J=>if Y.length<=bq then .ok (.tup Y) J else .bad
def yJ (f:DA):DE:=λU S=>(f U S).bind λY J=>if Y.length<=bq then .ok (.lst Y) J else .bad
def k9 (f:DA):DE:=λU S=>(f U S).bind λY J=>if Y.length<=bq then .ok (.loc J.length) (J++[.lst Y]) else .bad
theorem fV {K:Ak}{P:Hp}{α:ae}{a:Af}(h:jp K P a vs)(r:qB K P α Y vs):aq K P α (.tup Y) (.ref a):=by simp only[aq];exact⟨a,vs,rfl,h,r⟩
theorem fU {K:Ak}{P:Hp}{α:ae}{a:Af}(h:ql K P a vs)(r:qB K P α Y vs):aq K P α (.lst Y) (.ref a):=by simp only[aq];exact⟨a,vs,rfl,h,r⟩
theorem pR {H P:Hp}{α:ae}(r:a_ X.K H P α S)(hp:H p=none)(N:qB X.K P α Y vs)(U:ju X P α Q (.tup Y) S):Q (.ref p) (bv H p (.tup vs)):=by
 obtain⟨G,J⟩:=r.pure (o:=.tup vs) hp;exact U _ _ _ α G J (Be _) (fV (.of qQ) (qB.mono J (Be _) _ _ N))
theorem yT {H P:Hp}{α:ae}(r:a_ X.K H P α S)(hp:H p=none)(N:qB X.K P α Y vs)(U:ju X P α Q (.lst Y) S):Q (.ref p) (bv H p (.lst vs)):=by
 obtain⟨G,J⟩:=r.pure (o:=.lst vs) hp;exact U _ _ _ α G J (Be _) (fU (.inl (.inl qQ)) (qB.mono J (Be _) _ _ N))
theorem fP {H P:Hp}{α:ae}(r:a_ X.K H P α S)(hp:H p=none)(N:qB X.K P α J vs)(U:ju X P α Q (.loc S.length) (S++[.lst J])):Q (.ref p) (bv H p (.lst vs)):=by
 have Y:α<+:α++[p]:=Ek _ _;have G:=r.new (o:=.lst vs) (m:=.lst J) hp ⟨vs,qQ,qB.mono (qE.refl _) Y _ _ N⟩;refine U _ _ _ _ G (qE.refl _) Y ?_;simp only[aq];exact⟨p,rfl,by rw[<- r.len];simp⟩
theorem lH {f:DA}{σ:_L.St}{H:Hp}{G:Aa D->ao->aw D}{mk:Aa V->HO}(h:tD X (λaj S=>(f aj S).bind λxs S1=>if xs.length<=bq then G xs S1 else .bad) σ H Q)
  (k:∀ N P1 J S1 O vs p,a_ X.K N P1 J S1->N p=none->qB X.K P1 J O vs->qU X P1 J (G O S1) Q->Q (.ref p) (bv N p (mk vs))) :
  lc X f σ H λvs N=>vs.length<=sizeLine/\∀ p,N p=none->Q (.ref p) (bv N p (mk vs)):=by
 obtain⟨P,α,aj,S,r,E,I⟩:=h;refine⟨P,α,aj,S,r,E,?_⟩;have Y:qU X P α ((f aj S).bind λxs S1=>if xs.length<=bq then G xs S1 else .bad) Q:=I
 cases q:f aj S with
 |bad=>rw[q] at Y;exact Y
 |ex c x w=>rw[q] at Y;exact Y
 |ok O S1 =>
  rw[q] at Y;intro vs N P1 J A M L B;have U:qU X P α (if O.length<=bq then G O S1 else .bad) Q:=Y
  by_cases C:O.length<=bq
  .rw[Bd C] at U
   exact⟨by rw[<- B.length,<- x8];exact C,λp T=>k N P1 J S1 O vs p A T B (qU.base M L U)⟩
  .rw[Bg C] at U;exact Au U
theorem SC {x1}(h:PA X es (lc X f)):PE X (.Tuple es x1 ap) (tD X (zV f)):=
 qt (HI h) λσ H Q q=>lH (G:=λN Y=>.ok (.tup N) Y) (mk:=.tup) q λL T U Y B vs p r J C O=>pR r J C O
theorem DZ (h:PA X es (lc X f)):PE X (.List es ap) (tD X (yJ f)):=
 qt (YO h) λσ H Q q=>lH (G:=λN Y=>.ok (.lst N) Y) (mk:=.lst) q λL T U Y B vs p r J C O=>yT r J C O
theorem F7 (h:PA X es (lc X f)):PE X (.List es ap) (tD X (k9 f)):=
 qt (YO h) λσ H Q q=>lH (G:=λN Y=>.ok (.loc Y.length) (Y++[MO.lst N])) (mk:=.lst) q λL T U Y B vs p r J C O=>fP r J C O
end
section
variable {X:Cx}{a b c e:Bx}{ap:Fb}{fa fb fc:DE}{ta tb:DT}
def xC:D->ao->Al Ar
 |.non,_=>Ab false
 |.bl b,_=>Ab b
 |.int i,_=>Ab (i != 0)
 |.str x,_=>if x.length<=bq then Ab ((x.length:Ah) != 0) else none
 |.tup Y,_=>Ab (!Y.isEmpty)
 |.lst Y,_=>Ab (!Y.isEmpty)
 |.dct0,_=>Ab false
 |.loc i,S=>match S[i]? with
  |some (.lst Y)=>Ab (!Y.isEmpty)
  |some (.dct J)=>Ab (!J.isEmpty)
  |_=>none
 |_,_=>none
theorem qB.isEmpty {K:Ak}{P:Hp}{α:ae}(r:qB K P α Y vs):(!Y.isEmpty)=!vs.isEmpty:=by
 cases Y with
 |nil=>rw[r.nil_inv];rfl
 |cons d Y=>obtain⟨w,J,rfl,_,_⟩:=r.cons_inv;rfl
theorem xZ {K:Ak}{H P:Hp}(e:qE P H){a:Af}{xs:Aa V}(h:jp K P a xs):jp K H a xs:=yB e h
theorem j6 {H P:Hp}{α:ae}{k:Ar}(r:a_ X.K H P α S)(p:aq X.K P α d v)(h:xC d S=Ab k):QX X.K v H k:=by
 cases d with
 |non=>simp only[aq] at p;subst p;cases h;rfl
 |bl b=>simp only[aq] at p;subst p;cases h;rfl
 |int i=>simp only[aq] at p;subst p;cases h;rfl
 |str x =>
  simp only[aq] at p;subst p;obtain⟨U,rfl⟩:=pG h;exact⟨by rw[<- x8];exact U,rfl⟩
 |tup J =>
  simp only[aq] at p;obtain⟨a,vs,rfl,q,t⟩:=p;cases h;exact .inr (.inl ⟨vs,xZ r.sub q,t.isEmpty⟩)
 |lst J =>
  simp only[aq] at p;obtain⟨a,vs,rfl,q,t⟩:=p;cases h;exact .inl ⟨vs,(xE r.sub q).l,t.isEmpty⟩
 |dct0 =>
  simp only[aq] at p;obtain⟨a,rfl,q⟩:=p;cases h;exact .inr (.inr ⟨[],r.sub _ _ q,rfl⟩)
 |loc i =>
  simp only[aq] at p;obtain⟨a,rfl,q⟩:=p;have h:(match S[i]? with|some (.lst J)=>Ab (!J.isEmpty)|some (.dct Y)=>Ab (!Y.isEmpty)|_=>none)=Ab k:=h
  cases hs:S[i]? with
  |none=>rw[hs] at h;exact nn h
  |some m =>
   rw[hs] at h;cases m with
   |lst J =>
    cases h;obtain⟨vs,z,t⟩:=r.at' i a _ q hs;exact .inl ⟨vs,.of z,t.isEmpty⟩
   |dct Y =>
    cases h;obtain⟨vs,z,t⟩:=r.at' i a _ q hs;refine .inr (.inr ⟨vs,z,?_⟩);cases t <;> rfl
   |_=>exact nn h
 |ty n=>exact nn h
 |obj a=>exact nn h
 |exn c=>exact nn h
 |fd N G=>exact nn h
 |clo a vs G=>exact nn h
theorem BN {σ:_L.St}{H P:Hp}{α:ae}{k:Ar}{Q:Ar->Hp->Prop}(I:Inv X ai σ H s)(r:a_ X.K H P α S)(Y:qH v vv)(p:aq X.K P α d v)(h:xC d S=Ab k)(q:Q k H) :
  c3 X (truthy vv) (TP X ai σ Q) X.xe s:=f9 ai s σ H v vv Q I Y ⟨k,j6 r p h,q⟩
def uP (o:Al Ar)(S:ao):aw Ar:=match o with
 |some b=>.ok b S
 |none=>.bad
def bx (f:DE):DT:=λJ S=>(f J S).bind λd Y=>uP (xC d Y) Y
theorem dA {P:Hp}{α:ae}{Ok:Ar->ao->Prop}(h:qK X P α (uP o S) Ok):∃ b,o=Ab b/\Ok b S:=by
 cases o with
 |none=>exact Au h
 |some b=>exact⟨b,rfl,h⟩
theorem SW (L:PE X a (tD X fa))(O:∀ Y,isTrue a X.env Y=(do let v <- Y;TD a.pos;holding [v] (truthy v)):=by intro _;rfl):PT X a (my X (bx fa)):=by
 intro w s σ H Q I h;obtain⟨P,α,A,S,r,C,T⟩:=h;refine isTrue_plain (bj (zS L I r C T) λvv M ⟨v,N,B,U,d,z,J,G⟩=>?_) (O _);obtain⟨k,E,q⟩:=dA G;exact BN J.inv J.rel J.val J.rep E (q N B U J.rel J.same J.pre)
theorem SU (E:gy X (Di op) g)(j:PE X a (tD X fa))(L:PE X b (tD X fb))(hm:Nn op b=false:=by first|exact bS _|with_unfolding_all rfl):PT X (.Compare a [op] [b] ap) (my X (bx (d2 g fa fb))):=by
 intro ai s σ H Q I h;obtain⟨P,α,U,S,r,i,af⟩:=h;refine wpAny_isTrue_Compare1 ?_ hm;have G:tD X (d2 g fa fb) σ H (λv J=>∃ k,QX X.K v J k/\Q k J):=by
  refine⟨P,α,U,S,r,i,?_⟩;have Y:qK X P α ((d2 g fa fb U S).bind λd C=>uP (xC d C) C) (yu X P α Q):=af;cases q:d2 g fa fb U S with
  |bad=>rw[q] at Y;exact Y
  |ex c x S'=>rw[q] at Y;exact Y
  |ok d C =>
   rw[q] at Y;obtain⟨k,f,O⟩:=dA (X:=X) Y;exact λv J w N B o l t=>⟨k,j6 B t f,O J w N B o l⟩
 exact bj (eQ E j L I G) λv s1 n=>bj n λu s2 M=>bj M λx m ⟨y,H3,z,A,k,T,O⟩=>f9 ai m σ H3 y x Q z A ⟨k,T,O⟩
def wH (g g':G2)(fa fb fc:DE):DE:=λY S=>(fa Y S).bind λx G=>(fb Y G).bind λy N=>(g x y N).bind λz J =>
 match xC z J with
 |some true=>(fc Y J).bind λw U=>g' y w U
 |some false=>.ok z J
 |none=>.bad
inductive xz (X:Cx)(pins:aa)(σ : _L.St)(P:Hp)(α : Aa Af)(w:Ac)(s1:Ai){γ : Type}(k:D->ao->aw γ)(Ok:γ->ao->Prop):Prop
 |mk (y:V) (H1 P1:Hp) (α1:ae) (d:D) (S1:ao) (I:Inv X pins σ H1 s1) (rv:qH y w) (r:a_ X.K H1 P1 α1 S1) (rp:aq X.K P1 α1 d y) (e1:qE P P1) (e2:α<+:α1) (q:qK X P α (k d S1) Ok):xz X pins σ P α w s1 k Ok
theorem cP {γ:Type}{f:Ac->Ac->Kt Ac}{k:D->ao->aw γ}{Ok:γ->ao->Prop}{σ:_L.St}{P:Hp}{α:ae}{v u:V}{C:Ac}{a b:D}(T:gy X f g)(I:Inv X ai σ H s)(r:a_ X.K H P α S)
  (rv:qH v vv) (l:qH u C) (h:aq X.K P α a v) (pb:aq X.K P α b u) (J:qK X P α ((g a b S).bind k) Ok) :
  c3 X (f vv C) (λw B=>xz X ai σ P α w B k Ok) X.xe s:=by
 refine bj (T ai σ H s P α S v u vv C a b (λy N=>∃ U Y d G,a_ X.K N U Y G/\aq X.K U Y d y/\qE P U/\α<+:Y/\qK X P α (k d G) Ok) I r rv l h pb ?_) λw B ⟨y,N,j,t,U,Y,d,G,o,M,q3,A,E⟩=>⟨y,N,U,Y,d,G,j,t,o,M,q3,A,E⟩;cases q:g a b S with
 |bad=>rw[q] at J;exact J
 |ex c x L=>rw[q] at J;exact J
 |ok d L =>
  rw[q] at J;exact λv H' i O r' m z n=>⟨i,O,d,L,r',n,m,z,J⟩
theorem qK.base' {β:Type}{P P1:Hp}{α J:ae}{r:aw β}{Ok Y:β->ao->Prop}(e:qE P P1)(h:α<+:J)(U:∀ d S,Ok d S->Y d S)(k:qK X P α r Ok):qK X P1 J r Y:=by
 cases r with
 |ok d S=>exact U d S k
 |ex c x S=>exact λu G q=>k u G (q.base e h)
 |bad=>exact k
theorem UD (ho:gy X (Di op) g)(o:gy X (Di N) g')(ha:PE X a (tD X fa))(i:PE X b (tD X fb))(hc:PE X c (tD X fc))
  (hm:Aa6 [op,N] [b,c]=false:=by with_unfolding_all rfl):PE X (.Compare a [op,N] [b,c] ap) (tD X (wH g g' fa fb fc)):=by
 intro m s σ H Q I h;obtain⟨P,α,aj,S,r,re,af⟩:=h;refine Compare_chain (bj (zS ha I r re af) λvv s1 ⟨v,H1,P1,zb,d,S1,G,T⟩=>chain_link (bj (zS i G.inv G.rel G.env (qU.base G.same G.pre T)) λuu s2 ⟨u,H2,P2,zc,d',S2,G2,E⟩ =>
  bj (cP ho G2.inv G2.rel G.val G2.val (aq.mono G2.same G2.pre _ _ G.rep) G2.rep (qU.base G2.same G2.pre E)) λw s3 ⟨y,n,P3,A,z,S3,I3,f,U,O,C,B,Y⟩=>?_)) hm
 cases q:xC z S3 with
 |none=>simp only[q] at Y;exact Au Y
 |some k =>
  simp only[q] at Y;have tv:=j6 U O q;refine bj (f9 m s3 σ n y w (λj H'=>j=k/\H'=n) I3 f ⟨k,tv,rfl,rfl⟩) λj s4 ⟨t,l,hk,x⟩=>?_;subst hk;subst x;cases j with
  |false=>exact ite_ff ⟨y,t,l,f,Y y t P3 A U C B O⟩
  |true =>
   refine ite_tt (chain_last (bj (zS hc l U (G2.env.mono C B) (qU.base C B Y)) λww s5 ⟨w',H5,P5,L,d5,S5,J,M⟩=>?_));exact o m σ H5 s5 P5 L S5 u w' uu ww d' d5 Q J.inv J.rel G2.val J.val (aq.mono (C.trans J.same) (B.trans J.pre) _ _ G2.rep) J.rep (qU.base J.same J.pre M)
theorem UO (ho:gy X (Di op) g)(zs:gy X (Di T) g')(ha:PE X a (tD X fa))(hb:PE X b (tD X fb))(hc:PE X c (tD X fc))
  (hm:Aa6 [op,T] [b,c]=false:=by with_unfolding_all rfl):PT X (.Compare a [op,T] [b,c] ap) (my X (bx (wH g g' fa fb fc))):=by
 intro ai s σ H Q I h;obtain⟨P,α,J,S,r,re,af⟩:=h;have M:qK X P α ((wH g g' fa fb fc J S).bind λd Y=>uP (xC d Y) Y) (yu X P α Q):=af;have L:(wH g g' fa fb fc J S).bind (λd Y=>uP (xC d Y) Y)=(fa J S).bind λx Y=>(fb J Y).bind λy E=>(g x y E).bind λz U =>
   match xC z U with
   |some true=>((fc J U).bind λw N=>g' y w N).bind λd Y=>uP (xC d Y) Y
   |some false=>.ok false U
   |none=>.bad:=by
  unfold wH;cases fa J S with
  |bad=>rfl
  |ex _ _ _=>rfl
  |ok x Y =>
   show aw.bind (aw.bind (fb J Y) _) _=aw.bind (fb J Y) _;cases fb J Y with
   |bad=>rfl
   |ex _ _ _=>rfl
   |ok y E =>
    show aw.bind (aw.bind (g x y E) _) _=aw.bind (g x y E) _;cases g x y E with
    |bad=>rfl
    |ex _ _ _=>rfl
    |ok z U =>
     show aw.bind (match xC z U with|some true=>(fc J U).bind λw N=>g' y w N|some false=>.ok z U|none=>.bad) _=_
     cases A:xC z U with
     |none=>simp only[A,aw.bind]
     |some k=>cases k <;> simp only[A,aw.bind,uP]
 rw[L] at M;refine isTrue_chain (bj (zS ha I r re M) λvv s1 ⟨v,H1,P1,zx,d,Y,B,m⟩=>test_link (bj (zS hb B.inv B.rel B.env (wW.base B.same B.pre m)) λuu s2 ⟨u,H2,P2,q,d',E,G2,n⟩ =>
  bj (cP ho G2.inv G2.rel B.val G2.val (aq.mono G2.same G2.pre _ _ B.rep) G2.rep (wW.base G2.same G2.pre n)) λw s3 ⟨y,H3,P3,i,z,U,I3,r3,C,t,o,l,G⟩=>?_)) hm
 cases A:xC z U with
 |none=>simp only[A] at G;exact Au G
 |some k =>
  simp only[A] at G;have tv:=j6 C t A;refine bj (f9 ai s3 σ H3 y w (λk' H'=>k'=k/\H'=H3) I3 r3 ⟨k,tv,rfl,rfl⟩) λk' s4 ⟨H4,I4,hk,hH⟩=>?_;subst hk;subst hH;cases k' with
  |false=>exact ite_ff ⟨H4,I4,G H4 P3 i C o l⟩
  |true =>
   have zl:qK X P2 q ((fc J U).bind λw N=>(g' d' w N).bind λd Y=>uP (xC d Y) Y) (yu X P2 q Q):=by
    have e:((fc J U).bind λw N=>(g' d' w N).bind λd Y=>uP (xC d Y) Y)=(((fc J U).bind λw N=>g' d' w N).bind λd Y=>uP (xC d Y) Y):=by
     cases fc J U <;> rfl
    rw[e];exact G
   refine ite_tt (test_last (bj (zS hc I4 C (G2.env.mono o l) (wW.base o l zl)) λww s5 ⟨w',H5,P5,zv,d5,S5,O,zc⟩ =>
    bj (cP zs O.inv O.rel G2.val O.val (aq.mono (o.trans O.same) (l.trans O.pre) _ _ G2.rep) O.rep (wW.base O.same O.pre zc)) λx6 s6 ⟨y6,H6,P6,zb,d6,S6,I6,r6,j,zo,e5,e6,f⟩=>?_))
   obtain⟨k6,q6,z6⟩:=dA f;exact BN I6 j r6 zo q6 (z6 H6 P6 zb j e5 e6)
def wU (t:DT):DT:=λJ S=>(t J S).bind λb Y=>.ok (!b) Y
def yF (t u:DT):DT:=λJ S=>(t J S).bind λb Y=>if b then u J Y else .ok false Y
def gY (t u:DT):DT:=λJ S=>(t J S).bind λb Y=>if b then .ok true Y else u J Y
theorem SV (E:PT X a (my X ta)):PT X (.UnaryOp .Not a ap) (my X (wU ta)):=by
 intro B s σ H Q I h;obtain⟨P,α,z,S,r,N,A⟩:=h;refine isTrue_not (bj (gF (λT q=>E B s σ H T I q) r N A) λb j ⟨U,O,Y,y,L,M,G,w,C,J⟩=>⟨U,L,J U O Y M w C⟩)
def tj (X:Cx)(e:Bx)(t:DT):Prop:=PW X e (my X t)
theorem tj.pt {t:DT}(h:tj X e t):PT X e (my X t):=h _
theorem FK (Y:PT X a (my X ta)):tj X (.BoolOp .And [a] ap) ta:=TY Y
theorem SY (Y:PT X a (my X ta)):tj X (.BoolOp .Or [a] ap) ta:=HZ Y
theorem SX {qD:Aa Bx}(w:PT X a (my X ta))(E:tj X (.BoolOp .And (b::qD) ap) tb):tj X (.BoolOp .And (a::b::qD) ap) (yF ta tb):=by
 intro A C s σ H Q I h;obtain⟨P,α,z,S,r,y,l⟩:=h;refine isTrue_and (bj (gF (λM q=>w C s σ H M I q) r y l) λk j ⟨U,O,J,o,B,L,G,T,N,Y⟩=>?_);cases k with
 |true=>exact E A C j σ U Q B ⟨O,J,z,o,L,G,wW.base T N Y⟩
 |false=>exact⟨U,B,Y U O J L T N⟩
theorem O7 {qD:Aa Bx}(w:PT X a (my X ta))(E:tj X (.BoolOp .Or (b::qD) ap) tb):tj X (.BoolOp .Or (a::b::qD) ap) (gY ta tb):=by
 intro A C s σ H Q I h;obtain⟨P,α,z,S,r,y,l⟩:=h;refine isTrue_or (bj (gF (λM q=>w C s σ H M I q) r y l) λk j ⟨U,O,J,o,B,L,G,T,N,Y⟩=>?_);cases k with
 |true=>exact⟨U,B,Y U O J L T N⟩
 |false=>exact E A C j σ U Q B ⟨O,J,z,o,L,G,wW.base T N Y⟩
def mP (f g:DE):DE:=λJ S=>(f J S).bind λx Y=>match xC x Y with
 |some true=>g J Y
 |some false=>.ok x Y
 |none=>.bad
def UA (f:DE):DE:=λJ S=>(f J S).bind λx Y=>match xC x Y with
 |some b=>.ok (.bl (!b)) Y
 |none=>.bad
theorem SB  (h:PE X a (tD X fa)):PE X (.BoolOp op [a] ap) (tD X fa):=HH h
theorem AN {σ:_L.St}{k:Ar}{R:Ar->Ai->Prop}(I:Inv X ai σ H s)(C:qH v vv)(t:QX X.K v H k)(h:∀ s',Inv X ai σ H s'->R k s') :
  c3 X (truthy vv) R X.xe s:=bj (f9 ai s σ H v vv (λY N=>Y=k/\N=H) I C ⟨k,t,rfl,rfl⟩) λY O ⟨B,U,G,J⟩=>by subst G;subst J;exact h O U
theorem DQ {qD:Aa Bx}(A:PE X a (tD X fa))(L:PE X (.BoolOp .And (b::qD) ap) (tD X fb)):PE X (.BoolOp .And (a::b::qD) ap) (tD X (mP fa fb)):=by
 intro T s σ H Q I h;obtain⟨P,α,M,S,r,w,z⟩:=h;refine BoolOp_and (bj (zS A I r w z) λvv j ⟨v,N,O,U,d,B,Y,J⟩=>?_);cases G:xC d B with
 |none=>simp only[G] at J;exact Au J
 |some k =>
  simp only[G] at J;refine AN Y.inv Y.val (j6 Y.rel Y.rep G) λE C=>?_;cases k with
  |true=>exact L T E σ N Q C ⟨O,U,M,B,Y.rel,Y.env,qU.base Y.same Y.pre J⟩
  |false=>exact⟨v,N,C,Y.val,J v N O U Y.rel Y.same Y.pre Y.rep⟩
theorem SA (L:PE X a (tD X fa)):PE X (.UnaryOp .Not a ap) (tD X (UA fa)):=by
 intro w s σ H Q I h;obtain⟨P,α,A,S,r,C,E⟩:=h;refine UnaryOp_ (bj (zS L I r C E) λvv M ⟨v,N,B,U,d,T,J,Y⟩=>?_);cases G:xC d T with
 |none=>simp only[G] at Y;exact Au Y
 |some k =>
  simp only[G] at Y;exact not_of (AN J.inv J.val (j6 J.rel J.rep G) λz O=>⟨.bl (!k),N,O,rfl,Y (.bl (!k)) N B U J.rel J.same J.pre (by simp only[aq])⟩)
def ox (t:DT)(f g:DE):DE:=λY S=>(t Y S).bind λb J=>if b then f Y J else g Y J
theorem IV (o:PT X c (my X ta))(y:PE X a (tD X fa))(w:PE X b (tD X fb)):PE X (.IfExp c a b ap) (tD X (ox ta fa fb)):=by
 intro G s σ H Q I h;obtain⟨P,α,O,S,r,z,l⟩:=h;refine wpAny_IfExp (bj (gF (λj q=>o G s σ H j I q) r z l) λk C ⟨N,B,J,E,T,A,Y,M,L,U⟩=>?_);cases k with
 |true=>exact y G C σ N Q T ⟨B,J,O,E,A,Y,qU.base M L U⟩
 |false=>exact w G C σ N Q T ⟨B,J,O,E,A,Y,qU.base M L U⟩
end
@[inline] noncomputable def aw.toS {β:Type}(aj:qC)(r:aw β)(k:β->ao->jo):jo:=
 match r with
 |.ok d S=>k d S
 |.ex c x S=>.ex c x aj S
 |.bad=>.bad
section
variable {X:Cx}{a b c e:Bx}{ap:Fb}{fa:DE}{ta:DT}{f g:DS}{st:Ge}{qD:Aa Ge}
def zL:DS:=λY S=>.nx Y S
def qM (f g:DS):DS:=λU S=>match f U S with
 |.nx Y J=>g Y J
 |o=>o
theorem SN:jn X [] (i_ X zL):=HX TV λD σ H ⟨P,α,U,S,r,Y,J⟩=>J σ H P α r Y (qE.refl _) (Be _)
theorem FF (h1:PS X st (i_ X f))(h2:jn X qD (i_ X g)):jn X (st::qD) (i_ X (qM f g)):=HX (KE h1 h2) λD σ H ⟨P,α,O,S,r,L,J⟩=>by
 refine⟨P,α,O,S,r,L,?_⟩;unfold qM at J;cases q:f O S with
 |nx Y U =>
  rw[q] at J;exact λB A C N E G I T=>⟨C,N,Y,U,E,G,zC.base I T J⟩
 |rt d U=>rw[q] at J;exact J
 |bk Y U=>rw[q] at J;exact J
 |ct Y U=>rw[q] at J;exact J
 |ex c x Y U=>rw[q] at J;exact J
 |bad=>rw[q] at J;exact J
theorem SO (h1:PS X st (i_ X f)):jn X [st] (i_ X f):=TX h1
def nX:DS:=λY S=>.bk Y S
theorem UL:PS X (.Break ap) (i_ X nX):=wz KC λD σ H ⟨P,α,U,S,r,Y,J⟩=>J σ H P α r Y (qE.refl _) (Be _)
theorem xS {β:Type}{P:Hp}{α:ae}{r:aw β}{k:β->ao->jo}{D:Ends}(h:zC X P α (r.toS aj k) D):qK X P α r λd S=>zC X P α (k d S) D:=by
 cases r with
 |ok d S=>exact h
 |ex c x S=>exact h
 |bad=>exact h
inductive xy (X:Cx)(pins:aa)(σ : _L.St)(env:qC)(P:Hp)(α : Aa Af)(u:Ac)(s1:Ai)(k:D->ao->jo)(E:Ends):Prop
 |mk (v:V) (H1 P1:Hp) (α1:ae) (d:D) (S1:ao) (G:Got X pins σ env P α u s1 v H1 P1 α1 d S1) (q:zC X P1 α1 (k d S1) E):xy X pins σ env P α u s1 k E
theorem tR {k:D->ao->jo}{σ:_L.St}{H P:Hp}{α:ae}{aj:qC}{D:Ends}(O:PE X e (tD X fa))(I:Inv X ai σ H s)(r:a_ X.K H P α S)
  (C:zE X.K P α σ aj) (T:zC X P α ((fa aj S).toS aj k) D) :
  c3 X (eval e X.env) (λu U=>xy X ai σ aj P α u U k D) X.xe s:=by
 have J:qK X P α ((fa aj S).bind λd S=>.ok d S) λd S=>zC X P α (k d S) D:=by
  have:=xS T;cases q:fa aj S <;> rw[q] at this <;> exact this
 exact bj (zS O I r C J) λu U ⟨v,N,B,Y,d,L,G,q⟩=>⟨v,N,B,Y,d,L,G,zC.base G.same G.pre q⟩
def yI (f:DE):DS:=λY S=>(f Y S).toS Y λ_ J=>.nx Y J
theorem FG (U:PE X e (tD X fa))(hs:Pu e none ap.line X.env=pure false:=by rfl):PS X (.Expr e ap) (i_ X (yI fa)):=by
 intro T s σ H D I h;obtain⟨P,α,B,S,r,N,C⟩:=h;exact wpAny_Expr_any (bj (tR U I r N C) λv L ⟨x,J,O,Y,d,E,G,q⟩=>⟨σ,J,G.inv,q σ J O Y G.rel G.env (qE.refl _) (Be _)⟩) I.quiet hs
def qS (f:DE):DS:=λY S=>(f Y S).toS Y λd J=>.rt d J
theorem SR (U:PE X e (tD X fa)):PS X (.Return (Ab e) ap) (i_ X (qS fa)):=by
 intro T s σ H D I h;obtain⟨P,α,B,S,r,N,C⟩:=h;exact wpAny_Return_some (bj (tR U I r N C) λv L ⟨x,J,O,Y,d,E,G,q⟩=>⟨x,σ,J,G.inv,G.val,q x J O Y G.rel (qE.refl _) (Be _) G.rep⟩)
def e_ (t:DT)(f g:DS):DS:=λY S=>(t Y S).toS Y λb J=>if b then f Y J else g Y J
theorem O1 {as bs:Aa Ge}(o:PT X c (my X ta))(y:jn X as (i_ X f))(z:jn X bs (i_ X g)):PS X (.If c as bs ap) (i_ X (e_ ta f g)):=by
 intro N s σ H D I h;obtain⟨P,α,Y,S,r,l,v⟩:=h;have O:qK X P α ((ta Y S).bind λd S=>.ok d S) λb S=>zC X P α (if b then f Y S else g Y S) D:=by
  have:=xS v;cases q:ta Y S <;> rw[q] at this <;> exact this
 refine wpAny_If (bj (gF (λj q=>o N s σ H j I q) r l O) λk E ⟨L,B,G,A,T,M,U,w,C,J⟩=>?_);cases k with
 |true=>exact y N E σ L D T ⟨B,G,Y,A,M,U,zC.base w C J⟩
 |false=>exact z N E σ L D T ⟨B,G,Y,A,M,U,zC.base w C J⟩
abbrev DG:=D->qC->ao->aw qC
abbrev rg:=Aa D->qC->ao->aw qC
def xn (X:Cx)(P:Hp)(α : Aa Af)(Q:_L.St->Hp->Prop)(J:qC)(O:ao):Prop:=∀ U N G Y,a_ X.K N G Y O->zE X.K G Y U J->qE P G->α<+:Y->Q U N
def qd (X:Cx)(g:DG):TG:=λv σ H Q=>∃ P α Y S d,a_ X.K H P α S/\zE X.K P α σ Y/\aq X.K P α d v/\qK X P α (g d Y S) (xn X P α Q)
def aJ (X:Cx)(g:rg):vk:=λvs σ H Q=>∃ P α J S Y,a_ X.K H P α S/\zE X.K P α σ J/\qB X.K P α Y vs/\qK X P α (g Y J S) (xn X P α Q)
theorem zE.set {K:Ak}{P:Hp}{α:ae}{σ:_L.St}(Y:zE K P α σ aj)(i:Ag)(N:aq K P α d v):zE K P α (σ.set i (Ab v)) (aj.set i (Ab d)):=by
 refine⟨by simp[Y.1],λj G e=>?_⟩
 by_cases U:i=j
 .subst U
  by_cases J:i<aj.length
  .rw[Dy J] at e
   cases e;exact⟨v,by rw[Dy (by rw[<- Y.1];exact J)],N⟩
  .rw[List.getElem?_eq_none (by simp;fin2)] at e;cases e
 .rw[Cj U] at e ⊢
  exact Y.2 j G e
def bi (i:Ag):DG:=λd Y S=>.ok (Y.set i (Ab d)) S
theorem F9 {i:Ag}(C:X.N.Nodup)(hi:X.N[i]? = Ab x:=by rfl)(Y:Loc X.env.scope x:=by first|exact AaK rfl|exact Zp rfl)(U:X.fn x=true\/X.env.scope.names.lookup x=Ab .local:=by first|exact .inl rfl|exact .inr rfl|assumption):PG X (.Name x ap) (qd X (bi i)):=by
 intro O s σ H v u Q I N h;obtain⟨P,α,L,S,d,r,G,J,B⟩:=h;exact TL C hi Y U O s σ H v u Q I N (B _ H P α r (G.set i J) (qE.refl _) (Be _))
def yH:rg:=λY J S=>match Y with
 |[]=>.ok J S
 |_=>.bad
def zP (g:DG)(G:rg):rg:=λJ N S=>match J with
 |d::r=>(g d N S).bind λY U=>G r Y U
 |[]=>.bad
theorem FA:uq X [] (aJ X yH):=by
 intro N s σ H vs us Q I G h;obtain⟨P,α,C,S,Y,r,U,O,J⟩:=h;cases Y with
 |nil=>exact TM N s σ H vs us Q I G ⟨O.nil_inv,J σ H P α r U (qE.refl _) (Be _)⟩
 |cons d Y=>exact Au J
theorem UG {g:DG}(h1:PG X e (qd X g))(h2:uq X es (aJ X E))(hs:(Hl (e::es) X.env).map (·.2)=assign e X.env::(Hl es X.env).map (·.2):=by rfl):uq X (e::es) (aJ X (zP g E)):=by
 intro ai s σ H vs us Q I rv h;obtain⟨P,α,G,S,U,r,re,t,j⟩:=h;cases U with
 |nil=>exact Au j
 |cons d U =>
  obtain⟨w,m,rfl,y,o⟩:=t.cons_inv;refine KA h1 h2 hs ai s σ H _ us Q I rv ⟨w,m,rfl,P,α,G,S,d,r,re,y,?_⟩;have Y:qK X P α ((g d G S).bind λJ M=>E U J M) (xn X P α Q):=j;cases q:g d G S with
  |bad=>rw[q] at Y;exact Y
  |ex c x S'=>rw[q] at Y;exact Y
  |ok J M =>
   rw[q] at Y;intro k H' n B r' T C N;refine⟨n,B,J,M,U,r',T,qB.mono C N _ _ o,qK.base' C N (λz S' ok O H2 i L r2 A l v=>ok O H2 i L r2 A (C.trans l) (N.trans v)) Y⟩
def lg (n:Ag)(J:rg):DG:=λd U S=>match d with
 |.tup Y=>if Y.length=n then J Y U S else .bad
 |_=>.bad
set_option tactic.hygienic true in
theorem SG {k:Ag}{n:Ag}(L:X.calm=true)(h:uq X es (aJ X U))(T:(Hl es X.env).length=n:=by rfl)(J:(Hl es X.env).findIdx? (·.1)=none:=by rfl):PG X (.Tuple es k ap) (qd X (lg n U)):=by
 intro C s σ H v u Q I O A;obtain⟨P,α,B,S,d,r,M,G,Y⟩:=A;cases d with
 |tup E =>
  simp only[aq] at G;obtain⟨a,vs,rfl,q,t⟩:=G;simp only[lg] at Y
  split at Y
  .rename_i N
   exact HJ L h T J C s σ H _ u Q I O ⟨a,vs,rfl,xZ r.sub q,by rw[<- t.length];exact N,P,α,B,S,E,r,M,t,Y⟩
  .exact Au Y
 |_=>exact Au Y
abbrev G3:=D->D->D->ao->aw Wk
def OkU (X:Cx)(P:Hp)(α : Aa Af)(Q:Hp->Prop)(_:Wk)(G:ao):Prop:=∀ U J Y,a_ X.K U J Y G->qE P J->α<+:Y->Q U
def rQ (X:Cx)(g:G3):VT:=λo i v H Q=>∃ P α S a b d,a_ X.K H P α S/\aq X.K P α a o/\aq X.K P α b i/\aq X.K P α d v/\qK X P α (g a b d S) (OkU X P α Q)
def kw (G N:DE)(g:G3):DG:=λd Y S=>(G Y S).bind λo J=>(N Y J).bind λi O=>(g o i d O).bind λ_ U=>.ok Y U
theorem SE {g:G3}(ho:PE X o (tD X j))(hi:PE X i (tD X n))(hs:rT X (rQ X g))
  (ha:∀ v,assign (.Subscript o i ap) X.env v=(do
   let G <- holding [v] (eval o X.env)
   let O <- holding [v,G] (eval i X.env)
   TD ap
   holding [v,G,O] (setItem G O v)
   release [v,G,O] []):=by intro _;rfl):PG X (.Subscript o i ap) (qd X (kw j n g)):=by
 intro ai s σ H v u Q I rv h;obtain⟨P,α,aj,S,d,r,re,rp,af⟩:=h;rw[ha];refine Ad (Fn (bj (zS ho I r re af) λG s1 ⟨x,H1,k,N,d1,S1,J,M⟩=>?_));refine Ad (Fn (bj (zS hi J.inv J.rel J.env (P:=k) (α:=N) (Ok:=xn X k N Q) (qK.base' J.same J.pre (λt S' ok B E C U r2 L e3 e4=>ok B E C U r2 L (J.same.trans e3) (J.pre.trans e4)) M)) λO s2 ⟨y,E,C,U,d2,S2,G2,Y⟩=>?_));refine Ad (Qh (Ad (Fn (bj (hs ai s2 σ E x y v G O u (λA=>Q σ A) G2.inv J.val G2.val rv ⟨C,U,S2,d1,d2,d,G2.rel,aq.mono G2.same G2.pre _ _ J.rep,G2.rep,aq.mono (J.same.trans G2.same) (J.pre.trans G2.pre) _ _ rp,?_⟩) λ_ s3 ⟨A,I3,q3⟩=>?_))))
 .cases q:g d1 d2 d S2 with
  |bad=>rw[q] at Y;exact Y
  |ex c x S'=>rw[q] at Y;exact λu s' z=>Y u s' (z.base G2.same G2.pre)
  |ok w S3 =>
   rw[q] at Y;exact λH' P' T r' m l=>Y σ H' P' T r' (G2.env.mono m l) (G2.same.trans m) (G2.pre.trans l)
 .exact wpAny_release ⟨σ,A,I3,q3⟩
def qR (f:DE)(g:DG):DS:=λJ S=>(f J S).toS J λd U=>(g d J U).toS J λY G=>.nx Y G
theorem XU {g:DG}{P:Hp}{α:ae}{J:Ends}(h:zC X P α ((g d aj S).toS aj λY G=>.nx Y G) J):qK X P α (g d aj S) (xn X P α J.nx):=by
 cases q:g d aj S with
 |bad=>rw[q] at h;exact h
 |ex c x N=>rw[q] at h;exact h
 |ok U O=>rw[q] at h;exact h
theorem SJ {g:DG}(C:PE X e (tD X fa))(T:PG X Y (qd X g))(hs:Nm [Y] e ap.line X.env=pure false:=by rfl)(hw:Nl [Y] e X.env=pure none:=by rfl)
  (h1:(Hl [Y] X.env).map (·.2)=[assign Y X.env]:=by rfl):PS X (.Assign [Y] e ap) (i_ X (qR fa g)):=by
 intro N s σ H D I h;obtain⟨P,α,B,S,r,E,M⟩:=h;refine wpAny_Assign_stores (bj (tR C I r E M) λv L ⟨x,O,U,J,d,A,G,q⟩=>?_) hs hw;rw[h1];exact bj (T N L σ O x v _ G.inv G.val ⟨U,J,B,A,d,G.rel,G.env,G.rep,XU q⟩) λ_ w q=>q
theorem SS {i:Ag}(E:X.N.Nodup)(L:PE X e (tD X fa))(hi:X.N[i]? = Ab x:=by rfl)(N:Loc X.env.scope x:=by first|exact AaK rfl|exact Zp rfl)(hs:Pu e (Ab (.Name x Y)) ap.line X.env=pure false:=by rfl)
  (B:X.fn x=true\/X.env.scope.names.lookup x=Ab .local:=by first|exact .inl rfl|exact .inr rfl|assumption):PS X (.Assign [.Name x Y] e ap) (i_ X (qR fa (bi i))):=by
 intro j s σ H D I h;obtain⟨P,α,M,S,r,T,A⟩:=h;refine wpAny_Assign_Name (bj (tR L I r T A) λv z ⟨y,U,C,J,d,k,G,q⟩=>?_) hs;exact jR G.inv E hi N G.val (λw O=>⟨_,U,O,q _ U C J G.rel (G.env.set i G.rep) (qE.refl _) (Be _)⟩) B
noncomputable def cR (i j:Ag)(aj:qC)(S1:ao):Aa D->jo
 |[x,y]=>.nx ((aj.set i (Ab x)).set j (Ab y)) S1
 |_=>.bad
def bZ (i j:Ag)(f:DA):DS:=λY S=>(f Y S).toS Y λJ U=>cR i j Y U J
theorem SQ {i j:Ag}{f:DA}{C L G:Fb}{kt k2 pt2}(s:X.calm=true) (h:X.N.Nodup) (n:PA X [a,b] (lc X f)) (hi:X.N[i]? = Ab x:=by rfl) (v:X.N[j]? = Ab y:=by rfl) (O:i≠j:=by decide)
  (o:X.env.scope.names.lookup x=Ab .local:=by rfl) (z:X.env.scope.names.lookup y=Ab .local:=by rfl)
  (hw:Nl [.Tuple [.Name x C,.Name y L] kt G] (.Tuple [a,b] k2 pt2) X.env=pure (Ab [x,y]):=by rfl)
  (hs:Nm [.Tuple [.Name x C,.Name y L] kt G] (.Tuple [a,b] k2 pt2) ap.line X.env=pure false:=by rfl) :
  PS X (.Assign [.Tuple [.Name x C,.Name y L] kt G] (.Tuple [a,b] k2 pt2) ap) (i_ X (bZ i j f)):=wz (HW s h hi v O o z n hw hs) λD σ H ⟨P,α,N,S,r,T,af⟩=>by
 refine⟨P,α,N,S,r,T,?_⟩;have Y:=xS af;cases q:f N S with
 |bad=>rw[q] at Y;exact Y
 |ex c x S'=>rw[q] at Y;exact Y
 |ok U S1 =>
  rw[q] at Y;intro vs H' k B r' I E rp;have J:zC X P α (cR i j N S1 U) D:=Y;cases U with
  |nil=>exact Au J
  |cons d U=>cases U with
   |nil=>exact Au J
   |cons d' U=>cases U with
    |cons _ _=>exact Au J
    |nil =>
     obtain⟨w,ws,rfl,M,t⟩:=rp.cons_inv;obtain⟨A,l,rfl,m,t⟩:=t.cons_inv;rw[t.nil_inv];exact⟨w,A,rfl,J _ _ k B r' (((T.mono I E).set i M).set j m) I E⟩
end
structure tx (K:Ak)(J:It)(P:Hp)(α : Aa Af)(ds:Aa D):Prop where
 go:∀ i H P1 α1 S,i<ds.length->a_ K H P1 α1 S->qE P P1->α<+:α1->J.go i H
 yld:∀ i H x H' P1 α1 S,i<ds.length->a_ K H P1 α1 S->qE P P1->α<+:α1->J.yld i H x H'->∃ P2 d,ds[i]? = Ab d/\a_ K H' P2 α1 S/\qE P1 P2/\aq K P2 α1 d x
 stop:∀ i H P1 α1 S,ds.length<=i->a_ K H P1 α1 S->qE P P1->α<+:α1->J.stop i H
abbrev DI:=qC->ao->aw (Aa D)
def wo (X:Cx)(P:Hp)(α : Aa Af)(R:It->Hp->Prop)(N:Aa D)(O:ao):Prop:=∀ J G U Y,a_ X.K G U Y O->qE P U->α<+:Y->tx X.K J U Y N->R J G
inductive su (X:Cx)(f:DI)(σ : _L.St)(H:Hp)(R:It->Hp->Prop):Prop
 |mk (P:Hp) (α : Aa Af) (env:qC) (S:ao) (r:a_ X.K H P α S) (re:zE X.K P α σ env) (af:qK X P α (f env S) (wo X P α R)):su X f σ H R
def vU {β:Type}(o:Al β)(S:ao):aw β:=match o with
 |some b=>.ok b S
 |none=>.bad
theorem vV {X:Cx}{β:Type}{o:Al β}{P:Hp}{α:ae}{Ok:β->ao->Prop}(h:qK X P α (vU o S) Ok):∃ b,o=Ab b/\Ok b S:=by
 cases o with
 |none=>exact Au h
 |some b=>exact⟨b,rfl,h⟩
theorem wK {X:Cx}{β:Type}{c:Prop}[Io c]{r:aw β}{P:Hp}{α : Aa Af}{Ok:β->ao->Prop}(h:qK X P α (if c then r else .bad) Ok):c/\qK X P α r Ok:=by
 by_cases z:c
 .rw[Bd z] at h;exact⟨z,h⟩
 .rw[Bg z] at h;exact Au h
theorem cO {X:Cx}{β:Type}{g:D->aw β}{P:Hp}{α:ae}{Ok:β->ao->Prop}(h:qK X P α (match Y with|[d]=>g d|_=>.bad) Ok):∃ d,Y=[d]/\qK X P α (g d) Ok:=by
 cases Y with
 |nil=>exact Au h
 |cons d Y =>
  cases Y with
  |nil=>exact⟨d,rfl,h⟩
  |cons _ _=>exact Au h
theorem d0 {β:Type}{i:Ag}{f:Aa D->Al β}{g:Aa (be × D)->Al β}{b:β}(h:(match S[i]? with|some (.lst xs)=>f xs|some (.dct kvs)=>g kvs|_=>none)=Ab b):(∃ xs,S[i]? = Ab (.lst xs)/\f xs=Ab b)\/∃ kvs,S[i]? = Ab (.dct kvs)/\g kvs=Ab b:=by
 cases e:S[i]? with
 |none=>rw[e] at h;exact nn h
 |some m =>
  rw[e] at h;cases m with
  |lst xs=>exact .inl ⟨xs,rfl,h⟩
  |dct kvs=>exact .inr ⟨kvs,rfl,h⟩
  |_=>exact nn h
theorem RZ {β:Type}{i:Ag}{f:Aa D->Al β}{b:β}(h:(match S[i]? with|some (.lst xs)=>f xs|_=>none)=Ab b):∃ xs,S[i]? = Ab (.lst xs)/\f xs=Ab b:=by
 cases e:S[i]? with
 |none=>rw[e] at h;exact nn h
 |some m =>
  rw[e] at h;cases m with
  |lst xs=>exact⟨xs,rfl,h⟩
  |_=>exact nn h
inductive yv (d:D)(xs:Aa D):Prop
 |tup (e:d=.tup xs)
 |lst (e:d=.lst xs)
noncomputable def fR {β:Type}(S:ao)(n:Ag)(f:Aa D->aw β) : aw β:=match S[n]? with
 |some (.lst Y)=>f Y
 |_=>.bad
theorem jM {X:Cx}{β:Type}{f:Aa D->aw β}{P:Hp}{α:ae}{Ok:β->ao->Prop}(h:qK X P α (fR S n f) Ok):∃ xs,S[n]? = Ab (.lst xs)/\qK X P α (f xs) Ok:=by
 unfold fR at h;cases e:S[n]? with
 |none=>rw[e] at h;exact Au h
 |some m =>
  rw[e] at h;cases m with
  |lst xs=>exact⟨xs,rfl,h⟩
  |_=>exact Au h
noncomputable def zU:D->Al (Aa D)
 |.tup Y=>Ab Y
 |.lst Y=>Ab Y
 |_=>none
theorem zm (h:zU d=Ab xs):yv d xs:=by
 cases d with
 |tup Y=>exact .tup (congrArg D.tup (Dd h))
 |lst Y=>exact .lst (congrArg D.lst (Dd h))
 |_=>exact nn h
def wI (f:DE):DI:=λJ S=>(f J S).bind λd Y=>vU (zU d) Y
section
variable {X:Cx}{K:Ak}{tg e:Bx}{fa:DE}
theorem JC {P:Hp}{α:ae}{a:Af}(q:kj K P a vs)(t:qB K P α G vs):tx K (G_ K a) P α G where
 go:=λi H U J S Y r e _=>⟨vs,vs[i]'(by rw[<- t.length];exact Y),(e.trans r.sub).seq q,by simp⟩
 yld:=λi H x L U J S Y r e O y=>by
  obtain⟨rfl,y⟩:=y;have C:=y vs ((e.trans r.sub).seq q);obtain⟨v,N,B⟩:=t.get (An Y);rw[C] at N;cases N;exact⟨U,_,An Y,r,qE.refl _,aq.mono e O _ _ B⟩
 stop:=λi H U J S Y r e _=>⟨vs,(e.trans r.sub).seq q,by rw[<- t.length];exact Y⟩
theorem MA {P:Hp}{α:ae}{a:Af}(q:jp K P a vs)(t:qB K P α G vs):tx K (_h K a) P α G where
 go:=λi H U J S Y r e _=>⟨vs,vs[i]'(by rw[<- t.length];exact Y),yB (e.trans r.sub) q,by simp⟩
 yld:=λi H x L U J S Y r e O y=>by
  obtain⟨rfl,y⟩:=y;have C:=y vs (yB (e.trans r.sub) q);obtain⟨v,N,B⟩:=t.get (An Y);rw[C] at N;cases N;exact⟨U,_,An Y,r,qE.refl _,aq.mono e O _ _ B⟩
 stop:=λi H U J S Y r e _=>⟨vs,yB (e.trans r.sub) q,by rw[<- t.length];exact Y⟩
theorem c6 {σ:_L.St}{H P:Hp}{α:ae}{R:It->Hp->Prop}(I:Inv X ai σ H s)(r:a_ X.K H P α S)(J:qH v vv)(U:aq X.K P α d v)(N:zU d=Ab O)
  (q:wo X P α R O S):c3 X (Qi vv) (vo X ai σ tg R) X.xe s:=by
 cases d with
 |tup L =>
  cases N;simp only[aq] at U;obtain⟨a,vs,rfl,Y,t⟩:=U;cases J;obtain⟨C,J,p,B⟩:=I.tuple (xZ r.sub Y);refine Gp (show s.heap.IsTuple a C.toArray from p) ?_
  refine⟨s.heap.objs.size,[s.heap.objs.size],_,_,H,rfl,I.kept (t':=s.toks) λb o e=>Aj _ e,XI a _,⟨_,Bb _ rfl,rfl,rfl⟩,λb G=>?_,q _ _ P α r (qE.refl _) (Be _) (MA Y t)⟩;have e:b=s.heap.objs.size:=by simpa using G
  subst e;exact I.fpOk (Aw _) (I.hok.fresh (Aw _))
 |lst L =>
  cases N;simp only[aq] at U;obtain⟨a,vs,rfl,Y,t⟩:=U;cases J;obtain⟨C,J,p,B⟩:=I.list ((xE r.sub Y).l);refine Gj p.isList ?_;refine⟨s.heap.objs.size,[s.heap.objs.size],_,_,H,rfl,I.kept (t':=s.toks) λb o e=>Aj _ e,sZ a _,⟨_,Bb _ rfl,rfl,rfl⟩,λb G=>?_,q _ _ P α r (qE.refl _) (Be _) (JC Y.l t)⟩;have e:b=s.heap.objs.size:=by simpa using G
  subst e;exact I.fpOk (Aw _) (I.hok.fresh (Aw _))
 |_=>cases N
theorem wo.base {P P1:Hp}{α Y:ae}{R:It->Hp->Prop}(e:qE P P1)(h:α<+:Y)(k:wo X P α R G S):wo X P1 Y R G S:=λJ L O U r B N C=>k J L O U r (e.trans B) (h.trans N) C
theorem SH (N:PE X e (tD X fa)):PI X tg e (su X (wI fa)):=by
 intro M s σ H R I h;obtain⟨P,α,T,S,r,U,O⟩:=h;refine bj (zS N I r U O) λvv E ⟨v,L,A,G,d,w,Y,J⟩=>?_;obtain⟨B,C,q⟩:=vV J;exact c6 Y.inv Y.rel Y.val Y.rep C (q.base Y.same Y.pre)
noncomputable def yA (lo:Ah)(n:Ag):Aa D:=(Cd n).map λ(i:Ag)=>D.int (lo+(i:Ah))
theorem pS (lo:Ah)(n:Ag):(yA lo n).length=n:=by simp[yA]
theorem sE {P:Hp}{α:ae}{lo:Ah}:tx K (xu lo n) P α (yA lo n) where
 go:=λi H U J S Y r e _=>by rw[pS] at Y;exact Y
 yld:=λi H x N U J S Y r e G y=>by
  obtain⟨rfl,rfl⟩:=y;rw[pS] at Y;exact⟨U,.int (lo+i),by simp[yA,Y],r,qE.refl _,by simp only[aq]⟩
 stop:=λi H U J S Y r e _=>by rw[pS] at Y;exact Y
def bY (Y:Aa D):Al (Aa D):=match Y with
 |[.int j]=>if -(2 ^ 62)<=j/\j<2 ^ 62 then Ab (yA 0 j.toNat) else none
 |[.int i,.int j]=>if -(2 ^ 62)<=i/\i<2 ^ 62 /\ -(2 ^ 62)<=j/\j<2 ^ 62 then Ab (yA i (j-i).toNat) else none
 |_=>none
def vN (f:DA):DI:=λU S=>(f U S).bind λY J=>vU (bY Y) J
def yq:D->Al Ah
 |.int i=>Ab i
 |_=>none
theorem mI (h:yq d=Ab i):d=.int i:=by
 cases d with
 |int k=>exact congrArg D.int (Dd h)
 |_=>exact nn h
inductive wk:Aa D->Aa D->Prop
 |one (j:Ah) (h : -(2 ^ 62)<=j/\j<2 ^ 62):wk [.int j] (yA 0 j.toNat)
 |two (i j:Ah) (h : -(2 ^ 62)<=i/\i<2 ^ 62 /\ -(2 ^ 62)<=j/\j<2 ^ 62):wk [.int i,.int j] (yA i (j-i).toNat)
theorem qAf (d:D):bY [d]=(yq d).bind λj=>if -(2 ^ 62)<=j/\j<2 ^ 62 then Ab (yA 0 j.toNat) else none:=by cases d <;> rfl
theorem qAg (d d':D):bY [d,d']=(yq d).bind λi=>(yq d').bind λj=>if -(2 ^ 62)<=i/\i<2 ^ 62 /\ -(2 ^ 62)<=j/\j<2 ^ 62 then Ab (yA i (j-i).toNat) else none:=by
 cases d with
 |int i=>cases d' <;> rfl
 |_=>rfl
theorem NF (h:bY Y=Ab am):wk Y am:=by
 cases Y with
 |nil=>exact nn h
 |cons d Y =>
  cases Y with
  |nil =>
   obtain⟨j,e,h⟩:=Ex.mp ((qAf d).symm.trans h);obtain⟨c,rfl⟩:=pG h;rw[mI e];exact .one j c
  |cons U Y =>
   cases Y with
   |nil =>
    obtain⟨i,e,h⟩:=Ex.mp ((qAg d U).symm.trans h);obtain⟨j,N,h⟩:=Ex.mp h;obtain⟨c,rfl⟩:=pG h;rw[mI e,mI N];exact .two i j c
   |cons _ _ =>
    have G:∀ J t,bY (d::U::J::t)=none:=λJ t=>by cases d <;> first|rfl|(cases U <;> rfl)
    exact nn ((G _ _).symm.trans h)
theorem uZ {P:Hp}{α:ae}{J:Aa D}(r:qB K P α (.int i::J) vs):∃ Y,vs=.int i::Y/\qB K P α J Y:=by
 obtain⟨w,Y,rfl,p,t⟩:=r.cons_inv;exact⟨Y,congrArg (· :: Y) (by simpa only [aq] using p),t⟩
theorem PI.weak {t t':TI}(h:PI X tg Y t)(w:∀ σ H R,t' σ H R->t σ H R):PI X tg Y t':=λJ s σ H R I q=>h J s σ H R I (w σ H R q)
end
section
variable {X:Cx}{tg:Bx}{f:DA}{p ap:Fb}
theorem UI {e:Bx}{es:Aa Bx}(d:Gl X "range")(hm:X.mg "range" = none)(w:PA X (e::es) (lc X f))(hs:Bo (e::es) X.env=(false,eval e X.env)::Bo es X.env:=by rfl)(J:(Gr ap (Bo es X.env)).any (·.1)=false:=by rfl) :
  PI X tg (.Call (.Name "range" p) (e::es) [] ap) (su X (vN f)):=by
 intro ai s σ H R I h;obtain⟨P,α,n,S,r,o,v⟩:=h;refine Call_ (yN I d hm boot_range (Fh (bj (wJ w I r o v ap) λus s1 ⟨vs,N,O,Y,ds,S1,B,A,L,M,E,T,C,U⟩=>?_) hs J));obtain⟨am,l,q⟩:=vV U;cases NF l with
 |one j c =>
  obtain⟨y,rfl,G⟩:=uZ E;cases G.nil_inv;obtain⟨u,rfl,t,rfl⟩:=pW A;refine call_range_1 (cV B om om c.1 c.2 ?_);have z:=q (xu 0 j.toNat) N O Y L T C sE;rw[Int.sub_zero];exact z
 |two i j c =>
  obtain⟨y,rfl,G⟩:=uZ E;obtain⟨g,rfl,k⟩:=uZ G;cases k.nil_inv;obtain⟨u,x,rfl,⟨t,rfl⟩,m,rfl⟩:=XJ A;exact call_range_2 (cV B c.1 c.2.1 c.2.2.1 c.2.2.2 (q (xu i (j-i).toNat) N O Y L T C sE))
noncomputable def xF (g:DG)(f:DS):Aa D->qC->ao->jo
 |[],G,S=>.nx G S
 |d::N,G,S=>(g d G S).toS G λJ O=>match f J O with
  |.nx Y U=>xF g f N Y U
  |.ct Y U=>xF g f N Y U
  |.bk Y U=>.nx Y U
  |o=>o
def wD (G:DI)(g:DG)(f:DS):DS:=λY S=>(G Y S).toS Y λJ U=>xF g f J Y U
inductive si (X:Cx)(P1:Hp)(α1:ae)(g:DG)(f:DS)(ds:Aa D)(D:Ends)(i m:Ag)(σ : _L.St)(H:Hp):Prop
 |mk (hi:i<=ds.length) (hm:m=ds.length-i) (P2:Hp) (α2:ae) (env2:qC) (S2:ao) (r:a_ X.K H P2 α2 S2) (re:zE X.K P2 α2 σ env2) (e1:qE P1 P2) (e2:α1<+:α2) (af:zC X P2 α2 (xF g f (ds.drop i) env2 S2) D):si X P1 α1 g f ds D i m σ H
theorem SM {f:DS}(hp:Tv (Ax X.prog X.w) X.A X.env X.xe)(hc:X.calm=true)(hi:PI X tg bb (su X fi))(hg:PG X tg (qd X g))(hb:jn X bo (i_ X f))
  (hs:∀ x,Gg bb X.env x=pure x:=by intro _;rfl):PS X (.For tg bb bo [] ap) (i_ X (wD fi g f)):=wz (HV hp hc hi hg hb hs) λD σ H ⟨P,α,s,S,r,re,af⟩=>by
 refine⟨P,α,s,S,r,re,?_⟩;have G:=xS af;cases q:fi s S with
 |bad=>rw[q] at G;exact G
 |ex c x S'=>rw[q] at G;exact G
 |ok L S1 =>
  rw[q] at G;have zl:zC X P α (xF g f L s S1) D:=G;intro J H1 P1 M r1 e1 e2 it;refine⟨si X P1 M g f L D,
   ⟨L.length,Ho _,rfl,P1,M,s,S1,r1,re.mono e1 e2,qE.refl _,Be _,zC.base e1 e2 zl⟩,?_⟩
  rintro i m zo H2 ⟨hi,rfl,P2,C,T,t,r2,l,o,n,B⟩;by_cases N:i<L.length
  .refine .inr ⟨it.go i H2 P2 C t N r2 o n,si X P1 M g f L D (i+1) (L.length-(i+1)),λzv H' w=>⟨_,?_,w⟩,λx H3 y=>?_⟩
   .omega
   .obtain⟨P3,d,hd,r3,h,rp⟩:=it.yld i H2 x H3 P2 C t N r2 o n y
    have z:L.drop i=d::L.drop (i+1):=by
     rw[Fz N];rw[An N] at hd;rw[Dd hd]
    rw[z] at B;have O:=xS (zC.base h (Be _) B);refine⟨P3,C,T,t,d,r3,l.mono h (Be _),rp,?_⟩;cases q2:g d T t with
    |bad=>rw[q2] at O;exact O
    |ex c x S'=>rw[q2] at O;exact O
    |ok E S3 =>
     rw[q2] at O;intro zx H4 P4 zc r4 zb e6 e7;refine⟨P4,zc,E,S3,r4,zb,?_⟩;have Y:=zC.base e6 e7 O;cases j:f E S3 with
     |bad=>simp only[j] at Y;exact Y
     |ex c x U k=>simp only[j] at Y;exact Y
     |rt d4 k=>simp only[j] at Y;exact Y
     |bk U k=>simp only[j] at Y;exact Y
     |nx U k =>
      simp only[j] at Y;exact λzs H5 P5 A r5 I e v=>⟨N,rfl,P5,A,U,k,r5,I,((o.trans h).trans e6).trans e,(n.trans e7).trans v,zC.base e v Y⟩
     |ct U k =>
      simp only[j] at Y;exact λzs H5 P5 A r5 I e v=>⟨N,rfl,P5,A,U,k,r5,I,((o.trans h).trans e6).trans e,(n.trans e7).trans v,zC.base e v Y⟩
  .have z:L.drop i=[]:=Lq om
   rw[z] at B;exact .inl ⟨it.stop i H2 P2 C t om r2 o n,B zo H2 P2 C r2 l (qE.refl _) (Be _)⟩
end
abbrev DF:=Aa D->ao->aw D
section
variable {X:Cx}{x:As}{p ap:Fb}{e:Bx}{es:Aa Bx}{F:DF}{fa:DA}
def qW (F:DF)(fa:DA):DE:=λU S=>(fa U S).bind λY J=>F Y J
theorem dR {σ:_L.St}{G P P1:Hp}{α Y:ae}{U:Aa D}(N:wA X u F)(C:Inv X ai σ G J)(B:a_ X.K G P1 Y S1)(O:qI vs us)
  (T:qB X.K P1 Y U vs) (e1:qE P P1) (e2:α<+:Y) (L:qK X P α (F U S1) (ju X P α Q)):c3 X (call u us) (EP X ai σ Q) X.xe J:=N ai σ G J P1 Y S1 vs us U Q C B O T (qU.base e1 e2 L)
theorem UB {id:Et}(M:wA X (.builtin id) F)(w:Gl X x)(hm:X.mg x=none)(hv:Gb x=Ab (.builtin id))(A:PA X (e::es) (lc X fa))(O:x ≠ "__name__":=by decide)(J:(x == ("__debug__" : As))=false:=by decide)
  (N:Bo (e::es) X.env=(false,eval e X.env)::Bo es X.env:=by rfl) (Y:(Gr ap (Bo es X.env)).any (·.1)=false:=by rfl):PE X (.Call (.Name x p) (e::es) [] ap) (tD X (qW F fa)):=by
 intro d s σ H Q I h;obtain⟨P,α,l,S,r,C,z⟩:=h;refine Ih (yN I w hm hv ?_ O J);exact Re (bj (wJ A I r C z ap) λus g ⟨vs,o,c,B,q,v,E,T,j,G,k,y,L,U⟩=>dR M E j T k y L U) N Y
theorem WE (w:wA X (.type T) F)(z:Gl X x)(hm:X.mg x=none)(hv:Gb x=Ab (.type T))(M:PA X (e::es) (lc X fa))(O:x ≠ "__name__":=by decide)(J:(x == ("__debug__" : As))=false:=by decide)
  (N:Bo (e::es) X.env=(false,eval e X.env)::Bo es X.env:=by rfl) (Y:(Gr ap (Bo es X.env)).any (·.1)=false:=by rfl):PE X (.Call (.Name x p) (e::es) [] ap) (tD X (qW F fa)):=by
 intro v s σ H Q I h;obtain⟨P,α,g,S,r,C,j⟩:=h;refine Ih (yN I z hm hv ?_ O J);exact Fh (bj (wJ M I r C j ap) λus c ⟨vs,l,d,B,o,f,A,E,y,G,q,k,L,U⟩=>dR w A y E q k L U) N Y
end
theorem zJ.there {P:Bj}{a:Af}(x:zJ P w H h a o):∃ J,h.get? a=Ab J:=by
 cases o with
 |lst U=>obtain⟨_,_,_,_,e⟩:=x;exact⟨_,e⟩
 |tup U=>obtain⟨_,_,_,J,e,_⟩:=x;exact⟨_,e⟩
 |dK Y=>obtain⟨_,_,_,_,o,_,_,e,_⟩:=x;exact⟨_,e⟩
 |dT Y=>obtain⟨_,_,_,_,o,_,_,e,_⟩:=x;exact⟨_,e⟩
 |set S n=>obtain⟨o,_,_,_,e,_⟩:=x;exact⟨_,e⟩
 |ins C B G=>obtain⟨_,_,_,e,_⟩:=x;exact⟨_,e⟩
 |own y=>obtain⟨_,e⟩:=x;exact⟨_,e⟩
 |xd G=>obtain⟨_,⟨_,_,_,e,_⟩,_⟩:=x;exact⟨_,e⟩
 |rng lo O=>obtain⟨_,_,_,e⟩:=x;exact⟨_,e⟩
 |frz J u=>obtain⟨e,_⟩:=x;exact⟨_,e⟩
 |tbl N=>exact⟨_,show h.get? a=Ab _ from x⟩
 |met f y=>exact⟨_,show h.get? a=Ab _ from x⟩
 |ext φ => obtain⟨_,e,_⟩:=x;exact e
section
variable {X:Cx}{ai:aa}{σ: _L.St}{H:Hp}{s:Ai}{B h':Bv}
abbrev ng (X:Cx):Prop:=X.ex=[]/\X.stack=X.env::X.outer/\X.env.frame=Ab X.env.locals
theorem ng.mem (F:ng X){b:Af}:b∈ir X.stack↔b=X.env.locals\/b∈X.fs:=by
 rw[F.2.1];unfold ir;rw[Jg,F.2.2];exact Av
theorem wn.there (I:Inv X ai σ H s)(F:ng X){b:Af}(o:wn X ai H b):∃ Y,s.heap.get? b=Ab Y:=by
 rcases o with⟨o,e⟩|e|⟨p,U,rfl⟩|⟨x,e⟩
 .exact I.base.there b o e (by rw[F.1];simp)
 .cases q:H b with
  |none=>exact absurd q e
  |some u=>exact zJ.there (I.hok b u q)
 .exact⟨_,(I.pin p U).1⟩
 .obtain⟨v,Y,J,_⟩:=I.cell x b e
  exact⟨Y,J⟩
theorem Inv.fly (I:Inv X ai σ H s)(F:ng X)(f:Cv X ai H B s.heap)(st:B.StaysIn h')(up:s.heap.UpToSlots h'):Inv X ai σ H { s with heap:=h' } /\ Cv X ai H B h':=by
 have E:∀ b o,s.heap.get? b=Ab o->wn X ai H b->b ∉ ir X.stack->h'.get? b=Ab o:=λb o e q n=>st b o (f b o e q n);have w:∀ b o,X.s₀.heap.get? b=Ab o->b≠X.env.locals:=λb o e=>Ch (Bh (Ba e) I.ok.above);have N:∀ b o,X.s₀.heap.get? b=Ab o->b ∉ X.fs->b ∉ ir X.stack:=λb o e n z=>(F.mem.mp z).elim (w b o e) n;have nx:∀ b,b ∉ X.ex:=λb=>by rw[F.1];simp
 have O:∀ b,b∈ir X.stack->∀ o,s.heap.get? b=Ab o->∃ C,h'.get? b=Ab { o with slots:=C }:=λb hb o e=>by
  obtain⟨_,j,h,A⟩:=I.stack.mem hb;rw[e] at h;cases h;exact up b o e A
 have Y:∀ x c,X.env.cells.lookup x=Ab c->∀ v,s.heap.IsCell c v->h'.IsCell c v:=λx c e v ⟨o,ho,g⟩=>by
  obtain⟨C,q⟩:=up c o ho λvs z=>by rw[g] at z;cases z
  exact⟨_,q,g⟩
 refine⟨⟨I.ok,I.os,I.bare,⟨λb o e n hb G=>?_,λb o e n hb G=>?_,I.base.free,λb o e G=>?_,I.base.tups,I.base.frzs,I.base.tbls⟩,?_,λx c e=>?_,I.free,I.freeC,λp t=>?_,λa o e=>?_,I.len⟩,λb o e q n=>?_⟩
 .exact E b o (I.base.keep b o e n hb G) (.inl ⟨o,e⟩) (N b o e hb)
 .obtain⟨C,U⟩:=I.base.slot b o e n hb G
  obtain⟨M,J⟩:=O b (F.mem.mpr (.inr hb)) _ U;exact⟨M,J⟩
 .obtain⟨j,U⟩:=I.base.there b o e G
  by_cases hb:b∈ir X.stack
  .obtain⟨C,J⟩:=O b hb _ U
   exact⟨_,J⟩
  .exact⟨j,E b j U (.inl ⟨o,e⟩) hb⟩
 .obtain⟨m,T,hl⟩:=I.loc
  refine⟨m,up.ns T,λi x v U J L=>?_⟩;obtain⟨u,r,l⟩:=hl i x v U J L;refine⟨u,r,?_⟩;rcases l with l|⟨k,c,e,z⟩
  .exact .inl l
  .exact .inr ⟨k,c,e,Y x c e _ z⟩
 .obtain⟨v,z⟩:=I.cell x c e
  exact⟨v,Y x c e v z⟩
 .obtain⟨e,n,ne,A,d⟩:=I.pin p t
  exact⟨E p.1 p.2 e (.inr (.inr (.inl ⟨p,t,rfl⟩))) λz=>(F.mem.mp z).elim ne A,n,ne,A,d⟩
 .refine(I.hok a o e).stay (λb u hb q=>?_) (λ_ q=>q) λ_ _ q=>q
  have T:H b≠none:=by
   rcases hb with rfl|hb
   .rw[e];intro z;cases z
   .rw[hb];intro z;cases z
  exact E b u q (.inr (.inl T)) λz=>T (I.stkFree b z)
 .obtain⟨y,U⟩:=wn.there I F q
  have J:=f b y U q n;have L:=st b y J;rw[e] at L;cases L;exact J
theorem E0 (I:Inv X ai σ H s)(hm:AbD g s.heap e c Y)(J:g.FunFrames X.base X.stack)(O:∀ b o,s.heap.get? b=Ab o->wn X ai H b->g.get? b=Ab o) :
  (Rl g (ir X.stack)).StaysIn g/\g.FunFrames (Rl g (ir X.stack)) X.stack/\Cv X ai H (Rl g (ir X.stack)) s.heap:=
 ⟨λb o q=>Zs _ q,PySem.W.funFrames_hide J λN U a G=>Jq.mpr ⟨N,U,G⟩,λb o e q n=>Yp _ (O b o e q) n⟩
theorem Y2 {M:Pq}{A:Bw}{E:ab}{Q:Wk->Ai->Prop}(I:Inv X ai σ H s)(F:ng X)(U:A.frames=Ab X.stack)(f:sn X ai H c e s.heap)
  (N:∀ h' B C,v6 B X.outer e c C h'->Inv X ai σ H { s with heap:=h' } -> Cv X ai H B h'->Q () { s with heap:=h' }) : Aq M A (leaving X.env (.ref e)) Q E s:=by
 cases f with
 |new g T O z q =>
  obtain⟨j,k,o⟩:=E0 I O z q;rw[F.2.1] at U;refine wpAny_leaves_madeW U F.2.2 j (by rw[<- F.2.1];exact k) O λh' t J L l y=>?_
  obtain⟨G,Y⟩:=Inv.fly I F o J.1 y;exact N h' _ _ J G Y
 |fly B C fl w =>
  rw[F.2.1] at U;refine wpAny_leaves_onW U F.2.2 (by rw[<- F.2.1];exact fl) λh' J L=>?_
  obtain⟨G,Y⟩:=Inv.fly I F w J.1 L;exact N h' _ _ J G Y
end
def n_ (P:Bj)(w:Bz):vy:=λU H s E u Y =>
 ∃ e c J B G,u=.ref e/\Y.os=s.os/\Qg Y.gens/\Un (ir U) [] H J s.heap Y.heap/\gz P w J Y.heap/\v6 B U e c G Y.heap /\
  (∀ b o,Y.heap.get? b=Ab o->((∃ o,s.heap.get? b=Ab o)\/J b≠none)->b ∉ ir U->B.get? b=Ab o)/\E c none J
section
variable {X:Cx}{ai:aa}{σ: _L.St}{H:Hp}{s s':Ai}
theorem R7 (I:Inv X ai σ H s)(F:ng X)(h:n_ X.prog X.w X.stack H s E u s'):∃ e c Y,u=.ref e/\Inv X ai σ Y s'/\sn X ai Y c e s'.heap/\E c none Y:=by
 obtain⟨e,c,Y,B,M,rfl,os,J,L,N,fl,G,q⟩:=h;have w:Inv X ai σ Y s':=Inv.call' I os L N J (ch:=[]) λb z=>absurd z cy
 refine⟨e,c,Y,rfl,w,.fly B M fl λb o C U n=>G b o C ?_ n,q⟩;rcases U with⟨o,z⟩|z|⟨p,T,rfl⟩|⟨x,z⟩
 .exact .inl (I.base.there b o z (by rw[F.1];simp))
 .exact .inr z
 .exact .inl ⟨_,(I.pin p T).1⟩
 .obtain⟨v,A,O,_⟩:=I.cell x b z
  exact .inl ⟨A,O⟩
end
structure av (cm:Ar)(k:Ag)(A:Bw):Prop where
 hd:cm=true->A.handled=none
 dp:A.depth+3*k+5<Sk
 un:A.units+16*k+200<EQ
 gd:A.guards=Ab []
theorem av.mono {cm:Ar}{j k:Ag}(r:av cm k A)(h:j<=k:=by decide):av cm j A:=⟨r.hd,by have:=r.dp;fin2,by have:=r.un;fin2,r.gd⟩
theorem av.deeper {cm:Ar}{k:Ag}(r:av cm (k+1) A)(aj:Jf):av cm k (A.deeper aj):=
 ⟨r.hd,by have:=r.dp;show A.depth+1+3*k+5<_;fin2,by have:=r.un;show A.units+3+16*k+200<_;fin2,r.gd⟩
theorem av.depth {cm:Ar}{k:Ag}(r:av cm k A):A.depth<Sk:=by have:=r.dp;fin2
theorem av.units {cm:Ar}{k:Ag}(r:av cm k A):A.units+64<EQ:=by have:=r.un;fin2
theorem av.of {k:Ag}(r:ip k A):av true k A:=⟨λ_=>r.hd,r.dp,r.un,r.gd⟩
theorem av.any {cm:Ar}{k:Ag}(r:av cm k A):av false k A:=⟨(λz=>nomatch z),r.dp,r.un,r.gd⟩
theorem av.mark {cm:Ar}{k:Ag}(r:av cm k A)(h:Al Ac):av false k (A.mark h):=⟨(λz=>nomatch z),r.dp,r.un,r.gd⟩
noncomputable abbrev Cx.re (X:Cx)(A:Bw)(cm:Ar)(E:ab):Cx:={ X with A:=A,calm:=cm,xe:=E }
theorem Inv.re {X:Cx}{σ:_L.St}(I:Inv X ai σ H s)(A:Bw)(cm:Ar)(E:ab)(Y:A.frames=Ab X.stack)(J:cm=true->A.handled=none):Inv (Cx.re X A cm E) ai σ H s:=
 ⟨⟨I.ok.mod,I.ok.kind,I.ok.glob,I.ok.blt,I.ok.above,I.ok.inj,I.ok.has,I.ok.cab,J,Y,I.ok.stk,I.ok.exf,I.ok.bs,I.ok.bsz,I.ok.noex,I.ok.exfs,I.ok.funs,I.ok.frf⟩,I.os,I.bare,I.base,I.loc,I.cell,I.free,I.freeC,I.pin,I.hok,I.len⟩
structure oq (P:Bj)(w:Bz)(K:Ak)(mg:ag)(base:Bv)(cm:Ar)(k:Ag)(f:Af)(fd:Fv)(ps:Aa As)(sp:Sp):Prop where
 len:∀ vs H Q E,sp vs H Q E->vs.length=ps.length
 run:∀ (A:Bw) (outer:Aa Jf) (s:Ai) (H:Hp) (args:Args) (us:ah) (vs:Aa V) (Q:VK) (E:XK),av cm k A->ni P w K mg base A outer s H->Qj s fd args (ps.zip us)->qI vs us->sp vs H Q E ->
  Jr (Ax P w) A (.call (.ref f) args) (CR (n_ P w) outer P w H s Q E) s
theorem oq.ok {P:Bj}{K:Ak}{base:Bv}{k:Ag}(F:oq P w K mg base true k f fd ps sp):md P w K mg base (n_ P w) k f fd ps sp:=
 ⟨F.len,λA J s H Y us vs Q E U=>F.run A J s H Y us vs Q E (.of U)⟩
theorem oq.any {P:Bj}{K:Ak}{base:Bv}{cm:Ar}{k:Ag}(F:oq P w K mg base false k f fd ps sp):oq P w K mg base cm k f fd ps sp:=
 ⟨F.len,λA J s H Y us vs Q E U=>F.run A J s H Y us vs Q E U.any⟩
theorem oq.imp {P:Bj}{K:Ak}{base:Bv}{cm:Ar}{k:Ag}{Y:Sp}(F:oq P w K mg base cm k f fd ps sp)
  (h:∀ vs H Q E,Y vs H Q E->sp vs H Q E):oq P w K mg base cm k f fd ps Y:=
 ⟨λvs H Q E q=>F.len vs H Q E (h _ _ _ _ q),λA N s H J us vs Q E O G U hv hs=>F.run A N s H J us vs Q E O G U hv (h _ _ _ _ hs)⟩
noncomputable def ky (cm:Ar)(P:Bj)(w:Bz)(K:Ak)(mg:ag)(base:Bv)(N:Aa As)(J:As)(ak:Em)(f:Af)(cd:Ac)(A:Bw)(U:Aa Jf)(s:Ai)(H:Hp)(E:XK):Cx where
 prog:=P
 w:=w
 K:=K
 mg:=mg
 base:=base
 A:=A.deeper (Gs J ak s.heap.objs.size f cd)
 N:=N
 s₀:=s
 H₀:=H
 env:=Gs J ak s.heap.objs.size f cd
 outer:=U
 stack:=Gs J ak s.heap.objs.size f cd::U
 ex:=[]
 calm:=cm
 fn:=λ_=>true
 pn:=[]
 xe:=λe O=>Aq (Ax P w) (A.deeper (Gs J ak s.heap.objs.size f cd)) (leaving (Gs J ak s.heap.objs.size f cd) e) (λ_ Y=>n_ P w U H s E e Y) (λG Y=>n_ P w U H s E G Y) O
section
variable {P:Bj}{w:Bz}{K:Ak}{mg:ag}{base:Bv}{cm:Ar}{N:Aa As}{ba:As}{ak:Em}{f:Af}{cd:Ac}{A:Bw}{al:Aa Jf}{s:Ai}{H:Hp}{E:XK}
theorem U7:Tv (Ax P w) (A.deeper (Gs ba ak s.heap.objs.size f cd)) (Gs ba ak s.heap.objs.size f cd) (ky cm P w K mg base N ba ak f cd A al s H E).xe:=PassesOwn.leaving (Q₁:=λe Y=>n_ P w al H s E e Y)
abbrev za (P:Bj)(w:Bz)(A:Bw)(aj:Jf)(al:Aa Jf)(H:Hp)(s:Ai)(E:XK):Ac->Ai->Prop:=λe U=>Aq (Ax P w) (A.deeper aj) (leaving aj e) (λ_ Y=>n_ P w al H s E e Y) (λJ Y=>n_ P w al H s E J Y) U
theorem eP {X:Cx}{α:ae}(l:X.A=A.deeper X.env)(k:wf X L α c x S u s')
  (q:∀ T C J,a_ X.K T C J S->qE L C->α<+:J->E c none T):za X.prog X.w A X.env X.outer X.H₀ X.s₀ E u s':=by
 obtain⟨e,h,σ,O,g,U,rfl,I,r,m,d,F,fl⟩:=k;unfold za;rw[<- l];refine Y2 I F I.ok.frames fl λa B v y Y M=>?_;refine⟨e,c,O,B,v,rfl,Y.os,Y.bare,by have z:=Y.base;rw[F.1] at z;exact z,Y.hok,y,λb o j G n=>M b o j ?_ λz=>?_,q O g U r m d⟩
 .rcases G with z|z
  .exact .inl z
  .exact .inr (.inl z)
 .rcases (ng.mem F).mp z with z|z
  .subst z
   rcases G with⟨i,t⟩|z
   .exact absurd (Ba t) (Qb.mpr Y.ok.above)
   .exact z Y.free
  .exact n z
theorem ZK {U:Ai}(S:cj N ps ak)(G:cm=true->A.handled=none)(Y:ni P w K mg base A al s H)(O:vs.length=ps.length)(r:qI vs us)
  (x:InCallC s s.heap.objs.size (Yu (Gs ba ak s.heap.objs.size f cd).kindOf (ps.zip us) λ_=>none) (HT (s.heap.objs.size+1) ak.names []) (Yv (Gs ba ak s.heap.objs.size f cd).kindOf (ps.zip us) λ_=>none) U) :
  Inv (ky cm P w K mg base N ba ak f cd A al s H E) [] (_L.xR N vs) H U:=by
 have I:=sD (CX:=n_ P w) (E:=E) (A:={ A with handled:=none }) S rfl ⟨Y.frames,Y.mod,Y.bs,Y.bsz,Y.funs,Y.frf,Y.hok,Y.bare⟩ O r x
 have J:=Inv.re I (A.deeper (Gs ba ak s.heap.objs.size f cd)) cm (ky cm P w K mg base N ba ak f cd A al s H E).xe (Rh Y.frames) G;exact J
end
theorem WR {P:Bj}{w:Bz}{K:Ak}{mg:ag}{base:Bv}{cm:Ar}{k:Ag}{f:Af}{L:As}{bf:Ro}{ak:Em}{oc:Ac}{od i:Al Af}{g:Ay (Al Ac)}{x:As}{kV z pm Y h:Ac}{N ps:Aa As}
  {A:Bw} {T:Aa Jf} {s:Ai} {H:Hp} {O:Args} {us:ah} {vs:Aa V} {Q:VK} {E:XK} (lk:K.lookup f=Ab ⟨oc,od,.func (Gz x L bf bo ak .none kV z pm i Y h),g⟩) (l:Ms K Y L=true) (S:cj N ps ak) (hl:vs.length=ps.length) (hr:av cm (k+1) A)
  (j:ni P w K mg base A T s H) (hb:Qj s (Gz x L bf bo ak .none kV z pm i Y h) O (ps.zip us)) (r:qI vs us)
  (B:∃ t,jn (ky cm P w K mg base N L ak f Y A T s H E) bo t/\t { nx:=λ_ G=>Q .non G,rt:=Q } (_L.xR N vs) H) :
  Jr (Ax P w) A (.call (.ref f) O) (CR (n_ P w) T P w H s Q E) s:=by
 have m:K.In s.heap:=j.mod.kin.keeps λb o e=>(j.bs b o e).1;have bq:s.heap.NoLimit:=j.mod.nolimit.keeps λb o e=>(j.bs b o e).1;have C:∀ y∈ps.zip us,ak.names.lookup y.1=Ab .local \/ (ak.names.lookup y.1=Ab .cell/\((HT (s.heap.objs.size+1) ak.names []).lookup y.1).isSome=true):=λ⟨n,v⟩ hy=>by
  rcases S.par n (Oa hy).1 with q|q
  .exact .inl q
  .exact .inr ⟨q,Ln _ _ _ (.inl q)⟩
 refine Xh hr.depth (m _ _ lk) rfl S.co S.gen rfl (Zv m l) (hb _ _ _ _ ?_);refine Th S.kind C λaj he a x=>?_;subst he;refine⟨bq.keeps x.toInCall.keep,codeAny_func ?_⟩;obtain⟨t,ht,hq⟩:=B;have I:Inv (ky cm P w K mg base N L ak f Y A T s H E) [] (_L.xR N vs) H a:=ZK S hr.hd j hl r x;refine Hk (ht [] a (_L.xR N vs) H _ I hq) (λfl c hs=>?_) λe c hs=>hs;have M:∀ {U : _L.St} {G:Hp} {v:V} {u:Ac},Inv (ky cm P w K mg base N L ak f Y A T s H E) [] U G c->qH v u->Q v G->CE T P w H s Q u c:=
  λ{U G v u} J d q=>⟨v,G,J.os,J.bare,J.base,J.hok,d,q⟩
 cases fl with
 |ret u =>
  obtain⟨v,U,G,J,d,q⟩:=hs;exact M J d q
 |next =>
  obtain⟨U,G,J,q⟩:=hs;exact M (v:=V.non) (u:=Dr) J rfl q
 |brk =>
  obtain⟨_,_,_,q⟩:=hs;exact Au q
 |cont =>
  obtain⟨_,_,_,q⟩:=hs;exact Au q
def gT (K:Ak)(x:As)(Y:Ac):Prop:=∀ c T,Dw K x=Ab (c,T)->Y=.ref c
theorem R9 {P:Bj}{w:Bz}{K:Ak}{mg:ag}{base:Bv}{cm:Ar}{k:Ag}{st:Ge}(F:tz K x O st f fd)(S:cj N ps (qG st))
  (U:∀ vs H Q E,sp vs H Q E->vs.length=ps.length)
  (J:∀ (Y:Ac) (A:Bw) (C:Aa Jf) (s:Ai) (H:Hp) (vs:Aa V) (Q:VK) (E:XK),fd.code=Y/\Mod K mg base->av cm k (A.deeper (Gs O (qG st) s.heap.objs.size f Y))->sp vs H Q E ->
   ∃ t,jn (ky cm P w K mg base N O (qG st) f Y A C s H E) (zN st) t/\t { nx:=λ_ z=>Q .non z,rt:=Q } (_L.xR N vs) H) :
  oq P w K mg base cm (k+1) f fd ps sp:=by
 obtain⟨l,q,kV,j,c,o,Y,g,y,rfl,lk,B⟩:=F.ex;exact⟨U,λA C s H I us vs Q E L T M r G=>WR lk B S (U _ _ _ _ G) L T M r (J Y A C s H vs Q E ⟨rfl,T.mod⟩ (L.deeper _) G)⟩
def yO (n:Ag)(Y:Aa D):qC:=Y.map Ab++Dx (n-Y.length) none
noncomputable def X5:jo->aw D
 |.rt d S=>.ok d S
 |.nx _ S=>.ok .non S
 |.ex c x _ S=>.ex c x S
 |_=>.bad
def qL (n:Ag)(g:DS):DF:=λY S=>X5 (g (yO n Y) S)
def wy (K:Ak)(P:Hp)(α : Aa Af)(R:aw D)(Q:VK)(E:XK):Prop:=match R with
 |.ok d G=>∀ v U J Y,a_ K U J Y G->qE P J->α<+:Y->aq K J Y d v->Q v U
 |.ex c _ G=>∀ U J Y,a_ K U J Y G->qE P J->α<+:Y->E c none U
 |.bad=>Fk
def uz (K:Ak)(n:Ag)(F:DF):Sp:=λvs H Q E=>vs.length=n/\∃ P α Y S,a_ K H P α S/\qB K P α Y vs/\wy K P α (F Y S) Q E
theorem X8 {K:Ak}{P:Hp}{α:ae}(r:qB K P α Y vs):zE K P α (_L.xR N vs) (yO N.length Y):=by
 refine⟨by simp[yO,_L.xR,r.length],λi d e=>?_⟩
 unfold yO at e;unfold _L.xR;by_cases J:i<Y.length
 .rw[Bk (by simpa using J),Dp] at e
  rw[Bk (by rw[Ao,<- r.length];exact J),Dp]
  cases q:Y[i]? with
  |none=>rw[q] at e;cases e
  |some O =>
   rw[q] at e;cases e;obtain⟨v,U,G⟩:=r.get q;exact⟨v,by rw[U];rfl,G⟩
 .rw[Ct (by simpa using J),Pc] at e
  split at e <;> cases e
section
variable {P:Bj}{w:Bz}{K:Ak}{mg:ag}{base:Bv}{cm:Ar}
theorem rY {k:As}{H I:Hp}{α:ae}{T:Aa D}{M:ao}(l:jn (ky cm P w K mg base N k ak f G A o s H E) bo (i_ (ky cm P w K mg base N k ak f G A o s H E) g))
  (r:a_ K H I α M) (e:qB K I α T vs) (Y:wy K I α (qL N.length g T M) Q E):∃ t,jn (ky cm P w K mg base N k ak f G A o s H E) bo t/\t { nx:=λ_ U=>Q .non U,rt:=Q } (_L.xR N vs) H:=by
 refine⟨_,l,I,α,yO N.length T,M,r,X8 e,?_⟩;unfold qL at Y;cases q:g (yO N.length T) M with
 |rt d j=>rw[q] at Y;exact λv U O J B L C m=>Y v U O J B L C m
 |nx y j=>rw[q] at Y;exact λi U O J B n L C=>Y .non U O J B L C (by simp only[aq])
 |bk y j=>rw[q] at Y;exact Au Y
 |ct y j=>rw[q] at Y;exact Au Y
 |ex c x y j=>rw[q] at Y;exact λu b z=>eP (A:=A) rfl z λU O J B L C=>Y U O J B L C
 |bad=>rw[q] at Y;exact Au Y
theorem fnX {st:Ge}{k:Ag}{g:DS}(F:tz K x U st f fd)(S:cj N ps (qG st))
  (J:∀ (Y:Ac) (A:Bw) (G:Aa Jf) (s:Ai) (H:Hp) (E:XK),fd.code=Y/\Mod K mg base->av cm k (A.deeper (Gs U (qG st) s.heap.objs.size f Y)) ->
   jn (ky cm P w K mg base N U (qG st) f Y A G s H E) (zN st) (i_ (ky cm P w K mg base N U (qG st) f Y A G s H E) g)) :
  oq P w K mg base cm (k+1) f fd ps (uz K ps.length (qL N.length g)):=by
 refine R9 F S (λvs H Q E h=>h.1) λY A G s H vs Q E C O h=>?_;obtain⟨T,M,α,I,z,r,L,B⟩:=h;exact rY (J Y A G s H E C O) r L B
end
section
variable {X:Cx}{cm:Ar}{k:Ag}{f:Af}{fd:Fv}{ps:Aa As}{F:DF}{x:As}{p ap:Fb}{e:Bx}{es:Aa Bx}{fa:DA}{n:Ag}
def qF (n:Ag)(F:DF)(fa:DA):DE:=λU S=>(fa U S).bind λY J=>if Y.length=n then F Y J else .bad
def EX (X:Cx)(P:Hp)(α : Aa Af)(R:aw D):XK:=λc _ N=>match R with
 |.ex G _ U=>c=G/\∃ J Y,a_ X.K N J Y U/\qE P J/\α<+:Y
 |_=>Fk
theorem aH {P:Hp}{α:ae}{R:aw D}(J:qU X P α R Q):wy X.K P α R Q (EX X P α R):=by
 cases R with
 |ok d N=>exact J
 |ex c x N=>exact λB O Y G C U=>⟨rfl,O,Y,G,C,U⟩
 |bad=>exact J
theorem mN {σ:_L.St}{P:Hp}{α:ae}{R:aw D}(C:(∃ c x U,R=.ex c x U)->ng X)(I:Inv X ai σ H s)(N:qU X P α R Q)
  (h:Jr (Ax X.prog X.w) X.A (.call u ⟨us,[]⟩) (CR (n_ X.prog X.w) X.stack X.prog X.w H s Q (EX X P α R)) s):c3 X (call u us) (EP X ai σ Q) X.xe s:=by
 refine wpAny_call (Pg h λr L Y=>?_);cases r with
 |error u =>
  have Y:n_ X.prog X.w X.stack H s (EX X P α R) u L:=Y;cases R with
  |ok d U=>obtain⟨_,_,_,_,_,_,_,_,_,_,_,_,q⟩:=Y;exact Au q
  |bad=>exact Au N
  |ex w z U =>
   have G:=C ⟨_,_,_,rfl⟩;obtain⟨a,c,M,rfl,E,fl,rfl,B,J,T,A,O⟩:=R7 I G Y;exact N _ _ ⟨a,ai,σ,M,B,J,rfl,E,T,A,O,G,fl⟩
 |ok fl =>
  cases fl with
  |ret u=>exact I.after Y
  |next=>exact Au Y
  |brk=>exact Au Y
  |cont=>exact Au Y
theorem NH {ai:aa}{σ:_L.St}{H:Hp}{s:Ai}{P:Hp}{α:ae}{Y:Aa D}(G:oq X.prog X.w X.K X.mg X.base cm k f fd ps (uz X.K n F))(A:av cm k X.A)(B:vZ X.K fd ps [])(E:ng X)
  (I:Inv X ai σ H s) (r:a_ X.K H P α S) (O:qI vs us) (C:qB X.K P α Y vs) (T:Y.length=n) (N:qU X P α (F Y S) Q):c3 X (call (.ref f) us) (EP X ai σ Q) X.xe s:=by
 have U:uz X.K n F vs H Q (EX X P α (F Y S)):=⟨by rw[<- C.length];exact T,P,α,Y,S,r,C,aH N⟩
 have L:us.length=ps.length:=by rw[<- O.length];exact G.len _ _ _ _ U
 have J:=B s us I.kIn (by rw[Gm];exact L)
 rw[Gm] at J;exact mN (λ_=>E) I N (G.run X.A X.stack s H ⟨us,[]⟩ us vs Q _ A I.env0 J O U)
theorem dX {aj:qC}{S S1:ao}{P:Hp}{α:ae}{Y:Aa D}{Ok:D->ao->Prop}(h:qK X P α (if Y.length=n then F Y S1 else .bad) Ok):Y.length=n/\qK X P α (F Y S1) Ok:=by
 by_cases J:Y.length=n
 .rw[Bd J] at h;exact⟨J,h⟩
 .rw[Bg J] at h;exact Au h
theorem F5 (G:oq X.prog X.w X.K X.mg X.base cm k f fd ps (uz X.K n F))(y:av cm k X.A)(z:ng X)(o:Gl X x)(hm:X.mg x=Ab (.ref f))(A:Ha X.K (.ref f)=true)(C:vZ X.K fd ps [])
  (q:PA X (e::es) (lc X fa)) (U:(x == ("__debug__" : As))=false:=by decide) (L:Bo (e::es) X.env=(false,eval e X.env)::Bo es X.env:=by rfl) (J:(Gr ap (Bo es X.env)).any (·.1)=false:=by rfl) :
  PE X (.Call (.Name x p) (e::es) [] ap) (tD X (qF n F fa)):=by
 intro b s σ H Q I h;obtain⟨P,α,aj,S,r,E,l⟩:=h;refine Ih (fM I o hm ?_ U);refine Tc (h₀:=X.base) I.ok.mod.kin A (bj (wJ q I r E l ap) λus m ⟨vs,t,i,M,v,a,O,j,g,B,d,c,w,N⟩=>⟨O.kIn,?_⟩) L J;obtain⟨T,Y⟩:=dX (aj:=aj) (S:=S) N;exact NH G y C z O g j d T (qU.base c w Y)
end
noncomputable abbrev qBQ:Aa Ac:=[.type "ValueError",.type "Exception",.type "BaseException",.type "object"]
noncomputable def OH:Ac->Ar
 |.str _ _=>true
 |_=>false
def oT (K:Ak)(N:Af):Ar:=(match List.lookup N K with
 |some o=>match o.data with
  |.dict Y _=>Y.toList.all λe=>OH e.key
  |_=>false
 |none=>false)&&decide (Fq K N "__init__" = Ab none)
def BF (K:Ak)(C:Af)(f:Ac->ClassData->Ay (Al Ac)->Ar):Ar:=match List.lookup C K with
 |some o=>(match o.data with|.cls Y=>f o.cls Y o.slots|_=>false)
 |none=>false
def U2 (K:Ak)(C A:Af):Ar:=BF K C λU Y J=>BF K A λ_ G _=>decide (U=.type "type")&&(decide (Y.mro=.ref C::.ref A::qBQ)&&(!Y.hasDel&&(oT K Y.ns&&(oT K G.ns&&(decide (J.toList.length=6)&&decide (J.toList[4]? = Ab (Ab (.builtin "ValueError.__new__"))))))))
noncomputable abbrev Cx.tryIn (X:Cx)(E:ab)(pn:aa):Cx:={ X with xe:=E,pn:=pn }
end _D
namespace _D
open _L PySem.W
structure L_ (K:Ak)(C:Af):Prop where
 ga:findIn K (.ref C) "__getattribute__" = Ab (Ab (.builtin "BaseException.__getattribute__"))
 hk:findIn K (.ref C) "__getattr__" = Ab none
 cl:findIn K (.ref C) "__class__" = Ab (Ab (.builtin "object.__class__"))
 sp:specialIn K (.builtin "object.__class__") "__get__" = Ab (Ab (.builtin "getset_descriptor.__get__"))
 tk:takesIn K (.builtin "object.__class__")=Ab true
 mo:mroIn K C (.type "object")=Ab true
 mb:mroIn K C (.type "BaseException")=Ab true
 isC:(clsIn K C).isSome=true
section
variable {x C:Af}
abbrev GZ (x C:Af)(h:Bv):Prop:=∃ Q,h.get? x=Ab Q/\Q.cls=.ref C
theorem GZ.type (I:GZ x C h):Looks M h (typeOf (.ref x)) (.ref C):=by
 obtain⟨Q,e,c⟩:=I;rw[<- c];exact(Looks.ld e).andThen .now
end
end _D
namespace _D
open _L
variable {iu:Aa (As × Af)}{α α1:ae}{ds:Aa D}{E:ab}{C:Af}{s:Ai}{K:Ak}{w:Bz}{o:Cp}{H P P1:Hp}{S S1:ao}
theorem tH {α:Type}{t:Kt α}{Q Y:α->Ai->Prop}(h:Aq M A t Q (λ_ _=>Fk) s)(J:∀ a s,Q a s->Y a s):Aq M A t Y E s:=Hk h J λ_ _ x=>x.elim
def jS (Q:Aa Bx)(aj:Jf):Kt Ar:=forIn Q true λc r=>if r=true then do let ok <- AbT c aj (eval c aj);pure (Lr ok) else pure (Lr r)
def tm (X:Cx)(J:Aa Bx)(t:DT):Prop:=
 ∀ (Y:aa) (s:Ai) (σ : _L.St) (H:Hp) (Q:Ar->Hp->Prop),Inv X Y σ H s->my X t σ H Q->c3 X (jS J X.env) (TP X Y σ Q) X.xe s
def xU:DT:=λ_ S=>.ok true S
section
variable {X:Cx}
theorem mG {prog:Bj}{A:Bw}{aj:Jf}{Q:Ar->Ai->Prop}:∀ (J:Aa Bx) {s:Ai},Q false s ->
  Aq (Ax prog w) A (forIn J false λc r=>if r=true then do let ok <- AbT c aj (eval c aj);pure (Lr ok) else pure (Lr r)) Q E s
 |[],s,h=>by rw[Po];exact Am h
 |c::Y,s,h=>by
  rw[Od];rw[Bg cy]
  refine Ad (Am ?_);exact mG Y h
theorem FJ:tm X [] xU:=λJ s σ H Q I ⟨P,α,G,S,r,U,Y⟩=>by
 unfold jS;rw[Po];exact Am ⟨H,I,Y H P α r (qE.refl _) (Be _)⟩
theorem UP {t u:DT}(h1:PT X c (my X t))(h2:tm X G u):tm X (c::G) (yF t u):=λO s σ H Q I ⟨P,α,M,S,r,j,y⟩=>by
 unfold jS;rw[Od,Bd rfl];refine Ad (Ad (bj (gF (λA q=>h1 O s σ H A I q) r j y) λb z ⟨J,P1,α1,S1,B,L,U,T,N,Y⟩=>Am ?_));cases b with
 |true=>exact h2 O z σ J Q B ⟨P1,α1,M,S1,L,U,wW.base T N Y⟩
 |false=>exact mG G ⟨J,B,Y J P1 α1 L T N⟩
theorem _P {σ:_L.St}(O:PE X e (tD X f))(I:Inv X ai σ H s)(r:a_ X.K H P α S)(B:zE X.K P α σ aj)(q:f aj S=.ok d S1) :
  c3 X (eval e X.env) (λu U=>∃ v Y P1 α1,Got X ai σ aj P α u U v Y P1 α1 d S1) X.xe s:=by
 refine bj (zS (g:=λd S=>aw.ok d S) (Ok:=λQ J=>Q=d/\J=S1) O I r B (by rw[q];exact⟨rfl,rfl⟩)) λu U ⟨v,Y,P1,α1,Q,J,G,N,L⟩=>?_
 have A:Q=d:=N;have T:J=S1:=L;subst A;subst T;exact⟨v,Y,P1,α1,G⟩
theorem qAW {t:DT}{σ:_L.St}{b:Ar}(T:tm X N t)(I:Inv X ai σ H s)(r:a_ X.K H P α S)(G:zE X.K P α σ aj)(q:t aj S=.ok b S1) :
  c3 X (jS N X.env) (λY U=>Y=b/\∃ Q P1 α1,Inv X ai σ Q U/\a_ X.K Q P1 α1 S1/\zE X.K P1 α1 σ aj/\qE P P1/\α<+:α1) X.xe s:=by
 refine bj (T ai s σ H (λY Q=>Y=b/\∃ P1 α1,a_ X.K Q P1 α1 S1/\zE X.K P1 α1 σ aj/\qE P P1/\α<+:α1) I ⟨P,α,aj,S,r,G,?_⟩) λY U ⟨Q,j,e,P1,α1,y,z,M,A⟩=>⟨e,Q,P1,α1,j,y,z,M,A⟩;rw[q];exact λu L J k B O=>⟨rfl,L,J,k,G.mono B O,B,O⟩
theorem _O {σ:_L.St}{aj Y:qC}{d:D}(p:PG X N (qd X g))(I:Inv X ai σ H s)(r:a_ X.K H P α S)(A:zE X.K P α σ aj)(f:qH v u)
  (t:aq X.K P α d v) (q:g d aj S=.ok Y S1) :
  c3 X (assign N X.env u) (λ_ O=>∃ Q J P1 α1,Inv X ai Q J O/\a_ X.K J P1 α1 S1/\zE X.K P1 α1 Q Y/\qE P P1/\α<+:α1) X.xe s:=by
 refine bj (p ai s σ H v u (λQ J=>∃ P1 α1,a_ X.K J P1 α1 S1/\zE X.K P1 α1 Q Y/\qE P P1/\α<+:α1) I f ⟨P,α,aj,S,d,r,A,t,?_⟩) λ_ O ⟨Q,J,y,P1,α1,k,z,M,T⟩=>⟨Q,J,P1,α1,y,k,z,M,T⟩;rw[q];exact λL m B G l U c j=>⟨B,G,l,U,c,j⟩
def bE (K:Ak)(P:Hp)(α : Aa Af)(ds:Aa D)(o:Cp):Prop:=∃ (Y:ah) (n:Ag) (Q:Aa V),o={ cls:=.type "list",data:=.seq Y.toArray n } /\ qI Q Y/\qB K P α ds Q/\ds.length<=bq
theorem bE.mono (e:qE P P1)(h:α<+:α1)(a:bE K P α ds o):bE K P1 α1 ds o:=by
 obtain⟨G,n,U,Y,Q,J,N⟩:=a;exact⟨G,n,U,Y,Q,qB.mono e h _ _ J,N⟩
theorem bE.cell (a:bE K P α ds o):∀ v,o.data≠.cell v:=by
 obtain⟨Y,n,Q,rfl,_⟩:=a;intro v z;cases z
theorem Inv.pin1 {σ:_L.St}{a:Af}(I:Inv X ai σ H s)(f:x9 X ai H a)(e:s.heap.get? a=Ab o)(d:∀ v,o.data≠.cell v):Inv X (ai++[(a,o)]) σ H s:=
 I.pins_of λp Y=>(Cc.mp Y).elim (λz=>I.pin p (Ce _ z)) λz=>by
  have Q:p=(a,o):=by simpa using z
  subst Q;exact⟨e,f.1,f.2.1,f.2.2.1,d⟩
theorem Inv.pinned1 {ai:aa}{σ:_L.St}{a:Af}(I:Inv X (ai++[(a,o)]) σ H s):s.heap.get? a=Ab o/\H a=none:=by
 have:=I.pin (a,o) (Ce _ (Ce _ cy))
 exact⟨this.1,this.2.1⟩
end
structure Acc where
 m:Ar
 O:Ak->Hp->Aa Af->Aa D->Cp->Prop
 mono:∀ {K:Ak} {P P1:Hp} {α α1:ae} {ds:Aa D} {o:Cp},qE P P1->α<+:α1->O K P α ds o->O K P1 α1 ds o
 cell:∀ {K:Ak} {P:Hp} {α : Aa Af} {ds:Aa D} {o:Cp},O K P α ds o->∀ v,o.data≠.cell v
@[reducible] def kq:Acc:=⟨false,bE,bE.mono,bE.cell⟩
def xT (m:Ar)(Q:Bx)(Y:Aa Eb)(ak:Em)(J:Fb):Bx:=match m with
 |false=>.ListComp Q Y ak J
 |true=>.SetComp Q Y ak J
structure fv (B:Acc)(Y:Cx)(pins:aa)(P1:Hp)(α1:ae)(fp:ae)(acc:Af)(env:qC)(S:ao)(ds:Aa D)(s:Ai)(σ : _L.St)(H P:Hp)(α : Aa Af)(o:Cp):Prop where
 inv:Inv Y pins σ H s
 rel:a_ Y.K H P α S
 env:zE Y.K P α σ env
 same:qE P1 P
 pre:α1<+:α
 fpn:∀ b∈fp,H b=none
 acn:H acc=none
 at':s.heap.get? acc=Ab o
 acc:B.O Y.K P α ds o
noncomputable def wR (iu:Aa (As × Af)):Aa (As × Ig)->Aa (As × Af)->Aa (As × Af)
 |[],Q=>Q
 |(n,k)::r,Q=>wR iu r (if k == .free then (n,(iu.lookup n).getD 0)::Q else Q)
theorem bC {aj:Jf}{ak:Em}(h:∀ y∈ak.names,y.2=.free->∃ c,aj.cells.lookup y.1=Ab c):Ve ak aj=pure (wR aj.cells ak.names []):=by
 have T:∀ (l:Aa (As × Ig)) (Y:Aa (As × Af)),(∀ y∈l,y.2=.free->∃ c,aj.cells.lookup y.1=Ab c) ->
   (forIn l Y λx Y=>match x with|(Q,U)=>if (U == Gv)=true then do let a <- cellOf aj Q;pure (Lr ((Q,a)::Y)) else pure (Lr Y):Kt (Aa (As × Af)))=pure (wR aj.cells l Y):=by
  intro l
  induction l with
  |nil=>intro Y _;rfl
  |cons y r B =>
   intro Y G;obtain⟨n,k⟩:=y;rw[Od];by_cases L:k=.free
   .subst L
    obtain⟨c,I⟩:=G (n,.free) Bc rfl;have J:aj.cells.lookup n=Ab c:=I;have e:cellOf aj n=pure c:=by unfold cellOf;rw[J]
    simp only[Gc,Dq,e,pure_bind];rw[B _ λz N=>G z (Ap _ N)];simp only[wR,Gc,Dq,J,Qm]
   .have O:(k == Gv)=false:=by simpa using L
    simp only[O,Bp,Dv,pure_bind];rw[B _ λz N=>G z (Ap _ N)];simp only[wR,O,Bp,Dv]
 unfold Ve;have:=T ak.names [] h;simp only[bind_pure];exact this
theorem kM:∀ (l:Aa (As × Ig)) (Y:Aa (As × Af)),(wR iu l Y).lookup x=Ab c->Y.lookup x=Ab c\/((x,Gv)∈l/\c=(iu.lookup x).getD 0)
 |[],Y,h=>.inl h
 |(n,k)::r,Y,h=>by
  rcases kM r _ h with h|⟨U,G⟩
  .by_cases J:k=.free
   .subst J
    simp only[Gc,Dq,Ky] at h;cases Q:x == n with
    |true =>
     rw[Q] at h;have e:x=n:=by simpa using Q
     subst e;exact .inr ⟨Bc,(Dd h).symm⟩
    |false=>rw[Q] at h;exact .inl h
   .have Q:(k == Gv)=false:=by simpa using J
    simp only[Q,Bp,Dv] at h;exact .inl h
  .exact .inr ⟨Ap _ U,G⟩
theorem k8 {x:As}:∀ (l:Aa (As × Ig)) (Q:Aa (As × Af)),((x,Gv)∈l\/∃ c,Q.lookup x=Ab c)->∃ c,(wR iu l Q).lookup x=Ab c
 |[],Q,h=>by
  rcases h with h|h
  .cases h
  .exact h
 |(n,k)::r,Q,h=>by
  refine k8 r _ ?_;rcases h with h|⟨c,h⟩
  .rcases Av.mp h with e|h
   .cases e
    exact .inr ⟨(iu.lookup x).getD 0,by simp only[Gc,Dq,Ky]⟩
   .exact .inl h
  .by_cases J:k=.free
   .subst J
    simp only[Gc,Dq,Ky];cases Y:x == n with
    |true=>exact .inr ⟨_,rfl⟩
    |false=>exact .inr ⟨c,h⟩
   .have Y:(k == Gv)=false:=by simpa using J
    simp only[Y,Bp,Dv];exact .inr ⟨c,h⟩
structure dz (scX:Em)(NX:Aa As)(scope:Em)(N':Aa As)(cap:Aa (Al Ag)):Prop where
 kind:scope.kind=.function
 names:∀ y∈scope.names,y.2=.local -> scope.names.lookup y.1=Ab .local
 cel:∀ y∈scope.names,y.2=.cell->scope.names.lookup y.1=Ab .cell
 free:∀ y∈scope.names,y.2=.free->scX.names.lookup y.1=Ab .cell\/scX.names.lookup y.1=Ab .free
 fr2:∀ y∈scope.names,y.2=.free->scope.names.lookup y.1=Ab .free
 len:cap.length=N'.length
 caps:((cap.zip N').all λp=>match p.1 with|none=>true|some i=>NX[i]? == Ab p.2&&scope.names.lookup p.2 == Ab .free)=true
 nd:N'.Nodup
def vI (bn:Aa (Al Ag))(σ : _L.St):_L.St:=bn.map λo=>match o with
 |none=>none
 |some i=>(σ[i]?).join
def w5 (bn:Aa (Al Ag))(aj:qC):qC:=bn.map λo=>match o with
 |none=>none
 |some i=>(aj[i]?).join
theorem V4 {σ:_L.St}(J:zE K P α σ aj)(bn:Aa (Al Ag)):zE K P α (vI bn σ) (w5 bn aj):=by
 refine⟨by simp[vI,w5],λj d e=>?_⟩
 unfold w5 at e;unfold vI;rw[Dp] at e ⊢;cases q:bn[j]? with
 |none=>rw[q] at e;cases e
 |some o =>
  rw[q] at e;cases o with
  |none=>cases e
  |some i =>
   have Q:(aj[i]?).join=Ab d:=by simpa using e
   cases z:aj[i]? with
   |none=>rw[z] at Q;cases Q
   |some w =>
    rw[z] at Q;have Y:w=Ab d:=Q;subst Y;obtain⟨v,U,G⟩:=J.2 i d z;exact⟨v,by simp[U],G⟩
noncomputable def qY (X:Cx)(Y:Aa As)(ak:Em)(Q:Aa (As × Af))(C:Af)(ex:ae)(s₀:Ai)(H₀:Hp):Cx:=
 { X with N:=Y,s₀:=s₀,H₀:=H₀,env:=compEnvC ak Q C X.env,outer:=X.stack,stack:=X.stack,ex:=ex,fn:=λx=>decide (ak.names.lookup x=Ab .cell),pn:=[],xe:=λ_ _=>Fk }
theorem jN {ak:Em}{aj:Jf}:∀ {Q:Aa (As × Ig)} {x:As} {k:Ig},
  (Q.map λ(n,k)=>if (k == Gv&&aj.scope.kind == .function&&aj.kindOf n == Ab .cell) then (n,Qn) else (n,k)).lookup x=Ab k ->
  Q.lookup x=Ab k\/(k=.cell/\Q.lookup x=Ab .free)
 |[],_,_,h=>by simp at h
 |(n,U)::r,x,k,h=>by
  rw[De,Ky] at h;rw[Ky];dsimp only at h;cases J:(U == Gv&&aj.scope.kind == .function&&aj.kindOf n == Ab .cell) with
  |true =>
   rw[J] at h;simp only[Dq] at h;cases Y:x == n with
   |true =>
    rw[Y] at h;have e:Qn=k:=Dd h;have G:U=.free:=by
     have:=(AT _ _).mp J;have:=(AT _ _).mp this.1;simpa using this.1
    subst G;exact .inr ⟨e.symm,rfl⟩
   |false=>rw[Y] at h;exact jN (ak:=ak) h
  |false =>
   rw[J] at h;simp only[Bp,Dv] at h;cases Y:x == n with
   |true=>rw[Y] at h;exact .inl h
   |false=>rw[Y] at h;exact jN (ak:=ak) h
section
variable {X:Cx}{ak:Em}{N':Aa As}{bn:Aa (Al Ag)}{ai:aa}{σ: _L.St}{H2:Hp}{s2:Ai}{fp:ae}
theorem gX (S:dz X.env.scope X.N ak N' bn){x:As}{k:Ig}(h:(relabel ak X.env).names.lookup x=Ab k):ak.names.lookup x=Ab k\/(k=.cell/\ak.names.lookup x=Ab .free):=jN (ak:=ak) h
theorem W5 (S:dz X.env.scope X.N ak N' bn)(ok:X.Ok){x:As}{c:Af}(h:(wR X.env.cells ak.names []).lookup x=Ab c):X.env.cells.lookup x=Ab c/\(x,Gv)∈ak.names:=by
 rcases kM _ _ h with h|⟨J,Y⟩
 .cases h
 .have:=S.free _ J rfl
  obtain⟨U,Q⟩:=ok.has x this;rw[Q,Qm] at Y;rw[Q,Y];exact⟨rfl,J⟩
def K6 (ak:Em)(C:Af):Aa (As × Af):=HT (C+1) ak.names []
def gW (X:Cx)(ak:Em)(C:Af):Aa (As × Af):=HT (C+1) ak.names (wR X.env.cells ak.names [])
theorem yY:∀ (Q:Aa (As × Ig)) (lo:Ag) (ar:Aa (As × Af)),HT lo Q ar=HT lo Q [] ++ ar
 |[],_,_=>rfl
 |(n,k)::r,lo,ar=>by
  unfold HT
  split
  .rw[yY r _ ((n,lo)::ar),yY r _ [(n,lo)],Cy];rfl
  .exact yY r lo ar
set_option tactic.hygienic true in
theorem bI:∀ (Q:Aa (As × Ig)) (lo:Ag) {n:As} {c:Af},(n,c)∈HT lo Q [] -> (n,Qn)∈Q
 |[],_,_,_,h=>by cases h
 |(Y,k)::r,lo,n,c,h=>by
  unfold HT at h
  split at h
  .rename_i J
   rw[yY] at h;rcases Cc.mp h with h|h
   .exact Ap _ (bI r _ h)
   .have e:(n,c)=(Y,lo):=by simpa using h
    cases e;have:k=Qn:=by simpa using J
    rw[this];exact Bc
  .exact Ap _ (bI r _ h)
theorem xA (S:dz X.env.scope X.N ak N' bn)(ok:X.Ok){C:Af}{x:As}{c:Af}(h:(gW X ak C).lookup x=Ab c):((x,c)∈K6 ak C/\ak.names.lookup x=Ab .cell)\/(X.env.cells.lookup x=Ab c/\(x,Gv)∈ak.names):=by
 unfold gW at h;rw[yY,Zz] at h;cases q:(HT (C+1) ak.names []).lookup x with
 |some Q =>
  rw[q] at h;cases h;have m:=Fm q;exact .inl ⟨m,S.cel _ (bI _ _ m) rfl⟩
 |none =>
  rw[q] at h;exact .inr (W5 S ok h)
theorem eJ (S:dz X.env.scope X.N ak N' bn)(ok:X.Ok){C:Af}{x:As}(h:ak.names.lookup x=Ab .cell\/ak.names.lookup x=Ab .free):∃ c,(gW X ak C).lookup x=Ab c:=by
 unfold gW;rw[yY,Zz];rcases h with h|h
 .have:=Ln ak.names (C+1) [] (x:=x) (.inl h)
  obtain⟨c,J⟩:=Kq.mp this;exact⟨c,by rw[J];rfl⟩
 .obtain⟨Y,Q⟩:=k8 (iu:=X.env.cells) ak.names [] (.inl (Fm h))
  rw[Q];cases (HT (C+1) ak.names []).lookup x with
  |none=>exact⟨Y,rfl⟩
  |some c=>exact⟨c,rfl⟩
theorem F2 (S:dz X.env.scope X.N ak N' bn)(Q:Inv X ai σ H2 s2)(T:∀ b∈fp,x9 X ai H2 b)(N:∀ b∈fp,b<s2.heap.objs.size)(U:s2.heap.objs.size<=C){h1:Bv}(L:CellsOk h1 (C+1) (K6 ak C)) :
  (qY X N' ak (gW X ak C) C fp s2 H2).Ok where
 mod:=Q.ok.mod
 kind:=S.kind
 glob:=Q.ok.glob
 blt:=Q.ok.blt
 above:=U
 inj:=λx y c h1 O=>by
  rcases xA S Q.ok h1 with⟨B,_⟩|⟨B,_⟩ <;> rcases xA S Q.ok O with⟨G,_⟩|⟨G,_⟩
  .exact PySem.name_of_addr L.apart B G
  .obtain⟨v,j,J,_⟩:=Q.cell y c G
   exact absurd (Bh (Ba J) U) (Qb.mpr (Ef (L.empty x c B).2))
  .obtain⟨v,j,J,_⟩:=Q.cell x c B
   exact absurd (Bh (Ba J) U) (Qb.mpr (Ef (L.empty y c G).2))
  .exact Q.ok.inj x y c B G
 has:=λx I=>by
  have A:(relabel ak X.env).names.lookup x=Ab .cell\/(relabel ak X.env).names.lookup x=Ab .free:=I;refine eJ S Q.ok ?_;rcases A with h|h
  .rcases gX S h with h|⟨_,h⟩
   .exact .inl h
   .exact .inr h
  .rcases gX S h with h|⟨z,_⟩
   .exact .inr h
   .cases z
 cab:=λx c h O=>by
  have I:ak.names.lookup x=Ab .cell:=Bs h;rcases xA S Q.ok O with⟨m,_⟩|⟨_,m⟩
  .exact Ci U (Ef (L.empty x c m).2)
  .have:=S.fr2 _ m rfl
   have this':ak.names.lookup x=Ab .free:=this;rw[I] at this';cases this'
 hd:=Q.ok.hd
 frames:=Q.ok.frames
 stk:=.inl rfl
 exf:=λb Y=>⟨Ch (Bh (N b Y) U),λx c h=>by
  rcases xA S Q.ok h with⟨m,_⟩|⟨m,_⟩
  .exact Gd (Ch (Iw (Bh (N b Y) U) (L.empty x c m).2))
  .exact(T b Y).2.2.2.2.1 x c m⟩
 bs:=Q.bs
 bsz:=Ci Q.ok.bsz Q.sz
 noex:=λb o e Y=>by
  obtain⟨_,_,_,h,_⟩:=T b Y;rcases h with h|h
  .exact Q.ok.noex b o e h
  .exact absurd (Bh (Ba e) (Ci Q.ok.bsz h)) (Eg _)
 exfs:=λb Y M=>by
  obtain⟨_,h1,O,_⟩:=T b Y;rcases Av.mp (Q.stkSub b M) with z|z
  .exact h1 z
  .exact O z
 funs:=Q.stack
 frf:=Q.stkFree
theorem U5 {s4:Ai}{m:ag}(S:dz X.env.scope X.N ak N' bn)(Y:Inv X ai σ H2 s2)(hf:∀ b∈fp,x9 X ai H2 b)(g:∀ b∈fp,b<s2.heap.objs.size)(l:s2.heap.objs.size<=C)
  (hn:s4.heap.Ns C m) (os:s4.os=s2.os) (bg:s4.gens=s2.gens) (Q:∀ b o,s2.heap.get? b=Ab o->s4.heap.get? b=Ab o) (f:CellsOk s4.heap (C+1) (K6 ak C)) :
  Inv (qY X N' ak (gW X ak C) C fp s2 H2) [] (vI bn σ) H2 s4 where
 ok:=F2 S Y hf g l f
 os:=os
 bare:=bg▸Y.bare
 base:=Un.kept Q
 loc:=by
  refine⟨m,hn,λj x v h1 U h3=>?_⟩;have y:N'[j]? = Ab x:=h1;unfold vI at U;rw[Dp] at U;cases q:bn[j]? with
  |none=>rw[q] at U;cases U
  |some o =>
   rw[q] at U;cases o with
   |none=>cases U
   |some i =>
    have I:(σ[i]?).join=Ab v:=by simpa using U
    have r:σ[i]? = Ab (Ab v):=by
     cases z:σ[i]? with
     |none=>rw[z] at I;cases I
     |some w=>rw[z] at I;have:w=Ab v:=I;rw[this]
    have hz:(Ab i,x)∈bn.zip N':=by
     refine Me.mpr ⟨j,?_⟩;rw[TW];exact⟨q,y⟩
    have a:=Bt.mp S.caps _ hz;simp only[AT,Zd] at a;obtain⟨hN,J⟩:=a;have n:=S.free _ (Fm J) rfl;obtain⟨mo,zb,hl⟩:=Y.loc;have A:qw X.env.scope x:=by
     rcases n with k|k
     .exact .inr (.inl k)
     .exact .inr (.inr k)
    obtain⟨u,ru,lk⟩:=hl i x v hN r A;refine⟨u,ru,?_⟩;rcases lk with⟨kl,_⟩|⟨_,c,M,N⟩
    .have B:X.env.scope.names.lookup x=Ab .local:=kl
     rcases n with k|k
     .have L:X.env.scope.names.lookup x=Ab .cell:=k
      rw[B] at L;cases L
     .have L:X.env.scope.names.lookup x=Ab .free:=k
      rw[B] at L;cases L
    .obtain⟨c',O⟩:=eJ S Y.ok (C:=C) (.inr J)
     have e:X.env.cells.lookup x=Ab c':=by
      rcases xA S Y.ok O with⟨_,z⟩|⟨z,_⟩
      .rw[J] at z;cases z
      .exact z
     rw[M] at e;cases e;refine .inr ⟨?_,c,O,?_⟩
     .have d:qw (relabel ak X.env) x:=h3
      rcases d with h|h|h
      .rcases gX S h with h|⟨z,_⟩
       .rw[J] at h;cases h
       .cases z
      .exact .inl h
      .exact .inr h
     .obtain⟨T,G,t⟩:=N
      exact⟨T,Q c T G,t⟩
 cell:=λx c h=>by
  rcases xA S Y.ok h with⟨m,_⟩|⟨m,_⟩
  .exact⟨none,(f.empty x c m).1⟩
  .obtain⟨v,T,G,t⟩:=Y.cell x c m
   exact⟨v,T,Q c T G,t⟩
 free:=Y.hok.fresh l
 freeC:=λx c h=>by
  rcases xA S Y.ok h with⟨m,_⟩|⟨m,_⟩
  .exact Y.hok.fresh (Ci l (Ef (f.empty x c m).2))
  .exact Y.freeC x c m
 pin:=λp hp=>absurd (show p∈([]:aa) from hp) cy
 hok:=Y.hok.kept Q
 len:=by
  show (vI bn σ).length=N'.length;simp[vI,S.len]
end
theorem WU {P:Bj}{a:Af}{o:HO}(x:gz P w H h)(J:H a=none)(Q:zJ P w (bv H a o) h a o):gz P w (bv H a o) h:=λb u e=>by
 by_cases Y:b=a
 .subst Y;rw[qQ] at e;cases e;exact Q
 .rw[qJ Y] at e
  exact(x b u e).stay (λc v _ q=>q) (λc q=>by rw[qJ (qZ q J)];exact q) λc U q=>by rw[qJ (qZ q J)];exact q
theorem sC {P:Bj}{h h':Bv}(x:gz P w H h)(Q:H C=none)(k:∀ b o,b≠C->h.get? b=Ab o->h'.get? b=Ab o):gz P w H h':=λb u e =>
 (x b u e).stay (λc v Y q=>k c v (by
  rintro rfl;rcases Y with z|z
  .subst z;rw[Q] at e;cases e
  .rw[Q] at z;cases z) q) (λ_ q=>q) λ_ _ q=>q
section
variable {X:Cx}{ak:Em}{N':Aa As}{bn:Aa (Al Ag)}
def kT (X:Cx)(ai:aa)(σ : _L.St)(P1:Hp)(α1:ae)(ds:Aa D)(G:ao)(ar C:Af)(s:Ai):Prop:=
 ∃ (Y J:Hp) (Q : Aa Af) (U:Aa V),Inv X ai σ (bv Y ar (.lst U)) s/\a_ X.K Y J Q G/\Y ar=none/\qE P1 J/\α1<+:Q/\qB X.K J Q ds U/\Y C=none
theorem eI {Y:Cx}{σ M:_L.St}{J s':Ai}{fp:ae}{ar:Af}{N v:Hp}{L:ae}{gk:qC}{c:ao}{cl:Aa (As × Af)}(a:Inv X ai σ A J)
  (hf:∀ b∈fp,x9 X ai A b) (m:Y=qY X N' ak cl C fp J A) (i:J.heap.objs.size<=C) (hA:J.heap.objs.size<=ar) (z:ar≠C) (st:fv kq Y [] P1 α1 fp ar gk c ds s' M N v L o)
  {h':Bv} (sb:Ew C s'.heap h'):kT X ai σ P1 α1 ds c ar C { s' with heap:=h' }:=by
 subst m;obtain⟨r,n,p,rfl,rv,d,hz⟩:=st.acc;have O:∀ b o,b≠C->s'.heap.get? b=Ab o->h'.get? b=Ab o:=λb o U e=>(sb.2 b U).trans e;have k:∀ b o,J.heap.get? b=Ab o->b≠C:=λb o e=>Ch (Bh (Ba e) i);have nA:∀ b o,J.heap.get? b=Ab o->b≠ar:=λb o e=>Ch (Bh (Ba e) hA);have base:Un (ir X.stack) fp A N J.heap s'.heap:=st.inv.base;have l:∀ b u,N b=Ab u->b≠ar:=λb u e=>qZ e st.acn;have h:Un (ir X.stack) fp A (bv N ar (.lst p)) J.heap h':=by
  refine⟨λb Q q T U G=>O b Q (k b Q q) (base.keep b Q q T U G),λb Q q T U G=>?_,λb Q q T G=>?_,λb Q q G=>?_,λb xs q=>?_,λb Q u q=>?_,λb ps q=>?_⟩
  .obtain⟨sl,e⟩:=base.slot b Q q T U G
   exact⟨sl,O b _ (k b Q q) e⟩
  .rw[qJ (nA b Q q)];exact base.free b Q q T G
  .obtain⟨f,e⟩:=base.there b Q q G
   exact⟨f,O b f (k b Q q) e⟩
  .have:=base.tups b xs q;rw[qJ (l _ _ this)];exact this
  .have:=base.frzs b Q u q;rw[qJ (l _ _ this)];exact this
  .obtain⟨I,e⟩:=base.tbls b ps q
   exact⟨I,by rw[qJ (l _ _ e)];exact e⟩
 have B:gz X.prog X.w N h':=sC st.inv.hok st.inv.free O;have j:h'.get? ar=Ab { cls:=.type "list",data:=.seq r.toArray n }:=O ar _ z st.at';have y:gz X.prog X.w (bv N ar (.lst p)) h':=WU B st.acn ⟨by rw[<- d.length,<- x8];exact hz,r,n,rv,j⟩
 refine⟨N,v,L,p,?_,st.rel,st.acn,st.same,st.pre,d,st.inv.free⟩;exact a.call' (s':={ s' with heap:=h' }) (ch:=fp) (st.inv.os) h y st.inv.bare λb U=>by
  obtain⟨_,h1,h2,h3,h4,x⟩:=hf b U;exact⟨h3,h1,h4,x⟩
theorem iN (S:dz X.env.scope X.N ak N' bn)(ok:X.Ok):Ve ak X.env=pure (wR X.env.cells ak.names []):=bC λy Q Y=>ok.has y.1 (S.free y Q Y)
theorem FM {σ:_L.St}(c:kT X ai σ P1 α1 ds J ar C s)(ok:ju X P1 α1 Q (.lst ds) J):EP X ai σ Q (.ref ar) s:=by
 obtain⟨u,y,j,k,I,r,L,z,U,A,_⟩:=c;exact⟨.ref ar,_,I,rfl,yT r L A λv T B Y N O G M=>ok v T B Y N (z.trans O) (U.trans G) M⟩
end
end _D
section
namespace _D
open _L PySem.SeqAt
noncomputable def yp (b:Ar):Ah:=if b then 1 else 0
mutual
def nk:D->D->Ar
 |.non,.non=>true
 |.bl a,.bl b=>a == b
 |.bl a,.int b=>yp a == b
 |.int a,.bl b=>a == yp b
 |.int a,.int b=>a == b
 |.str a,.str b=>a == b
 |.tup Q,.tup Y=>zY Q Y
 |.lst Q,.lst Y=>zY Q Y
 |_,_=>false
def zY:Aa D->Aa D->Ar
 |[],[]=>true
 |x::Q,y::Y=>nk x y&&zY Q Y
 |_,_=>false
end
noncomputable def pl:Ag->D->Ar
 |_,.non=>true
 |_,.bl _=>true
 |_,.int _=>true
 |_,.str _=>true
 |n+1,.tup Q=>Q.all (pl n)
 |n+1,.lst Q=>Q.all (pl n)
 |_,_=>false
theorem WO (x y:D)(xs Q:Aa D):zY (x::xs) (y::Q)=(nk x y&&zY xs Q):=rfl
theorem jC:∀ (xs Q:Aa D),zY xs Q=((Cd (min xs.length Q.length)).all (λj=>nk (xs.getD j .non) (Q.getD j .non))&&xs.length == Q.length)
 |[],[]=>rfl
 |[],y::Q=>rfl
 |x::xs,[]=>rfl
 |x::xs,y::Q=>by
  have Y:=jC xs Q;rw[WO,Y,By,By,Nat.succ_min_succ,Qc,Qo,Ix,Bool.and_assoc];have e:(xs.length+1 == Q.length+1)=(xs.length == Q.length):=by simp
  rw[e];rfl
theorem UW {xs Q:Aa D}(h:xs.length≠Q.length):zY xs Q=false:=by
 rw[jC];simp[h]
theorem lK (xs Q:Aa D):nk (.tup xs) (.tup Q)=zY xs Q:=rfl
theorem lJ (xs Q:Aa D):nk (.lst xs) (.lst Q)=zY xs Q:=rfl
section
variable {X:Cx}{ai:aa}{σ: _L.St}{H P:Hp}{α: Aa Af}{S:ao}{s:Ai}
inductive Kd (X:Cx)(P:Hp)(α : Aa Af)(s:Ai):D->Ac->Prop where
 |non:Kd X P α s .non .none
 |bl (b:Ar):Kd X P α s (.bl b) (.bool b)
 |int (i:Ah) (t:Vr):Kd X P α s (.int i) (.int i t)
 |str (x:As) (t:Vr):Kd X P α s (.str x) (.str x t)
 |tup (a:Af) (xs:Aa D) (its:ah) (vs:Aa V) (rp:qB X.K P α xs vs) (rv:qI vs its) (h:s.heap.IsTuple a its.toArray) (q:jp X.K P a vs):Kd X P α s (.tup xs) (.ref a)
 |lst (a:Af) (xs:Aa D) (its:ah) (vs:Aa V) (rp:qB X.K P α xs vs) (rv:qI vs its) (h:s.heap.IsList a its.toArray) (q:ql X.K P a vs):Kd X P α s (.lst xs) (.ref a)
theorem kF (I:Inv X ai σ H s)(r:a_ X.K H P α S){n:Ag}{d:D}{v:V}{u:Ac}(h:pl n d=true)(p:aq X.K P α d v)(Q:qH v u):Kd X P α s d u:=by
 cases d with
 |non=>simp only[aq] at p;subst p;cases Q;exact .non
 |bl b=>simp only[aq] at p;subst p;cases Q;exact .bl b
 |int i=>simp only[aq] at p;subst p;obtain⟨t,rfl⟩:=Q;exact .int i t
 |str x=>simp only[aq] at p;subst p;obtain⟨t,rfl⟩:=Q;exact .str x t
 |tup U =>
  simp only[aq] at p;obtain⟨a,N,rfl,q,t⟩:=p;cases Q;obtain⟨J,G,Y,_⟩:=I.tuple (xZ r.sub q);exact .tup a U J N t G Y q
 |lst U =>
  simp only[aq] at p;obtain⟨a,N,rfl,q,t⟩:=p;cases Q;obtain⟨J,G,Y,_⟩:=I.list ((xE r.sub q).l);exact .lst a U J N t G Y.isList q
 |_=>cases n <;> exact Jk h
theorem wB (G:qB X.K P α Q vs)(U:qI vs am){j:Ag}(h:j<am.toArray.size):∃ v,aq X.K P α (Q.getD j .non) v/\qH v am.toArray[j]/\Q.getD j .non∈Q:=by
 have L:=G.length;have T:=U.length;have N:j<am.length:=by simpa using h
 have Y:j<Q.length:=by lia
 obtain⟨v,B,p⟩:=G.get (An Y);obtain⟨u,J,q⟩:=U.get B;have O:am.toArray[j]=u:=by
  have:am[j]? = Ab am[j]:=An N;rw[this] at J;simpa using Dd J
 have C:Q.getD j .non=Q[j]:=by simp[Lb,Y]
 rw[O,C];exact⟨v,p,q,Vf Y⟩
theorem kH {Q:Aa D}(h:Q.all (pl n)=true){d:D}(Y:d∈Q):pl n d=true:=Bt.mp h d Y
theorem M8 {h:Bv}{a:Af}(h1:h.IsTuple a xs)(h2:h.IsTuple a Q):xs=Q:=by
 obtain⟨o,e,_,n,d⟩:=h1;obtain⟨G,J,_,U,Y⟩:=h2;cases e.symm.trans J;cases d.symm.trans Y;rfl
theorem M4 {h:Bv}{a:Af}(h1:h.IsList a xs)(h2:h.IsList a Q):xs=Q:=by
 obtain⟨o,e,_,n,d⟩:=h1;obtain⟨G,J,_,U,Y⟩:=h2;cases e.symm.trans J;cases d.symm.trans Y;rfl
theorem RJ {h:Bv}{a:Af}(h1:h.IsTuple a xs)(h2:h.IsList a J):Fk:=by
 obtain⟨o,e,c,_⟩:=h1;obtain⟨U,Q,Y,_⟩:=h2;cases e.symm.trans Q;exact absurd (c.symm.trans Y) cz
inductive ly (X:Cx)(P:Hp)(α : Aa Af)(xs ys:Aa D)(its its2:ah):Prop
 |mk (vs ws:Aa V) (rp:qB X.K P α xs vs) (rv:qI vs its) (rp2:qB X.K P α ys ws) (rv2:qI ws its2):ly X P α xs ys its its2
theorem ly.len1 (q:ly X P α xs Y am Q):xs.length=am.length:=by
 obtain⟨N,G,U,J,_,_⟩:=q;exact U.length.trans J.length
theorem ly.len2 (q:ly X P α xs Y am Q):Y.length=Q.length:=by
 obtain⟨N,G,_,_,U,J⟩:=q;exact U.length.trans J.length
inductive pj (X:Cx)(P:Hp)(α : Aa Af):D->D->Prop
 |eq {d d':D} (h:nk d d'=true):pj X P α d d'
 |tt (xs ys:Aa D) (its:ah) (q:ly X P α xs ys its its):pj X P α (.tup xs) (.tup ys)
 |ll (xs ys:Aa D) (its:ah) (q:ly X P α xs ys its its):pj X P α (.lst xs) (.lst ys)
theorem oZ (A:Kd X P α s d u)(G:Kd X P α s d' u):pj X P α d d':=by
 cases A with
 |non=>cases G;exact .eq rfl
 |bl b=>cases G;exact .eq (Gc _)
 |int i t=>cases G;exact .eq (Gc _)
 |str x t=>cases G;exact .eq (Gc _)
 |tup a L T B I E h q =>
  cases G with
  |tup _ O J N Q Y U C =>
   cases M8 h U;exact .tt L O T ⟨B,N,I,E,Q,Y⟩
  |lst _ O J N Q Y U C=>exact(RJ h U).elim
 |lst a L T B I E h q =>
  cases G with
  |lst _ O J N Q Y U C =>
   cases M4 h U;exact .ll L O T ⟨B,N,I,E,Q,Y⟩
  |tup _ O J N Q Y U C=>exact(RJ U h).elim
theorem dY (I:Inv X ai σ H s)(r:a_ X.K H P α S){m:Ag}(L:∀ (d d':D) (u:Ac),pl m d=true->pl m d'=true->Kd X P α s d u->Kd X P α s d' u->nk d d'=true){xs U:Aa D}{am:ah}(h1:xs.all (pl m)=true)(h2:U.all (pl m)=true)(q:ly X P α xs U am am):zY xs U=true:=by
 obtain⟨o,z,C,O,Y,Q⟩:=q;have A:=C.length.trans O.length;have T:=Y.length.trans Q.length;rw[jC,A,T,wE,AT];refine⟨Bt.mpr λj J=>?_,BEq.rfl⟩;have J:j<am.toArray.size:=Dc.mp J;obtain⟨k,M,B,N⟩:=wB C O J;obtain⟨y,E,w,G⟩:=wB Y Q J;exact L _ _ _ (kH h1 N) (kH h2 G) (kF I r (kH h1 N) M B) (kF I r (kH h2 G) E w)
theorem iS (I:Inv X ai σ H s)(r:a_ X.K H P α S):∀ (n:Ag) (d d':D) (u:Ac),pl n d=true->pl n d'=true->Kd X P α s d u->Kd X P α s d' u->nk d d'=true:=by
 intro n
 induction n with
 |zero =>
  intro d d' u Q G J U;cases oZ J U with
  |eq h=>exact h
  |tt=>exact Jk Q
  |ll=>exact Jk Q
 |succ m O =>
  intro d d' u Q G J U;cases oZ J U with
  |eq h=>exact h
  |tt N Y C q=>exact(lK N Y).trans (dY I r O Q G q)
  |ll N Y C q=>exact(lJ N Y).trans (dY I r O Q G q)
structure E3 (A:Bw)(s:Ai)(u u':Ac)(b:Ar):Prop where
 eq:EqAt A s u u' b
 rc:RcAt A s u u' b
 ne:RcNeAt A s u u' (!b)
inductive yx (X:Cx)(P:Hp)(α : Aa Af)(A:Bw)(s:Ai):D->D->Ac->Ac->Prop
 |of {d d':D} {u u':Ac} (b:Ar) (e:nk d d'=b) (h:E3 A s u u' b):yx X P α A s d d' u u'
 |tt (a b:Af) (xs ys:Aa D) (its its2:ah) (ha:s.heap.IsTuple a its.toArray) (hb:s.heap.IsTuple b its2.toArray) (q:ly X P α xs ys its its2):yx X P α A s (.tup xs) (.tup ys) (.ref a) (.ref b)
 |ll (a b:Af) (xs ys:Aa D) (its its2:ah) (ha:s.heap.IsList a its.toArray) (hb:s.heap.IsList b its2.toArray) (q:ly X P α xs ys its its2):yx X P α A s (.lst xs) (.lst ys) (.ref a) (.ref b)
theorem PQ {A:Bw}(Q:A.units<EQ)(q:Kd X P α s d u)(E:Kd X P α s d' y):yx X P α A s d d' u y:=by
 cases q with
 |non  =>
  cases E with
  |non  => exact .of _ rfl ⟨AbL _,RcAt.none_none,RcNeAt.none_none⟩
  |bl b=>exact .of _ rfl ⟨EqAt.none_bool b,RcAt.none_bool b,RcNeAt.none_bool b⟩
  |int b Y=>exact .of _ rfl ⟨EqAt.none_int b Y,RcAt.none_int b Y,RcNeAt.none_int b Y⟩
  |str b Y=>exact .of _ rfl ⟨EqAt.none_str b Y,RcAt.none_str b Y,RcNeAt.none_str b Y⟩
  |tup b L U B O C J T=>exact .of _ rfl ⟨EqAt.none_tuple J Q,RcAt.none_tuple J Q,RcNeAt.none_tuple J Q⟩
  |lst b L U B O C J T=>exact .of _ rfl ⟨EqAt.none_list J Q,RcAt.none_list J Q,RcNeAt.none_list J Q⟩
 |bl a =>
  cases E with
  |non  => exact .of _ rfl ⟨EqAt.bool_none a,RcAt.bool_none a,RcNeAt.bool_none a⟩
  |bl b=>exact .of _ rfl ⟨EqAt.bool_bool a b,RcAt.bool_bool a b,RcNeAt.bool_bool a b⟩
  |int b Y=>exact .of _ rfl ⟨EqAt.bool_int a b Y,RcAt.bool_int a b Y,RcNeAt.bool_int a b Y⟩
  |str b Y=>exact .of _ rfl ⟨EqAt.bool_str a b Y,RcAt.bool_str a b Y,RcNeAt.bool_str a b Y⟩
  |tup b L U B O C J T=>exact .of _ rfl ⟨EqAt.bool_tuple a J Q,RcAt.bool_tuple a J Q,RcNeAt.bool_tuple a J Q⟩
  |lst b L U B O C J T=>exact .of _ rfl ⟨EqAt.bool_list a J Q,RcAt.bool_list a J Q,RcNeAt.bool_list a J Q⟩
 |int a G =>
  cases E with
  |non  => exact .of _ rfl ⟨EqAt.int_none a G,RcAt.int_none a G,RcNeAt.int_none a G⟩
  |bl b=>exact .of _ rfl ⟨EqAt.int_bool a G b,RcAt.int_bool a G b,RcNeAt.int_bool a G b⟩
  |int b Y=>exact .of _ rfl ⟨EqAt.int_int a G b Y,RcAt.int_int a G b Y,RcNeAt.int_int a G b Y⟩
  |str b Y=>exact .of _ rfl ⟨EqAt.int_str a G b Y,RcAt.int_str a G b Y,RcNeAt.int_str a G b Y⟩
  |tup b L U B O C J T=>exact .of _ rfl ⟨EqAt.int_tuple a G J Q,RcAt.int_tuple a G J Q,RcNeAt.int_tuple a G J Q⟩
  |lst b L U B O C J T=>exact .of _ rfl ⟨EqAt.int_list a G J Q,RcAt.int_list a G J Q,RcNeAt.int_list a G J Q⟩
 |str a G =>
  cases E with
  |non  => exact .of _ rfl ⟨EqAt.str_none a G,RcAt.str_none a G,RcNeAt.str_none a G⟩
  |bl b=>exact .of _ rfl ⟨EqAt.str_bool a G b,RcAt.str_bool a G b,RcNeAt.str_bool a G b⟩
  |int b Y=>exact .of _ rfl ⟨EqAt.str_int a G b Y,RcAt.str_int a G b Y,RcNeAt.str_int a G b Y⟩
  |str b Y=>exact .of _ rfl ⟨EqAt.str_str a G b Y,RcAt.str_str a G b Y,RcNeAt.str_str a G b Y⟩
  |tup b L U B O C J T=>exact .of _ rfl ⟨EqAt.str_tuple a G J Q,RcAt.str_tuple a G J Q,RcNeAt.str_tuple a G J Q⟩
  |lst b L U B O C J T=>exact .of _ rfl ⟨EqAt.str_list a G J Q,RcAt.str_list a G J Q,RcNeAt.str_list a G J Q⟩
 |tup a M z I w j N k =>
  cases E with
  |non  => exact .of _ rfl ⟨EqAt.tuple_none N Q,RcAt.tuple_none N Q,RcNeAt.tuple_none N Q⟩
  |bl b=>exact .of _ rfl ⟨EqAt.tuple_bool b N Q,RcAt.tuple_bool b N Q,RcNeAt.tuple_bool b N Q⟩
  |int b Y=>exact .of _ rfl ⟨EqAt.tuple_int b Y N Q,RcAt.tuple_int b Y N Q,RcNeAt.tuple_int b Y N Q⟩
  |str b Y=>exact .of _ rfl ⟨EqAt.tuple_str b Y N Q,RcAt.tuple_str b Y N Q,RcNeAt.tuple_str b Y N Q⟩
  |tup b L U B O C J T=>exact .tt a b M L z U N J ⟨I,B,w,j,O,C⟩
  |lst b L U B O C J T=>exact .of _ rfl ⟨EqAt.tuple_list N J Q,RcAt.tuple_list N J Q,RcNeAt.tuple_list N J Q⟩
 |lst a M z I w j N k =>
  cases E with
  |non  => exact .of _ rfl ⟨EqAt.list_none N Q,RcAt.list_none N Q,RcNeAt.list_none N Q⟩
  |bl b=>exact .of _ rfl ⟨EqAt.list_bool b N Q,RcAt.list_bool b N Q,RcNeAt.list_bool b N Q⟩
  |int b Y=>exact .of _ rfl ⟨EqAt.list_int b Y N Q,RcAt.list_int b Y N Q,RcNeAt.list_int b Y N Q⟩
  |str b Y=>exact .of _ rfl ⟨EqAt.list_str b Y N Q,RcAt.list_str b Y N Q,RcNeAt.list_str b Y N Q⟩
  |tup b L U B O C J T=>exact .of _ rfl ⟨EqAt.list_tuple N J Q,RcAt.list_tuple N J Q,RcNeAt.list_tuple N J Q⟩
  |lst b L U B O C J T=>exact .ll a b M L z U N J ⟨I,B,w,j,O,C⟩
theorem E3.cast {b c:Ar}(e:c=b)(h:E3 A s u Q b):E3 A s u Q c:=e▸h
theorem O9 {A:Bw}{a b:Af}{xs J:Aa D}{am Q:ah}(G:A.units<EQ)(N:s.heap.IsTuple a am.toArray)(U:s.heap.IsTuple b Q.toArray)(C:xs.length=am.length)(O:J.length=Q.length)
  (sub:∀ j (h1:j<am.toArray.size) (h2:j<Q.toArray.size),EqAt A.in1 s am.toArray[j] Q.toArray[j] (nk (xs.getD j .non) (J.getD j .non))) (same:a=b->zY xs J=true):E3 A s (.ref a) (.ref b) (zY xs J):=by
 have e:zY xs J=((Cd (min am.toArray.size Q.toArray.size)).all (λj=>nk (xs.getD j .non) (J.getD j .non))&&am.toArray.size == Q.toArray.size):=by rw[jC,C,O];rfl
 have R1:=RcAt.tuples N U G sub;have R2:=RcNeAt.tuples N U G sub;rw[<- e] at R1 R2;refine⟨?_,R1,R2⟩;by_cases Y:a=b
 .rw[same Y,Y]
  exact AbL _
 .exact EqAt.of_refs Y R1
theorem O8 {A:Bw}{a b:Af}{xs Y:Aa D}{am Q:ah}(N:A.units<EQ)(O:s.heap.IsList a am.toArray)(G:s.heap.IsList b Q.toArray)(L:xs.length=am.length)(B:Y.length=Q.length)
  (sub:∀ j (h1:j<am.toArray.size) (h2:j<Q.toArray.size),EqAt A.in1 s am.toArray[j] Q.toArray[j] (nk (xs.getD j .non) (Y.getD j .non))) (same:a=b->zY xs Y=true):E3 A s (.ref a) (.ref b) (zY xs Y):=by
 have R:RcAt A s (.ref a) (.ref b) (zY xs Y)/\RcNeAt A s (.ref a) (.ref b) (!zY xs Y):=by
  by_cases U:am.length=Q.length
  .have e:zY xs Y=(Cd am.toArray.size).all (λj=>nk (xs.getD j .non) (Y.getD j .non)):=by rw[jC,L,B,<- U,wE,BEq.rfl,Bool.and_true];rfl
   rw[e];exact⟨RcAt.lists O G U N sub,RcNeAt.lists O G U N sub⟩
  .rw[UW (by rw[L,B];exact U)]
   have C:(am.toArray.size != Q.toArray.size)=true:=bne_iff_ne.mpr U;exact⟨RcAt.lists_lengths O G C N,RcNeAt.lists_lengths O G C N⟩
 refine⟨?_,R.1,R.2⟩;by_cases J:a=b
 .rw[same J,J]
  exact AbL _
 .exact EqAt.of_refs J R.1
theorem WN (I:Inv X ai σ H s)(r:a_ X.K H P α S):∀ (n:Ag) (A:Bw) (d d':D) (u L:Ac),A.units+n<EQ->pl n d=true->pl n d'=true->Kd X P α s d u->Kd X P α s d' L->E3 A s u L (nk d d'):=by
 intro n
 induction n with
 |zero =>
  intro A d d' u L E U N C B;cases PQ E C B with
  |of b e h=>exact h.cast e
  |tt=>exact Jk U
  |ll=>exact Jk U
 |succ m g =>
  intro A d d' u L E U N C B;have G:A.units<EQ:=Ot (Hm _ _) E;have wd:A.in1.units+m<EQ:=by show A.units+1+m<EQ;lia
  have sub:∀ {J Y:Aa D} {O Q:ah},J.all (pl m)=true->Y.all (pl m)=true->ly X P α J Y O Q ->
    ∀ j (U:j<O.toArray.size) (N:j<Q.toArray.size),EqAt A.in1 s O.toArray[j] Q.toArray[j] (nk (J.getD j .non) (Y.getD j .non)):=λ{J Y O Q} w y ⟨vs,ws,l,v,o,c2⟩ j i t=>by
   obtain⟨w1,f,p,k⟩:=wB l v i;obtain⟨w2,c,x,z⟩:=wB o c2 t;exact(g A.in1 _ _ _ _ wd (kH w k) (kH y z) (kF I r (kH w k) f p) (kF I r (kH y z) c x)).eq
  cases PQ G C B with
  |of b e h=>exact h.cast e
  |tt a b J Y O Q M T q=>exact(O9 G M T q.len1 q.len2 (sub U N q) λe=>by subst e;exact(lK J Y).symm.trans (iS I r (m+1) _ _ _ U N C B)).cast (lK J Y)
  |ll a b J Y O Q M T q=>exact(O8 G M T q.len1 q.len2 (sub U N q) λe=>by subst e;exact(lJ J Y).symm.trans (iS I r (m+1) _ _ _ U N C B)).cast (lJ J Y)
def wZ:Ag:=30
def lh:G2:=λa b S=>if pl wZ a&&pl wZ b then .ok (.bl (nk a b)) S else .bad
def sx:G2:=λa b S=>if pl wZ a&&pl wZ b then .ok (.bl (!nk a b)) S else .bad
set_option tactic.hygienic true in
theorem qAI (C:X.A.units+64<EQ):gy X (Di .Eq) lh:=by
 intro ai σ H s P α S v u U G a b Q I r O N J pb Y;unfold lh at Y
 split at Y
 .rename_i h
  rw[AT] at h;exact(WN I r wZ X.A a b U G (by unfold wZ;lia) h.1 h.2 (kF I r h.1 J O) (kF I r h.2 pb N)).rc _ _ _ _ ⟨.bl _,H,I,rfl,xr Y r (by simp only[aq])⟩
 .exact Au Y
set_option tactic.hygienic true in
theorem BE (C:X.A.units+64<EQ):gy X (Di .NotEq) sx:=by
 intro ai σ H s P α S v u U G a b Q I r O N J pb Y;unfold sx at Y
 split at Y
 .rename_i h
  rw[AT] at h;exact(WN I r wZ X.A a b U G (by unfold wZ;lia) h.1 h.2 (kF I r h.1 J O) (kF I r h.2 pb N)).ne _ _ _ _ ⟨.bl _,H,I,rfl,xr Y r (by simp only[aq])⟩
 .exact Au Y
end
end _D
end
namespace _D
open _L
variable {ai:aa}{kvs:Aa (be × D)}{am us:ah}{xs ds:Aa D}{vs:Aa V}{f:Ac->Ac->Kt Ac}{s:Ai}{d:D}{v:V}{Q:VK}{σ:_L.St}
section
variable {X:Cx}
noncomputable def i2 (C:Ah->Ah->Ar)(f:Ah->Ah->D):G2:=λa b S=>match a,b with
 |.int i,.int j=>if C i j then .ok (f i j) S else .bad
 |_,_=>.bad
theorem nE {C:Ah->Ah->Ar}{f:Ah->Ah->D}{a b:D}{S:ao}{P:Hp}{α:ae}{Ok:D->ao->Prop}(h:qK X P α (i2 C f a b S) Ok):∃ i j,a=.int i/\b=.int j/\C i j=true/\Ok (f i j) S:=by
 cases a with
 |int i =>
  cases b with
  |int j =>
   obtain⟨Y,h⟩:=wK (X:=X) h;exact⟨i,j,rfl,rfl,Y,h⟩
  |_=>exact Au h
 |_=>exact Au h
theorem zF {P:Hp}{α:ae}(r:aq X.K P α (.int i) v):v=.int i:=by simpa only [aq] using r
theorem bW {Y:Ah->Ah->Prop}{v:Ah->Ah->V}{C:Ah->Ah->Ar}{d:Ah->Ah->D}(h:ma X f (rI Y v))(U:∀ i j,C i j=true->Y i j)(hv:∀ P α i j,aq X.K P α (d i j) (v i j)):gy X f (i2 C d):=
 gy.of h λH P α S x y a b Q r J G O=>by
  obtain⟨i,j,rfl,rfl,N,ok⟩:=nE O;exact⟨i,j,zF J,zF G,U i j N,xr ok r (hv P α i j)⟩
theorem bV {v:Ah->Ah->V}{d:Ah->Ah->D}(h:ma X f (ud v))(hv:∀ P α i j,aq X.K P α (d i j) (v i j)):gy X f (i2 (λ_ _=>true) d):=
 gy.of h λH P α S x y a b Q r Y J U=>by
  obtain⟨i,j,rfl,rfl,_,ok⟩:=nE U;exact⟨i,j,zF Y,zF J,xr ok r (hv P α i j)⟩
def x5:G2:=i2 (λ_ _=>true) λi j=>.int (i-j)
theorem ER:gy X (En .Sub) x5:=bV HD λP α i j=>by simp only[aq]
noncomputable def mM (i j:Ah):Ar:=decide (-(2 ^ 64)<i/\i<2 ^ 64)||decide (-(2 ^ 64)<j/\j<2 ^ 64)
theorem T6:gy X (En .Mult) (i2 mM λi j=>.int (i*j)):=bW HA (λi j h=>by
 unfold mM at h;rw[Kc] at h;rcases h with h|h
 .exact .inl (Bs h)
 .exact .inr (Bs h)) λP α i j=>by simp only[aq]
noncomputable def VX (i j:Ah):Ar:=decide (0<j/\j<1073741824)
def wO:G2:=i2 VX λi j=>.int (i/j)
theorem EJ:gy X (En .FloorDiv) wO:=bW TC (λi j h=>(Bs h:0<j/\j<1073741824)) λP α i j=>by simp only[aq]
def xV:G2:=i2 (λ_ j=>decide (0<j)) λi j=>.int (i % j)
theorem EM:gy X (En .Mod) xV:=bW H9 (λi j h=>Bs h) λP α i j=>by simp only[aq]
noncomputable def VY (i j:Ah):Ar:=decide (0<=j/\j<=1000000/\i.natAbs<2 ^ 64)
def uN:G2:=i2 VY λi j=>.int (i ^ j.toNat)
theorem EN:gy X (En .Pow) uN:=bW HB (λi j h=>(Bs h:0<=j/\j<=1000000/\i.natAbs<2 ^ 64)) λP α i j=>by simp only[aq]
def mz:G2:=i2 (λ_ _=>true) λi j=>.bl (decide (i<j))
def js:G2:=i2 (λ_ _=>true) λi j=>.bl (decide (i<=j))
def mf:G2:=i2 (λ_ _=>true) λi j=>.bl (decide (j<i))
def oh:G2:=i2 (λ_ _=>true) λi j=>.bl (decide (j<=i))
theorem BD:gy X (Di .Lt) mz:=bV qAQ λP α i j=>by simp only[aq]
theorem qAM:gy X (Di .LtE) js:=bV qAP λP α i j=>by simp only[aq]
theorem qAK:gy X (Di .Gt) mf:=bV qAO λP α i j=>by simp only[aq]
theorem qAJ:gy X (Di .GtE) oh:=bV qAN λP α i j=>by simp only[aq]
def lP:D->ao->aw D:=λa S=>match a with
 |.int i=>.ok (.int (-i)) S
 |_=>.bad
theorem AV:zz X (AaE .USub) lP:=by
 intro ai σ H s P α S v J a Q I r U p Y;cases a with
 |int i=>exact AW ai s σ H v J Q I U ⟨i,zF p,xr Y r (by simp only[aq])⟩
 |_=>exact Au Y
def yl:G2:=λa b S=>match b with
 |.non=>match a with
  |.non=>.ok (.bl true) S
  |_=>.ok (.bl false) S
 |_=>.bad
theorem MX {P:Hp}{α:ae}(r:aq X.K P α d v):decide (v=.non)=(match d with|.non=>true|_=>false):=by
 cases d <;> simp only[aq] at r
 case non=>subst r;rfl
 case bl=>subst r;rfl
 case int=>subst r;rfl
 case str=>subst r;rfl
 case ty=>subst r;rfl
 case clo=>obtain⟨rfl,_⟩:=r;rfl
 case obj=>obtain⟨rfl,_⟩:=r;rfl
 case tup=>obtain⟨a,vs,rfl,_⟩:=r;rfl
 case lst=>obtain⟨a,vs,rfl,_⟩:=r;rfl
 case dct0=>obtain⟨a,rfl,_⟩:=r;rfl
 case loc=>obtain⟨a,rfl,_⟩:=r;rfl
 case exn=>obtain⟨a,rfl,_⟩:=r;rfl
 case fd=>obtain⟨a,o,vs,rfl,_⟩:=r;rfl
theorem qAL:gy X (Di .Is) yl:=gy.of H8 λH P α S x y a b Q r U J Y=>by
 cases b with
 |non =>
  simp only[aq] at J;refine⟨J,?_⟩;rw[MX U];cases a <;> exact xr Y r (by simp only[aq])
 |_=>exact Au Y
def zB:G2:=λa b S=>match a,b with
 |.int i,.int j=>.ok (.int (i+j)) S
 |.str x,.str y=>if x.length+y.length<=bq then .ok (.str (x++y)) S else .bad
 |.tup xs,.tup Y=>if xs.length+Y.length<=bq then .ok (.tup (xs++Y)) S else .bad
 |.lst xs,.lst Y=>if xs.length+Y.length<=bq then .ok (.lst (xs++Y)) S else .bad
 |_,_=>.bad
theorem uI {H P:Hp}{α:ae}{S:ao}(I:Inv X ai σ H s)(r:a_ X.K H P α S)(p:aq X.K P α (.tup xs) v) :
  ∃ a vs am,v=.ref a/\jp X.K P a vs/\qB X.K P α xs vs/\qI vs am/\Vs s.heap a am.toArray/\xs.length=am.length/\xs.length<=bq:=by
 simp only[aq] at p;obtain⟨a,vs,rfl,q,t⟩:=p;obtain⟨am,Y,J,z⟩:=I.tuple (xZ r.sub q);exact⟨a,vs,am,rfl,q,t,Y,J,by rw[t.length,Y.length],by rw[t.length,x8];exact z⟩
theorem gI {H P:Hp}{α:ae}{S:ao}(I:Inv X ai σ H s)(r:a_ X.K H P α S)(p:aq X.K P α (.lst xs) v) :
  ∃ a vs am n,v=.ref a/\ql X.K P a vs/\qB X.K P α xs vs/\qI vs am/\s.heap.get? a=Ab { cls:=.type "list",data:=.seq am.toArray n } /\ xs.length=am.length/\xs.length<=bq:=by
 simp only[aq] at p;obtain⟨a,vs,rfl,q,t⟩:=p;have:∃ am n,qI vs am/\s.heap.get? a=Ab { cls:=.type "list",data:=.seq am.toArray n } /\ vs.length<=sizeLine:=by
  rcases q with q|⟨am,n,e,z,Y⟩
  .obtain⟨z,am,n,Y,e⟩:=(oW r.sub q).ok I.hok
   exact⟨am,n,Y,e,z⟩
  .exact⟨am,n,Y,I.kIn _ _ e,z⟩
 obtain⟨am,n,Y,e,z⟩:=this;exact⟨a,vs,am,n,rfl,q,t,Y,e,by rw[t.length,Y.length],by rw[t.length,x8];exact z⟩
theorem JH {H P:Hp}{α:ae}{S:ao}(I:Inv X ai σ H s)(r:a_ X.K H P α S)(t:qB X.K P α xs vs)(Y:qI vs am)(hz:xs.length<=bq)
  (ok:ju X P α Q (.tup xs) S):EP X ai σ Q (.ref s.heap.objs.size) { s with heap:=s.heap.push { cls:=.type "tuple",data:=.seq am.toArray } }:=by
 refine⟨.ref s.heap.objs.size,_,I.laid (t':=s.toks) (o:=.tup vs) (λb J q=>Aj _ q) (Aw _) ⟨by rw[<- t.length,<- x8];exact hz,am,Y,Aa1 _ _⟩,rfl,pR r (I.hok.fresh (Aw _)) t ok⟩
theorem JF {H P:Hp}{α:ae}{S:ao}(I:Inv X ai σ H s)(r:a_ X.K H P α S)(t:qB X.K P α xs vs)(Y:qI vs am)(hz:xs.length<=bq)
  (ok:ju X P α Q (.lst xs) S):EP X ai σ Q (.ref s.heap.objs.size) { s with heap:=s.heap.push { cls:=.type "list",data:=.seq am.toArray } }:=by
 refine⟨.ref s.heap.objs.size,_,I.laid (t':=s.toks) (o:=.lst vs) (λb J q=>Aj _ q) (Aw _) ⟨by rw[<- t.length,<- x8];exact hz,am,0,Y,Bb _ rfl⟩,rfl,yT r (I.hok.fresh (Aw _)) t ok⟩
theorem LU {H P:Hp}{α:ae}{S:ao}(I:Inv X ai σ H s)(r:a_ X.K H P α S)(rv:qH v p)(ru:qH u g)(k:aq X.K P α (.tup xs) v)(pb:aq X.K P α (.tup N) u)(w:xs.length+N.length<=bq)(A:ju X P α Q (.tup (xs++N)) S) :
  c3 X (En .Add p g) (EP X ai σ Q) X.xe s:=by
 obtain⟨a,vs,am,rfl,q1,x,T,j,c,_⟩:=uI I r k;obtain⟨b,ws,U,rfl,q2,i,L,o,q,_⟩:=uI I r pb;cases rv;cases ru;by_cases B:am=[]
 .obtain⟨⟨cls,e,data,h⟩,y,t,n,l⟩:=id j
  obtain⟨⟨m,O,data2,C⟩,G,Y,n2,J⟩:=id o;simp only at t l Y J;subst t l Y J;have E:xs=[]:=Iy.mp (by rw[c,B];rfl)
  subst E;exact sK ⟨_,y,rfl⟩ ⟨_,G,rfl⟩ Vc Yx Pz Pd (On _ _) (tuple_addW0 a b am.toArray U.toArray n n2 e O h C (by simp[B]))
   ⟨y,G,⟨.ref b,H,I,rfl,xr A r pb⟩⟩
 .refine _H.uo j o B (λz=>⟨.ref a,H,I,rfl,xr A r ?_⟩) (λz=>?_) (by rw[<- c,<- q,<- x8];exact w)
  .have M:N=[]:=Iy.mp (by rw[q,z];rfl)
   rw[M,Gm];exact k
  .exact JH I r (x.append i) (T.append L) (by rw[Cu];exact w) A
theorem LS {H P:Hp}{α:ae}{S:ao}(I:Inv X ai σ H s)(r:a_ X.K H P α S)(y:qH v N)(z:qH u O)(T:aq X.K P α (.lst xs) v)(pb:aq X.K P α (.lst Y) u)(G:xs.length+Y.length<=bq)(j:ju X P α Q (.lst (xs++Y)) S) :
  c3 X (En .Add N O) (EP X ai σ Q) X.xe s:=by
 obtain⟨a,vs,am,n,rfl,p,E,U,L,w,_⟩:=gI I r T;obtain⟨b,k,C,o,rfl,q,B,J,M,A,_⟩:=gI I r pb;cases y;cases z;refine PySem.P.add_list L M ?_ (by rw[Bn,Bn,<- w,<- A,<- x8];exact G)
 rw[List.append_toArray];exact JF I r (E.append B) (U.append J) (by rw[Cu];exact G) j
inductive O_ (a b:D)(S:ao):Prop
 |bad (e:zB a b S=.bad)
 |int (i j:Ah) (ea:a=.int i) (eb:b=.int j)
 |str (x y:As) (ea:a=.str x) (eb:b=.str y)
 |tup (x y:Aa D) (ea:a=.tup x) (eb:b=.tup y)
 |lst (x y:Aa D) (ea:a=.lst x) (eb:b=.lst y)
theorem qBO (a b:D)(S:ao):O_ a b S:=by
 cases a with
 |int i=>cases b with
  |int j=>exact .int i j rfl rfl
  |_=>exact .bad rfl
 |str i=>cases b with
  |str j=>exact .str i j rfl rfl
  |_=>exact .bad rfl
 |tup i=>cases b with
  |tup j=>exact .tup i j rfl rfl
  |_=>exact .bad rfl
 |lst i=>cases b with
  |lst j=>exact .lst i j rfl rfl
  |_=>exact .bad rfl
 |_=>exact .bad rfl
theorem EI:gy X (En .Add) zB:=by
 intro ai σ H s P α S v u B L a b Q I r C O N pb Y;cases qBO a b S with
 |bad e=>rw[e] at Y;exact Au Y
 |int i j U J =>
  subst U J;exact H0 ai s σ H v u B L Q I C O ⟨i,j,zF N,zF pb,xr Y r (by simp only[aq])⟩
 |str x y U J =>
  subst U J;obtain⟨G,Y⟩:=wK (X:=X) Y;simp only[aq] at N pb;exact X4 ai s σ H v u B L Q I C O ⟨x,y,N,pb,by rw[<- x8];exact G,xr Y r (by simp only[aq])⟩
 |tup xs T U J =>
  subst U J;obtain⟨G,Y⟩:=wK (X:=X) Y;exact LU I r C O N pb G Y
 |lst xs T U J =>
  subst U J;obtain⟨G,Y⟩:=wK (X:=X) Y;exact LS I r C O N pb G Y
def il:G2:=λa b S=>match b with
 |.int k=>match a with
  |.tup xs=>vU (mi xs k) S
  |.lst xs=>vU (mi xs k) S
  |.loc i=>match S[i]? with
   |some (.lst xs)=>vU (mi xs k) S
   |_=>.bad
  |_=>.bad
 |_=>.bad
theorem lD {P:Hp}{α:ae}{k:Ah}(Y:qB X.K P α ds vs)(h:mi ds k=Ab d):∃ v,mi vs k=Ab v/\aq X.K P α d v:=by
 unfold mi at h ⊢;rw[<- Y.length];cases q:og ds.length k with
 |none=>rw[q] at h;cases h
 |some j =>
  rw[q] at h;obtain⟨v,J,U⟩:=Y.get (show ds[j]? = Ab d from h)
  exact⟨v,J,U⟩
theorem _Z:F_ X il:=by
 intro Y J ai σ H s P α S v u B L a b Q I r E T N pb G hs;cases b with
 |int k =>
  have C:=zF pb;cases a with
  |tup xs =>
   obtain⟨d,e,ok⟩:=vV (X:=X) G;simp only[aq] at N;obtain⟨p,vs,rfl,q,t⟩:=N;obtain⟨w,O,U⟩:=lD t e;exact RL Y J ai s σ H _ u B L Q I E T ⟨p,vs,k,w,rfl,C,xZ r.sub q,O,xr ok r U⟩ hs
  |lst xs =>
   obtain⟨d,e,ok⟩:=vV (X:=X) G;simp only[aq] at N;obtain⟨p,vs,rfl,q,t⟩:=N;obtain⟨w,O,U⟩:=lD t e;exact oD Y J ai s σ H _ u B L Q I E T ⟨p,vs,k,w,rfl,C,(xE r.sub q).l,O,xr ok r U⟩ hs
  |loc i =>
   obtain⟨xs,A,G⟩:=jM (X:=X) (f:=λxs=>vU (mi xs k) S) G;obtain⟨d,e,ok⟩:=vV (X:=X) G;simp only[aq] at N;obtain⟨p,rfl,q⟩:=N;obtain⟨vs,z,t⟩:=r.at' i p _ q A;obtain⟨w,O,U⟩:=lD t e;exact oD Y J ai s σ H _ u B L Q I E T ⟨p,vs,k,w,rfl,C,.of z,O,xr ok r U⟩ hs
  |_=>exact Au G
 |_=>exact Au G
def mW:G3:=λo i d S=>match o,i with
 |.loc n,.int k=>match S[n]? with
  |some (.lst xs)=>match og xs.length k with
   |some j=>.ok () (S.set n (.lst (xs.set j d)))
   |none=>.bad
  |_=>.bad
 |_,_=>.bad
theorem qAl:rT X (rQ X mW):=by
 intro ai s σ H o i v C L u Q I B N T h;obtain⟨P,α,S,a,b,d,r,G,pb,O,Y⟩:=h;cases a with
 |loc n =>
  cases b with
  |int k =>
   obtain⟨xs,U,Y⟩:=jM (X:=X) (f:=λxs=>match og xs.length k with|some j=>.ok () (S.set n (.lst (xs.set j d)))|none=>.bad) Y
   cases J:og xs.length k with
   |none=>rw[J] at Y;exact Au Y
   |some j =>
    rw[J] at Y;simp only[aq] at G;obtain⟨p,rfl,q⟩:=G;obtain⟨vs,z,t⟩:=r.at' n p _ q U;refine GB ai s σ H _ i v C L u Q I B N T ⟨p,vs,k,j,rfl,zF pb,z,by rw[<- t.length];exact J,?_⟩
    refine Y _ P α (r.put (m':=.lst (xs.set j d)) q U (by intro z;cases z) ⟨vs.set j v,qQ,t.set O j⟩) (qE.refl _) (Be _)
  |_=>exact Au Y
 |_=>exact Au Y
def ZR:D->ao->Al Ag
 |.tup xs,_=>Ab xs.length
 |.lst xs,_=>Ab xs.length
 |.str x,_=>if x.length<=bq then Ab x.length else none
 |.dct0,_=>Ab 0
 |.loc i,S=>match S[i]? with
  |some (.lst xs)=>Ab xs.length
  |_=>none
 |_,_=>none
def eW:DF:=λds S=>match ds with
 |[d]=>match ZR d S with
  |some n=>.ok (.int n) S
  |none=>.bad
 |_=>.bad
end
section
variable {X:Cx}
theorem u9 {P:Hp}{α:ae}(J:qB X.K P α [d] vs)(Y:qI vs us):∃ v u,vs=[v]/\us=[u]/\aq X.K P α d v/\qH v u:=by
 obtain⟨v,U,rfl,p,t⟩:=J.cons_inv;have:=t.nil_inv;subst this;obtain⟨u,rfl,q⟩:=pW Y;exact⟨v,u,rfl,rfl,p,q⟩
theorem kI {P:Hp}{α:ae}{e:D}(N:qB X.K P α [d,e] vs)(G:qI vs us):∃ v w u x,vs=[v,w]/\us=[u,x]/\aq X.K P α d v/\aq X.K P α e w/\qH v u/\qH w x:=by
 obtain⟨v,Y,rfl,p,t⟩:=N.cons_inv;obtain⟨w,Y,rfl,J,t⟩:=t.cons_inv;have:=t.nil_inv;subst this;obtain⟨u,x,rfl,q,U⟩:=XJ G;exact⟨v,w,u,x,rfl,rfl,p,J,q,U⟩
def ZQ (d:D)(S:ao):Al Ag:=match d with
 |.dct0=>none
 |_=>ZR d S
theorem gH {H P:Hp}{α:ae}{S:ao}(r:a_ X.K H P α S)(p:aq X.K P α d v)(Y:ZQ d S=Ab n):LO X.K v H n:=by
 cases d with
 |str x =>
  cases (show v=.str x from p)
  obtain⟨N,rfl⟩:=pG Y;exact⟨by rw[<- x8];exact N,rfl⟩
 |tup xs =>
  simp only[aq] at p;obtain⟨a,J,rfl,U,t⟩:=p;cases Y;exact .inr ⟨J,xZ r.sub U,t.length⟩
 |lst xs =>
  simp only[aq] at p;obtain⟨a,J,rfl,U,t⟩:=p;cases Y;exact .inl ⟨J,(xE r.sub U).l,t.length⟩
 |loc i =>
  simp only[aq] at p;obtain⟨a,rfl,e⟩:=p;obtain⟨xs,G,Y⟩:=RZ (f:=λxs=>Ab xs.length) Y;cases Y;obtain⟨J,z,t⟩:=r.at' i a _ e G;exact .inl ⟨J,.of z,t.length⟩
 |_=>exact nn Y
inductive xt (ds:Aa D)(S:ao)(r:aw D):Prop
 |bad (e:r=.bad)
 |of (d:D) (n:Ag) (ed:ds=[d]) (hn:ZQ d S=Ab n) (e:r=.ok (.int n) S)
theorem OJ (ds:Aa D)(S:ao):xt ds S (match ds with|[.dct0]=>.bad|_=>eW ds S):=by
 cases ds with
 |nil=>exact .bad rfl
 |cons d ds =>
  cases ds with
  |cons _ _=>cases d <;> exact .bad rfl
  |nil =>
   have z:(match [d] with|[D.dct0]=>aw.bad|_=>eW [d] S)=(match ZQ d S with|some n=>aw.ok (D.int n) S|none=>.bad):=by cases d <;> rfl
   rw[z];cases Y:ZQ d S with
   |none=>exact .bad rfl
   |some n=>exact .of d n rfl Y rfl
theorem D7 (C:Sc):wA X (.builtin "len") (λds S=>match ds with|[.dct0]=>.bad|_=>eW ds S):=by
 intro ai σ H s P α S vs us ds Q I r U O J;have Y:qK X P α (match ds with|[D.dct0]=>aw.bad|_=>eW ds S) (ju X P α Q):=J
 clear J;cases OJ ds S with
 |bad e=>rw[e] at Y;exact Au Y
 |of d n N G e =>
  rw[e] at Y;subst N;obtain⟨v,u,rfl,rfl,p,q⟩:=u9 O U;exact VZ ai s σ H _ _ Q I U ⟨v,n,rfl,gH r p G,xr Y r (by simp only[aq])⟩
noncomputable def ml:D->ao->Al Et
 |.non,_=>Ab "NoneType"
 |.bl _,_=>Ab "bool"
 |.int _,_=>Ab "int"
 |.str _,_=>Ab "str"
 |.tup _,_=>Ab "tuple"
 |.lst _,_=>Ab "list"
 |.dct0,_=>Ab "dict"
 |.loc i,S=>match S[i]? with
  |some (.lst _)=>Ab "list"
  |some (.dct _)=>Ab "dict"
  |_=>none
 |_,_=>none
def uT (a b:Et):Ar:=a == b||(a == "bool" && b == "int")
def pP (b:Et):Ar:=b == "int" || b == "bool" || b == "tuple" || b == "list" || b == "str" || b == "dict"
def RT (a b:Et):Al Ar:=if (Je a == Je b)=true then Ab true else if PySem.W.kitMeta b=true then (fastBuiltinMro a).map (·.contains (.type b)) else none
noncomputable def zf:Aa Et:=["NoneType","bool","int","str","tuple","list","dict"]
noncomputable def zh:Aa Et:=["int","bool","tuple","list","str","dict"]
theorem MD:(zf.all λa=>zh.all λb=>decide (RT a b=Ab (uT a b)))=true:=by decide +kernel
theorem EW {b:Et}(Y:pP b=true):b∈zh:=by simpa [pP,zh,or_assoc] using Y
theorem ME {K:Ak}{a b:Et}(J:a∈zf)(Y:pP b=true):Mr K (.type a) (.type b)=Ab (uT a b):=
 Bs (p:=RT a b=Ab (uT a b)) (Bt.mp (Bt.mp MD a J) b (EW Y))
def uL:DF:=λds S=>match ds with
 |[d,.ty b]=>if pP b then match ml d S with
   |some a=>.ok (.bl (uT a b)) S
   |none=>.bad
  else .bad
 |_=>.bad
inductive TyV (X:Cx)(H:Hp)(v:V)(a:Et):Prop
 |of (t:jt X.K H v (.type a))
 |tup (p:Af) (vs:Aa V) (e:v=.ref p) (q:jp X.K H p vs) (ea:a = "tuple")
 |lst (p:Af) (vs:Aa V) (e:v=.ref p) (q:kj X.K H p vs) (ea:a = "list")
theorem AU {S:ao}{a:Et}(h:ml d S=Ab a):a∈zf:=by
 cases d with
 |non=>cases h;exact .head _
 |bl b=>cases h;exact .tail _ (.head _)
 |int i=>cases h;exact .tail _ (.tail _ (.head _))
 |str x=>cases h;exact .tail _ (.tail _ (.tail _ (.head _)))
 |tup xs=>cases h;exact .tail _ (.tail _ (.tail _ (.tail _ (.head _))))
 |lst xs=>cases h;exact .tail _ (.tail _ (.tail _ (.tail _ (.tail _ (.head _)))))
 |dct0=>cases h;exact .tail _ (.tail _ (.tail _ (.tail _ (.tail _ (.tail _ (.head _))))))
 |loc i =>
  rcases d0 (f:=λ_=>Ab "list") (g:=λ_=>Ab "dict") h with⟨_,_,h⟩|⟨_,_,h⟩
  .cases h;exact .tail _ (.tail _ (.tail _ (.tail _ (.tail _ (.head _)))))
  .cases h;exact .tail _ (.tail _ (.tail _ (.tail _ (.tail _ (.tail _ (.head _))))))
 |_=>exact nn h
theorem qAu {H P:Hp}{α:ae}{S:ao}{a:Et}(r:a_ X.K H P α S)(p:aq X.K P α d v)(h:ml d S=Ab a):TyV X H v a:=by
 cases d with
 |non=>cases h;cases (show v=.non from p);exact .of .non
 |bl b=>cases h;cases (show v=.bl b from p);exact .of (.bl b)
 |int i=>cases h;cases (show v=.int i from p);exact .of (.int i)
 |str x=>cases h;cases (show v=.str x from p);exact .of (.str x)
 |tup xs =>
  cases h;simp only[aq] at p;obtain⟨a,vs,e,q,t⟩:=p;exact .tup a vs e (xZ r.sub q) rfl
 |lst xs =>
  cases h;simp only[aq] at p;obtain⟨a,vs,e,q,t⟩:=p;exact .lst a vs e (xE r.sub q).l rfl
 |dct0 =>
  cases h;simp only[aq] at p;obtain⟨a,rfl,q⟩:=p;exact .of (.dK (r.sub _ _ q))
 |loc i =>
  simp only[aq] at p;obtain⟨a,rfl,q⟩:=p;rcases d0 (f:=λ_=>Ab "list") (g:=λ_=>Ab "dict") h with⟨xs,Y,h⟩|⟨kvs,Y,h⟩
  .cases h
   obtain⟨vs,z,t⟩:=r.at' i a _ q Y;exact .of (.lst z)
  .cases h
   obtain⟨vs,z,t⟩:=r.at' i a _ q Y;exact .of (.dK z)
 |_=>exact nn h
inductive H_ (ds:Aa D)(S:ao):Prop
 |bad (e:uL ds S=.bad)
 |of (d:D) (b a:Et) (ed:ds=[d,.ty b]) (hb:pP b=true) (ha:ml d S=Ab a) (e:uL ds S=.ok (.bl (uT a b)) S)
theorem qBi (ds:Aa D)(S:ao):H_ ds S:=by
 cases ds with
 |nil=>exact .bad rfl
 |cons d ds =>
  cases ds with
  |nil=>exact .bad rfl
  |cons e ds =>
   cases ds with
   |cons _ _=>cases e <;> exact .bad rfl
   |nil =>
    cases e with
    |ty b =>
     have z:uL [d,.ty b] S=if pP b then (match ml d S with|some a=>.ok (.bl (uT a b)) S|none=>.bad) else .bad:=rfl
     by_cases Y:pP b=true
     .rw[Bd Y] at z
      cases J:ml d S with
      |none=>rw[J] at z;exact .bad z
      |some a=>rw[J] at z;exact .of d b a rfl Y J z
     .rw[Bg Y] at z
      exact .bad z
    |_=>exact .bad rfl
theorem D6:wA X (.builtin "isinstance") uL:=by
 intro ai σ H s P α S vs us ds Q I r l g G;cases qBi ds S with
 |bad e=>rw[e] at G;exact Au G
 |of d b a k A E e =>
  subst k;rw[e] at G;obtain⟨v,w,u,x,rfl,rfl,p,U,q,j⟩:=kI g l;simp only[aq] at U;subst U;cases (show x=Je b from j)
  have J:=ME (K:=X.K) (AU E) A;have Y:∀ N,EP X ai σ Q (.bool (uT a b)) { s with toks:=N }:=λN=>⟨.bl _,H,I.tok N,rfl,xr G r (by simp only[aq])⟩
  cases qAu r p E with
  |of y=>exact WV I q y J Y
  |tup U M e C T =>
   subst e T;cases (show u=Cw U from q)
   obtain⟨am,B,⟨o,O,L,_⟩,_⟩:=I.tuple C;exact Fg Zu I.kIn ⟨o,O,L⟩ J (λz=>nomatch z) Y
  |lst U M e C T =>
   subst e T;cases (show u=Cw U from q)
   obtain⟨am,B,⟨o,_,O,L,_⟩,_⟩:=I.list C;exact Fg Tw I.kIn ⟨o,O,L⟩ J (λz=>nomatch z) Y
noncomputable def wX:Aa D->Al (Aa Ar)
 |[]=>Ab []
 |.bl b::r=>(wX r).map (b::·)
 |_=>none
theorem gU {P:Hp}{α:ae}:∀ {ds:Aa D} {bs:Aa Ar} {vs:Aa V} {us:ah},wX ds=Ab bs->qB X.K P α ds vs->qI vs us->us=bs.map Nk
 |[],bs,vs,us,h,J,Y=>by
  cases h;have:=J.nil_inv;subst this;cases Y;rfl
 |d::ds,bs,vs,us,h,J,Y=>by
  cases d with
  |bl b =>
   obtain⟨G,q,rfl⟩:=Dl.mp (show (wX ds).map (b::·)=Ab bs from h)
   obtain⟨w,O,rfl,p,t⟩:=J.cons_inv;simp only[aq] at p;subst p;cases Y with
   |cons N U =>
    cases (show _=Nk b from N)
    rw[gU q t U];rfl
  |_=>exact nn h
def bL (Y:Ar):DF:=λds S=>match ds with
 |[d]=>match (zU d).bind wX with
  |some bs=>.ok (.bl (if Y then bs.any id else bs.all id)) S
  |none=>.bad
 |_=>.bad
theorem sR (bs:Aa Ar):((Cd bs.length).all λi=>bs.getD i false)=bs.all id:=by
 induction bs with
 |nil=>rfl
 |cons b bs Y =>
  rw[By,Qc,Qo,Ix,Qo,<- Y];rfl
theorem sS (bs:Aa Ar):((Cd bs.length).any λi=>bs.getD i false)=bs.any id:=by
 induction bs with
 |nil=>rfl
 |cons b bs Y =>
  rw[By,Qc,Lp,List.any_map,Lp,<- Y];rfl
theorem sG {h':Bv}{tk:Ag}(I:Inv X ai σ H s)(k:∀ b Y,b ∉ [s.heap.objs.size]->(s.heap.push o).get? b=Ab Y->h'.get? b=Ab Y):Inv X ai σ H { s with heap:=h',toks:=tk }:=
 I.kept λb u e=>k b u (by simp;exact Ch (Ba e)) (Aj _ e)
theorem kK {bs:Aa Ar}(hi:am=bs.map Nk){A:Bw}:TruthOf X.prog X.w A (λi v=>am.toArray[i]? = Ab v) (λi=>bs.getD i false):=λi v U N O hv G=>by
 subst hi;have Y:(bs.map Nk)[i]? = Ab v:=by simpa using hv
 rw[Dp] at Y;cases e:bs[i]? with
 |none=>rw[e] at Y;exact nn Y
 |some b =>
  rw[e] at Y;cases Dd Y;have:bs.getD i false=b:=by simp[Lb,e]
  have J:N (bs.getD i false) U:=G;rw[this] at J;exact wpAny_truthy_bool J
theorem FN {S:ao}{P:Hp}{α:ae}{Ok:D->ao->Prop}(h:qK X P α (bL Y ds S) Ok):∃ d xs bs,ds=[d]/\yv d xs/\wX xs=Ab bs/\Ok (.bl (if Y then bs.any id else bs.all id)) S:=by
 obtain⟨d,rfl,J⟩:=cO (X:=X) (β:=D) (g:=λd=>match (zU d).bind wX with|some bs=>.ok (D.bl (if Y then bs.any id else bs.all id)) S|none=>.bad) h
 cases U:(zU d).bind wX with
 |none=>rw[U] at J;exact Au J
 |some bs =>
  rw[U] at J;obtain⟨xs,N,G⟩:=Ex.mp U;exact⟨d,xs,bs,rfl,zm N,G,J⟩
theorem D4 (J:Ar)(hc:X.calm=true):wA X (.builtin (if J then "any" else "all")) (bL J):=by
 intro ai σ H s P α S vs us ds Q I r m i g;obtain⟨d,xs,bs,T,hd,A,ok⟩:=FN g;clear g;subst T;obtain⟨v,u,rfl,rfl,p,q⟩:=u9 i m;clear i;have N:∀ {o:Cp} (U:Bv) (G:Ag),(∀ b y,b ∉ [s.heap.objs.size]->(s.heap.push o).get? b=Ab y->U.get? b=Ab y)->EP X ai σ Q (.bool (if J then bs.any id else bs.all id)) { s with heap:=U,toks:=G }:=
  λ{o} U G k=>⟨.bl _,H,sG I k,rfl,xr ok r (by simp only[aq])⟩
 clear m ok;have j:X.A.in1.handled=none:=I.ok.hd hc;cases hd with
 |tup T =>
  subst T;obtain⟨a,x,am,rfl,sq,t,O,B,h,_⟩:=uI I r p;cases (show u=Cw a from q)
  have L:=gU A t O;have Y:am.toArray.size=bs.length:=by rw[L];simp
  have C:a≠s.heap.objs.size:=by obtain⟨o,e,_⟩:=B;exact Ch (Ba e)
  have W:=AaL (prog:=X.prog) (w:=X.w) j s.heap.objs.size a C am.toArray;have z:∀ o,(s.heap.push o).IsTuple a am.toArray:=λo=>by obtain⟨o,e,c⟩:=B;exact⟨o,Aj _ e,c⟩
  have M:s.heap.IsTuple a am.toArray:=B;cases J with
  |false =>
   refine call_all_walk (Gp M ⟨s.heap.objs.size,_,_,_,_,_,_,rfl,W,⟨⟨_,Bb _ rfl,rfl,rfl⟩,z _⟩,kK L,λU G k=>?_⟩);rw[Y,sR];exact N U G k
  |true =>
   refine call_any_walk (Gp M ⟨s.heap.objs.size,_,_,_,_,_,_,rfl,W,⟨⟨_,Bb _ rfl,rfl,rfl⟩,z _⟩,kK L,λU G k=>?_⟩);rw[Y,sS];exact N U G k
 |lst T =>
  subst T;obtain⟨a,x,am,n,rfl,sq,t,O,B,h,_⟩:=gI I r p;cases (show u=Cw a from q)
  have l:s.heap.IsList a am.toArray:=⟨_,B,rfl,n,rfl⟩;have L:=gU A t O;have Y:am.toArray.size=bs.length:=by rw[L];simp
  have C:a≠s.heap.objs.size:=Ch (Ba B);have W:=AbA (prog:=X.prog) (w:=X.w) j s.heap.objs.size a C am.toArray;have E:∀ o,(s.heap.push o).IsList a am.toArray:=λo=>⟨_,Aj _ B,rfl,n,rfl⟩;cases J with
  |false =>
   refine call_all_walk (Gj l ⟨s.heap.objs.size,_,_,_,_,_,_,rfl,W,⟨⟨_,Bb _ rfl,rfl,rfl⟩,E _⟩,kK L,λU G k=>?_⟩);rw[Y,sR];exact N U G k
  |true =>
   refine call_any_walk (Gj l ⟨s.heap.objs.size,_,_,_,_,_,_,rfl,W,⟨⟨_,Bb _ rfl,rfl,rfl⟩,E _⟩,kK L,λU G k=>?_⟩);rw[Y,sS];exact N U G k
def ZI:DF:=λds S=>match ds with
 |[.int i]=>.ok (.int i) S
 |[.bl b]=>.ok (.int (yp b)) S
 |_=>.bad
inductive I_ (ds:Aa D)(S:ao):Prop
 |bad (e:ZI ds S=.bad)
 |int (i:Ah) (e:ds=[.int i])
 |bl (b:Ar) (e:ds=[.bl b])
theorem qBg (ds:Aa D)(S:ao):I_ ds S:=by
 cases ds with
 |nil=>exact .bad rfl
 |cons d ds =>
  cases ds with
  |cons _ _=>cases d <;> exact .bad rfl
  |nil =>
   cases d with
   |int i=>exact .int i rfl
   |bl b=>exact .bl b rfl
   |_=>exact .bad rfl
theorem D5:wA X (.type "int") ZI:=by
 intro ai σ H s P α S vs us ds Q I r J U Y;cases qBg ds S with
 |bad e=>rw[e] at Y;exact Au Y
 |int i e =>
  subst e;obtain⟨v,u,rfl,rfl,p,q⟩:=u9 U J;exact dS ai s σ H _ _ Q I J (.inl ⟨_,by rw[zF p],xr Y r (by simp only[aq])⟩)
 |bl b e =>
  subst e;obtain⟨v,u,rfl,rfl,p,q⟩:=u9 U J;simp only[aq] at p;subst p;exact dS ai s σ H _ _ Q I J (.inr ⟨_,rfl,xr Y r (by simp only[aq];rfl)⟩)
def jD:DF:=λds S=>match ds with
 |[d]=>match zU d with
  |some xs=>.ok (.tup xs) S
  |none=>.bad
 |_=>.bad
theorem U1:wA X (.type "tuple") jD:=by
 intro ai σ H s P α S vs us ds Q I r O T L;obtain⟨d,rfl,Y⟩:=cO (X:=X) (β:=D) (g:=λd=>match zU d with|some xs=>.ok (D.tup xs) S|none=>.bad) L
 obtain⟨xs,U,J⟩:∃ xs,zU d=Ab xs/\ju X P α Q (.tup xs) S:=by
  cases U:zU d with
  |none=>rw[U] at Y;exact Au Y
  |some xs=>rw[U] at Y;exact⟨xs,rfl,Y⟩
 obtain⟨v,u,rfl,rfl,p,q⟩:=u9 T O;cases zm U with
 |tup e =>
  subst e;have B:=p;simp only[aq] at p;obtain⟨a,G,rfl,N,t⟩:=p;exact bB ai s σ H _ _ Q I O ⟨a,G,rfl,.inr ⟨xZ r.sub N,xr J r B⟩⟩
 |lst e =>
  subst e;simp only[aq] at p;obtain⟨a,G,rfl,N,t⟩:=p;exact bB ai s σ H _ _ Q I O ⟨a,G,rfl,.inl ⟨(xE r.sub N).l,λl C=>pR r C t J⟩⟩
end
section
variable {X:Cx}
structure ya (K:Ak)(cl:ae):Prop where
 ex:∀ C∈cl,L_ K C
 one:∀ C∈cl,∀ B∈cl,Mr K (.ref C) (.ref B)=Ab (C == B)
 ve:∀ C∈cl,Mr K (.ref C) (.type "ValueError")=Ab true
def qCc (Y:ae):DF:=λds S=>match ds with
 |[.exn (.ref C),.obj B]=>if Y.contains C&&Y.contains B then .ok (.bl (C == B)) S else .bad
 |[.exn (.ref C),.ty b]=>if Y.contains C&&(b == "ValueError") then .ok (.bl true) S else .bad
 |_=>uL ds S
def vp (X:Cx)(id:Et)(g:D->Aa D->ao->aw D):Prop:=
 ∀ (ai:aa) (σ : _L.St) (H:Hp) (s:Ai) (P:Hp) (α : Aa Af) (S:ao) (v:V) (Y:Ac) (vs:Aa V) (us:ah) (a:D) (ds:Aa D) (Q:VK),Inv X ai σ H s->a_ X.K H P α S->qH v Y->aq X.K P α a v->qI vs us->qB X.K P α ds vs->qU X P α (g a ds S) Q ->
  c3 X (call (.builtin id) (Y::us)) (EP X ai σ Q) X.xe s
def mh (T:Et)(g:D->Aa D->ao->aw D)(G:DE)(U:DA):DE:=λJ S=>(G J S).bind λa Y=>if (ml a Y == Ab T)=true then (U J Y).bind λds N=>g a ds N else .bad
theorem l5 {H P:Hp}{α:ae}{S:ao}{a:D}(r:a_ X.K H P α S)(p:aq X.K P α a v)(h:ml a S=Ab T)(hT:T = "list" \/ T = "dict" \/ T = "int" \/ T = "str"):R_ X.K T v H:=by
 cases a with
 |int i=>cases h;simp only[aq] at p;subst p;rfl
 |str x=>cases h;simp only[aq] at p;subst p;rfl
 |lst xs =>
  cases h;simp only[aq] at p;obtain⟨b,vs,rfl,q,t⟩:=p;exact .inl ⟨rfl,vs,(xE r.sub q).l⟩
 |dct0 =>
  cases h;simp only[aq] at p;obtain⟨b,rfl,q⟩:=p;exact .inr (.inr (.inl ⟨rfl,.inl ⟨[],r.sub _ _ q⟩⟩))
 |loc i =>
  simp only[aq] at p;obtain⟨b,rfl,q⟩:=p;rcases d0 (f:=λ_=>Ab "list") (g:=λ_=>Ab "dict") h with⟨xs,Y,h⟩|⟨kvs,Y,h⟩
  .cases h
   obtain⟨vs,z,t⟩:=r.at' i b _ q Y;exact .inl ⟨rfl,vs,kj.of z⟩
  .cases h
   obtain⟨vs,z,t⟩:=r.at' i b _ q Y;exact .inr (.inr (.inl ⟨rfl,.inl ⟨vs,z⟩⟩))
 |non=>cases h;exact absurd hT cz
 |bl b=>cases h;exact absurd hT cz
 |tup xs=>cases h;exact absurd hT cz
 |_=>exact nn h
variable {o e:Bx}{es:Aa Bx}{fo:DE}{fa:DA}{name:As}{dw eh:Fb}{T id:Et}{g:D->Aa D->ao->aw D}
theorem WB {P:Hp}{α:ae}{a:D}{S:ao}{β:Type}{k:aw β}{Ok:β->ao->Prop}(h:qK X P α (if (ml a S == Ab T)=true then k else .bad) Ok):ml a S=Ab T/\qK X P α k Ok:=by
 by_cases z:(ml a S == Ab T)=true
 .rw[Bd z] at h;exact⟨Zd.mp z,h⟩
 .rw[Bg z] at h;exact Au h
theorem IU (p:Ze T)(slot:Slot T name id)(B:typeOf (.builtin id)=pure (.type "method_descriptor"))(hT:T = "list" \/ T = "dict" \/ T = "int" \/ T = "str")(hm:vp X id g)(q:PE X o (tD X fo))(ha:PA X (e::es) (lc X fa))
  (G:Kj o name X.env (eval o X.env)=eval o X.env:=by rfl)
  (O:((Gr eh (Bo (e::es) X.env)).all (λx=>!x.1)&&(backToKw eh (keywordEach [] X.env)).all (λx=>x.1.isSome)
   && decide ((e::es).length+([]:Aa Keyword).length+(if ([] : Aa Keyword).isEmpty then 0 else 1)<30))=true:=by rfl)
  (U:(dw.endLine == eh.line)=true:=by rfl) (hs:Bo (e::es) X.env=(false,eval e X.env)::Bo es X.env:=by rfl) (J:(Gr eh (Bo es X.env)).any (·.1)=false:=by rfl) :
  PE X (.Call (.Attribute o name dw) (e::es) [] eh) (tD X (mh T g fo fa)):=by
 intro ai s σ H Q I h;obtain⟨P,α,c,S,r,m,af⟩:=h;refine wpAny_Call_method_late G O U rfl (bj (zS q I r m af) λi s1 ⟨v,H1,j,N,d,S1,Y,M⟩=>?_);obtain⟨b,C⟩:=WB M;obtain⟨u,n⟩:=l4 Y.inv Y.val (l5 Y.rel Y.rep b hT);refine⟨T,id,p,slot,B,u,n,?_⟩;have z:=wJ ha Y.inv Y.rel Y.env (P:=j) (α:=N) (Ok:=ju X j N Q) (qU.base Y.same Y.pre (r:=(fa c S1).bind λds w=>g d ds w) C) eh;rw[hs] at z ⊢;refine Ls (by show (false||(Gr eh (Bo es X.env)).any (·.1))=false;rw[J] <;> rfl) (Calls.evalArgs_plain ?_)
 exact bj z λus s2 ⟨vs,H2,t,L,ds,w,l,a,r2,zb,E,k,y,A⟩=>hm ai σ H2 s2 t L w v i vs us d ds Q l r2 Y.val (aq.mono k y _ _ Y.rep) a E (qU.base k y A)
def U9 (T:Et)(g:D->Aa D->ao->aw D)(fo:DE):DE:=λJ S=>(fo J S).bind λa Y=>if (ml a Y == Ab T)=true then g a [] Y else .bad
theorem DR (z:Ze T)(slot:Slot T name id)(N:typeOf (.builtin id)=pure (.type "method_descriptor"))(hT:T = "list" \/ T = "dict" \/ T = "int" \/ T = "str")(hm:vp X id g)(w:PE X o (tD X fo))
  (U:Kj o name X.env (eval o X.env)=eval o X.env:=by rfl) (J:(dw.endLine == eh.line)=true:=by rfl):PE X (.Call (.Attribute o name dw) [] [] eh) (tD X (U9 T g fo)):=by
 intro ai s σ H Q I h;obtain⟨P,α,p,S,r,y,u⟩:=h;refine Ph U J (bj (zS w I r y u) λL j ⟨v,A,B,C,d,k,Y,O⟩=>?_);obtain⟨E,G⟩:=WB O;obtain⟨M,q⟩:=l4 Y.inv Y.val (l5 Y.rel Y.rep E hT);exact⟨T,id,z,slot,N,M,q,Ls rfl (Se (hm ai σ A j B C k v L [] [] d [] Q Y.inv Y.rel Y.val Y.rep .nil .nil (qU.base Y.same Y.pre G)))⟩
def xY:D->Aa D->ao->aw D:=λa ds S=>match a,ds with
 |.loc i,[d]=>match S[i]? with
  |some (.lst xs)=>if xs.length<bq then .ok .non (S.set i (.lst (xs++[d]))) else .bad
  |_=>.bad
 |_,_=>.bad
inductive ApV (a:D)(ds:Aa D)(S:ao):Prop
 |bad (e:xY a ds S=.bad)
 |of (i:Ag) (d:D) (xs:Aa D) (ea:a=.loc i) (ed:ds=[d]) (hS:S[i]? = Ab (.lst xs)) (hl:xs.length<bq) (e:xY a ds S=.ok .non (S.set i (.lst (xs++[d]))))
theorem apV (a:D)(ds:Aa D)(S:ao):ApV a ds S:=by
 cases a with
 |loc i =>
  cases ds with
  |nil=>exact .bad rfl
  |cons d ds =>
   cases ds with
   |cons _ _=>exact .bad rfl
   |nil =>
    have z:xY (.loc i) [d] S=(match S[i]? with|some (.lst xs)=>(if xs.length<bq then .ok .non (S.set i (.lst (xs++[d]))) else .bad)|_=>.bad):=rfl
    cases Y:S[i]? with
    |none=>rw[Y] at z;exact .bad z
    |some m =>
     rw[Y] at z;cases m with
     |lst xs =>
      by_cases J:xs.length<bq
      .exact .of i d xs rfl rfl Y J (z.trans (Bd J))
      .exact .bad (z.trans (Bg J))
     |_=>exact .bad z
 |_=>exact .bad rfl
theorem Y8:vp X "list.append" xY:=by
 intro ai σ H s P α S v B vs us a ds Q I r M p J U Y;cases apV a ds S with
 |bad e=>rw[e] at Y;exact Au Y
 |of i d xs A L G O e =>
  rw[e] at Y;subst A L;obtain⟨w,u,rfl,rfl,E,C⟩:=u9 U J;simp only[aq] at p;obtain⟨b,rfl,q⟩:=p;obtain⟨N,z,t⟩:=r.at' i b _ q G;refine YC ai s σ H (.ref b) [w] B [u] Q I M (.cons C .nil) ⟨b,N,w,rfl,rfl,z,by rw[<- t.length,<- x8];exact O,?_⟩
  exact xr Y (r.put (m':=.lst (xs++[d])) q G (by intro z;cases z) ⟨N++[w],qQ,t.append (.cons E .nil)⟩) (by simp only[aq])
def rJ:D->Aa D->ao->aw D:=λa ds S=>match a,ds with
 |.int n,[]=>.ok (.int (Kz n)) S
 |_,_=>.bad
theorem MV:vp X "int.bit_length" rJ:=by
 intro ai σ H s P α S v N vs us a ds Q I r G p J U Y;unfold rJ at Y
 split at Y
 .simp only[aq] at p
  subst p;obtain⟨t,rfl⟩:=G;cases U.nil_inv;cases J;exact call_int_bit_length ⟨.int _,H,I.tok _,⟨_,rfl⟩,xr Y r (by simp only[aq])⟩
 .exact Au Y
end
def xI:D->Al be
 |.int i=>Ab (.inl i)
 |.str x=>Ab (.inr x)
 |_=>none
def zM (kvs:Aa (be × D))(k:be):Al D:=(kvs.find? λY=>decide (Y.1=k)).map (·.2)
def xD (kvs:Aa (be × D))(k:be)(v:D):Aa (be × D):=
 if (kvs.any λY=>decide (Y.1=k))=true then kvs.map (λY=>if Y.1=k then (Y.1,v) else Y) else kvs++[(k,v)]
section
variable {K:Ak}{P:Hp}{α: Aa Af}
theorem oF {vs:Aa (be × V)}(r:mr K P α kvs vs):kvs.length=vs.length:=Paired.length r
theorem gG {k:be}:∀ {kvs:Aa (be × D)} {vs:Aa (be × V)},mr K P α kvs vs->(∀ d,zM kvs k=Ab d->∃ v,yL vs k=Ab v/\aq K P α d v)/\(zM kvs k=none->yL vs k=none)
 |_,_,.nil=>⟨λd h=>by simp[zM] at h,λ_=>rfl⟩
 |(G,d1)::kvs,(O,U)::vs,.cons z t=>by
  obtain⟨e,r⟩:=z;dsimp only at e r;subst e;obtain⟨J,N⟩:=gG (k:=k) t;unfold zM yL at *;by_cases Y:G=k
  .subst Y
   constructor
   .intro d h
    simp at h;subst h;exact⟨U,by simp,r⟩
   .intro h
    simp at h
  .constructor
   .intro d h
    rw[Ws (by simpa using Y)] at h ⊢
    exact J d h
   .intro h
    rw[Ws (by simpa using Y)] at h ⊢
    exact N h
theorem MF {k:be}{vs:Aa (be × V)}(h:mr K P α kvs vs):(kvs.any λY=>decide (Y.1=k))=(vs.any λY=>decide (Y.1=k)):=by
 induction h with
 |nil=>rfl
 |cons z t J=>rw[Lp,Lp,J,z.1]
theorem MJ {k:be}(q:aq K P α d v){kvs:Aa (be × D)}{vs:Aa (be × V)}(h:mr K P α kvs vs):mr K P α (kvs.map λY=>if Y.1=k then (Y.1,d) else Y) (vs.map λY=>if Y.1=k then (Y.1,v) else Y):=by
 induction h with
 |nil=>exact .nil
 |cons z t J =>
  rw[De,De];refine .cons ?_ J;rw[<- z.1]
  split
  .exact⟨rfl,q⟩
  .exact z
theorem MG {k:be}(q:aq K P α d v){kvs:Aa (be × D)}{vs:Aa (be × V)}(h:mr K P α kvs vs):mr K P α (kvs++[(k,d)]) (vs++[(k,v)]):=by
 induction h with
 |nil=>exact .cons ⟨rfl,q⟩ .nil
 |cons z t Y=>exact .cons z Y
theorem oG {k:be}(q:aq K P α d v){kvs:Aa (be × D)}{vs:Aa (be × V)}(r:mr K P α kvs vs):mr K P α (xD kvs k d) (yU vs k v):=by
 unfold xD yU;rw[MF r]
 split
 .exact MJ q r
 .exact MG q r
theorem bP {k:be}(h:xI d=Ab k)(r:aq K P α d v):v=kV k:=by
 cases d with
 |int i=>cases h;simp only[aq] at r;exact r
 |str x=>cases h;simp only[aq] at r;exact r
 |_=>cases h
end
section
variable {X:Cx}{o i e:Bx}{ap:Fb}
noncomputable def mR:DE:=λ_ S=>.ok (.loc S.length) (S++[.dct []])
theorem DW:PE X (.Dict [] [] ap) (tD X mR):=by
 refine qt K8 λσ H Q ⟨P,α,O,S,r,N,J⟩ p G=>?_;have Y:α<+:α++[p]:=Ek _ _;have U:=r.new (o:=.dK []) (m:=.dct []) G ⟨[],qQ,.nil⟩;refine J _ _ _ _ U (qE.refl _) Y ?_;simp only[aq];exact⟨p,rfl,by rw[<- r.len];simp⟩
def zZ:G3:=λo i d S=>match o with
 |.loc n=>match S[n]? with
  |some (.dct kvs)=>match xI i with
   |some k=>if kvs.length<bq then .ok () (S.set n (.dct (xD kvs k d))) else .bad
   |none=>.bad
  |_=>mW o i d S
 |_=>mW o i d S
inductive xm (a b d:D)(S:ao):Prop
 |bad (e:zZ a b d S=.bad)
 |old (e:zZ a b d S=mW a b d S)
 |of (n:Ag) (kvs:Aa (be × D)) (k:be) (ea:a=.loc n) (hS:S[n]? = Ab (.dct kvs)) (hk:xI b=Ab k) (hl:kvs.length<bq) (e:zZ a b d S=.ok () (S.set n (.dct (xD kvs k d))))
theorem qAk (a b d:D)(S:ao):xm a b d S:=by
 cases a with
 |loc n =>
  have z:zZ (.loc n) b d S=(match S[n]? with|some (.dct kvs)=>(match xI b with|some k=>(if kvs.length<bq then .ok () (S.set n (.dct (xD kvs k d))) else .bad)|none=>.bad)|_=>mW (.loc n) b d S):=rfl
  cases Y:S[n]? with
  |none=>rw[Y] at z;exact .old z
  |some m =>
   rw[Y] at z;cases m with
   |dct kvs =>
    cases U:xI b with
    |none=>rw[U] at z;exact .bad z
    |some k =>
     rw[U] at z;by_cases J:kvs.length<bq
     .exact .of n kvs k rfl Y U J (z.trans (Bd J))
     .exact .bad (z.trans (Bg J))
   |_=>exact .old z
 |_=>exact .old rfl
theorem AA (L:X.A.units+1<EQ):rT X (rQ X zZ):=by
 intro ai s σ H o i v O A u Q I C G B h;obtain⟨P,α,S,a,b,d,r,J,pb,N,Y⟩:=h;cases qAk a b d S with
 |bad e=>rw[e] at Y;exact Au Y
 |old e =>
  rw[e] at Y;exact qAl ai s σ H o i v O A u Q I C G B ⟨P,α,S,a,b,d,r,J,pb,N,Y⟩
 |of n kvs k M U E T e =>
  rw[e] at Y;subst M;simp only[aq] at J;obtain⟨p,rfl,q⟩:=J;obtain⟨vs,z,t⟩:=r.at' n p _ q U;cases bP E pb;cases (show O=Cw p from C)
  refine W9 L I (lA.k (v:=v) z (by rw[<- oF t,<- x8];exact T)) G B λj w=>⟨_,w,?_⟩
  exact Y _ P α (r.put (m':=.dct (xD kvs k d)) q U (by intro z;cases z) ⟨_,qQ,oG N t⟩) (qE.refl _) (Be _)
def jG:D->Aa D->ao->aw D:=λa ds S=>match a,ds with
 |.loc n,[i,x]=>match S[n]? with
  |some (.dct kvs)=>match xI i with
   |some k=>.ok ((zM kvs k).getD x) S
   |none=>.bad
  |_=>.bad
 |_,_=>.bad
inductive K_ (a:D)(ds:Aa D)(S:ao):Prop
 |bad (e:jG a ds S=.bad)
 |of (n:Ag) (i x:D) (kvs:Aa (be × D)) (k:be) (ea:a=.loc n) (ed:ds=[i,x]) (hS:S[n]? = Ab (.dct kvs)) (hk:xI i=Ab k) (e:jG a ds S=.ok ((zM kvs k).getD x) S)
theorem qBe (a:D)(ds:Aa D)(S:ao):K_ a ds S:=by
 cases a with
 |loc n =>
  cases ds with
  |nil=>exact .bad rfl
  |cons i ds =>
   cases ds with
   |nil=>exact .bad rfl
   |cons x ds =>
    cases ds with
    |cons _ _=>exact .bad rfl
    |nil =>
     have z:jG (.loc n) [i,x] S=(match S[n]? with|some (.dct kvs)=>(match xI i with|some k=>.ok ((zM kvs k).getD x) S|none=>.bad)|_=>.bad):=rfl
     cases Y:S[n]? with
     |none=>rw[Y] at z;exact .bad z
     |some m =>
      rw[Y] at z;cases m with
      |dct kvs =>
       cases J:xI i with
       |none=>rw[J] at z;exact .bad z
       |some k=>rw[J] at z;exact .of n i x kvs k rfl rfl Y J z
      |_=>exact .bad z
 |_=>exact .bad rfl
theorem RY (O:X.A.units+1<EQ):vp X "dict.get" jG:=by
 intro ai σ H s P α S v A vs us a ds Q I r m p U G Y;cases qBe a ds S with
 |bad e=>rw[e] at Y;exact Au Y
 |of n i x kvs k j M N T e =>
  rw[e] at Y;subst j M;obtain⟨vi,vx,ui,ux,rfl,rfl,B,y,u,c⟩:=kI G U;simp only[aq] at p;obtain⟨b,rfl,q⟩:=p;obtain⟨ws,z,t⟩:=r.at' n b _ q N;cases bP T B;cases (show A=Cw b from m)
  refine DN O I (j7.k z) u c λh s' l J=>⟨_,H,l,J,xr Y r ?_⟩;obtain⟨C,L⟩:=gG (k:=k) t;cases hv:zM kvs k with
  |none=>rw[L hv];exact y
  |some d =>
   obtain⟨w,g,E⟩:=C d hv;rw[g];exact E
theorem rW {β:Type}{r:aw β}{P:Hp}{α:ae}{Ok:β->ao->Prop}(e:r=.bad)(h:qK X P α r Ok):Fk:=by
 rw[e] at h;exact h
end
def uS (S:ao):ao:=S.map λ_=>.dead
noncomputable def Z5:D->Ar
 |.non=>true
 |.bl _=>true
 |.int _=>true
 |.str _=>true
 |_=>false
noncomputable def mapO {β γ:Type}(f:β->Al γ) : Aa β -> Al (Aa γ)
 |[]=>Ab []
 |b::r=>match f b,mapO f r with
  |some c,Ab Y=>Ab (c::Y)
  |_,_=>none
noncomputable def vT:Ag->ao->D->Al D
 |n+1,S,.tup xs=>(mapO (vT n S) xs).map .tup
 |n+1,S,.lst xs=>(mapO (vT n S) xs).map .lst
 |n+1,S,.loc i=>match S[i]? with
  |some (.lst xs)=>(mapO (vT n S) xs).map .lst
  |_=>none
 |_,_,.non=>Ab .non
 |_,_,.bl b=>Ab (.bl b)
 |_,_,.int i=>Ab (.int i)
 |_,_,.str x=>Ab (.str x)
 |_,_,.ty n=>Ab (.ty n)
 |_,_,.obj a=>Ab (.obj a)
 |_,_,.dct0=>Ab .dct0
 |_,_,.exn c=>Ab (.exn c)
 |_,_,_=>none
def vQ (H P:Hp)(α : Aa Af):Hp:=λb=>if (P b).isSome then P b else if b∈α then H b else none
section
variable {K:Ak}{H P:Hp}{α: Aa Af}{S:ao}
theorem jF (H P:Hp)(α : Aa Af):qE P (vQ H P α):=λb o e=>by
 unfold vQ;rw[e];rfl
theorem UZ (r:a_ K H P α S):qE (vQ H P α) H:=λb o e=>by
 unfold vQ at e
 split at e
 .exact r.sub b o e
 .split at e
  .exact e
  .cases e
theorem lL {a:Af}(h:P a=none)(Y:a∈α):vQ H P α a=H a:=by
 unfold vQ;rw[h];simp[Y]
theorem a_.frz (r:a_ K H P α S):a_ K H (vQ H P α) α (uS S) where
 tb:=r.tb.keep (λ_ _ q _=>q) λb u q _ p n=>⟨by unfold vQ;rw[p];simp[n],n⟩
 sub:=UZ r
 len:=by rw[r.len];simp[uS]
 nd:=r.nd
 sep:=λi a o U Y J=>by
  unfold uS at Y;rw[Dp] at Y;cases q:S[i]? with
  |none=>rw[q] at Y;cases Y
  |some m=>rw[q] at Y;cases Y;exact absurd rfl J
 at':=λi a o U Y=>by
  unfold uS at Y;rw[Dp] at Y;cases q:S[i]? with
  |none=>rw[q] at Y;cases Y
  |some m=>rw[q] at Y;cases Y;trivial
 own:=r.own
theorem a_.unfrz (r:a_ K H P α S)(G:a_ K B P1 O S1)(e:qE (vQ H P α) P1):a_ K B P α S:=by
 have mem:∀ i a,α[i]? = Ab a->a∈α:=λi a h=>Cf h;have N:∀ (i:Ag) (a:Af) (o:MO) (u:HO),α[i]? = Ab a->S[i]? = Ab o->o≠MO.dead->H a=Ab u->B a=Ab u:=λi a o u Y J A k =>
  G.sub a u (e a u (by rw[lL (r.sep i a o Y J A) (mem i a Y)];exact k))
 refine⟨λx L c T h=>let ⟨j,e,_,_,ok,p⟩:=G.tb x L c T h;let ⟨_,_,M,I,_,_⟩:=r.tb x L c T h;⟨j,e,M,I,ok,p⟩,(jF H P α).trans (e.trans G.sub),r.len,r.nd,r.sep,λi a o Y J=>?_,λi a Y=>?_⟩
 .have m:=r.at' i a o Y J
  cases o with
  |dead=>trivial
  |lst ds=>obtain⟨vs,q,t⟩:=m;exact⟨vs,N i a _ _ Y J (by intro z;cases z) q,t⟩
  |dct kvs=>obtain⟨vs,q,t⟩:=m;exact⟨vs,N i a _ _ Y J (by intro z;cases z) q,t⟩
  |dcT kvs=>obtain⟨vs,q,t⟩:=m;exact⟨vs,N i a _ _ Y J (by intro z;cases z) q,t⟩
  |ins C l=>obtain⟨y,vs,q,t⟩:=m;exact⟨y,vs,N i a _ _ Y J (by intro z;cases z) q,t⟩
 .have h:=r.own i a Y
  cases q:H a with
  |none=>exact absurd q h
  |some u =>
   have z:∃ U,vQ H P α a=Ab U:=by
    cases E:P a with
    |none=>exact⟨u,by rw[lL E (mem i a Y)];exact q⟩
    |some U=>exact⟨U,jF H P α a U E⟩
   obtain⟨U,z⟩:=z;rw[G.sub a U (e a U z)];intro w;cases w
set_option tactic.hygienic true in
theorem qB.mapO {f:D->Al D}(h:∀ d t v,f d=Ab t->aq K P α d v->aq K J α t v):∀ {ds Y:Aa D} {vs:Aa V},_D.mapO f ds=Ab Y->qB K P α ds vs->qB K J α Y vs
 |[],Y,vs,e,r=>by cases e;rw[r.nil_inv];exact .nil
 |d::ds,Y,vs,e,r=>by
  obtain⟨w,C,rfl,O,N⟩:=r.cons_inv;unfold _D.mapO at e
  split at e
  .rename_i c B U G
   cases e;exact .cons (h d c w U O) (qB.mapO h G N)
  .cases e
theorem oX (r:a_ K H P α S):∀ (n:Ag) (d t:D) (v:V),vT n S d=Ab t->aq K P α d v->aq K (vQ H P α) α t v:=by
 have Y:∀ (d:D) (v:V),aq K P α d v->aq K (vQ H P α) α d v:=λd v=>aq.mono (jF H P α) (Be _) d v;intro n
 induction n with
 |zero =>
  intro d t v h p;cases d <;> first|(cases h;exact Y _ _ p)|exact nn h
 |succ n G =>
  intro d t v h p;cases d with
  |tup xs =>
   obtain⟨N,J,rfl⟩:=Dl.mp h;simp only[aq] at p ⊢;obtain⟨a,vs,rfl,q,t⟩:=p;exact⟨a,vs,rfl,yB (jF H P α) q,qB.mapO (λd t v=>G d t v) J t⟩
  |lst xs =>
   obtain⟨N,J,rfl⟩:=Dl.mp h;simp only[aq] at p ⊢;obtain⟨a,vs,rfl,q,t⟩:=p;exact⟨a,vs,rfl,xE (jF H P α) q,qB.mapO (λd t v=>G d t v) J t⟩
  |loc i =>
   have h:(match S[i]? with|some (.lst xs)=>(_D.mapO (vT n S) xs).map D.lst|_=>none)=Ab t:=h
   cases U:S[i]? with
   |none=>rw[U] at h;exact nn h
   |some m =>
    rw[U] at h;cases m with
    |lst xs =>
     obtain⟨N,J,rfl⟩:=Dl.mp h;simp only[aq] at p ⊢;obtain⟨a,rfl,q⟩:=p;obtain⟨vs,z,t⟩:=r.at' i a _ q U;refine⟨a,vs,rfl,.inl (.inl ?_),qB.mapO (λd t v=>G d t v) J t⟩;rw[lL (r.sep i a _ q U (by intro z;cases z)) (Cf q)]
     exact z
    |_=>exact nn h
  |fd O ds=>exact nn h
  |clo a vs ds=>exact nn h
  |_=>cases h;exact Y _ _ p
theorem VV (h:Z5 d=true)(p:aq K P α d v):aq K J Y d v:=by
 cases d with
 |non=>simpa only [aq] using p
 |bl b=>simpa only [aq] using p
 |int i=>simpa only [aq] using p
 |str x=>simpa only [aq] using p
 |_=>cases h
end
def mS:Ag:=20
def ZS (r:aw D)(S:ao):aw D:=match r with
 |.ok d _=>if Z5 d then .ok d S else .bad
 |_=>.bad
theorem ZT {X:Cx}{H P:Hp}{α:ae}{S:ao}(J:a_ X.K H P α S)(Y:qU X P α (ZS r S) Q):qU X (vQ H P α) α r Q:=by
 cases r with
 |ok d G =>
  obtain⟨U,Y⟩:=wK (X:=X) Y;exact λv L E B N C T O=>Y v L P α (J.unfrz N C) (qE.refl _) (Be _) (VV U O)
 |ex c x G=>exact Au Y
 |bad=>exact Au Y
section
variable {X:Cx}
def fN (g:G2):G2:=λa b S=>match vT mS S a,vT mS S b with
 |some x,Ab y=>ZS (g x y (uS S)) S
 |_,_=>.bad
set_option tactic.hygienic true in
theorem gy.look (h:gy X f g):gy X f (fN g):=by
 intro ai σ H s P α S v u N O a b Q I r B C G pb Y;unfold fN at Y
 split at Y
 .rename_i x y U J
  exact h ai σ H s _ α (uS S) v u N O x y Q I r.frz B C (oX r mS a x v U G) (oX r mS b y u J pb) (ZT r Y)
 .exact Au Y
end
noncomputable def yD (t:DT)(f:DS):Ag->qC->ao->jo
 |0,_,_=>.bad
 |n+1,U,S=>(t U S).toS U λb G=>if b then (match f U G with
   |.nx Y J=>yD t f n Y J
   |.ct Y J=>yD t f n Y J
   |.bk Y J=>.nx Y J
   |o=>o) else .nx U G
theorem XW:∃ n:Ag,n=2 ^ 60:=⟨_,rfl⟩
def big:Ag:=Vg XW
theorem bH:big=2 ^ 60:=Qp XW
def vG (t:DT)(f:DS):DS:=λY S=>yD t f big Y S
section
variable {X:Cx}{ap:Fb}
inductive zw (X:Cx)(P:Hp)(α : Aa Af)(t:DT)(f:DS)(D:Ends)(m:Ag)(σ : _L.St)(H:Hp):Prop
 |mk (P2:Hp) (α2:ae) (env2:qC) (S2:ao) (r:a_ X.K H P2 α2 S2) (re:zE X.K P2 α2 σ env2) (e1:qE P P2) (e2:α<+:α2) (af:zC X P2 α2 (yD t f m env2 S2) D):zw X P α t f D m σ H
theorem UN {a:Aa Ge}{t:DT}{f:DS}(hp:Tv (Ax X.prog X.w) X.A X.env X.xe)(hc:PT X c (my X t))(h:jn X a (i_ X f)):PS X (.While c a [] ap) (i_ X (vG t f)):=
 wz (KD hp hc h) λD σ H ⟨P,α,aj,S,r,re,af⟩=>by
  refine⟨zw X P α t f D,⟨big,P,α,aj,S,r,re,qE.refl _,Be _,af⟩,?_⟩;rintro m u H2 ⟨P2,p,Y,N,r2,L,e,i,M⟩;cases m with
  |zero=>exact Au M
  |succ m =>
   have G:=xS M;refine⟨P2,p,Y,N,r2,L,?_⟩;cases q:t Y N with
   |bad=>rw[q] at G;exact G
   |ex c x S'=>rw[q] at G;exact G
   |ok b y =>
    rw[q] at G;intro H3 P3 B n I A;have J:zC X P3 B (if b then (match f Y y with|.nx Y N=>yD t f m Y N|.ct Y N=>yD t f m Y N|.bk Y N=>.nx Y N|o=>o) else .nx Y y) D:=zC.base I A G
    cases b with
    |false=>exact J u H3 P3 B n (L.mono I A) (qE.refl _) (Be _)
    |true =>
     simp only[Dq] at J ⊢;refine⟨zw X P α t f D m,λzb H' w=>⟨m,Ib _,w⟩,P3,B,Y,y,n,L.mono I A,?_⟩;cases T:f Y y with
     |bad=>rw[T] at J;exact J
     |ex c x U E=>rw[T] at J;exact J
     |rt d4 E=>rw[T] at J;exact J
     |bk U E=>rw[T] at J;exact J
     |nx U E =>
      rw[T] at J;exact λg H5 l C k O z j=>⟨l,C,U,E,k,O,(e.trans I).trans z,(i.trans A).trans j,zC.base z j J⟩
     |ct U E =>
      rw[T] at J;exact λg H5 l C k O z j=>⟨l,C,U,E,k,O,(e.trans I).trans z,(i.trans A).trans j,zC.base z j J⟩
end
section
variable {X:Cx}{a b c e:Bx}{ap:Fb}{fe:DE}
def qB8 (X:Cx)(g:G2):xk:=λx y H Q=>∃ P α S a b,a_ X.K H P α S/\aq X.K P α a x/\aq X.K P α b y/\qU X P α (g a b S) Q
def xw (X:Cx)(op:Py)(g:G2):Prop:=A_ X op (qB8 X g)
def vW (i:Ag)(g:G2)(fe:DE):DS:=λY S=>match Y[i]? with
 |some (Ab x)=>(fe Y S).toS Y λy U=>(g x y U).toS Y λz J=>.nx (Y.set i (Ab z)) J
 |_=>.bad
set_option tactic.hygienic true in
theorem SK {i:Ag}{U:Fb}(hN:X.N.Nodup)(t:PE X e (tD X fe))(p:xw X op g)(hi:X.N[i]? = Ab x:=by rfl)(l:Loc X.env.scope x:=by first|exact AaK rfl|exact Zp rfl)
  (o:X.fn x=true\/X.env.scope.names.lookup x=Ab .local:=by first|exact .inl rfl|exact .inr rfl|assumption):PS X (.AugAssign (.Name x U) op e ap) (i_ X (vW i g fe)):=
 wz (HU hN hi l t p o) λD σ H ⟨P,α,I,S,r,N,G⟩=>by
  unfold vW at G
  split at G
  .rename_i d hd
   obtain⟨v,hv,k⟩:=N.2 i d hd;refine⟨v,hv,P,α,I,S,r,N,?_⟩;have J:=xS G;cases q:fe I S with
   |bad=>rw[q] at J;exact J
   |ex c x n=>rw[q] at J;exact J
   |ok y j =>
    rw[q] at J;intro u H1 h O r1 E C rp;refine⟨h,O,j,d,y,r1,aq.mono E C _ _ k,rp,?_⟩;have Y:=xS (zC.base E C J);cases B:g d y j with
    |bad=>rw[B] at Y;exact Y
    |ex c x n=>rw[B] at Y;exact Y
    |ok z S2 =>
     rw[B] at Y;exact λw H2 m L r2 A M T=>Y _ H2 m L r2 (((N.mono E C).mono A M).set i T) A M
  .exact Au G
def fK:G2:=i2 (λ_ _=>true) λi j=>.int (i+j)
theorem M0:xw X .Add fK:=by
 intro ai s σ H x y v u Q I J U h;obtain⟨P,α,S,a,b,r,Y,pb,G⟩:=h;obtain⟨i,j,rfl,rfl,_,ok⟩:=nE G;exact RE ai s σ H x y v u Q I J U ⟨i,j,zF Y,zF pb,xr ok r (by simp only[aq])⟩
def hW:G2:=i2 VY λi j=>.int (i*2 ^ j.toNat)
theorem EO:gy X (En .LShift) hW:=bW HC (λi j h=>(Bs h:0<=j/\j<=1000000/\i.natAbs<2 ^ 64)) λP α i j=>by simp only[aq]
def xH (xs:Aa D)(lo hi:Al Ah):Aa D:=(xs.drop (_H.cc xs.length 0 lo)).take (_H.cc xs.length xs.length hi-_H.cc xs.length 0 lo)
abbrev DO:=qC->ao->aw (Al Ah)
def _c (X:Cx)(P:Hp)(α : Aa Af)(Q:Al Ah->Hp->Prop)(o:Al Ah)(G:ao):Prop:=∀ U J Y,a_ X.K U J Y G->qE P J->α<+:Y->Q o U
def wx (X:Cx)(f:DO):TO:=λσ H Q=>∃ P α Y S,a_ X.K H P α S/\zE X.K P α σ Y/\qK X P α (f Y S) (_c X P α Q)
def v9:DO:=λ_ S=>.ok none S
def xX (f:DE):DO:=λJ S=>(f J S).bind λd Y=>match d with
 |.int i=>.ok (Ab i) Y
 |_=>.bad
theorem FD:PO X none (wx X v9):=λai s σ H Q I ⟨P,α,U,S,r,J,Y⟩=>TQ ai s σ H Q I (Y H P α r (qE.refl _) (Be _))
theorem FE (O:PE X e (tD X fe)):PO X (Ab e) (wx X (xX fe)):=by
 intro ai s σ H Q I h;obtain⟨P,α,J,S,r,C,T⟩:=h;refine TR (te:=tD X fe) O ai s σ H Q I ⟨P,α,J,S,r,C,?_⟩;have Y:qK X P α ((fe J S).bind λd G=>match d with|.int i=>.ok (Ab i) G|_=>.bad) (_c X P α Q):=T
 cases q:fe J S with
 |bad=>rw[q] at Y;exact Y
 |ex c x w=>rw[q] at Y;exact Y
 |ok d G =>
  rw[q] at Y;intro v N B U E A L M;cases d with
  |int i=>exact⟨i,zF M,Y N B U E A L⟩
  |_=>exact Au Y
theorem qB.cut {K:Ak}{P:Hp}{α:ae}(r:qB K P α ds vs)(lo hi:Al Ah):qB K P α (xH ds lo hi) (bJ vs lo hi):=by
 unfold xH bJ;rw[r.length];exact(r.drop _).take _
def vh (d:D)(lo hi:Al Ah)(S:ao):aw D:=match d with
 |.lst xs=>.ok (.lst (xH xs lo hi)) S
 |.loc i=>match S[i]? with
  |some (.lst xs)=>.ok (.lst (xH xs lo hi)) S
  |_=>.bad
 |.tup xs=>.ok (.tup (xH xs lo hi)) S
 |_=>.bad
def mw (fe:DE)(fl J:DO):DE:=λY S=>(fe Y S).bind λd U=>(fl Y U).bind λlo O=>(J Y O).bind λN G=>vh d lo N G
end
end _D
namespace _D
open _L _H
section
variable {prog:Bj}{w:Bz}{A:Bw}{E:ab}{s:Ai}
theorem bD {t J:Af}{lo hi:Al Ah}{Q:ab}(Y:Vs s.heap t items)(hs:s.heap.IsSliceOf J O C .none)(pl:Ti O lo)(L:Ti C hi)
  (hw:cc items.size 0 lo=0/\cc items.size items.size hi=items.size) (h:Q (.ref t) s):Aq (Ax prog w) A (Pe (.ref t) (.ref J)) Q E s:=by
 obtain⟨B,N,U,_⟩:=id hs;have G:s.TypeIs (.ref J) "slice":=⟨B,N,U⟩;unfold Pe
 try with_reducible refine Fn ?_
 first|refine Ad (Am ?_)|skip
 refine Ad (wpAny_sequenceKey Y.typeIs cz ?_)
 refine Ad (El (name:=Iu "__getitem__") Y.typeIs Fo
  (Eh Fo Y.typeIs Yy ?_ (Zw _ _)))
 show Aq _ _ (Ng (.ref t) >>= _) _ _ s;refine Ad (tupleItemsOf_ Y ?_);refine Ad (Mx G ?_);rw[Bd cz]
 refine Ad (jO hs pl L ?_);show Aq _ _ (if (((cc items.size 0 lo:Ag):Ah) == 0&&(1:Ah) == 1&&(cc items.size items.size hi-cc items.size 0 lo) == items.size)=true then _ else _) _ _ s
 rw[hw.1,hw.2,Bd cy]
 unfold Builtin.Tuple.tupleIsExact;refine Ad (Ad (Mx Y.typeIs (Am ?_)));rw[Bd cz]
 exact Ad (Gu (Am ⟨_,rfl,Am h⟩))
end
section
variable {X:Cx}{e:Bx}{fe:DE}{ap p2:Fb}
def qB1 (X:Cx):V->Al Ah->Al Ah->Hp->VK->Prop:=λx lo Y H Q=>∃ P α S d,a_ X.K H P α S/\aq X.K P α d x/\qU X P α (vh d lo Y S) Q
theorem qB4:vn X (qB1 X):=by
 intro A s σ H x v T M lo J E Q I B hs pl C h;obtain⟨P,α,S,d,r,p,U⟩:=h;cases d with
 |lst G =>
  simp only[aq] at p;obtain⟨a,Y,rfl,q,t⟩:=p;exact Q3 A s σ H _ v T M lo J E Q I B hs pl C ⟨a,Y,rfl,(xE r.sub q).l,λb N=>yT r N (qB.cut t lo J) U⟩
 |loc i =>
  obtain⟨G,j,U⟩:=jM (X:=X) (f:=λG=>aw.ok (D.lst (xH G lo J)) S) U;simp only[aq] at p;obtain⟨a,rfl,q⟩:=p;obtain⟨Y,z,t⟩:=r.at' i a _ q j;exact Q3 A s σ H _ v T M lo J E Q I B hs pl C ⟨a,Y,rfl,kj.of z,λb N=>yT r N (qB.cut t lo J) U⟩
 |tup G =>
  have u:=p;simp only[aq] at p;obtain⟨a,Y,rfl,q,t⟩:=p;by_cases L:cc Y.length 0 lo=0/\cc Y.length Y.length J=Y.length
  .cases B
   obtain⟨y,k,w,o⟩:=I.tuple (xZ r.sub q);have O:y.toArray.size=Y.length:=by rw[Bn];exact k.length.symm
   refine⟨"tuple",_,Fo.lookup,w.typeIs,bD w hs pl C (by rw[O];exact L) ⟨.ref a,H,I,rfl,xr U r ?_⟩⟩
   have e:xH G lo J=G:=by
    unfold xH;rw[t.length,L.1,L.2,<- t.length];simp
   rw[e];exact u
  .exact AC A s σ H _ v T M lo J E Q I B hs pl C ⟨a,Y,rfl,xZ r.sub q,L,λb N=>pR r N (qB.cut t lo J) U⟩
 |_=>exact Au U
theorem UF {lo hi:Al Bx}{fl L:DO}(b:PE X e (tD X fe))(m:PO X lo (wx X fl))(t:PO X hi (wx X L)):PE X (.Subscript e (.Slice lo hi none p2) ap) (tD X (mw fe fl L)):=
 qt (K9 qB4 b m t) λσ H Q ⟨P,α,G,S,r,k,h⟩=>by
  refine⟨P,α,G,S,r,k,?_⟩;have J:qK X P α ((fe G S).bind λd T=>(fl G T).bind λlo B=>(L G B).bind λhi N=>vh d lo hi N) (ju X P α Q):=h;cases q:fe G S with
  |bad=>rw[q] at J;exact J
  |ex c x g=>rw[q] at J;exact J
  |ok d T =>
   rw[q] at J;intro v H1 E O i z I s;refine⟨E,O,G,T,i,k.mono z I,?_⟩;have U:qK X E O ((fl G T).bind λlo B=>(L G B).bind λhi N=>vh d lo hi N) (ju X E O Q):=qU.base z I J;cases A:fl G T with
   |bad=>rw[A] at U;exact U
   |ex c x g=>rw[A] at U;exact U
   |ok l B =>
    rw[A] at U;intro H2 j C a M w;refine⟨j,C,G,B,a,(k.mono z I).mono M w,?_⟩;have Y:qK X j C ((L G B).bind λhi N=>vh d l hi N) (ju X j C Q):=qU.base M w U;cases o:L G B with
    |bad=>rw[o] at Y;exact Y
    |ex c x g=>rw[o] at Y;exact Y
    |ok u N =>
     rw[o] at Y;intro H3 P3 y n p f;exact⟨P3,y,N,d,n,aq.mono (M.trans p) (w.trans f) _ _ s,qU.base p f Y⟩
end
end _D
namespace _D
open _L
variable {us:ah}{ns:Aa Ah}{N:Aa As}{am ds um:Aa D}{bo:Aa Ge}{vs:Aa V}{Q:ab}{m:Ag}{Qa Qd:Ai->Prop}{o':Al (Ag × MO)}{tp:Ar}{xs ys:Ay Ac}{h':Bv}{id:Et}{py:Fb}{SF:ao}{aj gk:qC}
def zH (tp:Ar)(h:Bv)(it l:Af)(k:Ag):Prop:=if tp then h.IsTupleIter it l k else h.IsListIter it l k
def xM (tp:Ar)(h:Bv)(l:Af)(xs:Ay Ac):Prop:=if tp then h.IsTuple l xs else h.IsList l xs
theorem zH.keep {it l:Af}{k:Ag}(x:zH tp h it l k)(q:∀ o,h.get? it=Ab o->h'.get? it=Ab o):zH tp h' it l k:=by
 cases tp <;> (obtain⟨o,e,r⟩:=x;exact⟨o,q o e,r⟩)
theorem xM.keep {l:Af}(x:xM tp h l xs)(q:∀ o,h.get? l=Ab o->h'.get? l=Ab o):xM tp h' l xs:=by
 cases tp <;> (obtain⟨o,e,r⟩:=x;exact⟨o,q o e,r⟩)
theorem zH.there {it l:Af}{k:Ag}(x:zH tp h it l k):∃ o,h.get? it=Ab o/\∀ v,o.data≠.cell v:=by
 cases tp <;> (obtain⟨o,e,_,d⟩:=x;exact⟨o,e,λv z=>by rw[d] at z;cases z⟩)
section
variable {prog:Bj}{w:Bz}{A:Bw}{E:ab}{s:Ai}
theorem JY {it t:Af}(Y:s.heap.IsTupleIter it t i)(O:s.heap.IsTuple t items)(U:items[i]? = Ab x)
  (J:∀ h',h'.IsTupleIter it t (i+1)->Ew it s.heap h'->Q x { s with heap:=h' }) : Aq (Ax prog w) A (Ec (.ref it)) Q E s:=by
 obtain⟨o,e,c,d⟩:=id Y;obtain⟨u,C,_,m,G⟩:=O;unfold Ec;refine Ad (El (name:=Iu "__next__") Y.typeIs Js (Eh Js Y.typeIs Sl ?_ (Sf _)));show Aq _ _ (field (.ref it) 0 >>= _) _ _ s;refine Ad (Eo e d (x:=.ref t) rfl ?_);show Aq _ _ (if (Cw t == Dr)=true then _ else _) _ _ s;rw[Bg (show ¬ ((Cw t == Dr)=true) from Fx)]
 show Aq _ _ (field (.ref it) 1 >>= _) _ _ s;refine Ad (Eo e d (x:=.int i 0) rfl ?_);show Aq _ _ (seqItems? (.ref t) >>= _) _ _ s;refine Ad (Hb C G ?_);simp only[Gh,U];refine Ad (Pp e d cy (Am ⟨x,rfl,Am (J _ ⟨_,Gi _ e (Obj.isFreed_of_fields (ZB d _)),(Obj.cls_mapFields ..).trans c,?_⟩ (Hu ..))⟩))
 rw[ZB d];simp[Gq]
theorem cF {it t:Af}{Q:ab}(J:A.handled=none)(Y:s.heap.IsTupleIter it t i)(O:s.heap.IsTuple t items)(U:items[i]? = none)
  (B:∀ h' e,Heap.ExtBut it s.heap h'->(∃ o,h'.get? e=Ab o/\o.cls=.type "StopIteration")->E (.ref e) { s with heap:=h' }) : Aq (Ax prog w) A (Ec (.ref it)) Q E s:=by
 obtain⟨o,e,c,d⟩:=id Y;obtain⟨u,C,_,m,G⟩:=O;unfold Ec;refine Ad (El (name:=Iu "__next__") Y.typeIs Js (Eh Js Y.typeIs Sl ?_ (Sf _)));show Aq _ _ (field (.ref it) 0 >>= _) _ _ s;refine Ad (Eo e d (x:=.ref t) rfl ?_);show Aq _ _ (if (Cw t == Dr)=true then _ else _) _ _ s;rw[Bg (show ¬ ((Cw t == Dr)=true) from Fx)]
 show Aq _ _ (field (.ref it) 1 >>= _) _ _ s;refine Ad (Eo e d (x:=.int i 0) rfl ?_);show Aq _ _ (seqItems? (.ref t) >>= _) _ _ s;refine Ad (Hb C G ?_);simp only[Gh,U];refine Ad (Gu (Ad (Pp e d cy ?_)))
 show Aq _ _ (newExc (.type "StopIteration") [] >>= _) _ _ _;refine Ad ?_;simp only[newExc,newTuple];refine Ad (Er ?_ (by size_fits))
 refine Ad (m:=Sm _ _) (AaM (a:=Dr) (by first|rfl|(simp only[Sm];rfl)) (Er ?_ (by size_fits)))
 simp only[raiseNew];refine Ad (wpAny_handled ?_)
 first|rw[show A.in1.handled=none from J]|rw[J]
 exact Ad (Am (wpAny_throw (B _ _ (((Hu ..).extBut.push _).push _) ⟨_,Bb _ rfl,rfl⟩)))
theorem pN {it l:Af}{k:Ag}(Y:zH tp s.heap it l k)(J:xM tp s.heap l xs)(U:xs[k]? = Ab x)
  (G:∀ h',zH tp h' it l (k+1)->Ew it s.heap h'->Q x { s with heap:=h' }) : Aq (Ax prog w) A (Ec (.ref it)) Q E s:=by
 cases tp with
 |false=>exact wpAny_nextOf_list_item Y J U G
 |true=>exact JY Y J U G
theorem jL {it l:Af}{k:Ag}{Q:ab}(G:A.handled=none)(Y:zH tp s.heap it l k)(J:xM tp s.heap l xs)(O:xs[k]? = none)
  (U:∀ h' e,Heap.ExtBut it s.heap h'->(∃ o,h'.get? e=Ab o/\o.cls=.type "StopIteration")->E (.ref e) { s with heap:=h' }) : Aq (Ax prog w) A (Ec (.ref it)) Q E s:=by
 cases tp with
 |false=>exact wpAny_nextOf_list_end G Y J O U
 |true=>exact cF G Y J O U
structure ZA (z I O i j:Af):Prop where
 Iz:I≠z
 Oz:O≠z
 iz:i≠z
 jz:j≠z
 IO:I≠O
 Ii:I≠i
 Ij:I≠j
 Oi:O≠i
 Oj:O≠j
 ij:i≠j
structure Off (z O i j a:Af):Prop where
 z:a≠z
 O:a≠O
 i:a≠i
 j:a≠j
abbrev VR (z O i j:Af)(h h':Bv):Prop:=∀ c o,c≠z->c≠O->c≠i->c≠j->h.get? c=Ab o->h'.get? c=Ab o
theorem GW {u:Ar}{z I O i j a b:Af}{k:Ag}{x y p q:Ac}(D:ZA z I O i j)(Da:Off z O i j a)(d:Off z O i j b)
  (hz:Sn s.heap z I O .none) (hI:Jt s.heap I (.ref i) (.ref j)) (hO:Jt s.heap O p q) (h1:zH tp s.heap i a k) (h2:zH u s.heap j b k) (ha:xM tp s.heap a xs) (hb:xM u s.heap b ys) (hx:xs[k]? = Ab x) (hy:ys[k]? = Ab y)
  (hQ:∀ h',Sn h' z I O (Gq s.heap.objs.size)->Jt h' O x y->zH tp h' i a (k+1)->zH u h' j b (k+1)->Jt h' s.heap.objs.size x y->h'.objs.size=s.heap.objs.size+1->VR z O i j s.heap h'->Q (.ref s.heap.objs.size) { s with heap:=h' }) :
  Aq (Ax prog w) A (Kv.«zip.__next__» ⟨[.ref z],[]⟩) (λfin s'=>∃ v,fin=.done (.ret v)/\Q v s') E s:=by
 show Aq _ _ (field (.ref z) 2 >>= _) _ _ _;refine Ad (Eo hz rfl (x:=.bool false) rfl ?_);show Aq _ _ (field (.ref z) 3 >>= _) _ _ _;refine Ad (Eo hz rfl (x:=.ref I) rfl (Ad (Hb hI rfl ?_)));show Aq _ _ (Ev (.ref z) >>= _) _ _ _;refine Ad ?_;unfold Ev;refine Ad (Eo hz rfl (x:=.none) rfl (Am ?_));simp only[Dq];refine Ad (Gu (Ad (Eo hz rfl (x:=.ref O) rfl (Ad (Fe hz cy λg1 n U=>?_)))))
 replace n:Sn g1 z I O .ellipsis:=n
 refine Ad ?_;simp only[Vh,Ab0,Od,Po];refine Ad (Ad (Ua ?_));show Aq _ _ (Ec (.ref i) >>= _) _ _ _;refine Ad (pN (h1.keep λo e=>U.extBut _ _ D.iz e) (ha.keep λo e=>U.extBut _ _ Da.z e) hx λg2 i2 G=>Am ?_);have O2:Jt g2 O p q:=G.extBut _ _ D.Oi (U.extBut _ _ D.Oz hO);refine Ad (Hb O2 rfl (Ad (Ri O2 λg3 O3 C=>Ad (Xi (Am ?_)))))
 replace O3:Jt g3 O x q:=O3
 refine Ad (Ad (Ua ?_));show Aq _ _ (Ec (.ref j) >>= _) _ _ _;refine Ad (pN (h2.keep λo e=>C.extBut _ _ D.Oj.symm (G.extBut _ _ D.ij.symm (U.extBut _ _ D.jz e))) (hb.keep λo e=>C.extBut _ _ d.O (G.extBut _ _ d.i (U.extBut _ _ d.z e))) hy λg4 j4 T=>Am ?_);have O4:Jt g4 O x q:=T.extBut _ _ D.Oj O3;refine Ad (Hb O4 rfl (Ad (Ri O4 λY l H=>Ad (Xi (Am (Am ?_))))))
 replace l:Jt Y O x y:=l
 refine Ad (Hb l rfl (Ad (Xz ?_)));have sz:Y.objs.size=s.heap.objs.size:=by rw[H.1,T.1,C.1,G.1,U.1]
 have z5:Sn Y z I O .ellipsis:=H.extBut _ _ D.Oz.symm (T.extBut _ _ D.jz.symm (C.extBut _ _ D.Oz.symm (G.extBut _ _ D.iz.symm n)));have k5:VR z O i j s.heap Y:=λc o J g t r e=>H.extBut _ _ g (T.extBut _ _ r (C.extBut _ _ g (G.extBut _ _ t (U.extBut _ _ J e))));have i5:zH tp Y i a (k+1):=i2.keep λo e=>H.extBut _ _ D.Oi.symm (T.extBut _ _ D.ij (C.extBut _ _ D.Oi.symm e));have j5:zH u Y j b (k+1):=j4.keep λo e=>H.extBut _ _ D.Oj.symm e;have zl:z<Y.objs.size:=Ba z5;show Aq _ _ (He (.ref z) (.ref Y.objs.size) >>= _) _ _ _;refine Ad ?_;unfold He;have z6:Sn (Y.push { cls:=.type "tuple",data:=.seq #[x,y] }) z I O .ellipsis:=Aj _ z5;refine Ad (Fe z6 cy λg7 z7 h=>?_)
 replace z7:Sn g7 z I O (Gq Y.objs.size):=z7
 refine Fe z7 cy λB M f=>?_
 replace M:Sn B z I O (Gq Y.objs.size):=M
 have up:∀ c o,c≠z->Y.get? c=Ab o->B.get? c=Ab o:=λc o J e=>f.extBut _ _ J (h.extBut _ _ J (Aj _ e));have T8:Jt B Y.objs.size x y:=f.extBut _ _ (Gy zl) (h.extBut _ _ (Gy zl) (Bb _ rfl));have L:B.objs.size=Y.objs.size+1:=by rw[f.1,h.1,Ee]
 rw[sz] at M T8 L;refine Am ⟨_,rfl,?_⟩;show Q (.ref Y.objs.size) _;rw[sz];exact hQ B M (up _ _ D.Oz l) (i5.keep λo e=>up _ o D.iz e) (j5.keep λo e=>up _ o D.jz e) T8 L λc o J g t r e=>up c o J (k5 c o J g t r e)
end
section
variable {prog:Bj}{w:Bz}{A:Bw}{E:ab}{s:Ai}
theorem GX {tq:Ar}{z I O i j a b:Af}{k:Ag}{p q:Ac}{Q:Fin->Ai->Prop}(hh:A.handled=none)(D:ZA z I O i j)(Da:Off z O i j a)(u:Off z O i j b)
  (hz:Sn s.heap z I O .none) (hI:Jt s.heap I (.ref i) (.ref j)) (hO:Jt s.heap O p q) (h1:zH tp s.heap i a k) (h2:zH tq s.heap j b k) (ha:xM tp s.heap a xs) (hb:xM tq s.heap b ys) (H:xs[k]? = none\/ys[k]? = none)
  (hE:∀ h' e,VR z O i j s.heap h'->(∃ o,h'.get? e=Ab o/\o.cls=.type "StopIteration")->E (.ref e) { s with heap:=h' }) : Aq (Ax prog w) A (Kv.«zip.__next__» ⟨[.ref z],[]⟩) Q E s:=by
 show Aq _ _ (field (.ref z) 2 >>= _) _ _ _;refine Ad (Eo hz rfl (x:=.bool false) rfl ?_);show Aq _ _ (field (.ref z) 3 >>= _) _ _ _;refine Ad (Eo hz rfl (x:=.ref I) rfl (Ad (Hb hI rfl ?_)));show Aq _ _ (Ev (.ref z) >>= _) _ _ _;refine Ad ?_;unfold Ev;refine Ad (Eo hz rfl (x:=.none) rfl (Am ?_));simp only[Dq];refine Ad (Gu (Ad (Eo hz rfl (x:=.ref O) rfl (Ad (Fe hz cy λg M U=>?_)))))
 replace M:Sn g z I O .ellipsis:=M
 refine Ad ?_;simp only[Vh,Ab0,Od,Po];refine Ad (Ad (Ua ?_));show Aq _ _ (Ec (.ref i) >>= _) _ _ _;have T:zH tp g i a k:=h1.keep λo e=>U.extBut _ _ D.iz e;have C:xM tp g a xs:=ha.keep λo e=>U.extBut _ _ Da.z e;cases l:xs[k]? with
 |none =>
  refine Ad (jL hh T C l λt e x2 f=>?_);obtain⟨d,Y,L⟩:=f;have z2:Sn t z I O .ellipsis:=x2 _ _ D.iz.symm M;have r:e≠z:=λy=>by subst y;rw[z2] at Y;cases Y;simp at L
  exact Fe z2 cy λn _ J=>hE n e (λc o G _ v _ y=>J.extBut _ _ G (x2 _ _ v (U.extBut _ _ G y))) ⟨d,J.extBut _ _ r Y,L⟩
 |some x =>
  have hy:ys[k]? = none:=by
   rcases H with y|y
   .rw[l] at y;cases y
   .exact y
  refine Ad (pN T C l λt i2 B=>Am ?_);have O2:Jt t O p q:=B.extBut _ _ D.Oi (U.extBut _ _ D.Oz hO);refine Ad (Hb O2 rfl (Ad (Ri O2 λn O3 J=>Ad (Xi (Am ?_)))));refine Ad (Ad (Ua ?_));show Aq _ _ (Ec (.ref j) >>= _) _ _ _;refine Ad (jL hh (h2.keep λo e=>J.extBut _ _ D.Oj.symm (B.extBut _ _ D.ij.symm (U.extBut _ _ D.jz e))) (hb.keep λo e=>J.extBut _ _ u.O (B.extBut _ _ u.i (U.extBut _ _ u.z e))) hy λg4 e h f=>?_);obtain⟨d,Y,L⟩:=f;have z4:Sn g4 z I O .ellipsis:=h _ _ D.jz.symm (J.extBut _ _ D.Oz.symm (B.extBut _ _ D.iz.symm M));have r:e≠z:=λy=>by subst y;rw[z4] at Y;cases Y;simp at L
  exact Fe z4 cy λg5 _ s5=>hE g5 e (λc o G c2 v c4 y=>s5.extBut _ _ G (h _ _ c4 (J.extBut _ _ c2 (B.extBut _ _ v (U.extBut _ _ G y))))) ⟨d,s5.extBut _ _ r Y,L⟩
noncomputable abbrev u7 (tp:Ar)(l:Af):Cp:={ cls:=.type (if tp then "tuple_iterator" else "list_iterator"),data:=.fields #[.ref l,.int 0 0] }
abbrev ye (tp:Ar)(h:Bv)(a:Af):Bv:=h.push (u7 tp a)
abbrev yd (tp Y:Ar)(h:Bv)(a b:Af):Bv:=(ye tp h a).push (u7 Y b)
abbrev yc (tp Y:Ar)(h:Bv)(a b:Af):Bv:=(yd tp Y h a b).push { cls:=.type "tuple",data:=.seq #[.ref h.objs.size,.ref (ye tp h a).objs.size] }
abbrev yb (tp Y:Ar)(h:Bv)(a b:Af):Bv:=(yc tp Y h a b).push { cls:=.type "tuple",data:=.seq #[.none,.none] }
abbrev uv (tp Y:Ar)(h:Bv)(a b:Af):Bv:=(yb tp Y h a b).push { cls:=.type "zip",data:=.fields #[.none,.bool false,.bool false,.ref (yd tp Y h a b).objs.size,.ref (yc tp Y h a b).objs.size] }
set_option maxHeartbeats 4000000 in
theorem LI (tp:Ar)(a b:Af)(xs ys:Ay Ac) :
  Meets (Kv.«zip.__new__» ⟨[.type "zip",.ref a,.ref b],[]⟩) (λ_ R s=>xM tp s.heap a xs/\xM tp s.heap b ys/\R (.ok (.ret (.ref (yb tp tp s.heap a b).objs.size))) { s with heap:=uv tp tp s.heap a b }):=
 .of_wp λprog w A R s h=>by
  obtain⟨Y,g,d,J,os⟩:=s;obtain⟨B,T,h⟩:=h;have C:=sub_zip;have O:∀ L:Cp,xM tp (Y.push L) b ys:=λL=>T.keep λo e=>Aj _ e;cases tp
  .have U:AaN (Qq ⟨Y,g,d,J,os⟩) a xs:=B
   have G:AaN (Qq ⟨Y.push { cls:=.type "list_iterator",data:=.fields #[.ref a,.int 0 0] },g,d,J,os⟩) b ys:=O _
   wp_walk using Gj U,Gj G
   exact⟨_,rfl,h⟩
  .have U:wP (Qq ⟨Y,g,d,J,os⟩) a xs:=B
   have G:wP (Qq ⟨Y.push { cls:=.type "tuple_iterator",data:=.fields #[.ref a,.int 0 0] },g,d,J,os⟩) b ys:=O _
   wp_walk using Gp U,Gp G
   exact⟨_,rfl,h⟩
theorem pH {h:Bv}{it l:Af}(e:h.get? it=Ab (u7 tp l)):zH tp h it l 0:=by
 cases tp
 .exact⟨_,e,rfl,rfl⟩
 .exact⟨_,e,rfl,rfl⟩
theorem U0 {a b:Af}(M:xM tp s.heap a xs)(I:xM tp s.heap b ys)
  (h:∀ h',Sn h' (s.heap.objs.size+4) (s.heap.objs.size+2) (s.heap.objs.size+3) .none->Jt h' (s.heap.objs.size+2) (.ref s.heap.objs.size) (.ref (s.heap.objs.size+1)) ->
   Jt h' (s.heap.objs.size+3) .none .none->zH tp h' s.heap.objs.size a 0->zH tp h' (s.heap.objs.size+1) b 0->h'.objs.size=s.heap.objs.size+5->(∀ c o,s.heap.get? c=Ab o->h'.get? c=Ab o)->Q (.ref (s.heap.objs.size+4)) { s with heap:=h' }) :
  Aq (Ax prog w) A (call (.type "zip") [.ref a,.ref b]) Q E s:=by
 refine callType_new F.called_zip cz (F.typeCall_zip_2 _ _) (F.newCall_zip_2 _ _) (λJ=>F.args_object_init_3 J _ _) F.entry_zip_new (LI tp a b xs ys) ⟨M,I,?_⟩
 have U:(ye tp s.heap a).objs.size=s.heap.objs.size+1:=Ee ..;have C:(yd tp tp s.heap a b).objs.size=s.heap.objs.size+2:=by rw[Ee,U]
 have O:(yc tp tp s.heap a b).objs.size=s.heap.objs.size+3:=by rw[Ee,C]
 have G:(yb tp tp s.heap a b).objs.size=s.heap.objs.size+4:=by rw[Ee,O]
 have z:(uv tp tp s.heap a b).objs.size=s.heap.objs.size+5:=by rw[Ee,G]
 have Y:(uv tp tp s.heap a b).get? (yb tp tp s.heap a b).objs.size=Ab _:=Bb _ rfl;have T:(uv tp tp s.heap a b).get? (yc tp tp s.heap a b).objs.size=Ab _:=Aj _ (Bb _ rfl);have B:(uv tp tp s.heap a b).get? (yd tp tp s.heap a b).objs.size=Ab _:=Aj _ (Aj _ (Bb _ rfl));have L:(uv tp tp s.heap a b).get? (ye tp s.heap a).objs.size=Ab (u7 tp b):=Aj _ (Aj _ (Aj _ (Bb _ rfl)));have j:(uv tp tp s.heap a b).get? s.heap.objs.size=Ab (u7 tp a):=Aj _ (Aj _ (Aj _ (Aj _ (Bb _ rfl))));have H:∀ c o,s.heap.get? c=Ab o->(uv tp tp s.heap a b).get? c=Ab o:=λc o e=>Aj _ (Aj _ (Aj _ (Aj _ (Aj _ e))));show _/\_;rw[C,O,G] at Y;rw[U,C] at B;rw[O] at T;rw[U] at L;rw[G];exact⟨⟨_,Y,rfl⟩,h _ Y B T (pH j) (pH L) z H⟩
end
def Sq (tp:Ar)(K:Ak)(H:Hp)(a:Af)(xs:Aa V):Prop:=if tp then jp K H a xs else kj K H a xs
section
variable {X:Cx}{ai:aa}{σ: _L.St}{H:Hp}{s:Ai}
theorem Sq.at {a:Af}{xs:Aa V}(I:Inv X ai σ H s)(q:Sq tp X.K H a xs):∃ am,qI xs am/\xM tp s.heap a am.toArray:=by
 cases tp with
 |true =>
  obtain⟨am,Y,p,_⟩:=I.tuple q;exact⟨am,Y,p⟩
 |false =>
  obtain⟨am,Y,p,_⟩:=I.list q;exact⟨am,Y,p.isList⟩
theorem Sq.inj {a:Af}{xs ys:Aa V}(I:Inv X ai σ H s)(q:Sq tp X.K H a xs)(Y:Sq tp X.K H a ys):xs=ys:=by
 cases tp with
 |true=>exact I.tuple_inj q Y
 |false=>exact I.list_inj q Y
theorem Sq.off {a b:Af}{xs:Aa V}(I:Inv X ai σ H s)(q:Sq tp X.K H a xs)(f:x9 X ai H b):a≠b:=by
 have Y:H a≠none\/∃ o,X.K.lookup a=Ab o:=by
  cases tp with
  |true =>
   rcases q with (q|⟨o,q⟩)|⟨o,_,_,q,_⟩
   .exact .inl (by rw[q];intro z;cases z)
   .exact .inl (by rw[q];intro z;cases z)
   .exact .inr ⟨_,q⟩
  |false =>
   rcases q with (q|⟨o,q⟩)|⟨o,_,_,q,_⟩
   .exact .inl (by rw[q];intro z;cases z)
   .exact .inl (by rw[q];intro z;cases z)
   .exact .inr ⟨_,q⟩
 rintro rfl;rcases Y with k|⟨o,k⟩
 .exact k f.1
 .have e:=I.mod.kin a o k
  rcases f.2.2.2.1 with z|z
  .exact I.ok.noex a o e z
  .exact absurd (Ba (I.ok.bs a o e).1) (Qb.mpr z)
theorem Inv.turnLay {fp:ae}{T:Af}{xs:Aa V}{am:ah}(I:Inv X ai σ H s)(J:∀ b∈fp,x9 X ai H b)(k:∀ b o,b ∉ fp->s.heap.get? b=Ab o->h'.get? b=Ab o)(w:∀ b∈fp,∃ o,h'.get? b=Ab o)
  (hT:s.heap.objs.size<=T) (M:qI xs am) (B:Vs h' T am.toArray) (hz:xs.length<=sizeLine):Inv X ai σ (bv H T (.tup xs)) { s with heap:=h' }:=by
 have G:H T=none:=I.hok.fresh hT;have L:∀ b o,s.heap.get? b=Ab o->b≠T:=λb o e=>Ch (Bh (Ba e) hT);refine I.step (g':=s.gens) (d':=s.drawn) (t':=s.toks) (ch:=fp) (λb Y=>⟨(J b Y).2.2.2.1,(J b Y).2.1,(J b Y).2.2.2.2.1,(J b Y).2.2.2.2.2⟩) (λb o _ _ hc e _=>k b o hc e) (λb o _ _ hc e _=>⟨o.slots,k b o hc e⟩)
  (λb o _ e n=>by rw[qJ (L b o e)];exact n) (λb o hc e=>⟨o,k b o hc e⟩) (λb ys e=>by rw[qJ (qZ e G)];exact e) (λb o u e=>by rw[qJ (qZ e G)];exact e)
  (λb j e=>⟨#[],by rw[qJ (qZ e G),e];simp⟩) (λm E=>?_) (λb u e=>?_) I.bare
 .obtain⟨o,A,O,C,r⟩:=E
  exact⟨o,A,O,k _ o (λz=>(J _ z).2.1 rfl) C,r⟩
 .by_cases Y:b=T
  .subst Y
   rw[qQ] at e;cases e;exact⟨hz,am,M,B⟩
  .rw[qJ Y] at e
   refine(I.hok b u e).stay (λc v hc q=>k c v (λz=>?_) q) (λc q=>by rw[qJ (qZ q G)];exact q) λc ys q=>by rw[qJ (qZ q G)];exact q
   have U:=(J c z).1;rcases hc with rfl|hc
   .rw[U] at e;cases e
   .rw[U] at hc;cases hc
theorem Inv.turnL {fp:ae}(I:Inv X ai σ H s)(Y:∀ b∈fp,x9 X ai H b)(k:∀ b o,b ∉ fp->s.heap.get? b=Ab o->h'.get? b=Ab o):Inv X ai σ H { s with heap:=h' }:=by
 refine I.step (g':=s.gens) (d':=s.drawn) (t':=s.toks) (ch:=fp) (λb U=>⟨(Y b U).2.2.2.1,(Y b U).2.1,(Y b U).2.2.2.2.1,(Y b U).2.2.2.2.2⟩) (λb o _ _ hc e _=>k b o hc e) (λb o _ _ hc e _=>⟨o.slots,k b o hc e⟩)
  (λb o _ e n=>n) (λb o hc e=>⟨o,k b o hc e⟩) (λb ys e=>e) (λb o u e=>e) (λb L e=>⟨#[],by rw[e];simp⟩) (λm C=>?_) (λb u e=>?_) I.bare
 .obtain⟨o,B,G,O,r⟩:=C
  exact⟨o,B,G,k _ o (λz=>(Y _ z).2.1 rfl) O,r⟩
 .refine(I.hok b u e).stay (λc v hc q=>k c v (λz=>?_) q) (λc q=>q) λc ys q=>q
  have J:=(Y c z).1;rcases hc with rfl|hc
  .rw[J] at e;cases e
  .rw[J] at hc;cases hc
end
def _g (tp:Ar)(K:Ak)(a b:Af):It:=
  ⟨λi H=>∃ xs ys x y,Sq tp K H a xs/\Sq tp K H b ys/\xs[i]? = Ab x/\ys[i]? = Ab y,
   λi H v Y=>∃ T x y,v=.ref T/\H T=none/\Y=bv H T (.tup [x,y])/\(∀ xs,Sq tp K H a xs->xs[i]? = Ab x)/\∀ ys,Sq tp K H b ys->ys[i]? = Ab y,
   λi H=>∃ xs ys,Sq tp K H a xs/\Sq tp K H b ys/\(xs.length<=i\/ys.length<=i)⟩
def QY (tp:Ar)(z I O i j a b:Af)(k:Ag)(h:Bv):Prop:=∃ p q,Sn h z I O .none/\Jt h I (.ref i) (.ref j)/\Jt h O p q/\zH tp h i a k/\zH tp h j b k
theorem fD {z I O i j a b:Af}{k:Ag}(st:QY tp z I O i j a b k h):∀ c∈[z,I,O,i,j],∃ o,h.get? c=Ab o/\∀ v,o.data≠.cell v:=λc Y=>by
 obtain⟨p,q,U,C,J,G,B⟩:=st;simp only[Av,Ds,Ik] at Y;rcases Y with rfl|rfl|rfl|rfl|rfl
 .exact⟨_,U,λv y=>by cases y⟩
 .exact⟨_,C,λv y=>by cases y⟩
 .exact⟨_,J,λv y=>by cases y⟩
 .exact G.there
 .exact B.there
theorem B9 {c z I O i j:Af}(h:c ∉ [z,I,O,i,j]):c≠z/\c≠O/\c≠i/\c≠j:=by
 simp only[Av,Ds,Ik,Xj] at h;exact⟨h.1,h.2.2.1,h.2.2.2.1,h.2.2.2.2⟩
theorem GO {P:Bj}{K:Ak}{z I O i j a b:Af}(D:ZA z I O i j):kr P w K (.Tuple ii x1 h_) (_g tp K a b) [z,I,O,i,j] z (QY tp z I O i j a b) where
 mem:=.head _
 obj:=λk h st=>fD st
 keep:=λk h h' st M=>by
  obtain⟨p,q,G,A,d,v,f⟩:=st;exact⟨p,q,M z (.head _) _ G,M I (.tail _ (.head _)) _ A,M O (.tail _ (.tail _ (.head _))) _ d,v.keep λo e=>M i (.tail _ (.tail _ (.tail _ (.head _)))) o e,f.keep λo e=>M j (.tail _ (.tail _ (.tail _ (.tail _ (.head _))))) o e⟩
 item:=by
  intro X hP hw hK Y k ai s σ H E J U st hg;subst hP hw hK;obtain⟨p,q,G,A,d,v,f⟩:=st;obtain⟨xs,ys,x,y,l,g,hx,hy⟩:=hg;obtain⟨ia,ra,ha⟩:=l.at J;obtain⟨ib,rb,hb⟩:=g.at J;obtain⟨u,hu,ru⟩:=ra.get hx;obtain⟨u',zv,zo⟩:=rb.get hy;have C:∀ {c:Af} {L:Aa V},Sq tp X.K H c L->Off z O i j c:=λ{c L} B=>⟨B.off J (U z (.head _)),B.off J (U O (.tail _ (.tail _ (.head _)))),B.off J (U i (.tail _ (.tail _ (.tail _ (.head _))))),B.off J (U j (.tail _ (.tail _ (.tail _ (.tail _ (.head _))))))⟩;have t:s.TypeIs (.ref z) "zip":=⟨_,G,rfl⟩;unfold Pl;refine Ad (Lu (El (name:=Iu "__next__") t Rr (Eh Rr t AaO
   (GW D (C l) (C g) G A d v f ha hb (by simpa using hu) (by simpa using zv) λh' a1 a2 a3 a4 a5 a6 a7=>Am ?_) (Aa7 _))))
  refine⟨_,rfl,wpAny_letOwnedTupleGo_zip (s:={ s with heap:=h' }) a1 λh2 b1 b2=>?_⟩
  have up:∀ c o,c≠z->h'.get? c=Ab o->h2.get? c=Ab o:=λc o n e=>(b2.2 c n).trans e;have zl:z<s.heap.objs.size:=Ba G;have T2:Jt h2 s.heap.objs.size u u':=up _ _ (Gy zl) a5;have r:QY tp z I O i j a b (k+1) h2:=⟨u,u',b1,up _ _ D.Iz (a7 I _ D.Iz D.IO D.Ii D.Ij A),up _ _ D.Oz a2,a3.keep λo e=>up _ o D.iz e,a4.keep λo e=>up _ o D.jz e⟩;refine⟨.ref s.heap.objs.size,bv H s.heap.objs.size (.tup [x,y]),?_,rfl,⟨_,x,y,rfl,J.hok.fresh (Aw _),rfl,λL qz=>by rw[qz.inj J l];exact hx,λL qz=>by rw[qz.inj J g];exact hy⟩,r,λc Y=>?_⟩
  .show _L.Inv X ai σ (bv H s.heap.objs.size (.tup [x,y])) { s with heap:=h2 }
   refine Inv.turnLay (fp:=[z,I,O,i,j]) (am:=[u,u']) J U (λc o Y e=>?_) (λc Y=>?_) (Aw _) (.cons ru (.cons zo .nil)) ⟨_,T2,rfl,_,rfl⟩ (by show 2<=sizeLine;decide)
   .have Y:=B9 Y
    exact up c o Y.1 (a7 c o Y.1 Y.2.1 Y.2.2.1 Y.2.2.2 e)
   .obtain⟨o,e,_⟩:=fD r c Y
    exact⟨o,e⟩
  .have hn:=(U c Y).1
   rw[qJ ?_]
   .exact hn
   .rintro rfl
    obtain⟨o,e,_⟩:=fD ⟨p,q,G,A,d,v,f⟩ _ Y;exact absurd (Ba e) (Eg _)
 done:=by
  intro X hP hw hK Y k ai s σ H E J U st hg;subst hP hw hK;obtain⟨p,q,G,A,d,v,f⟩:=st;obtain⟨xs,ys,l,g,zb⟩:=hg;obtain⟨ia,ra,ha⟩:=l.at J;obtain⟨ib,rb,hb⟩:=g.at J;have C:∀ {c:Af} {L:Aa V},Sq tp X.K H c L->Off z O i j c:=λ{c L} B=>⟨B.off J (U z (.head _)),B.off J (U O (.tail _ (.tail _ (.head _)))),B.off J (U i (.tail _ (.tail _ (.tail _ (.head _))))),B.off J (U j (.tail _ (.tail _ (.tail _ (.tail _ (.head _))))))⟩;have t:s.TypeIs (.ref z) "zip":=⟨_,G,rfl⟩;have l1:=ra.length;have l2:=rb.length;unfold Pl;refine Ad (Lu (El (name:=Iu "__next__") t Rr (Eh Rr t AaO
   (GX (J.ok.hd Y) D (C l) (C g) G A d v f ha hb ?_ λh' e M he=>?_) (Aa7 _))))
  .rcases zb with y|y
   .exact .inl (by simp;lia)
   .exact .inr (by simp;lia)
  .obtain⟨o,ho,zc⟩:=he
   refine Ad (Qr (T:="StopIteration") (b:=true) ⟨o,ho,zc⟩ XV (Am ⟨rfl,Inv.turnL (fp:=[z,I,O,i,j]) J U λc o Y e=>?_⟩));have Y:=B9 Y;exact M c o Y.1 Y.2.1 Y.2.2.1 Y.2.2.2 e
 self:=λ_ _ _ _ _ st h=>by
  obtain⟨p,q,G,_⟩:=st;exact wpAny_pyIter_zip G h
noncomputable def yM (xs ys:Aa D):Aa D:=List.zipWith (λx y=>D.tup [x,y]) xs ys
def IG (ds:Aa D):Al (Aa D):=match ds with
 |[.tup xs,.tup ys]=>Ab (yM xs ys)
 |[.lst xs,.lst ys]=>Ab (yM xs ys)
 |_=>none
def eR (f:DA):DI:=λaj S=>(f aj S).bind λds Y=>vU (IG ds) Y
theorem GV {xs ys:Aa D}{i:Ag}:(yM xs ys)[i]? = match xs[i]?,ys[i]? with|some x,Ab y=>Ab (D.tup [x,y])|_,_=>none:=by
 unfold yM;rw[List.getElem?_zipWith];cases xs[i]? <;> cases ys[i]? <;> rfl
theorem tM (xs ys:Aa D):(yM xs ys).length=min xs.length ys.length:=by simp[yM]
section
variable {K:Ak}
theorem Sq.mono {P Y:Hp}(e:qE P Y){a:Af}{xs:Aa V}(q:Sq tp K P a xs):Sq tp K Y a xs:=by
 cases tp with
 |true=>exact yB e q
 |false=>exact e.seq q
theorem MB {P:Hp}{α:ae}{a b:Af}{xs ys:Aa D}(L:Sq tp K P a vs)(I:Sq tp K P b Y)(O:qB K P α xs vs)(E:qB K P α ys Y):tx K (_g tp K a b) P α (yM xs ys) where
 go:=λi H A J S U r e _=>by
  rw[tM] at U;have G:i<vs.length:=by rw[<- O.length];lia
  have B:i<Y.length:=by rw[<- E.length];lia
  exact⟨vs,Y,vs[i],Y[i],L.mono (e.trans r.sub),I.mono (e.trans r.sub),by simp,by simp⟩
 yld:=λi H x n A J S U r e M y=>by
  obtain⟨T,u,w,rfl,l,rfl,q,c⟩:=y;rw[tM] at U;have G:i<xs.length:=by lia
  have B:i<ys.length:=by lia
  obtain⟨s,p,k⟩:=O.get (An G);obtain⟨f,d,g⟩:=E.get (An B);have z:=q vs (L.mono (e.trans r.sub));have j:=c Y (I.mono (e.trans r.sub));rw[p] at z;cases z;rw[d] at j;cases j;obtain⟨v,C⟩:=r.pure (o:=.tup [u,w]) l;refine⟨_,.tup [xs[i],ys[i]],?_,v,C,?_⟩
  .rw[GV,An G,An B]
  .exact fV (.of qQ) (.cons (aq.mono (e.trans C) M _ _ k) (.cons (aq.mono (e.trans C) M _ _ g) .nil))
 stop:=λi H A J S U r e _=>by
  rw[tM] at U;have h:=O.length;have t:=E.length;exact⟨vs,Y,L.mono (e.trans r.sub),I.mono (e.trans r.sub),by lia⟩
end
section
variable {X:Cx}{e1 e2:Bx}{ii:Aa Bx}{x1:Ag}{h_:Fb}{f:DA}{p ap:Fb}
theorem VQ {σ:_L.St}{H P:Hp}{α:ae}{S:ao}{a b:Af}{xs ys:Aa D}{R:It->Hp->Prop}(I:Inv X ai σ H s)(r:a_ X.K H P α S)(J:Sq tp X.K P a vs)(U:Sq tp X.K P b G)(M:qB X.K P α xs vs)(k:qB X.K P α ys G)
  (q:wo X P α R (yM xs ys) S):c3 X (call (.type "zip") [.ref a,.ref b]) (λv w=>c3 X (Qi v) (vo X ai σ (.Tuple ii x1 h_) R) X.xe w) X.xe s:=by
 obtain⟨l,u,T⟩:=(J.mono r.sub).at I;obtain⟨d,g,B⟩:=(U.mono r.sub).at I;refine U0 T B λh' O E L A y o j=>?_;refine wpAny_pyIter_zip (s:={ s with heap:=h' }) O ?_
 have D:ZA (s.heap.objs.size+4) (s.heap.objs.size+2) (s.heap.objs.size+3) s.heap.objs.size (s.heap.objs.size+1):=by constructor <;> (intro z;simp at z)
 refine⟨_,[s.heap.objs.size+4,s.heap.objs.size+2,s.heap.objs.size+3,s.heap.objs.size,s.heap.objs.size+1],_,_,H,rfl,I.kept (t':=s.toks) j,GO (a:=a) (b:=b) D,⟨_,_,O,E,L,A,y⟩,λc C=>?_,q _ _ P α r (qE.refl _) (Be _) (MB J U M k)⟩;have Y:s.heap.objs.size<=c:=by
  simp only[Av,Ds,Ik] at C;rcases C with rfl|rfl|rfl|rfl|rfl <;> simp
 exact I.fpOk Y (I.hok.fresh Y)
inductive zu (ds:Aa D)(its:Aa D):Prop
 |tup (xs ys:Aa D) (ed:ds=[.tup xs,.tup ys]) (e:its=yM xs ys)
 |lst (xs ys:Aa D) (ed:ds=[.lst xs,.lst ys]) (e:its=yM xs ys)
theorem LH (h:IG ds=Ab am):zu ds am:=by
 cases ds with
 |nil=>exact nn h
 |cons a ds =>
  cases a with
  |tup xs =>
   cases ds with
   |nil=>exact nn h
   |cons b ds =>
    cases b with
    |tup ys =>
     cases ds with
     |nil=>exact .tup xs ys rfl (Dd h).symm
     |cons _ _=>exact nn h
    |_=>exact nn h
  |lst xs =>
   cases ds with
   |nil=>exact nn h
   |cons b ds =>
    cases b with
    |lst ys =>
     cases ds with
     |nil=>exact .lst xs ys rfl (Dd h).symm
     |cons _ _=>exact nn h
    |_=>exact nn h
  |_=>exact nn h
theorem SI (n:Gl X "zip")(hm:X.mg "zip" = none)(g:PA X [e1,e2] (lc X f))(hs:Bo [e1,e2] X.env=(false,eval e1 X.env)::Bo [e2] X.env:=by rfl)(U:(Gr ap (Bo [e2] X.env)).any (·.1)=false:=by rfl) :
  PI X (.Tuple ii x1 h_) (.Call (.Name "zip" p) [e1,e2] [] ap) (su X (eR f)):=by
 intro ai s σ H R I h;obtain⟨P,α,aj,S,r,c,i⟩:=h;refine Call_ (yN I n hm boot_zip (Fh (bj (wJ g I r c i ap) λus s1 ⟨vs,H1,P1,o,ds,S1,M,y,z,k,j,e1,e2,T⟩=>?_) hs U));obtain⟨am,d,q⟩:=vV T;cases LH d with
 |tup xs ys O e =>
  subst O e;obtain⟨v,w,u,x,rfl,rfl,Y,J,B,G⟩:=kI j y;simp only[aq] at Y J;obtain⟨a,l,rfl,C,E⟩:=Y;obtain⟨b,t,rfl,L,A⟩:=J;cases (show u=Cw a from B)
  cases (show x=Cw b from G)
  exact VQ (tp:=true) M z C L E A (q.base e1 e2)
 |lst xs ys O e =>
  subst O e;obtain⟨v,w,u,x,rfl,rfl,Y,J,B,G⟩:=kI j y;simp only[aq] at Y J;obtain⟨a,l,rfl,C,E⟩:=Y;obtain⟨b,t,rfl,L,A⟩:=J;cases (show u=Cw a from B)
  cases (show x=Cw b from G)
  exact VQ (tp:=false) M z C.l L.l E A (q.base e1 e2)
end
def vm (K:Ak)(mg:ag)(x:As)(st:Ge)(ps:Aa As):Prop:=∃ f Y,mg x=Ab (.ref f)/\tz K x x st f Y/\vZ K Y ps []
def Lk (K:Ak)(f:Af)(fd:Fv):Prop:=∃ J U Y,K.lookup f=Ab ⟨J,U,.func fd,Y⟩
theorem nL {K:Ak}{st:Ge}(F:tz K x q st f fd):Lk K f fd:=by
 obtain⟨G,U,kV,J,C,B,O,L,Y,_,lk,_⟩:=F.ex;exact⟨G,U,Y,lk⟩
theorem Lk.one {K:Ak}(h:Lk K f fd)(h':Lk K f Y):fd=Y:=by
 obtain⟨L,B,G,e⟩:=h;obtain⟨O,C,U,J⟩:=h';rw[e] at J;cases J;rfl
def qm (P:Bj)(w:Bz)(K:Ak)(mg:ag)(base:Bv)(cm:Ar)(k:Ag)(x:As)(n:Ag)(F:DF):Prop:=
 ∃ f Y J,J.length=n/\mg x=Ab (.ref f)/\Ha K (.ref f)=true/\vZ K Y J [] /\ Lk K f Y/\oq P w K mg base cm k f Y J (uz K n F)
def rS (P:Bj)(w:Bz)(K:Ak)(mg:ag)(base:Bv)(cm:Ar)(k:Ag)(x:As)(ps:Aa As)(F:DF):Prop:=
 ∃ f Y,mg x=Ab (.ref f)/\Ha K (.ref f)=true/\vZ K Y ps [] /\ Lk K f Y/\oq P w K mg base cm k f Y ps (uz K ps.length F)
section
variable {P:Bj}{w:Bz}{K:Ak}{mg:ag}{base:Bv}{cm:Ar}
theorem PD {Y:Ac}(hm:mg x=Ab (.ref f))(lk:Lk K f fd)(h:fd.code=Y/\Mod K mg base):gT K x Y:=λc T e=>by
 obtain⟨G,U,J,lk⟩:=lk;rw[<- h.1];exact PySem.W.law_code h.2.kin h.2.glob e hm (h.2.kin _ _ lk) rfl
theorem SD {st:Ge}{k:Ag}{g:DS}(h:vm K mg x st ps)(S:cj N ps (qG st))
  (J:∀ (f:Af) (Y:Ac) (A:Bw) (U:Aa Jf) (s:Ai) (H:Hp) (E:XK),gT K x Y->av cm k (A.deeper (Gs x (qG st) s.heap.objs.size f Y)) ->
   jn (ky cm P w K mg base N x (qG st) f Y A U s H E) (zN st) (i_ (ky cm P w K mg base N x (qG st) f Y A U s H E) g)):qm P w K mg base cm (k+1) x ps.length (qL N.length g):=by
 obtain⟨f,L,G,F,O⟩:=h;exact⟨f,L,ps,rfl,G,F.kp,O,nL F,fnX F S λY A U s H E B C=>J f Y A U s H E (PD G (nL F) B) C⟩
theorem F8 {st:Ge}{k:Ag}{g:DS}(h:vm K mg x st ps)(S:cj N ps (qG st))
  (J:∀ (f:Af) (Y:Ac) (A:Bw) (U:Aa Jf) (s:Ai) (H:Hp) (E:XK),gT K x Y->av cm k (A.deeper (Gs x (qG st) s.heap.objs.size f Y)) ->
   jn (ky cm P w K mg base N x (qG st) f Y A U s H E) (zN st) (i_ (ky cm P w K mg base N x (qG st) f Y A U s H E) g)):rS P w K mg base cm (k+1) x ps (qL N.length g):=by
 obtain⟨f,L,G,F,O⟩:=h;exact⟨f,L,G,F.kp,O,nL F,fnX F S λY A U s H E B C=>J f Y A U s H E (PD G (nL F) B) C⟩
theorem qm.mono {j k n:Ag}{F:DF}(h:qm P w K mg base cm j x n F)(M:j<=k:=by decide):qm P w K mg base cm k x n F:=by
 obtain⟨f,B,G,L,T,O,J,U,X⟩:=h;exact⟨f,B,G,L,T,O,J,U,X.len,λA I s H Y us vs Q E C=>X.run A I s H Y us vs Q E (C.mono M)⟩
theorem qm.any {k n:Ag}{F:DF}(h:qm P w K mg base false k x n F):qm P w K mg base cm k x n F:=by
 obtain⟨f,O,U,C,B,G,Y,J,X⟩:=h;exact⟨f,O,U,C,B,G,Y,J,X.any⟩
end
section
variable {X:Cx}{cm:Ar}{k n:Ag}{F:DF}{x:As}{p ap:Fb}{e:Bx}{es:Aa Bx}{fa:DA}
theorem dcN (G:qm X.prog X.w X.K X.mg X.base cm k x n F)(T:av cm k X.A)(O:ng X)(C:Gl X x)(I:PA X (e::es) (lc X fa))(J:(x == ("__debug__" : As))=false:=by decide)(E:Bo (e::es) X.env=(false,eval e X.env)::Bo es X.env:=by rfl)(Y:(Gr ap (Bo es X.env)).any (·.1)=false:=by rfl) :
  PE X (.Call (.Name x p) (e::es) [] ap) (tD X (qF n F fa)):=by
 obtain⟨f,H,w,A,B,L,U,M,G⟩:=G;exact F5 G T O C B L U I J E Y
end
def xW:DF:=λds S=>match ds with
 |[.dct0]=>.bad
 |_=>eW ds S
theorem BW {X:Cx}:wA X (.builtin "len") xW:=D7 trivial
theorem PB:∃ C:Ah->Ah->Ar,C=mM:=⟨_,rfl⟩
def P9:Ah->Ah->Ar:=Vg PB
theorem gV:P9=mM:=Qp PB
def z9:G2:=i2 P9 λi j=>.int (i*j)
theorem T9 {X:Cx}:gy X (En .Mult) z9:=by
 unfold z9;rw[gV];exact T6
theorem wd {cm:Ar}{k:Ag}(Y:av cm k A):A.units+1<EQ:=by have:=Y.units;lia
section
variable {X:Cx}
theorem M2:xw X .Mult z9:=by
 intro B s σ H x y v u Q I G O h;obtain⟨P,α,S,a,b,r,J,pb,Y⟩:=h;unfold z9 at Y;obtain⟨i,j,rfl,rfl,hc,ok⟩:=nE Y;rw[gV] at hc;unfold mM at hc;rw[Kc] at hc;cases zF J;cases zF pb;obtain⟨t,rfl⟩:=G;obtain⟨C,rfl⟩:=O;have U:QL i j:=by
  rcases hc with hc|hc
  .exact .inl (Bs hc)
  .exact .inr (Bs hc)
 exact imul_int ⟨.int _,H,I.tok _,⟨_,rfl⟩,xr ok r (by simp only[aq])⟩ U.ok
theorem M1:xw X .FloorDiv wO:=by
 intro L s σ H x y v u Q I J U h;obtain⟨P,α,S,a,b,r,Y,pb,O⟩:=h;obtain⟨i,j,rfl,rfl,G,ok⟩:=nE O;have C:0<j/\j<1073741824:=Bs G;cases zF Y;cases zF pb;obtain⟨t,rfl⟩:=J;obtain⟨B,rfl⟩:=U;refine ifloordiv_int om ?_ (.inl (Lm om));rw[Nc i om];exact⟨.int _,H,I.tok _,⟨_,rfl⟩,xr ok r (by simp only[aq])⟩
end
def ou (F:DF):DF:=λds S=>match F ds S with
 |.ok d Y=>.ok d Y
 |_=>.bad
theorem ET {F:DF}{S Y:ao}(h:F ds S=.ok d Y):ou F ds S=.ok d Y:=by unfold ou;rw[h]
section
variable {X:Cx}{cm:Ar}{k n:Ag}{F:DF}{x:As}{p ap:Fb}{e:Bx}{es:Aa Bx}{fa:DA}{f:Af}{fd:Fv}{ps:Aa As}
theorem NG {ai:aa}{σ:_L.St}{H:Hp}{s:Ai}{Q:VK}{P:Hp}{α:ae}{S:ao}(G:oq X.prog X.w X.K X.mg X.base cm k f fd ps (uz X.K n F))(w:av cm k X.A)(T:vZ X.K fd ps [])
  (I:Inv X ai σ H s) (r:a_ X.K H P α S) (B:qI vs us) (L:qB X.K P α ds vs) (A:ds.length=n) (Y:qU X P α (ou F ds S) Q):c3 X (call (.ref f) us) (EP X ai σ Q) X.xe s:=by
 have C:vs.length=n:=by rw[<- L.length];exact A
 have O:uz X.K n F vs H Q λ_ _ _=>Fk:=by
  refine⟨C,P,α,ds,S,r,L,?_⟩;unfold ou at Y;cases q:F ds S with
  |ok d M=>rw[q] at Y;exact Y
  |ex c x M=>rw[q] at Y;exact Au Y
  |bad=>rw[q] at Y;exact Y
 have E:us.length=ps.length:=by rw[<- B.length];exact G.len _ _ _ _ O
 have J:=T s us I.kIn (by rw[Gm];exact E)
 rw[Gm] at J;refine wpAny_call (Pg (G.run X.A X.stack s H ⟨us,[]⟩ us vs Q _ w I.env0 J B O) λr j U=>?_);cases r with
 |error u =>
  obtain⟨_,_,_,_,_,_,_,_,_,_,_,_,z⟩:=U;exact Au z
 |ok fl =>
  cases fl with
  |ret u=>exact I.after U
  |next=>exact Au U
  |brk=>exact Au U
  |cont=>exact Au U
theorem dcO (G:qm X.prog X.w X.K X.mg X.base cm k x n F)(q:av cm k X.A)(l:Gl X x)(o:PA X (e::es) (lc X fa))(U:(x == ("__debug__" : As))=false:=by decide)(T:Bo (e::es) X.env=(false,eval e X.env)::Bo es X.env:=by rfl)(J:(Gr ap (Bo es X.env)).any (·.1)=false:=by rfl) :
  PE X (.Call (.Name x p) (e::es) [] ap) (tD X (qF n (ou F) fa)):=by
 obtain⟨f,fd,ps,u,E,w,B,t,G⟩:=G;intro ai s σ H Q I h;obtain⟨P,α,aj,S,r,M,g⟩:=h;refine Ih (fM I l E ?_ U);refine Tc (h₀:=X.base) I.ok.mod.kin w (bj (wJ o I r M g ap) λus b ⟨vs,i,a,z,ds,S1,C,y,c,L,v,d,j,O⟩=>⟨C.kIn,?_⟩) T J;obtain⟨A,Y⟩:=dX (aj:=aj) (S:=S) O;exact NG G q B C c y v A (qU.base d j Y)
end
structure QE (X:Cx)(e:Bx)(f:DE):Prop where
 get:PE X e (tD X f)
structure QT (X:Cx)(e:Bx)(t:DT):Prop where
 get:PT X e (my X t)
structure QW (X:Cx)(e:Bx)(t:DT):Prop where
 get:tj X e t
structure QA (X:Cx)(es:Aa Bx)(f:DA):Prop where
 get:PA X es (lc X f)
structure QO (X:Cx)(e:Al Bx)(f:DO):Prop where
 get:PO X e (wx X f)
structure QG (X:Cx)(t:Bx)(g:DG):Prop where
 get:PG X t (qd X g)
structure yt (X:Cx)(ts:Aa Bx)(g:rg):Prop where
 get:uq X ts (aJ X g)
structure QI (X:Cx)(tg it:Bx)(f:DI):Prop where
 get:PI X tg it (su X f)
structure QS (X:Cx)(s:Ge)(f:DS):Prop where
 get:PS X s (i_ X f)
structure QB (X:Cx)(ss:Aa Ge)(f:DS):Prop where
 get:jn X ss (i_ X f)
structure ki (X:Cx)(f:Ac->Ac->Kt Ac)(g:G2):Prop where
 get:gy X f g
structure Z_ (X:Cx)(f:Ac->Kt Ac)(g:D->ao->aw D):Prop where
 get:zz X f g
structure _a (X:Cx)(g:G2):Prop where
 get:F_ X g
structure f_ (X:Cx)(f:Ac)(F:DF):Prop where
 get:wA X f F
structure we (X:Cx)(id:Et)(g:D->Aa D->ao->aw D):Prop where
 get:vp X id g
structure xg (X:Cx)(op:Py)(g:G2):Prop where
 get:xw X op g
structure xf (X:Cx)(g:G3):Prop where
 get:rT X (rQ X g)
structure ph (X:Cx):Prop where
 get:Tv (Ax X.prog X.w) X.A X.env X.xe
section
variable {X:Cx}{a b c e e1 e2 o i:Bx}{es qD:Aa Bx}{fa fb fc fe fo fi:DE}{ta tb:DT}{fA:DA}{f g:DS}{st:Ge}{S_:Aa Ge}{x:As}{p ap:Fb}{n k:Ag}{cm:Ar}{F:DF}{nz:G2}
theorem CC:QE X (.Constant .none j ap) (dC .non):=⟨S9⟩
theorem qAX:QE X (.Constant (.bool v) j ap) (dC (.bl v)):=⟨IT⟩
theorem C9:QE X (.Constant (.int v) j ap) (dC (.int v)):=⟨DX⟩
theorem CH (m:Ag)(J:X.N[m]? = Ab x)(hv:qw X.env.scope x)(U:(x == ("__debug__" : As))=false)(Y:(x == ("__classdict__" : As))=false):QE X (.Name x ap) (q9 m):=⟨dv m J hv U Y⟩
theorem N0 (G:Gl X x)(hm:X.mg x=none)(hv:Gb x=Ab (.type Y))(J:x ≠ "__name__")(U:(x == ("__debug__" : As))=false):QE X (.Name x ap) (dC (.ty Y)):=⟨F4 G hm hv J U⟩
theorem N1 (J:Gl X x)(hm:∃ t,X.mg x=Ab (.int v t))(Y:(x == ("__debug__" : As))=false):QE X (.Name x ap) (dC (.int v)):=⟨let ⟨_,h⟩:=hm;F6 (v:=.int v) J h ⟨_,rfl⟩ (λ_ _=>by simp only[aq]) Y⟩
theorem qAb {h:D->ao->aw D}(Y:Z_ X (AaE op) h)(J:QE X a fa):QE X (.UnaryOp op a ap) (d1 h fa):=⟨IY Y.1 J.1⟩
theorem CD (Y:QE X a fa):QE X (.UnaryOp .Not a ap) (UA fa):=⟨SA Y.1⟩
theorem qAa (J:ki X (En op) nz)(U:QE X a fa)(Y:QE X b fb):QE X (.BinOp a op b ap) (d2 nz fa fb):=⟨IX J.1 U.1 Y.1⟩
theorem C7 (J:ki X (Di op) nz)(U:QE X a fa)(Y:QE X b fb)(hm:Nn op b=false:=by first|exact bS _|with_unfolding_all rfl):QE X (.Compare a [op] [b] ap) (d2 nz fa fb):=⟨DV J.1 U.1 Y.1 hm⟩
theorem KG (O:ki X (Di op) nz)(J:ki X (Di Y) g')(C:QE X a fa)(G:QE X b fb)(U:QE X c fc)(hm:Aa6 [op,Y] [b,c]=false:=by with_unfolding_all rfl):QE X (.Compare a [op,Y] [b,c] ap) (wH nz g' fa fb fc):=⟨UD O.1 J.1 C.1 G.1 U.1 hm⟩
theorem CF  (h:QE X a fa):QE X (.BoolOp op [a] ap) fa:=⟨SB h.1⟩
theorem C6 (J:QE X a fa)(Y:QE X (.BoolOp .And (b::qD) ap) fb):QE X (.BoolOp .And (a::b::qD) ap) (mP fa fb):=⟨DQ J.1 Y.1⟩
theorem qAY (Y:QT X c ta)(U:QE X a fa)(J:QE X b fb):QE X (.IfExp c a b ap) (ox ta fa fb):=⟨IV Y.1 U.1 J.1⟩
theorem CG  (h:QA X es fA):QE X (.Tuple es x1 ap) (zV fA):=⟨SC h.1⟩
theorem CB (h:QA X es fA):QE X (.List es ap) (yJ fA):=⟨DZ h.1⟩
theorem N2 (h:QA X es fA):QE X (.List es ap) (k9 fA):=⟨F7 h.1⟩
theorem C8:QE X (.Dict [] [] ap) mR:=⟨DW⟩
theorem qAZ (J:_a X nz)(U:QE X a fa)(Y:QE X b fb)(hs:lC b:=by intro _ _;rfl):QE X (.Subscript a b ap) (d2 nz fa fb):=⟨IW J.1 U.1 Y.1 hs⟩
theorem KI {lo hi:Al Bx}{fl Y:DO}(G:QE X e fe)(U:QO X lo fl)(J:QO X hi Y):QE X (.Subscript e (.Slice lo hi none O) ap) (mw fe fl Y):=⟨UF G.1 U.1 J.1⟩
theorem N7:QO X none v9:=⟨FD⟩
theorem N8 (Y:QE X e fe):QO X (Ab e) (xX fe):=⟨FE Y.1⟩
theorem C4:QA X [] qA:=⟨DP⟩
theorem TZ (J:QE X e fa)(Y:QA X es fA)(hs:Bo (e::es) X.env=(false,eval e X.env)::Bo es X.env:=by rfl):QA X (e::es) (q8 fa fA):=⟨F3 J.1 Y.1 hs⟩
theorem _u (G:qm X.prog X.w X.K X.mg X.base cm k x n F)(C:av cm k X.A)(U:ng X)(O:Gl X x)(L:QA X (e::es) fA)(J:(x == ("__debug__" : As))=false)(B:Bo (e::es) X.env=(false,eval e X.env)::Bo es X.env:=by rfl)(Y:(Gr ap (Bo es X.env)).any (·.1)=false:=by rfl):QE X (.Call (.Name x p) (e::es) [] ap) (qF n F fA):=⟨dcN G C U O L.1 J B Y⟩
theorem KF (U:f_ X (.builtin id) F)(O:Gl X x)(hm:X.mg x=none)(hv:Gb x=Ab (.builtin id))(B:QA X (e::es) fA)(G:x ≠ "__name__")(J:(x == ("__debug__" : As))=false)(C:Bo (e::es) X.env=(false,eval e X.env)::Bo es X.env:=by rfl)(Y:(Gr ap (Bo es X.env)).any (·.1)=false:=by rfl):QE X (.Call (.Name x p) (e::es) [] ap) (qW F fA):=⟨UB U.1 O hm hv B.1 G J C Y⟩
theorem YY (U:f_ X (.type T) F)(O:Gl X x)(hm:X.mg x=none)(hv:Gb x=Ab (.type T))(B:QA X (e::es) fA)(G:x ≠ "__name__")(J:(x == ("__debug__" : As))=false)(C:Bo (e::es) X.env=(false,eval e X.env)::Bo es X.env:=by rfl)(Y:(Gr ap (Bo es X.env)).any (·.1)=false:=by rfl):QE X (.Call (.Name x p) (e::es) [] ap) (qW F fA):=⟨WE U.1 O hm hv B.1 G J C Y⟩
theorem nV {C:Fb}{h:D->Aa D->ao->aw D}(L:Ze T)(slot:Slot T name id)(O:typeOf (.builtin id)=pure (.type "method_descriptor"))(hT:T = "list" \/ T = "dict" \/ T = "int" \/ T = "str")(hm:we X id h)(B:QE X o fo)(E:QA X (e::es) fA)
  (U:Kj o name X.env (eval o X.env)=eval o X.env:=by rfl)
  (G:((Gr ap (Bo (e::es) X.env)).all (λx=>!x.1)&&(backToKw ap (keywordEach [] X.env)).all (λx=>x.1.isSome)&&decide ((e::es).length+([]:Aa Keyword).length+(if ([] : Aa Keyword).isEmpty then 0 else 1)<30))=true:=by rfl)
  (J:(C.endLine == ap.line)=true:=by rfl) (hs:Bo (e::es) X.env=(false,eval e X.env)::Bo es X.env:=by rfl) (Y:(Gr ap (Bo es X.env)).any (·.1)=false:=by rfl):QE X (.Call (.Attribute o name C) (e::es) [] ap) (mh T h fo fA):=⟨IU L slot O hT hm.1 B.1 E.1 U G J hs Y⟩
theorem bX {G:Fb}{h:D->Aa D->ao->aw D}(C:Ze T)(slot:Slot T name id)(U:typeOf (.builtin id)=pure (.type "method_descriptor"))(hT:T = "list" \/ T = "dict" \/ T = "int" \/ T = "str")(hm:we X id h)(O:QE X o fo)
  (Y:Kj o name X.env (eval o X.env)=eval o X.env:=by rfl) (J:(G.endLine == ap.line)=true:=by rfl):QE X (.Call (.Attribute o name G) [] [] ap) (U9 T h fo):=⟨DR C slot U hT hm.1 O.1 Y J⟩
theorem qAd (h:QW X e ta):QT X e ta:=⟨tj.pt h.1⟩
theorem oV (Y:QT X a ta):QW X (.BoolOp .And [a] ap) ta:=⟨FK Y.1⟩
theorem V2 (Y:QT X a ta):QW X (.BoolOp .Or [a] ap) ta:=⟨SY Y.1⟩
theorem V1 (J:QT X a ta)(Y:QW X (.BoolOp .And (b::qD) ap) tb):QW X (.BoolOp .And (a::b::qD) ap) (yF ta tb):=⟨SX J.1 Y.1⟩
theorem BG (J:QT X a ta)(Y:QW X (.BoolOp .Or (b::qD) ap) tb):QW X (.BoolOp .Or (a::b::qD) ap) (gY ta tb):=⟨O7 J.1 Y.1⟩
theorem CY (Y:QT X a ta):QT X (.UnaryOp .Not a ap) (wU ta):=⟨SV Y.1⟩
theorem CW (J:ki X (Di op) nz)(U:QE X a fa)(Y:QE X b fb)(hm:Nn op b=false:=by first|exact bS _|with_unfolding_all rfl):QT X (.Compare a [op] [b] ap) (bx (d2 nz fa fb)):=⟨SU J.1 U.1 Y.1 hm⟩
theorem KQ (O:ki X (Di op) nz)(J:ki X (Di Y) g')(C:QE X a fa)(G:QE X b fb)(U:QE X c fc)(hm:Aa6 [op,Y] [b,c]=false:=by with_unfolding_all rfl):QT X (.Compare a [op,Y] [b,c] ap) (bx (wH nz g' fa fb fc)):=⟨UO O.1 J.1 C.1 G.1 U.1 hm⟩
theorem CZ (U:QE X a fa)(J:∀ Y,isTrue a X.env Y=(do let v <- Y;TD a.pos;holding [v] (truthy v)):=by intro _;rfl):QT X a (bx fa):=⟨SW U.1 J⟩
theorem N3 (Y:X.N.Nodup)(hi:X.N[m]? = Ab x)(J:Loc X.env.scope x)(U:X.fn x=true\/X.env.scope.names.lookup x=Ab .local):QG X (.Name x ap) (bi m):=⟨F9 Y hi J U⟩
theorem N4:yt X [] yH:=⟨FA⟩
theorem KJ (h1:QG X e h)(h2:yt X es Y)(hs:(Hl (e::es) X.env).map (·.2)=assign e X.env::(Hl es X.env).map (·.2):=by rfl):yt X (e::es) (zP h Y):=⟨UG h1.1 h2.1 hs⟩
theorem CJ (U:X.calm=true)(h:yt X es J)(G:(Hl es X.env).length=n:=by rfl)(Y:(Hl es X.env).findIdx? (·.1)=none:=by rfl):QG X (.Tuple es kk ap) (lg n J):=⟨SG U h.1 G Y⟩
theorem CI (Y:QE X o fo)(hi:QE X i fi)(hs:xf X h)
  (J:∀ v,assign (.Subscript o i ap) X.env v=(do
   let ov <- holding [v] (eval o X.env)
   let iv <- holding [v,ov] (eval i X.env)
   TD ap
   holding [v,ov,iv] (setItem ov iv v)
   release [v,ov,iv] []):=by intro _;rfl):QG X (.Subscript o i ap) (kw fo fi h):=⟨SE Y.1 hi.1 hs.1 J⟩
theorem CM (Y:QE X e fa):QI X J e (wI fa):=⟨SH Y.1⟩
theorem KM (U:Gl X "range")(hm:X.mg "range" = none)(G:QA X (e::es) fA)(hs:Bo (e::es) X.env=(false,eval e X.env)::Bo es X.env:=by rfl)(Y:(Gr ap (Bo es X.env)).any (·.1)=false:=by rfl):QI X J (.Call (.Name "range" p) (e::es) [] ap) (vN fA):=⟨UI U hm G.1 hs Y⟩
theorem CN (G:Gl X "zip")(hm:X.mg "zip" = none)(O:QA X [e1,e2] fA)(hs:Bo [e1,e2] X.env=(false,eval e1 X.env)::Bo [e2] X.env:=by rfl)(Y:(Gr ap (Bo [e2] X.env)).any (·.1)=false:=by rfl):QI X (.Tuple C U J) (.Call (.Name "zip" p) [e1,e2] [] ap) (eR fA):=⟨SI G hm O.1 hs Y⟩
theorem C5:QB X [] zL:=⟨SN⟩
theorem YX (h:QS X st f):QB X [st] f:=⟨SO h.1⟩
theorem oU (h1:QS X st f)(h2:QB X S_ g):QB X (st::S_) (qM f g):=⟨FF h1.1 h2.1⟩
theorem KN:QS X (.Break ap) nX:=⟨UL⟩
theorem N9 (Y:QE X e fa)(hs:Pu e none ap.line X.env=pure false:=by rfl):QS X (.Expr e ap) (yI fa):=⟨FG Y.1 hs⟩
theorem CU (Y:QE X e fa):QS X (.Return (Ab e) ap) (qS fa):=⟨SR Y.1⟩
theorem qAc {as bs:Aa Ge}(Y:QT X c ta)(U:QB X as f)(J:QB X bs g):QS X (.If c as bs ap) (e_ ta f g):=⟨O1 Y.1 U.1 J.1⟩
theorem KP (hp:ph X)(Y:QT X c ta)(J:QB X bo f):QS X (.While c bo [] ap) (vG ta f):=⟨UN hp.1 Y.1 J.1⟩
theorem CS (hp:ph X)(G:X.calm=true)(hi:QI X J Y U)(C:QG X J h)(O:QB X bo f)(hs:∀ x,Gg Y X.env x=pure x:=by intro _;rfl):QS X (.For J Y bo [] ap) (wD U h f):=⟨SM hp.1 G hi.1 C.1 O.1 hs⟩
theorem CV (J:X.N.Nodup)(O:QE X e fa)(hi:X.N[m]? = Ab x)(G:Loc X.env.scope x)(hs:Pu e (Ab (.Name x Y)) ap.line X.env=pure false)(U:X.fn x=true\/X.env.scope.names.lookup x=Ab .local):QS X (.Assign [.Name x Y] e ap) (qR fa (bi m)):=⟨SS J O.1 hi G hs U⟩
theorem CO (J:QE X e fa)(U:QG X Y h)(hs:Nm [Y] e ap.line X.env=pure false:=by rfl)(hw:Nl [Y] e X.env=pure none:=by rfl)(h1:(Hl [Y] X.env).map (·.2)=[assign Y X.env]:=by rfl):QS X (.Assign [Y] e ap) (qR fa h):=⟨SJ J.1 U.1 hs hw h1⟩
theorem CP (J:X.N.Nodup)(C:QE X e fe)(U:xg X op nz)(hi:X.N[m]? = Ab x)(O:Loc X.env.scope x)(G:X.fn x=true\/X.env.scope.names.lookup x=Ab .local):QS X (.AugAssign (.Name x Y) op e ap) (vW m nz fe):=⟨SK J C.1 U.1 hi O G⟩
theorem CT {l:Ag}{U Y:Fb}{kt k2 pt2}(G:X.calm=true) (O:X.N.Nodup) (T:QA X [a,b] fA) (hi:X.N[m]? = Ab x) (L:X.N[l]? = Ab y) (J:m≠l) (C:X.env.scope.names.lookup x=Ab .local) (B:X.env.scope.names.lookup y=Ab .local)
  (hw:Nl [.Tuple [.Name x U,.Name y py] kt Y] (.Tuple [a,b] k2 pt2) X.env=pure (Ab [x,y]):=by rfl) (hs:Nm [.Tuple [.Name x U,.Name y py] kt Y] (.Tuple [a,b] k2 pt2) ap.line X.env=pure false:=by rfl) :
  QS X (.Assign [.Tuple [.Name x U,.Name y py] kt Y] (.Tuple [a,b] k2 pt2) ap) (bZ m l fA):=⟨SQ G O T.1 hi L J C B hw hs⟩
theorem qAy:ki X (En .Add) zB:=⟨EI⟩
theorem qBD:ki X (En .Sub) x5:=⟨ER⟩
theorem qA7:ki X (En .Mult) z9:=⟨T9⟩
theorem qA0:ki X (En .FloorDiv) wO:=⟨EJ⟩
theorem qA6:ki X (En .Mod) xV:=⟨EM⟩
theorem qBA:ki X (En .Pow) uN:=⟨EN⟩
theorem qBC:ki X (En .LShift) hW:=⟨EO⟩
theorem _w:ki X (Di .Lt) mz:=⟨BD⟩
theorem _x:ki X (Di .LtE) js:=⟨qAM⟩
theorem _B:ki X (Di .Gt) mf:=⟨qAK⟩
theorem _C:ki X (Di .GtE) oh:=⟨qAJ⟩
theorem _z:ki X (Di .Is) yl:=⟨qAL⟩
theorem _E (Y:av cm k X.A):ki X (Di .Eq) lh:=⟨qAI Y.units⟩
theorem _v (Y:av cm k X.A):ki X (Di .NotEq) sx:=⟨BE Y.units⟩
theorem qA8 (Y:av cm k X.A):ki X (Di .NotEq) (fN sx):=⟨gy.look (BE Y.units)⟩
theorem qA9:Z_ X (AaE .USub) lP:=⟨AV⟩
theorem _y:_a X il:=⟨_Z⟩
theorem qA3:f_ X (.builtin "isinstance") uL:=⟨D6⟩
theorem qA4:f_ X (.builtin "len") xW:=⟨BW⟩
theorem qAz (Y:X.calm=true):f_ X (.builtin "all") (bL false):=⟨D4 false Y⟩
theorem qA2:f_ X (.type "int") ZI:=⟨D5⟩
theorem LF:f_ X (.type "tuple") jD:=⟨U1⟩
theorem aY:we X "list.append" xY:=⟨Y8⟩
theorem VO:we X "int.bit_length" rJ:=⟨MV⟩
theorem BQ (Y:av cm k X.A):we X "dict.get" jG:=⟨RY (wd Y)⟩
theorem IA:xg X .Add fK:=⟨M0⟩
theorem IC:xg X .Mult z9:=⟨M2⟩
theorem IB:xg X .FloorDiv wO:=⟨M1⟩
theorem qBB (Y:av cm k X.A):xf X zZ:=⟨AA (wd Y)⟩
end
section
variable {P:Bj}{w:Bz}{K:Ak}{mg:ag}{base:Bv}{cm:Ar}
theorem LJ:ph (ky cm P w K mg base N J ak f cd A Y s H E):=⟨U7⟩
theorem qBX {st:Ge}{k:Ag}{g:DS}(h:vm K mg x st ps)(S:cj N ps (qG st))(G:zN st=bo)
  (J:∀ (f:Af) (Y:Ac) (A:Bw) (U:Aa Jf) (s:Ai) (H:Hp) (E:XK),gT K x Y->av cm k (A.deeper (Gs x (qG st) s.heap.objs.size f Y)) ->
   QB (ky cm P w K mg base N x (qG st) f Y A U s H E) bo g):qm P w K mg base cm (k+1) x ps.length (qL N.length g):=
 SD h S λf Y A U s H E C O=>G▸(J f Y A U s H E C O).1
theorem IZ {st:Ge}{k:Ag}{g:DS}(h:vm K mg x st ps)(S:cj N ps (qG st))(G:zN st=bo)
  (J:∀ (f:Af) (Y:Ac) (A:Bw) (U:Aa Jf) (s:Ai) (H:Hp) (E:XK),gT K x Y->av cm k (A.deeper (Gs x (qG st) s.heap.objs.size f Y)) ->
   QB (ky cm P w K mg base N x (qG st) f Y A U s H E) bo g):rS P w K mg base cm (k+1) x ps (qL N.length g):=
 F8 h S λf Y A U s H E C O=>G▸(J f Y A U s H E C O).1
end
structure wl (X:Cx)(ifs:Aa Bx)(t:DT):Prop where
 get:tm X ifs t
section
variable {X:Cx}{e:Bx}{es:Aa Bx}{ap p:Fb}{t u:DT}{fa:DA}{x:As}{cm:Ar}{k n:Ag}{F:DF}
theorem NA:wl X [] xU:=⟨FJ⟩
theorem KR (h1:QT X e t)(h2:wl X es u):wl X (e::es) (yF t u):=⟨UP h1.1 h2.1⟩
theorem _t (G:qm X.prog X.w X.K X.mg X.base cm k x n F)(O:av cm k X.A)(U:Gl X x)(B:QA X (e::es) fa)(J:(x == ("__debug__" : As))=false)(C:Bo (e::es) X.env=(false,eval e X.env)::Bo es X.env:=by rfl)(Y:(Gr ap (Bo es X.env)).any (·.1)=false:=by rfl) :
  QE X (.Call (.Name x p) (e::es) [] ap) (qF n (ou F) fa):=⟨dcO G O U B.1 J C Y⟩
end
def oj (o:Al (Ag × MO))(S:ao):Prop:=match o with
 |none=>Sc
 |some p=>S[p.1]? = Ab p.2
open Classical in
def XF (o:Al (Ag × MO))(S:ao):Ar:=decide (oj o S)
theorem jQ {S:ao}:XF o S=true↔oj o S:=by simp[XF]
structure m_ (K:Ak)(J:It)(P:Hp)(α : Aa Af)(o:Al (Ag × MO))(ds:Aa D):Prop where
 go:∀ i H P1 α1 S,i<ds.length->a_ K H P1 α1 S->oj o S->qE P P1->α<+:α1->J.go i H
 yld:∀ i H x H' P1 α1 S,i<ds.length->a_ K H P1 α1 S->oj o S->qE P P1->α<+:α1->J.yld i H x H'->∃ P2 d,ds[i]? = Ab d/\a_ K H' P2 α1 S/\qE P1 P2/\aq K P2 α1 d x
 stop:∀ i H P1 α1 S,ds.length<=i->a_ K H P1 α1 S->oj o S->qE P P1->α<+:α1->J.stop i H
theorem tx.two {K:Ak}{P:Hp}{α:ae}(h:tx K J P α ds):m_ K J P α none ds:=
 ⟨λi H U Y S a b _ c d=>h.go i H U Y S a b c d,λi H x G U Y S a b _ c d e=>h.yld i H x G U Y S a b c d e,λi H U Y S a b _ c d=>h.stop i H U Y S a b c d⟩
abbrev rf:=qC->ao->aw (Al (Ag × MO) × Aa D)
inductive p_ (X:Cx)(f:rf)(σ : _L.St)(H:Hp)(R:It->Hp->Prop):Prop
 |mk (P:Hp) (α : Aa Af) (env:qC) (S:ao) (r:a_ X.K H P α S) (re:zE X.K P α σ env) (af:qK X P α (f env S) (λp S'=>∀ J H' P' α',a_ X.K H' P' α' S'->qE P P'->α<+:α'->m_ X.K J P' α' p.1 p.2->R J H')):p_ X f σ H R
def xO (f:DI):rf:=λaj S=>(f aj S).bind λds Y=>.ok (none,ds) Y
section
variable {X:Cx}{K:Ak}{tg e:Bx}{fa:DE}
theorem FC (h:PI X tg e (su X f)):PI X tg e (p_ X (xO f)):=PI.weak h λσ H R ⟨P,α,aj,S,r,O,Y⟩=>by
 refine⟨P,α,aj,S,r,O,?_⟩;unfold xO at Y;cases q:f aj S with
 |bad=>rw[q] at Y;exact Y
 |ex c x E=>rw[q] at Y;exact Y
 |ok ds I =>
  rw[q] at Y;exact λJ C G U L T B it=>Y J C G U L T B it.two
theorem M9 {P:Hp}{α:ae}{a:Af}{n:Ag}(Y:α[n]? = Ab a):m_ K (G_ K a) P α (Ab (n,.lst ds)) ds where
 go:=λi H O G S J r st e U=>by
  obtain⟨vs,z,t⟩:=r.at' n a _ (fS U Y) st;exact⟨vs,vs[i]'(by rw[<- t.length];exact J),.of z,by simp⟩
 yld:=λi H x T O G S J r st e U y=>by
  obtain⟨rfl,y⟩:=y;obtain⟨vs,z,t⟩:=r.at' n a _ (fS U Y) st;have B:=y vs (.of z);obtain⟨v,C,L⟩:=t.get (An J);rw[B] at C;cases C;exact⟨O,_,An J,r,qE.refl _,L⟩
 stop:=λi H O G S J r st e U=>by
  obtain⟨vs,z,t⟩:=r.at' n a _ (fS U Y) st;exact⟨vs,.of z,by rw[<- t.length];exact J⟩
noncomputable def jr (d:D)(S:ao):aw (Al (Ag × MO) × Aa D):=match d with
 |.tup xs=>.ok (none,xs) S
 |.lst xs=>.ok (none,xs) S
 |.loc n=>match S[n]? with
  |some (.lst xs)=>.ok (Ab (n,.lst xs),xs) S
  |_=>.bad
 |_=>.bad
def nj (f:DE):rf:=λaj S=>(f aj S).bind λd Y=>jr d Y
theorem O0 (T:PE X e (tD X fa)):PI X tg e (p_ X (nj fa)):=by
 intro i s σ H R I h;obtain⟨P,α,aj,S,r,l,af⟩:=h;refine bj (zS T I r l af) λA B ⟨v,k,c,E,d,M,Y,U⟩=>?_;have O:∀ ds,zU d=Ab ds->(∀ J L C G,a_ X.K L C G M->qE P C->α<+:G->m_ X.K J C G none ds->R J L)->c3 X (Qi A) (vo X i σ tg R) X.xe B:=λds e1 q =>
  c6 Y.inv Y.rel Y.val Y.rep e1 λJ L C G x u g it=>q J L C G x (Y.same.trans u) (Y.pre.trans g) it.two
 cases d with
 |tup xs=>exact O xs rfl U
 |lst xs=>exact O xs rfl U
 |loc n =>
  obtain⟨xs,y,U⟩:=jM (X:=X) (f:=λxs=>aw.ok (Ab (n,MO.lst xs),xs) M) U;have w:=Y.rep;simp only[aq] at w;obtain⟨a,rfl,T⟩:=w;cases (show A=Cw a from Y.val)
  obtain⟨vs,z,t⟩:=Y.rel.at' n a _ T y;obtain⟨am,rv,p,hz⟩:=Y.inv.list (kj.of z);refine Gj p.isList ?_;refine⟨B.heap.objs.size,[B.heap.objs.size],_,_,k,rfl,Y.inv.kept (t':=B.toks) λb o e=>Aj _ e,sZ a _,⟨_,Bb _ rfl,rfl,rfl⟩,λb j=>?_,U _ _ c E Y.rel Y.same Y.pre (M9 T)⟩;have e:b=B.heap.objs.size:=by simpa using j
  subst e;exact Y.inv.fpOk (Aw _) (Y.inv.hok.fresh (Aw _))
 |_=>exact Au U
end
noncomputable def zq (m:Ar)(Y:Bx)(ar:Ac)(aj:Jf):Kt Wk:=match m with
 |false=>do let _ <- call (.builtin "list.append") [ar,<- eval Y aj]
 |true=>do let v <- eval Y aj;TD Y.pos;let _ <- call (.builtin "set.add") [ar,v]
def xB (m:Ar)(J:Bx)(U:Aa Eb)(ak:Em)(G:Fb)(k:Ag)(ar:Ac)(aj:Jf):Kt Wk:=
 match U[k+1]? with
 |some Y=>do
  let x <- eval Y.iter aj
  TD Y.iter.pos
  let x <- Gg Y.iter aj x
  let it <- holding [x] (Qi x)
  let _ <- runOwn (.compStart (xT m J U ak G) (k+1) it ar aj) aj
 |none=>zq m J ar aj
theorem GN (m:Ar)(G Y C:Bx)(O:Aa Bx)(J:Aa Eb)(ak:Em)(U:Fb)(it ar:Ac)(aj:Jf)(k:Ag)(T:J[k]? = Ab ⟨Y,C,O,0⟩)(L:∀ g',J[k+1]? = Ab g'->g'.is_async=0) :
  Ab1 (xT m G J ak U) k it ar aj=(do
   TD C.pos
   match <- Pl it with
   |none=>pure (.done .next)
   |some v =>
    Ll Y it v
    assign Y aj v
    let mut ok:=true
    for c in O do
     if ok then ok <- isTrue c aj (eval c aj)
    if ok then xB m G J ak U k ar aj
    again (.compLoop (xT m G J ak U) k it ar aj)):=by
 cases m <;>
 .unfold Ab1 xB xT zq
  simp only[T];cases q:J[k+1]? with
  |none=>rfl
  |some g' =>
   have B:=L g' q;have E:(g'.is_async != 0)=false:=by rw[B];rfl
   simp only[E,Bp,Dv,bind_assoc,pure_bind];rfl
abbrev DK:=qC->ao->Aa D->aw (qC × Aa D)
def ko (o:Al (Ag × MO))(g:DG)(t:DT)(k:DK):Aa D->DK
 |[],aj,S,J=>if XF o S then .ok (aj,J) S else .bad
 |d::ds,aj,S,J=>if XF o S then (g d aj S).bind λY O=>(t Y O).bind λb U =>
   if b then (k Y U J).bind λp G=>ko o g t k ds p.1 G p.2 else ko o g t k ds Y U J
  else .bad
def zT (fe:DE):DK:=λaj S Y=>(fe aj S).bind λx J=>if Y.length<bq then .ok (aj,Y++[x]) J else .bad
def GY (B:Acc)(Y:Cx)(ai:aa)(P1:Hp)(J:ae)(ar:Af)(aj:qC)(S:ao)(ds:Aa D)(s:Ai):Prop:=
 ∃ σ H P α o,fv B Y ai P1 J [] ar aj S ds s σ H P α o
def PK (B:Acc)(Y:Cx)(step:Ac->Kt Wk)(k:DK):Prop:=
 ∀ (C:aa) (T:Hp) (G:ae) (O:Af) (aj J:qC) (S L:ao) (ds U:Aa D) (s:Ai),(∀ H:Hp,H O=none->x9 Y C H O)->GY B Y C T G O aj S ds s->k aj S ds=.ok (J,U) L ->
  Aq (Ax Y.prog Y.w) Y.A (step (.ref O)) (λ_ E=>GY B Y C T G O J L U E) (λ_ _=>Fk) s
section
variable {B:Acc}{Y:Cx}{cg tg bb:Bx}{dh:Aa Bx}{bg:Aa Eb}{ak:Em}{ap:Fb}{k:Ag}{g:DG}{t:DT}{fe:DE}{it ar:Af}{fp:ae}{J:It}{tn:Ag->Bv->Prop}{items:Aa D}{P1:Hp}{α1:ae}{ai:aa}
theorem WS {X:Cx}{b:Af}(f:x9 X ai H b)(L:b ∉ fp):x9 X (ai++vD fp h) H b:=by
 obtain⟨T,C,I,O,G,U⟩:=f;refine⟨T,C,I,O,G,λp E=>?_⟩;rcases Cc.mp E with z|z
 .exact U p (Du _ z)
 .rcases Cc.mp z with z|z
  .exact U p (Ce _ z)
  .rintro rfl
   exact L (sO z).1
theorem aw.bind_inv {β γ:Type}{r:aw β}{f:β->ao->aw γ}{x:γ}{S:ao}(h:r.bind f=.ok x S):∃ b S1,r=.ok b S1/\f b S1=.ok x S:=by
 cases r with
 |ok b S1=>exact⟨b,S1,rfl,h⟩
 |_=>cases h
inductive J_ (o:Al (Ag × MO))(g:DG)(t:DT)(k:DK)(d:D)(ds acc:Aa D)(env:qC)(S SF:ao)(x:qC × Aa D):Prop
 |no (env1:qC) (S1 S2:ao) (z:oj o S) (q1:g d env S=.ok env1 S1) (q2:t env1 S1=.ok false S2) (r:ko o g t k ds env1 S2 acc=.ok x SF):J_ o g t k d ds acc env S SF x
 |yes (env1:qC) (S1 S2:ao) (env5:qC) (ds5:Aa D) (S5:ao) (z:oj o S) (q1:g d env S=.ok env1 S1) (q2:t env1 S1=.ok true S2) (q3:k env1 S2 acc=.ok (env5,ds5) S5) (r:ko o g t k ds env5 S5 ds5=.ok x SF):J_ o g t k d ds acc env S SF x
set_option tactic.hygienic true in
theorem J3 {k:DK}{d:D}{ar:Aa D}{S:ao}(h:ko o g t k (d::ds) aj S ar=.ok x SF):J_ o g t k d ds ar aj S SF x:=by
 simp only[ko] at h
 split at h
 .rename_i z
  obtain⟨U,T,L,h⟩:=aw.bind_inv h;obtain⟨b,E,C,h⟩:=aw.bind_inv h;cases b with
  |false=>exact .no U T E (jQ.mp z) L C h
  |true =>
   obtain⟨⟨G,O⟩,I,H,h⟩:=aw.bind_inv h;exact .yes U T E G O I (jQ.mp z) L C H h
 .cases h
set_option tactic.hygienic true in
theorem FT {k:DK}{ar:Aa D}{S:ao}(h:ko o g t k [] aj S ar=.ok (gk,um) SF):oj o S/\aj=gk/\ar=um/\S=SF:=by
 simp only[ko] at h
 split at h
 .rename_i z
  cases h;exact⟨jQ.mp z,rfl,rfl,rfl⟩
 .cases h
inductive C_ (B:Acc)(Y:Cx)(pins:aa)(P1:Hp)(α1:ae)(fp:ae)(acc:Af)(tn:Ag->Bv->Prop)(G:Aa D->DK)(items:Aa D)(x:qC × Aa D)(SF:ao)(n:Ag)(s:Ai):Prop
 |mk (i:Ag) (σ : _L.St) (H P:Hp) (α : Aa Af) (o:Cp) (env:qC) (S:ao) (ds:Aa D) (hn:n=items.length-i) (hi:i<=items.length) (st:fv B Y pins P1 α1 fp acc env S ds s σ H P α o) (st1:tn i s.heap) (run:G (items.drop i) env S ds=.ok x SF):C_ B Y pins P1 α1 fp acc tn G items x SF n s
theorem L3 {m:Ar}{M:Pq}{A:Bw}{Q:Fin->Ai->Prop}{E:ab}{s:Ai}{it ar:Ac}{U:Jf}(O:bg[k]? = Ab ⟨tg,bb,dh,0⟩)(has:∀ g',bg[k+1]? = Ab g'->g'.is_async=0)
  (I:∀ s,Qa s->Q (.again (.compLoop (xT m cg bg ak ap) k it ar U)) s) (q:∀ s,Qd s->Q (.done .next) s)
  (h:Aq M A (Pl it) (λr G=>(r=none->Qd G)/\∀ v,r=Ab v->Aq M A (Ll tg it v) (λ_ T=>Aq M A (assign tg U v) (λ_ C=>Aq M A (jS dh U) (λb s4=>(b=false->Qa s4)/\(b=true->Aq M A (xB m cg bg ak ap k ar U) (λ_ H=>Qa H) E s4)) E C) E T) E G) E s) :
  Aq M A (Ab1 (xT m cg bg ak ap) k it ar U) Q E s:=by
 rw[GN m cg tg bb dh bg ak ap it ar U k O has];refine Ad (Qh (Ad (bj h λr G ⟨z,w⟩=>?_)));cases r with
 |none=>exact Am (q _ (z rfl))
 |some v =>
  refine Ad (bj (w v rfl) λ_ T y=>Ad (bj y λ_ C u=>Ad (bj u λb s4 L=>?_)));cases b with
  |false=>exact Am (I _ (L.1 rfl))
  |true=>exact Ad (bj (L.2 rfl) λ_ H j=>Am (I _ j))
theorem FP (U:∀ H:Hp,(∀ b∈fp,H b=none)->∀ b∈fp,x9 Y ai H b)(G:ar ∉ fp)(o:Cp)(O:Hp)(M:∀ b∈fp,O b=none):∀ b∈fp,x9 Y (ai++[(ar,o)]) O b:=λb C=>by
 obtain⟨w,A,T,I,E,L⟩:=U O M b C;refine⟨w,A,T,I,E,λp j=>?_⟩;rcases Cc.mp j with z|z
 .exact L p (Du _ z)
 .rcases Cc.mp z with z|z
  .exact L p (Ce _ z)
  .rw[Dn.mp z]
   rintro rfl;exact G C
theorem kL {i:Ag}(T:kr Y.prog Y.w Y.K tg J fp it tn)(G:tn (i+1) h)(pl:∀ b∈fp,∃ o,h.get? b=Ab o/\∀ v,o.data≠.cell v){E:Ai}{O:_L.St}{L:Hp}(C:Inv Y (ai++vD fp h) O L E):tn (i+1) E.heap/\(∀ b∈fp,L b=none):=by
 refine⟨T.keep _ _ _ G λb U o' e=>(C.pin (b,o') (Ce _ (Ce _ (uU U e)))).1,λb U=>?_⟩;obtain⟨o',e,I⟩:=pl b U;exact(C.pin (b,o') (Ce _ (Ce _ (uU U e)))).2.1
theorem ZD {kk:DK}{E:ab}{s:Ai}{σ:_L.St}{H P:Hp}{α:ae}{S:ao}{o:Cp}{i:Ag}(hc:Y.calm=true)(hx:Y.xe=λ_ _=>Fk)
  (T:kr Y.prog Y.w Y.K tg J fp it tn) (zb:m_ Y.K J P1 α1 o' items) (hg:PG Y tg (qd Y g)) (ht:tm Y dh t) (he:PK B Y (λar=>xB B.m cg bg ak ap k ar Y.env) kk) (q:∀ H:Hp,H ar=none->x9 Y ai H ar) (z8:∀ H:Hp,(∀ b∈fp,H b=none)->∀ b∈fp,x9 Y ai H b) (zv:ar ∉ fp)
  (hi:i<=items.length) (st:fv B Y ai P1 α1 fp ar aj S ds s σ H P α o) (zl:tn i s.heap) (run:ko o' g t kk (items.drop i) aj S ds=.ok (gk,um) SF)
  (hA:∀ s' f H' P' n o1 U S' zo,i<items.length->fv B Y ai P1 α1 fp ar U S' zo s' f H' P' n o1->tn (i+1) s'.heap->ko o' g t kk (items.drop (i+1)) U S' zo=.ok (gk,um) SF->Qa s')
  (hD:∀ s' f H' P' n o',fv B Y ai P1 α1 fp ar gk SF um s' f H' P' n o'->Qd s') :
  Aq (Ax Y.prog Y.w) Y.A (Pl (.ref it)) (λr s1=>(r=none->Qd s1)/\∀ v,r=Ab v->Aq (Ax Y.prog Y.w) Y.A (Ll tg (.ref it) v) (λ_ s2=>Aq (Ax Y.prog Y.w) Y.A (assign tg Y.env v) (λ_ s3=>Aq (Ax Y.prog Y.w) Y.A (jS dh Y.env) (λb s4=>(b=false->Qa s4)/\(b=true->Aq (Ax Y.prog Y.w) Y.A (xB B.m cg bg ak ap k (.ref ar) Y.env) (λ_ s5=>Qa s5) E s4)) E s3) E s2) E s1) E s:=by
 have I1:=_D.Inv.pin1 st.inv (q H st.acn) st.at' (B.cell st.acc);have zc:=FP z8 zv o;by_cases L:i<items.length
 .have z7:items.drop i=items[i]::items.drop (i+1):=Fz L
  rw[z7] at run;have run:=J3 run;have z0:oj o' S:=by cases run with|no _ _ _ z=>exact z|yes _ _ _ _ _ _ z=>exact z
  refine tH (T.item Y rfl rfl rfl hc i _ s σ H (λ_ _=>Fk) I1 (zc H st.fpn) zl (zb.go i H P α S L st.rel z0 st.same st.pre)) λr s1 ⟨u,hr,h1⟩=>⟨λz=>(by rw[hr] at z;cases z),λv hv=>?_⟩
  obtain rfl:v=u:=Dd (hv.symm.trans hr);refine tH h1 λ_ s2 ⟨x,H2,I2,rx,y,I,y0⟩=>?_;obtain⟨P2,d,hd,r2,e2,rp⟩:=zb.yld i H x H2 P α S L st.rel z0 st.same st.pre y;cases (An L).symm.trans hd;have pl:=T.obj _ _ I;have z5:=I2.pinned (zc _ y0) pl;have zs:∀ U h b w,g items[i] aj S=.ok U h->t U h=.ok b w->(∀ s4 G j c C (e:Inv Y (ai++vD fp s2.heap) G j s4),fv B Y ai P1 α1 fp ar U w ds s4 G j c C o->tn (i+1) s4.heap->(b=false->Qa s4)/\(b=true->Aq (Ax Y.prog Y.w) Y.A (xB B.m cg bg ak ap k (.ref ar) Y.env) (λ_ s5=>Qa s5) E s4))->Aq (Ax Y.prog Y.w) Y.A (assign tg Y.env v) (λ_ s3=>Aq (Ax Y.prog Y.w) Y.A (jS dh Y.env) (λb s4=>(b=false->Qa s4)/\(b=true->Aq (Ax Y.prog Y.w) Y.A (xB B.m cg bg ak ap k (.ref ar) Y.env) (λ_ s5=>Qa s5) E s4)) E s3) E s2:=by
   intro U h b w q1 q2 next;refine tH (hx▸_O hg z5 r2 (st.env.mono e2 (Be _)) rx rp q1) λ_ s3 ⟨G,H3,P3,y2,I3,r3,z6,e3,z1⟩=>?_;refine tH (hx▸qAW ht I3 r3 z6 q2) λb' s4 ⟨hb,j,c,C,e,r4,z3,e4,zx⟩=>?_;have M:Inv Y (ai++vD fp s2.heap) G j s4:=e.pins_of λp hp=>e.pin p (Ce _ ((Cc.mp hp).elim (λz=>Du _ (Du _ z)) λz=>Ce _ z));have a4:=e.pin (ar,o) (Ce _ (Du _ (Ce _ (Dn.mpr rfl))));rw[hb];exact next s4 G j c C M ⟨M.unpinned,r4,z3,((st.same.trans e2).trans e3).trans e4,(st.pre.trans z1).trans zx,(kL T I pl M).2,a4.2.1,a4.1,B.mono ((e2.trans e3).trans e4) (z1.trans zx) st.acc⟩ (kL T I pl M).1
  cases run with
  |no U h w _ q1 q2 run=>exact zs U h false w q1 q2 λs4 G j c C e O zy=>⟨λ_=>hA s4 G j c C o U w ds L O zy run,λz=>(by cases z)⟩
  |yes U h w l z2 S5 _ q1 q2 q3 run =>
   refine zs U h true w q1 q2 λs4 G j c C e O zy=>⟨λz=>(by cases z),λ_=>?_⟩
   refine tH (he (ai++vD fp s2.heap) P1 α1 ar U l w S5 ds z2 s4 (λH hn=>WS (q H hn) zv) ⟨G,j,c,C,o,e,O.rel,O.env,O.same,O.pre,λb hb=>(by cases hb),O.acn,O.at',O.acc⟩ q3) λ_ s5 ⟨y1,H5,P5,z4,o5,A⟩=>?_
   exact hA s5 y1 H5 P5 z4 o5 l S5 z2 L ⟨A.inv.unpinned,A.rel,A.env,A.same,A.pre,(kL T I pl A.inv).2,A.acn,A.at',A.acc⟩ (kL T I pl A.inv).1 run
 .rw[Lq li] at run
  obtain⟨z,rfl,rfl,rfl⟩:=FT run;refine tH (T.done Y rfl rfl rfl hc i _ s σ H (λ_ _=>Fk) I1 (zc H st.fpn) zl (zb.stop i H P α _ li st.rel z st.same st.pre)) λr s1 ⟨hr,I2⟩=>⟨λ_=>?_,λv hv=>(by rw[hr] at hv;cases hv)⟩
  have a:=_D.Inv.pinned1 I2;exact hD s1 σ H P α o ⟨I2.unpinned,st.rel,st.env,st.same,st.pre,st.fpn,a.2,a.1,st.acc⟩
theorem JP (P:Bj)(w:Bz)(m:Ar)(cg:Bx)(bg:Aa Eb)(ak:Em)(ap:Fb)(k:Ag)(it ar:Ac)(aj:Jf):(Ax P w).den (.compLoop (xT m cg bg ak ap) k it ar aj)=(Ab1 (xT m cg bg ak ap) k it ar aj).onRaise (λx=>do noteFrame x aj;theTreesLotGoes x):=by cases m <;> rfl
theorem JQ (A:Bw)(m:Ar)(cg:Bx)(bg:Aa Eb)(ak:Em)(ap:Fb)(k:Ag)(it ar:Ac)(aj:Jf):A.under (.compLoop (xT m cg bg ak ap) k it ar aj)=A:=by cases m <;> rfl
theorem ZC {kk:DK}{R:Result->Ai->Prop}{s:Ai}{σ:_L.St}{H P:Hp}{α:ae}{S:ao}{O:Aa D}{o:Cp}(hc:Y.calm=true)(d:Y.xe=λ_ _=>Fk)(q:bg[k]? = Ab ⟨tg,bb,dh,0⟩)(has:∀ g',bg[k+1]? = Ab g'->g'.is_async=0)
  (T:kr Y.prog Y.w Y.K tg J fp it tn) (z:m_ Y.K J P1 α1 o' items) (hg:PG Y tg (qd Y g)) (x:tm Y dh t) (r:PK B Y (λar=>xB B.m cg bg ak ap k ar Y.env) kk) (C:∀ H:Hp,H ar=none->x9 Y ai H ar) (c:∀ H:Hp,(∀ b∈fp,H b=none)->∀ b∈fp,x9 Y ai H b) (w:ar ∉ fp)
  (st:fv B Y ai P1 α1 fp ar aj S O s σ H P α o) (y:tn 0 s.heap) (run:ko o' g t kk items aj S O=.ok (gk,um) SF)
  (hR:∀ s' U l j G o',fv B Y ai P1 α1 fp ar gk SF um s' U l j G o'->R (.ok .next) s') :
  Jr (Ax Y.prog Y.w) Y.A (.compLoop (xT B.m cg bg ak ap) k (.ref it) (.ref ar) Y.env) R s:=by
 refine codeAny_loop rfl (C_ B Y ai P1 α1 fp ar tn (ko o' g t kk) items (gk,um) SF) (λn s f=>?_) items.length ⟨0,σ,H,P,α,o,aj,S,O,rfl,Ho _,st,y,run⟩;obtain⟨i,σ,H,P,α,o,aj,S,ds,e,hi,st,A,run⟩:=f;subst e;rw[JP,JQ];refine wpAny_noted (L3 (m:=B.m) q has (Qa:=λs'=>∃ m,m<items.length-i/\C_ B Y ai P1 α1 fp ar tn (ko o' g t kk) items (gk,um) SF m s') (Qd:=R (.ok .next)) (λ_ h=>⟨rfl,h⟩) (λ_ h=>h) ?_);exact ZD hc d T z hg x r C c w hi st A run (λs' U l j G v E a u L M p I=>⟨_,Nat.sub_succ_lt_self _ _ L,i+1,U,l,j,G,v,E,a,u,rfl,L,M,p,I⟩) hR
set_option tactic.hygienic true in
theorem TN (x:Y.xe=λ_ _=>Fk)(C:bg[k+1]? = none)(h:PE Y cg (tD Y fe)):PK kq Y (λar=>xB false cg bg ak ap k ar Y.env) (zT fe):=by
 intro ai P1 α1 ar aj v S S' ds a s O ⟨σ,H,P,α,o,st⟩ run;show Aq _ _ (xB false cg bg ak ap k (.ref ar) Y.env) _ _ s;unfold xB;rw[C];dsimp only[zq];unfold zT at run;cases A:fe aj S with
 |bad=>rw[A] at run;cases run
 |ex c z S'=>rw[A] at run;cases run
 |ok d5 S5 =>
  rw[A,aw.bind_ok] at run
  split at run
  .rename_i l
   cases run;have fA:=O H st.acn;have I1:=_D.Inv.pin1 st.inv fA st.at' (kq.cell st.acc);refine Ad (tH (x▸_P h I1 st.rel st.env A) λI M ⟨r,d,P5,y,U⟩=>?_);have J:=_D.Inv.pinned1 U.inv;have n:=U.inv.unpinned;obtain⟨p,u⟩:=J;obtain⟨am,f,vs,i,T,E,hz⟩:=st.acc;subst i;have j:vs.length=ds.length:=E.length.symm;have zb:=T.length;refine Ad (Vd Zx ⟨_,p,rfl⟩ Yz (Yf _ _) (Aa5 ar am.toArray f I (by rw[Bn];rw[<- x8];lia)) ⟨p,?_⟩)
   have q:=AaJ p (·.push I)
   have G:=O d u;have L:∀ b o,b≠ar->M.heap.get? b=Ab o->(M.heap.update ar (Fd (·.push I))).get? b=Ab o:=λb o w e=>(Dk M.heap _ (Gd w)).trans e
   have I6:=n.turned (t':=M.toks) L u G.2.1 G.2.2.2.1 G.2.2.2.2.1 G.2.2.2.2.2;refine Am ⟨σ,d,P5,y,_,I6,U.rel,U.env,st.same.trans U.same,st.pre.trans U.pre,λb w=>(by simp at w),u,q,?_⟩
   refine⟨am++[I],_,vs++[r],by simp <;> rfl,T.append (.cons U.val .nil),?_,by simp;lia⟩
   exact(qB.mono U.same U.pre _ _ E).append (.cons U.rep .nil)
  .cases run
end
theorem eG {prog:Bj}{w:Bz}{A:Bw}{R:Result->Ai->Prop}{s:Ai}{U:Bx}{Y:Aa Eb}{ak:Em}{J:Fb}{k:Ag}{it ar:Ac}{aj:Jf}{m:Ar}(T:Y[k]? = Ab g)(L:g.is_async=0)
  (h0:Jr (Ax prog w) A (.compLoop (xT m U Y ak J) k it ar aj) R s)
  (h:Aq (Ax prog w) A (Qi it) (λG s'=>Jr (Ax prog w) A (.compLoop (xT m U Y ak J) k G ar aj) R s') (notedBy (Ax prog w) A aj λx s'=>R (.error x) s') s) :
  Jr (Ax prog w) A (.compStart (xT m U Y ak J) k it ar aj) R s:=by
 refine Wt ?_;have I:(Ax prog w).den (.compStart (xT m U Y ak J) k it ar aj)=(compStart (xT m U Y ak J) k it ar aj).onRaise (λx=>do noteFrame x aj;TD theWindowsPlace):=by cases m <;> rfl
 have B:A.under (.compStart (xT m U Y ak J) k it ar aj)=A:=by cases m <;> rfl
 have C:(AbM (xT m U Y ak J) k it ar aj).quiet=true/\∀ G,(AbM (xT m U Y ak J) k G ar aj).quiet=true:=by cases m <;> exact⟨rfl,λ_=>rfl⟩
 rw[I,B];refine wpAny_notedAt ?_;have O:clausesOf (xT m U Y ak J)=Y:=by cases m <;> rfl
 have E:(g.is_async != 0)=false:=by rw[L];rfl
 unfold compStart;simp only[O,T,Option.elim,E,Bp,Dv];refine Ad (La (wpAny_ite ?_))
 split
 .exact Am (And.intro C.1 h0)
 .refine Ad (Gu ?_)
  exact Ad (Qh (Ad (Hk h (λG s' h'=>Am (And.intro (C.2 _) h')) λ_ _ x=>x)))
noncomputable def wc (m:Ar)(r:aw (qC × Aa D)):aw D:=match r with
 |.ok p Y=>if m then .ok (.loc Y.length) (Y++[.lst p.2]) else .ok (.lst p.2) Y
 |_=>.bad
def zK (m:Ar)(bn:Aa (Al Ag))(J:rf)(g:DG)(t:DT)(k:DK):DE:=λaj S=>(J aj S).bind λp Y=>wc m (ko p.1 g t k p.2 (w5 bn aj) Y [])
section
variable {X:Cx}{cg tg bb:Bx}{dh:Aa Bx}{ak:Em}{ap:Fb}{N':Aa As}{bn:Aa (Al Ag)}{fi:rf}{g:DG}{t:DT}{kk:DK}{qD:Aa Eb}{mm:Ar}
theorem YA {P:Hp}{α:ae}{Ok:D->ao->Prop}(h:qK X P α (wc mm r) Ok):∃ gk ds SF,r=.ok (gk,ds) SF/\(if mm then Ok (.loc SF.length) (SF++[.lst ds]) else Ok (.lst ds) SF):=by
 cases r with
 |ok p S =>
  obtain⟨gk,ds⟩:=p;refine⟨gk,ds,S,rfl,?_⟩;cases mm <;> exact h
 |ex c x S=>exact Au h
 |bad=>exact Au h
theorem UR {σ:_L.St}{Q:VK}(c:kT X ai σ P1 Y ds SF ar C s)(ok:if mm then ju X P1 Y Q (.loc SF.length) (SF++[.lst ds]) else ju X P1 Y Q (.lst ds) SF):EP X ai σ Q (.ref ar) s:=by
 cases mm with
 |false=>exact FM c ok
 |true =>
  obtain⟨j,z,M,vs,I,r,G,A,B,w,_⟩:=c;exact⟨.ref ar,_,I,rfl,fP r G w λv H U J T E L O=>ok v H U J T (A.trans E) (B.trans L) O⟩
theorem WM {M:Pq}{A:Bw}{E:ab}{s:Ai}{Y:Af}{J:Aa (As × Af)}{O:As}{aj:Jf}{Q:Jf->Ai->Prop}
  (B:Q (newEnv ak s.heap.objs.size Y (HT (s.heap.objs.size+1) ak.names J) O none .none (Ab aj) Sd) { s with heap:=Aa8 (s.heap.push { cls:=.type "dict",data:=.dict #[] }) ak.names }) :
  Aq M A (Ya ak Y J [] O none .none (Ab aj)) Q E s:=by
 simp only[Ya,Zy,Dq];refine Ad (wpAny_alloc ?_);refine Ad (wpAny_layCells _ (λC U L=>by cases G:U == Qn <;> simp[G]) _ _ _ _ ?_)
 rw[show ({ s with heap:=s.heap.push { cls:=.type "dict",data:=.dict #[] } } : Ai).heap.objs.size=s.heap.objs.size+1 from Ee ..]
 refine Ad ?_;rw[Po];exact Am (Am B)
theorem mB {B:Acc}{o0:Cp}{ai:aa}{σ:_L.St}{l P1:Hp}{α1:ae}{U:Ai}{S1:ao}{items:Aa D}{it:Af}{fp:ae}{tn:Ag->Bv->Prop}{J:It}{E:ab}{RR:Ac->Af->Result->Ai->Prop}
  (hc:X.calm=true) (S:dz X.env.scope X.N ak N' bn) (has:∀ g',(⟨tg,bb,dh,0⟩::qD:Aa Eb)[0+1]? = Ab g'->g'.is_async=0)
  (hg:∀ y C i G O,PG (qY X N' ak y C i G O) tg (qd (qY X N' ak y C i G O) g))
  (ht:∀ y C i G O,tm (qY X N' ak y C i G O) dh t) (he:∀ y C i G O,PK B (qY X N' ak y C i G O) (λar=>xB B.m cg (⟨tg,bb,dh,0⟩::qD) ak ap 0 ar (qY X N' ak y C i G O).env) kk)
  (n:Inv X ai σ l U) (r:a_ X.K l P1 α1 S1) (re:zE X.K P1 α1 σ aj) (T:kr X.prog X.w X.K tg J fp it tn) (a:tn 0 U.heap) (hf:∀ b∈fp,x9 X ai l b) (z1:m_ X.K J P1 α1 o' items) (run:ko o' g t kk items (w5 bn aj) S1 [] = .ok (gk,ds) SF)
  (h0:B.O X.K P1 α1 [] o0) (zy:o0.isFreed=false) (z0:∀ ar C s',U.heap.objs.size<=ar->(∃ m,s'.heap.Ns C m)->U.heap.objs.size<=C->ar≠C->(∃ y zc H' P' zl o',fv B (qY X N' ak y C fp U l) [] P1 α1 fp ar gk SF ds s' zc H' P' zl o')->RR (.ref ar) C (.ok .next) s') :
  c3 X (Ya ak X.env.globals (wR X.env.cells ak.names []) [] X.env.qual none .none (Ab X.env)) (λd zo =>
   Jr (Ax X.prog X.w) X.A (.compStart (xT B.m cg (⟨tg,bb,dh,0⟩::qD) ak ap) 0 (.ref it) (.ref U.heap.objs.size) { d with scope:=relabel ak X.env }) (RR (.ref U.heap.objs.size) d.locals) zo) E { U with heap:=U.heap.push o0 }:=by
 have j:∀ b∈fp,b<U.heap.objs.size:=λb M=>by
  obtain⟨o,e,_⟩:=T.obj 0 _ a b M;exact Ba e
 refine WM ?_;dsimp only;generalize s:U.heap.push o0=L;have zb:L.objs.size=U.heap.objs.size+1:=by rw[<- s,Ee]
 have hC:U.heap.objs.size<=L.objs.size:=by rw[zb];exact Tk _
 have zv:U.heap.objs.size≠L.objs.size:=by rw[zb];exact Ch (Ib _)
 have kp:∀ b o,L.get? b=Ab o->(Aa8 (L.push { cls:=.type "dict",data:=.dict #[] }) ak.names).get? b=Ab o:=λb o e=>pushCells_keeps _ _ b o (Aj _ e);have A:(Aa8 (L.push { cls:=.type "dict",data:=.dict #[] }) ak.names).Ns L.objs.size (λ_=>none):=(Heap.Ns.new L (.type "dict")).keeps (pushCells_keeps _ _);have co:=cellsFrom_ok ak.names (L.push { cls:=.type "dict",data:=.dict #[] }) (L.objs.size+1) [] ⟨λ_ _ u=>(nomatch u),Ps⟩ (by rw[Ee];exact Aw _)
 rw[Ee] at co;generalize z2:Aa8 (L.push { cls:=.type "dict",data:=.dict #[] }) ak.names=I at kp A co ⊢;have w:∀ b o,U.heap.get? b=Ab o->I.get? b=Ab o:=λb o e=>kp b o (s▸Aj _ e);have zs:I.get? U.heap.objs.size=Ab o0:=kp _ _ (s▸Bb _ zy);have I4:∀ f,Inv (qY X N' ak (gW X ak L.objs.size) L.objs.size fp U l) [] (vI bn σ) l { U with heap:=I,toks:=f }:=λf =>
  U5 (s4:={ U with heap:=I,toks:=f }) S n hf j hC A rfl rfl w co
 have q:∀ f,Jr (Ax X.prog X.w) X.A (.compLoop (xT B.m cg (⟨tg,bb,dh,0⟩::qD) ak ap) 0 (.ref it) (.ref U.heap.objs.size) (compEnvC ak (gW X ak L.objs.size) L.objs.size X.env)) (RR (.ref U.heap.objs.size) L.objs.size) { U with heap:=I,toks:=f }:=λf=>by
  refine ZC (B:=B) (kk:=kk) (o':=o') (Y:=qY X N' ak (gW X ak L.objs.size) L.objs.size fp U l) (ai:=[]) (fp:=fp) (ar:=U.heap.objs.size) (P1:=P1) (α1:=α1) (σ:=vI bn σ) (H:=l) (P:=P1) (α:=α1) (o:=o0) hc rfl rfl has T z1
   (hg _ _ _ _ _) (ht _ _ _ _ _) (he _ _ _ _ _) (λH hn=>?_) (λH hn b M=>?_) (λu=>Eg _ (j _ u)) ⟨I4 f,r,V4 re bn,qE.refl _,Be _,λb M=>(hf b M).1,n.hok.fresh (Aw _),zs,h0⟩ (T.keep _ _ _ a λb M o e=>w b o e) run λs' zc H' P' zl o' st=>?_
  .refine⟨hn,zv,λu=>?_,.inr (Aw _),λx c h z=>?_,λp hp=>absurd (show p∈([]:aa) from hp) cy⟩
   .obtain⟨_,o,ho,_⟩:=n.stack.mem u
    exact Eg _ (Ba ho)
   .rcases xA S n.ok h with⟨m,_⟩|⟨m,_⟩
    .exact Eg _ (Ot hC (z▸(co.empty x c m).2))
    .obtain⟨v,ob,zx,_⟩:=n.cell x c m
     rw[z] at zx;exact Eg _ (Ba zx)
  .obtain⟨_,h1,h2,h3,h4,h5⟩:=hf b M
   refine⟨hn b M,Ch (Bh (j b M) hC),λu=>?_,.inl M,λx c h=>(by
    rcases xA S n.ok h with⟨m,_⟩|⟨m,_⟩
    .exact Gd (Ch (Iw (Bh (j b M) hC) (co.empty x c m).2))
    .exact h4 x c m),λp hp=>absurd (show p∈([]:aa) from hp) cy⟩
   rcases Av.mp (n.stkSub b u) with z|z
   .exact h1 z
   .exact h2 z
  .obtain⟨m,u,_⟩:=st.inv.loc
   exact z0 _ _ s' (Aw _) ⟨m,u⟩ hC zv ⟨_,_,_,_,_,_,st⟩
 exact eG (k:=0) rfl rfl (q _) (T.self X.A 0 _ _ _ (T.keep _ _ _ a λb M o e=>w b o e) (q _))
theorem UE (hc:X.calm=true)(S:dz X.env.scope X.N ak N' bn)(hi:PI X tg bb (p_ X fi))
  (hg:∀ L C ex Y U,PG (qY X N' ak L C ex Y U) tg (qd (qY X N' ak L C ex Y U) g))
  (ht:∀ L C ex Y U,tm (qY X N' ak L C ex Y U) dh t) (has:∀ g',(⟨tg,bb,dh,0⟩::qD:Aa Eb)[0+1]? = Ab g'->g'.is_async=0) (he:∀ L C ex Y U,PK kq (qY X N' ak L C ex Y U) (λar=>xB false cg (⟨tg,bb,dh,0⟩::qD) ak ap 0 ar (qY X N' ak L C ex Y U).env) kk)
  (hs:∀ x,Gg bb X.env x=pure x:=by intro _;rfl):PE X (.ListComp cg (⟨tg,bb,dh,0⟩::qD) ak ap) (tD X (zK mm bn fi g t kk)):=by
 intro ai s σ H Q I h;obtain⟨P,α,aj,j,r,re,af⟩:=h;rw[eval_ListComp];have O:qK X P α ((fi aj j).bind λp M=>wc mm (ko p.1 g t kk p.2 (w5 bn aj) M [])) (ju X P α Q):=af;refine Ut (use:=none) rfl hs (iN S I.ok) S.kind S.names ?_;refine bj (hi ai s σ H (λJ H1=>∃ (E:Hp) (G:ae) (p:Al (Ag × MO) × Aa _D.D) (M:ao),a_ X.K H1 E G M/\qE P E/\α<+:G/\m_ X.K J E G p.1 p.2/\qK X P α (wc mm (ko p.1 g t kk p.2 (w5 bn aj) M [])) (ju X P α Q)) I ⟨P,α,aj,j,r,re,?_⟩) λxv s1 h1=>bj h1 λzb s2 h2=>?_
 .cases q:fi aj j with
  |bad=>rw[q] at O;exact O
  |ex c x S'=>rw[q] at O;exact O
  |ok p M=>rw[q] at O;exact λJ H1 E G e z w it=>⟨E,G,p,M,e,z,w,it,O⟩
 obtain⟨it,fp,tn,J,H2,rfl,I2,T,u,hf,E,G,p,M,e,z,w,n,k⟩:=h2;obtain⟨gk,ds,SF,run,ok⟩:=YA k;refine Er (mB (B:=kq) (o0:={ cls:=.type "list",dict:=none,data:=.seq ([] : Aa Ac).toArray }) (RR:=λar C=>compPost (Ax X.prog X.w) X.A X.xe none (EP X ai σ Q) ar C) hc S has hg ht he I2 e (re.mono z w) T u hf n run ⟨[],0,[],rfl,.nil,.nil,Ho _⟩ rfl ?_);intro ar C s' hA ⟨m,hm⟩ hC l ⟨L,zl,Hf,Pf,zc,of,o⟩;have b:∀ h',Ew C s'.heap h'->kT X ai σ E G ds SF ar C { s' with heap:=h' }:=λh' f=>eI I2 hf rfl hC hA l o f
 refine⟨m,hm,λh' f=>UR (mm:=mm) (b h' f) ?_⟩;cases mm with
 |false=>exact λv H3 P3 A d i y a=>ok v H3 P3 A d (z.trans i) (w.trans y) a
 |true=>exact λv H3 P3 A d i y a=>ok v H3 P3 A d (z.trans i) (w.trans y) a
theorem UM {i:Ag}{y:As}{py M:Fb}(hc:X.calm=true)(hN:X.N.Nodup)(S:dz X.env.scope X.N ak N' bn)(hi:PI X tg bb (p_ X fi))
  (hg:∀ j C ex Y U,PG (qY X N' ak j C ex Y U) tg (qd (qY X N' ak j C ex Y U) g))
  (ht:∀ j C ex Y U,tm (qY X N' ak j C ex Y U) dh t) (has:∀ g',(⟨tg,bb,dh,0⟩::qD:Aa Eb)[0+1]? = Ab g'->g'.is_async=0) (he:∀ j C ex Y U,PK kq (qY X N' ak j C ex Y U) (λar=>xB false cg (⟨tg,bb,dh,0⟩::qD) ak ap 0 ar (qY X N' ak j C ex Y U).env) kk)
  (hy:X.N[i]? = Ab y:=by rfl) (z1:Loc X.env.scope y:=by first|exact AaK rfl|exact Zp rfl) (hf:X.fn y=true\/X.env.scope.names.lookup y=Ab .local:=by first|exact .inl rfl|exact .inr rfl|assumption)
  (hsw:Pu (.ListComp cg (⟨tg,bb,dh,0⟩::qD) ak ap) (Ab (.Name y py)) M.line X.env=pure true:=by rfl)
  (hs:∀ x,Gg bb X.env x=pure x:=by intro _;rfl):PS X (.Assign [.Name y py] (.ListComp cg (⟨tg,bb,dh,0⟩::qD) ak ap) M) (i_ X (qR (zK mm bn fi g t kk) (bi i))):=by
 intro ai s σ H D I h;obtain⟨P,α,aj,S0,r,re,af⟩:=h;have zy:=xS af;have O:qK X P α ((fi aj S0).bind λp u=>wc mm (ko p.1 g t kk p.2 (w5 bn aj) u [])) (λd S=>zC X P α (.nx (aj.set i (Ab d)) S) D):=zy;rw[exec_Assign_Name_used _ _ _ _ hsw];refine Ad (Qh (Ad ?_));show Aq _ X.A (do let _ <- comprehension (.ListComp cg (⟨tg,bb,dh,0⟩::qD) ak ap) ak X.env _ (newList []) false (eval bb X.env) (Ab (assign (.Name y py) X.env))) _ _ s
 refine Ad (Hk (Ut (use:=Ab (assign (.Name y py) X.env)) (Q:=λ_ A=>SP X ai D .next A) rfl hs (iN S I.ok) S.kind S.names ?_) (λ_ A hq=>Am (Am hq)) λ_ _ e=>e);refine bj (hi ai s σ H (λJ H1=>∃ (k:Hp) (G:ae) (p:Al (Ag × MO) × Aa _D.D) (u:ao),a_ X.K H1 k G u/\qE P k/\α<+:G/\m_ X.K J k G p.1 p.2/\qK X P α (wc mm (ko p.1 g t kk p.2 (w5 bn aj) u [])) (λd S=>zC X P α (.nx (aj.set i (Ab d)) S) D)) I ⟨P,α,aj,S0,r,re,?_⟩) λxv s1 h1=>bj h1 λz5 s2 h2=>?_
 .cases q:fi aj S0 with
  |bad=>rw[q] at O;exact O
  |ex c x S'=>rw[q] at O;exact O
  |ok p u=>rw[q] at O;exact λJ H1 k G r1 v l it=>⟨k,G,p,u,r1,v,l,it,O⟩
 obtain⟨it,fp,tn,J,H2,rfl,I2,T,zo,zc,k,G,p,u,r1,v,l,z0,zl⟩:=h2;obtain⟨gk,ds,SF,run,ok⟩:=YA zl;refine Er (mB (B:=kq) (o0:={ cls:=.type "list",dict:=none,data:=.seq ([] : Aa Ac).toArray }) (RR:=λar C=>compPost (Ax X.prog X.w) X.A X.xe (Ab (assign (.Name y py) X.env)) (λ_ A=>SP X ai D .next A) ar C) hc S has hg ht he I2 r1 (re.mono v l) T zo zc z0 run ⟨[],0,[],rfl,.nil,.nil,Ho _⟩ rfl ?_);intro ar C A hA ⟨m,hm⟩ hC zb ⟨j,z4,Hf,Pf,z6,of,zv⟩;have z2:∀ h',Ew C A.heap h'->kT X ai σ k G ds SF ar C { A with heap:=h' }:=λh' sb=>eI I2 zc rfl hC hA zb zv sb
 show Aq _ X.A (assign (.Name y py) X.env (.ref ar)) _ _ A;obtain⟨H3,P3,E,vs,I3,r3,n,q1,q2,rp,zs⟩:=z2 A.heap (Ub _ _);obtain⟨r4,e4⟩:=r3.pure (o:=.lst vs) n;have w:(bv H3 ar (.lst vs)) C=none:=by rw[qJ (Gd zb)];exact zs
 have f:=I2.fpOk hC w;refine wpAny_assign_Name (sX I3 hN hy z1 (show qH (V.ref ar) (Cw ar) from rfl) (λs5 I5 ⟨a,sb,ha⟩=>?_) hf)
 have zx:C≠a:=by
  rcases ha with rfl|ha
  .exact f.2.1
  .exact λz=>f.2.2.2.2.1 _ _ ha z.symm
 refine⟨m,hm.sameBut sb zx,λh' z3=>?_⟩;have I6:Inv X ai (σ.set i (Ab (V.ref ar))) (bv H3 ar (.lst vs)) { s5 with heap:=h' }:=I5.turned (t':=s5.toks) (λb o hb e=>(z3.2 b hb).trans e) w f.2.1 f.2.2.2.1 f.2.2.2.2.1 f.2.2.2.2.2
 cases mm with
 |false =>
  refine⟨_,_,I6,ok _ _ (bv P3 ar (.lst vs)) E r4 ?_ ((v.trans q1).trans e4) (l.trans q2)⟩;exact((re.mono v l).mono (q1.trans e4) q2).set i (fU (.inl (.inl qQ)) (qB.mono e4 (Be _) _ _ rp))
 |true =>
  have L:E<+:E++[ar]:=Ek _ _;have r5:=r3.new (o:=.lst vs) (m:=.lst ds) n ⟨vs,qQ,qB.mono (qE.refl _) L _ _ rp⟩;refine⟨_,_,I6,ok _ _ P3 (E++[ar]) r5 ?_ (v.trans q1) ((l.trans q2).trans L)⟩;refine((re.mono v l).mono q1 (q2.trans L)).set i ?_;simp only[aq];exact⟨ar,rfl,by rw[<- r3.len];simp⟩
end
section
variable {prog:Bj}{w:Bz}{A:Bw}{E:ab}{s:Ai}
theorem WL {e it l:Af}{i:Ag}{x Y:Ac}(t:Xk s.heap e it i Y)(h:zH tp s.heap it l i)(hl:xM tp s.heap l xs)(hx:xs[i]? = Ab x)(u:e≠it)
  (hQ:∀ g,IsEnumOut g e it ((i:Ah)+1) x s.heap.objs.size->zH tp g it l (i+1)->Jt g s.heap.objs.size (.int i s.toks) x->g.objs.size=s.heap.objs.size+1->(∀ b o,b≠e->b≠it->s.heap.get? b=Ab o->g.get? b=Ab o)->Q (.ref s.heap.objs.size) { s with heap:=g,toks:=s.toks+1 }) :
  Aq (Ax prog w) A (Kv.«enumerate.__next__» ⟨[.ref e],[]⟩) (λfin s'=>∃ v,fin=.done (.ret v)/\Q v s') E s:=by
 obtain⟨G,O,C,J,os⟩:=s;show Aq _ _ (field (.ref e) 2 >>= _) _ _ _;refine Ad (Eo t rfl (x:=.ref it) rfl (Ad (pN h hl hx λB i1 H=>?_)))
 replace H:Ew it G B:=H
 have e1:Xk B e it i Y:=(H.2 e u).trans t;show Aq _ _ (field (.ref e) 3 >>= _) _ _ ⟨B,O,C,J,os⟩;refine Ad (Eo e1 rfl (x:=Gq i) rfl ?_);show Aq _ _ (field (.ref e) 4 >>= _) _ _ ⟨B,O,C,J,os⟩;refine Ad (Eo e1 rfl (x:=.none) rfl ?_);show Aq _ _ (mkInt i >>= _) _ _ ⟨B,O,C,J,os⟩;refine Ad (wpAny_mkInt ?_);show Aq _ _ (setField (.ref e) 3 (Gq ((i:Ah)+1)) >>= _) _ _ ⟨B,O,C,J+1,os⟩;refine Ad (Fe e1 cy λp a M=>?_)
 replace M:Ew e B p:=M
 replace a:Xk p e it ((i:Ah)+1) Y:=a
 show Aq _ _ (setField (.ref e) 4 .none >>= _) _ _ ⟨p,O,C,J+1,os⟩;refine Ad (Fe a cy λT e3 I=>?_)
 replace I:Ew e p T:=I
 replace e3:Xk T e it ((i:Ah)+1) Y:=e3
 show Aq _ _ (newTuple [.int i J,x] >>= _) _ _ ⟨T,O,C,J+1,os⟩;refine Ad (Xz ?_);have c:Xk (T.push { cls:=.type "tuple",data:=.seq #[.int i J,x] }) e it ((i:Ah)+1) Y:=Aj _ e3;generalize z:T.push { cls:=.type "tuple",data:=.seq #[.int i J,x] } = L at c;have sz:T.objs.size=G.objs.size:=by rw[I.1,M.1,H.1]
 have el:e<G.objs.size:=Ba t;have t4:Jt L G.objs.size (.int i J) x:=by rw[<- z,<- sz];exact Bb _ rfl
 have z4:L.objs.size=G.objs.size+1:=by rw[<- z,Ee,sz]
 have k4:∀ b o,b≠e->b≠it->G.get? b=Ab o->L.get? b=Ab o:=λb o U b2 q=>by
  rw[<- z];exact Aj _ (I.extBut b o U (M.extBut b o U (H.extBut b o b2 q)))
 have i4:zH tp L it l (i+1):=i1.keep λo q=>by rw[<- z];exact Aj _ (I.extBut _ o u.symm (M.extBut _ o u.symm q))
 show Aq _ _ (Ev (.ref e) >>= _) _ _ ⟨L,O,C,J+1,os⟩;rw[sz];refine Ad ?_;unfold Ev;refine Ad (Eo c rfl (x:=.none) rfl (Am ?_));simp only[Dq];refine Ad (Gu (Ad (Eo c rfl (x:=Y) rfl (Ad (Fe c cy λk e5 f=>?_)))))
 replace f:Ew e L k:=f
 replace e5:Xk k e it ((i:Ah)+1) x:=e5
 show Aq _ _ (He (.ref e) (.ref G.objs.size) >>= _) _ _ ⟨k,O,C,J+1,os⟩;refine Ad ?_;unfold He;refine Ad (Fe e5 cy λr n d=>?_)
 replace d:Ew e k r:=d
 replace n:IsEnumOut r e it ((i:Ah)+1) x G.objs.size:=n
 refine Fe n cy λj e7 y=>?_
 replace y:Ew e r j:=y
 replace e7:IsEnumOut j e it ((i:Ah)+1) x G.objs.size:=e7
 have up:∀ b o,b≠e->L.get? b=Ab o->j.get? b=Ab o:=λb o U q=>y.extBut b o U (d.extBut b o U (f.extBut b o U q));exact Ad (Xi (Am ⟨_,rfl,hQ j e7 (i4.keep λo q=>up _ o u.symm q) (up _ _ (Gy el) t4) (by rw[y.1,d.1,f.1,z4]) λb o U b2 q=>up b o U (k4 b o U b2 q)⟩))
set_option maxHeartbeats 4000000 in
set_option tactic.hygienic true in
theorem UU (tp:Ar)(l:Af)(xs:Ay Ac) :
  Meets (Kv.«enumerate.__new__» ⟨[.type "enumerate",.ref l],[]⟩) (λ_ R s=>(∃ n U B,s.heap.get? l=Ab { cls:=.type (if tp then "tuple" else "list"),dict:=U,data:=.seq xs n,slots:=B }) /\ R (.ok (.ret (.ref (s.heap.push (u7 tp l)).objs.size))) { s with heap:=(s.heap.push (u7 tp l)).push { cls:=.type "enumerate",data:=.fields #[.none,.bool false,.ref s.heap.objs.size,Gq 0,.none,.none] } }):=
 .of_wp λprog w A R s h=>by
  obtain⟨C,O,T,G,os⟩:=s;obtain⟨⟨n,U,B,Y⟩,h⟩:=h;have L:=sub_enumerate;cases tp
  .have J:AaN (Qq ⟨C,O,T,G,os⟩) l xs:=⟨_,Y,rfl,n,rfl⟩
   wp_walk using Hg Y
   refine wpAny_stack_any λst=>Am ?_
   split
   .rename_i c _ _ _ _ _
    cases (c == Je "enumerate") <;> (wp_walk using Hg Y,Gj J;exact⟨_,rfl,h⟩)
   .wp_walk using Hg Y,Gj J;exact⟨_,rfl,h⟩
  .have J:wP (Qq ⟨C,O,T,G,os⟩) l xs:=⟨_,Y,rfl,n,rfl⟩
   wp_walk using Hg Y
   refine wpAny_stack_any λst=>Am ?_
   split
   .rename_i c _ _ _ _ _
    cases (c == Je "enumerate") <;> (wp_walk using Hg Y,Gp J;exact⟨_,rfl,h⟩)
   .wp_walk using Hg Y,Gp J;exact⟨_,rfl,h⟩
theorem W0 {tp:Ar}{l:Af}{xs:Ay Ac}{Q:ab}(G:∃ n U O,s.heap.get? l=Ab { cls:=.type (if tp then "tuple" else "list"),dict:=U,data:=.seq xs n,slots:=O })
  (h:∀ g,Xk g (s.heap.objs.size+1) s.heap.objs.size 0 .none->zH tp g s.heap.objs.size l 0->(∀ b o,s.heap.get? b=Ab o->g.get? b=Ab o)->Q (.ref (s.heap.objs.size+1)) { s with heap:=g }) :
  Aq (Ax prog w) A (call (.type "enumerate") [.ref l]) Q E s:=by
 refine callType_new F.called_enumerate cz (F.typeCall_enumerate_1 _) (F.newCall_enumerate_1 _) (λY=>F.args_object_init_2 Y _) F.entry_enumerate_new (UU tp l xs) ⟨G,?_⟩
 have C:(s.heap.push (u7 tp l)).objs.size=s.heap.objs.size+1:=Ee ..;show _/\_;have J:((s.heap.push (u7 tp l)).push { cls:=.type "enumerate",data:=.fields #[.none,.bool false,.ref s.heap.objs.size,Gq 0,.none,.none] }).get? (s.heap.push (u7 tp l)).objs.size=Ab _:=Bb _ rfl;rw[C] at J ⊢;exact⟨⟨_,J,rfl⟩,h _ J (pH (Aj _ (Bb _ rfl))) λb o x=>Aj _ (Aj _ x)⟩
end
def _j (tp:Ar)(K:Ak)(a:Af):It:=
  ⟨λi H=>∃ xs x,Sq tp K H a xs/\xs[i]? = Ab x,
   λi H v Y=>∃ T x,v=.ref T/\H T=none/\Y=bv H T (.tup [.int i,x])/\∀ xs,Sq tp K H a xs->xs[i]? = Ab x,
   λi H=>∃ xs,Sq tp K H a xs/\xs.length<=i⟩
def XR (tp:Ar)(e it l:Af)(k:Ag)(h:Bv):Prop:=∃ Y,Xk h e it k Y/\zH tp h it l k
theorem VE {P:Bj}{K:Ak}{e it a:Af}(ne:e≠it):kr P w K (.Tuple ii x1 h_) (_j tp K a) [e,it] e (XR tp e it a) where
 mem:=by simp
 obj:=λk h st c Y=>by
  obtain⟨U,J,G⟩:=st;simp only[Av,Ds,Ik] at Y;rcases Y with rfl|rfl
  .exact⟨_,J,λv y=>by cases y⟩
  .exact G.there
 keep:=λk h h' st A=>by
  obtain⟨U,J,G⟩:=st;exact⟨U,A e cy _ J,G.keep λo q=>A it cy o q⟩
 item:=by
  intro X j t g Y k ai s σ H E O L st r;subst j t g;obtain⟨U,J,G⟩:=st;obtain⟨xs,x,M,i⟩:=r;obtain⟨ia,l,f⟩:=M.at O;obtain⟨u,hu,ru⟩:=l.get i;have C:s.TypeIs (.ref e) "enumerate":=⟨_,J,rfl⟩;unfold Pl;refine Ad (Lu (El (name:=Iu "__next__") C Mf (Eh Mf C Wu
   (WL J G f (by simpa using hu) ne λh' a1 a2 a3 a4 a5=>Am ?_) (Vv _))))
  refine⟨_,rfl,wpAny_letOwnedTupleGo_enum (s:={ s with heap:=h',toks:=s.toks+1 }) a1 λI b1 b2=>?_⟩
  have up:∀ c o,c≠e->h'.get? c=Ab o->I.get? c=Ab o:=λc o n q=>(b2.2 c n).trans q;have el:e<s.heap.objs.size:=Ba J;have T2:Jt I s.heap.objs.size (.int k s.toks) u:=up _ _ (Gy el) a3;have B:XR tp e it a (k+1) I:=⟨u,b1,a2.keep λo q=>up _ o ne.symm q⟩;refine⟨.ref s.heap.objs.size,bv H s.heap.objs.size (.tup [.int k,x]),?_,rfl,⟨_,x,rfl,O.hok.fresh (Aw _),rfl,λzs qz=>by rw[qz.inj O M];exact i⟩,B,λc Y=>?_⟩
  .have:=Inv.turnLay (fp:=[e,it]) (am:=[.int k s.toks,u]) (h':=I) (xs:=[.int k,x]) O L (λc o Y q=>by
    simp only[Av,Ds,Ik,Xj] at Y;exact up c o Y.1 (a5 c o Y.1 Y.2 q)) (λc Y=>by
    obtain⟨zb,t1,t2⟩:=B;simp only[Av,Ds,Ik] at Y;rcases Y with rfl|rfl
    .exact⟨_,t1⟩
    .obtain⟨o,q,_⟩:=t2.there;exact⟨o,q⟩) (Aw _) (.cons ⟨_,rfl⟩ (.cons ru .nil)) ⟨_,T2,rfl,_,rfl⟩ (by show 2<=sizeLine;decide)
   exact this.tok (s.toks+1)
  .have hn:=(L c Y).1
   rw[qJ ?_]
   .exact hn
   .rintro rfl
    obtain⟨o,q,_⟩:∃ o,s.heap.get? s.heap.objs.size=Ab o/\Sc:=by
     simp only[Av,Ds,Ik] at Y;rcases Y with z|z
     .exact⟨_,z▸J,trivial⟩
     .obtain⟨o,e',_⟩:=G.there;exact⟨o,z▸e',trivial⟩
    exact absurd (Ba q) (Eg _)
 done:=by
  intro X j t g Y k ai s σ H E O L st r;subst j t g;obtain⟨U,J,G⟩:=st;obtain⟨xs,M,zc⟩:=r;obtain⟨ia,l,f⟩:=M.at O;have C:s.TypeIs (.ref e) "enumerate":=⟨_,J,rfl⟩;have l1:=l.length;unfold Pl;refine Ad (Lu (El (name:=Iu "__next__") C Mf (Eh Mf C Wu ?_ (Vv _))));show Aq _ _ (field (.ref e) 2 >>= _) _ _ _;refine Ad (Eo J rfl (x:=.ref it) rfl (Ad (jL (O.ok.hd Y) G f (by simp;fin2) λh' x A d=>?_)))
  obtain⟨o,ho,p⟩:=d;refine Ad (Qr (T:="StopIteration") (b:=true) ⟨o,ho,p⟩ XV (Am ⟨rfl,Inv.turnL (fp:=[e,it]) O L λc o Y q=>?_⟩));simp only[Av,Ds,Ik,Xj] at Y;exact A c o Y.2 q
 self:=λ_ _ _ _ _ st h=>by
  obtain⟨U,J,_⟩:=st;exact wpAny_pyIter_enum J h
noncomputable def yP (xs:Aa D):Aa D:=xs.mapIdx λi x=>D.tup [.int i,x]
def PP (ds:Aa D):Al (Aa D):=match ds with
 |[.tup xs]=>Ab (yP xs)
 |[.lst xs]=>Ab (yP xs)
 |_=>none
def rF (f:DA):DI:=λaj S=>(f aj S).bind λds Y=>vU (PP ds) Y
theorem WK (xs:Aa D)(i:Ag):(yP xs)[i]? = (xs[i]?).map λx=>D.tup [.int i,x]:=by
 unfold yP;rw[List.getElem?_mapIdx]
theorem bK (xs:Aa D):(yP xs).length=xs.length:=by simp[yP]
theorem JB {K:Ak}{P:Hp}{α:ae}{a:Af}{xs:Aa D}(U:Sq tp K P a vs)(G:qB K P α xs vs):tx K (_j tp K a) P α (yP xs) where
 go:=λi H B J S Y r e _=>by
  rw[bK] at Y;have j:i<vs.length:=by rw[<- G.length];fin2
  exact⟨vs,vs[i],U.mono (e.trans r.sub),by simp⟩
 yld:=λi H x q B J S Y r e L y=>by
  obtain⟨T,u,rfl,M,rfl,I⟩:=y;rw[bK] at Y;obtain⟨z,A,E⟩:=G.get (An Y);have O:=I vs (U.mono (e.trans r.sub));rw[A] at O;cases O;obtain⟨w,C⟩:=r.pure (o:=.tup [.int i,u]) M;refine⟨_,.tup [.int i,xs[i]],?_,w,C,?_⟩
  .rw[WK,An Y];rfl
  .exact fV (.of qQ) (.cons (by simp only[aq]) (.cons (aq.mono (e.trans C) L _ _ E) .nil))
 stop:=λi H B J S Y r e _=>by
  rw[bK] at Y;have k:=G.length;exact⟨vs,U.mono (e.trans r.sub),by fin2⟩
section
variable {X:Cx}{e1:Bx}{ii:Aa Bx}{x1:Ag}{h_:Fb}{f:DA}{p ap:Fb}
theorem Sq.obj {σ:_L.St}{a:Af}{xs:Aa V}(I:Inv X ai σ H s)(q:Sq tp X.K H a xs):∃ am:Aa Ac,qI xs am/\∃ n O U,s.heap.get? a=Ab { cls:=.type (if tp then "tuple" else "list"),dict:=O,data:=.seq am.toArray n,slots:=U }:=by
 obtain⟨am,B,h⟩:=q.at I;refine⟨am,B,?_⟩;cases tp with
 |true =>
  obtain⟨o,G,J,n,Y⟩:=h;obtain⟨c,d,C,U⟩:=o;dsimp only at J Y;subst J;subst Y;exact⟨n,_,_,G⟩
 |false =>
  obtain⟨o,G,J,n,Y⟩:=h;obtain⟨c,d,C,U⟩:=o;dsimp only at J Y;subst J;subst Y;exact⟨n,_,_,G⟩
theorem iQ {σ:_L.St}{H P:Hp}{α:ae}{S:ao}{a:Af}{xs:Aa D}{R:It->Hp->Prop}(I:Inv X ai σ H s)(r:a_ X.K H P α S)(U:Sq tp X.K P a vs)(O:qB X.K P α xs vs)
  (q:wo X P α R (yP xs) S):c3 X (call (.type "enumerate") [.ref a]) (λv C=>c3 X (Qi v) (vo X ai σ (.Tuple ii x1 h_) R) X.xe C) X.xe s:=by
 obtain⟨A,E,L⟩:=Sq.obj I (U.mono r.sub);refine W0 (tp:=tp) L λh' J T B=>?_;refine wpAny_pyIter_enum (s:={ s with heap:=h' }) J ?_
 refine⟨_,[s.heap.objs.size+1,s.heap.objs.size],_,_,H,rfl,I.kept (t':=s.toks) B,VE (tp:=tp) (a:=a) (by intro z;simp at z),⟨_,J,T⟩,λc G=>?_,q _ _ P α r (qE.refl _) (Be _) (JB U O)⟩
 have Y:s.heap.objs.size<=c:=by
  simp only[Av,Ds,Ik] at G;rcases G with rfl|rfl <;> simp
 exact I.fpOk Y (I.hok.fresh Y)
theorem lE:Gb "enumerate" = Ab (.type "enumerate"):=by decide +kernel
theorem UT (h:PP ds=Ab am):∃ d xs,ds=[d]/\yv d xs/\am=yP xs:=by
 cases ds with
 |nil=>exact nn h
 |cons d ds =>
  cases ds with
  |cons _ _=>cases d <;> exact nn h
  |nil =>
   cases d with
   |tup xs=>exact⟨_,xs,rfl,.tup rfl,(Dd h).symm⟩
   |lst xs=>exact⟨_,xs,rfl,.lst rfl,(Dd h).symm⟩
   |_=>exact nn h
theorem FB (l:Gl X "enumerate")(hm:X.mg "enumerate" = none)(j:PA X [e1] (lc X f))(hs:Bo [e1] X.env=(false,eval e1 X.env)::Bo [] X.env:=by rfl)(J:(Gr ap (Bo [] X.env)).any (·.1)=false:=by rfl) :
  PI X (.Tuple ii x1 h_) (.Call (.Name "enumerate" p) [e1] [] ap) (su X (rF f)):=by
 intro e s σ H R I h;obtain⟨P,α,aj,S,r,k,g⟩:=h;refine Call_ (yN I l hm lE (Fh (bj (wJ j I r k g ap) λus i ⟨vs,t,n,M,ds,b,L,c,E,A,y,e1,B,O⟩=>?_) hs J));obtain⟨am,o,q⟩:=vV O;obtain⟨d,xs,rfl,z,rfl⟩:=UT o;obtain⟨v,u,rfl,rfl,Y,T⟩:=u9 y c;cases z with
 |tup U =>
  subst U;simp only[aq] at Y;obtain⟨a,w,rfl,G,C⟩:=Y;cases (show u=Cw a from T)
  exact iQ (tp:=true) L E G C (q.base e1 B)
 |lst U =>
  subst U;simp only[aq] at Y;obtain⟨a,w,rfl,G,C⟩:=Y;cases (show u=Cw a from T)
  exact iQ (tp:=false) L E G.l C (q.base e1 B)
end
section
variable {X:Cx}
def wM:D->Aa D->ao->aw D:=λa ds S=>match a,ds with
 |.loc n,[i,x]=>match S[n]? with
  |some (.dct Y)=>match xI i with
   |some k=>match zM Y k with
    |some d=>.ok d S
    |none=>if Y.length<bq then .ok x (S.set n (.dct (xD Y k x))) else .bad
   |none=>.bad
  |_=>.bad
 |_,_=>.bad
theorem m8 (a b c:Ac):AaP "dict.setdefault" ⟨[a,b,c],[]⟩:=by unfold AaP;kernel_rfl
inductive SdV (a:D)(ds:Aa D)(S:ao):Prop
 |bad (e:wM a ds S=.bad)
 |of (n:Ag) (i x:D) (kvs:Aa (be × D)) (k:be) (ea:a=.loc n) (ed:ds=[i,x]) (hS:S[n]? = Ab (.dct kvs)) (hk:xI i=Ab k) (e:wM a ds S=(match zM kvs k with|some d=>.ok d S|none=>if kvs.length<bq then .ok x (S.set n (.dct (xD kvs k x))) else .bad))
theorem _r (a:D)(ds:Aa D)(S:ao):SdV a ds S:=by
 cases a with
 |loc n =>
  cases ds with
  |nil=>exact .bad rfl
  |cons i ds =>
   cases ds with
   |nil=>exact .bad rfl
   |cons x ds =>
    cases ds with
    |cons _ _=>exact .bad rfl
    |nil =>
     have z:wM (.loc n) [i,x] S=(match S[n]? with|some (.dct Y)=>(match xI i with|some k=>(match zM Y k with|some d=>.ok d S|none=>if Y.length<bq then .ok x (S.set n (.dct (xD Y k x))) else .bad)|none=>.bad)|_=>.bad):=rfl
     cases J:S[n]? with
     |none=>rw[J] at z;exact .bad z
     |some m =>
      rw[J] at z;cases m with
      |dct Y =>
       cases U:xI i with
       |none=>rw[U] at z;exact .bad z
       |some k=>rw[U] at z;exact .of n i x Y k rfl rfl J U z
      |_=>exact .bad z
 |_=>exact .bad rfl
theorem Y9:vp X "dict.setdefault" wM:=by
 intro ai σ H s P α S v vv vs us a ds Q I r rv p E A Y;cases _r a ds S with
 |bad e=>rw[e] at Y;exact Au Y
 |of n i x J k ea ed y hk e =>
  rw[e] at Y;subst ea ed;clear e;obtain⟨vi,L,ui,ux,rfl,rfl,pi,f,qi,h⟩:=kI A E;simp only[aq] at p;obtain⟨b,rfl,q⟩:=p;obtain⟨u,z,t⟩:=r.at' n b _ q y;cases bP hk pi;cases (show vv=Cw b from rv)
  obtain⟨hz,c,O,U,o⟩:=rG I.hok z;have T:O.length<=sizeLine:=by rw[<- U.length];exact hz
  obtain⟨l,k2⟩:=gG (k:=k) t;have G:=U.val k;refine Rz Mb o.typeIs PySem.F.entry_dict_setdefault (m8 _ _ _) (kt_meets_setdefault (zI X.prog X.w) b (kE qi) c ux) ⟨O,o,T,λv' B=>?_,λhn h' C hs=>?_⟩
  .cases hv:zM J k with
   |none =>
    rw[k2 hv,B] at G;exact Au G
   |some d =>
    obtain⟨j,w,g⟩:=l d hv;rw[hv] at Y;rw[w,B] at G;exact⟨j,H,I.tok _,G,xr Y r g⟩
  .cases hv:zM J k with
   |some d =>
    obtain⟨j,w,g⟩:=l d hv;rw[w,hn] at G;exact Au G
   |none =>
    rw[hv] at Y;obtain⟨hl,Y⟩:=wK (X:=X) Y;have M:(yU u k L).length<=sizeLine:=by
     have:=kN u k L;have e3:=oF t;rw[<- x8];lia
    have he:∃ q,h'.get? b=Ab q:=let ⟨q,_,_,hq,_⟩:=C;⟨q,hq⟩
    have I':=lG (t':=s.toks+1) I (by rw[z];exact Jx) hs he (WJ M c (U.put k h) C)
    exact⟨L,_,I',h,Y _ _ P α (r.put (m':=.dct (xD J k x)) q y (by intro z;cases z) ⟨_,qQ,oG f t⟩) (qE.refl _) (Be _) f⟩
noncomputable def zO:Aa D->Al (Aa Ah)
 |[]=>Ab []
 |.int i::r=>(zO r).map (i::·)
 |_::_=>none
theorem uC (ns:Aa Ah):zO (ns.map D.int)=Ab ns:=by
 induction ns with
 |nil=>rfl
 |cons n r Y=>exact congrArg (Option.map (n::·)) Y
theorem yS:∀ {ds:Aa D} {ns:Aa Ah},zO ds=Ab ns->ds=ns.map D.int
 |[],ns,h=>by cases h;rfl
 |d::r,ns,h=>by
  cases d with
  |int i =>
   obtain⟨m,Y,rfl⟩:=Dl.mp (show (zO r).map (i::·)=Ab ns from h)
   rw[yS Y];rfl
  |_=>exact nn h
theorem w8 {K:Ak}{P:Hp}{α:ae}:∀ {ns:Aa Ah} {vs:Aa V},qB K P α (ns.map D.int) vs->vs=ns.map V.int
 |[],vs,r=>by rw[r.nil_inv];rfl
 |n::ns,vs,r=>by
  obtain⟨w,Y,rfl,p,t⟩:=r.cons_inv;simp only[aq] at p;rw[p,w8 t];rfl
def lN:G2:=λa b S=>match a,b with
 |.tup xs,.tup ys=>match zO xs,zO ys with
  |some ns,Ab Y=>.ok (.bl (_H.lexLt ns Y)) S
  |_,_=>.bad
 |_,_=>mz a b S
end
section
variable {X:Cx}
theorem aQ {σ:_L.St}{H P:Hp}{α:ae}{S:ao}{xs:Aa D}(I:Inv X ai σ H s)(r:a_ X.K H P α S)(O:qH v J)(p:aq X.K P α (.tup xs) v)(h:zO xs=Ab ns) :
  ∃ a am,J=.ref a/\Vs s.heap a (List.toArray am)/\Ku am ns:=by
 have:=yS h;subst this;obtain⟨a,vs,am,rfl,B,G,Y,U,C,_⟩:=uI I r p;have:=w8 G;subst this;exact⟨a,am,O,U,by simpa using pF Y⟩
set_option tactic.hygienic true in
theorem EL (C:X.A.units<EQ):gy X (Di .Lt) lN:=by
 intro w σ H s P α S v u M z a b Q I r O U J pb Y;unfold lN at Y
 split at Y
 .rename_i xs ys
  split at Y
  .rename_i ns j L A
   obtain⟨a,am,rfl,E,T⟩:=aQ I r O J L;obtain⟨b,G,rfl,B,i2⟩:=aQ I r U pb A;exact _H.ol E B (by simpa using T) (by simpa using i2) C ⟨.bl _,H,I,rfl,xr Y r (by simp only[aq])⟩
  .exact Au Y
 .exact BD w σ H s P α S v u M z a b Q I r O U J pb Y
end
section
variable {X:Cx}
def eX:DF:=λds S=>match ds with
 |[d]=>match (zU d).bind zO with
  |some ns=>.ok (.int ns.sum) S
  |none=>.bad
 |_=>.bad
theorem FO {S:ao}{P:Hp}{α:ae}{Ok:D->ao->Prop}(h:qK X P α (eX ds S) Ok):∃ d xs ns,ds=[d]/\yv d xs/\zO xs=Ab ns/\Ok (.int ns.sum) S:=by
 obtain⟨d,rfl,Y⟩:=cO (X:=X) (β:=D) (g:=λd=>match (zU d).bind zO with|some ns=>.ok (D.int ns.sum) S|none=>.bad) h
 cases J:(zU d).bind zO with
 |none=>rw[J] at Y;exact Au Y
 |some ns =>
  rw[J] at Y;obtain⟨xs,G,U⟩:=Ex.mp J;exact⟨d,xs,ns,rfl,zm G,U,Y⟩
theorem o7 (U:qI (ns.map V.int) us){i:Ag}{v:Ac}(h:us.toArray[i]? = Ab v):∃ t,v=.int (ns.getD i 0) t:=by
 have Y:us[i]? = Ab v:=by simpa using h
 have G:=U.length;rw[Ao] at G;have B:i<us.length:=(Az.mp Y).1;have J:i<ns.length:=by lia
 obtain⟨u,O,C⟩:=U.get (i:=i) (x:=.int ns[i]) (by rw[Dp,An J];rfl)
 cases O.symm.trans Y;obtain⟨t,rfl⟩:=C;exact⟨t,by simp[Lb,J]⟩
theorem D8 (hc:X.calm=true):wA X (.builtin "sum") eX:=by
 intro ai σ H s P α S vs us ds Q I r l g y;obtain⟨d,xs,ns,T,hd,E,ok⟩:=FO y;clear y;subst T;obtain⟨v,u,rfl,rfl,p,q⟩:=u9 g l;clear g l;have L:∀ {o:Cp} (h':Bv) (C G:Ag),(∀ b j,b ∉ [s.heap.objs.size]->(s.heap.push o).get? b=Ab j->h'.get? b=Ab j)->EP X ai σ Q (.int (preSum (λi=>ns.getD i 0) ns.length) G) { s with heap:=h',toks:=C }:=
  λ{o} h' C G k=>⟨.int _,H,sG I k,⟨G,rfl⟩,xr ok r (by simp only[aq];rw[preSum_getD,List.take_length])⟩
 clear ok;have z:X.A.in1.handled=none:=I.ok.hd hc;cases hd with
 |tup T =>
  subst T;obtain⟨a,f,am,rfl,sq,t,J,U,x,_⟩:=uI I r p;cases (show u=Cw a from q)
  cases yS E;cases w8 t;have Y:am.toArray.size=ns.length:=by have:=J.length;rw[Ao] at this;rw[Bn,this]
  have O:a≠s.heap.objs.size:=by obtain⟨o,e,_⟩:=U;exact Ch (Ba e)
  have W:=AaL (prog:=X.prog) (w:=X.w) z s.heap.objs.size a O am.toArray;have hT:∀ o,(s.heap.push o).IsTuple a am.toArray:=λo=>by obtain⟨o,e,c⟩:=U;exact⟨o,Aj _ e,c⟩
  have M:s.heap.IsTuple a am.toArray:=U;refine call_sum_walkG (Gp M ⟨s.heap.objs.size,_,_,_,_,_,λi=>ns.getD i 0,rfl,W,⟨⟨_,Bb _ rfl,rfl,rfl⟩,hT _⟩,?_,λi v h=>o7 J h,λh' C G k=>?_⟩)
  .intro b B
   have:b<s.heap.objs.size+1:=by
    simp only[Av,Ds,Ik] at B;rcases B with rfl|rfl
    .exact Ib _
    .obtain⟨o,e,_⟩:=U
     exact Pv (Ba e)
   rw[Ee];exact this
  .rw[Y]
   exact L h' C G k
 |lst T =>
  subst T;obtain⟨a,f,am,n,rfl,sq,t,J,U,x,_⟩:=gI I r p;cases (show u=Cw a from q)
  cases yS E;cases w8 t;have hL:s.heap.IsList a am.toArray:=⟨_,U,rfl,n,rfl⟩;have Y:am.toArray.size=ns.length:=by have:=J.length;rw[Ao] at this;rw[Bn,this]
  have O:a≠s.heap.objs.size:=Ch (Ba U);have W:=AbA (prog:=X.prog) (w:=X.w) z s.heap.objs.size a O am.toArray;have A:∀ o,(s.heap.push o).IsList a am.toArray:=λo=>⟨_,Aj _ U,rfl,n,rfl⟩;refine call_sum_walkG (Gj hL ⟨s.heap.objs.size,_,_,_,_,_,λi=>ns.getD i 0,rfl,W,⟨⟨_,Bb _ rfl,rfl,rfl⟩,A _⟩,?_,λi v h=>o7 J h,λh' C G k=>?_⟩)
  .intro b B
   have:b<s.heap.objs.size+1:=by
    simp only[Av,Ds,Ik] at B;rcases B with rfl|rfl
    .exact Ib _
    .exact Pv (Ba U)
   rw[Ee];exact this
  .rw[Y]
   exact L h' C G k
end
section
variable {X:Cx}
noncomputable def tY:DF:=λds S=>match ds with
 |[.int a,.int b]=>.ok (.int (if b>a then b else a)) S
 |_=>.bad
def tZ:DF:=λds S=>match ds with
 |[.int a,.int b]=>.ok (.int (if b<a then b else a)) S
 |_=>.bad
inductive Two (ds:Aa D):Prop
 |no (h:∀ (g:Ah->Ah->aw D),(match ds with|[.int a,.int b]=>g a b|_=>.bad)=.bad)
 |of (a b:Ah) (ed:ds=[.int a,.int b])
theorem GP (ds:Aa D):Two ds:=by
 cases ds with
 |nil=>exact .no λ_=>rfl
 |cons d ds =>
  cases d with
  |int a =>
   cases ds with
   |nil=>exact .no λ_=>rfl
   |cons e ds =>
    cases e with
    |int b =>
     cases ds with
     |nil=>exact .of a b rfl
     |cons _ _=>exact .no λ_=>rfl
    |_=>exact .no λ_=>rfl
  |_=>exact .no λ_=>rfl
theorem BX (A:X.calm=true):wA X (.builtin "max") tY:=by
 intro E σ H s P α S vs us ds Q I r T M J;cases GP ds with
 |no h=>exact(rW (X:=X) (r:=tY ds S) (h _) J).elim
 |of a b B =>
  subst B;obtain⟨v,w,u,x,rfl,rfl,p,L,q,O⟩:=kI M T;cases zF p;cases zF L;obtain⟨t,rfl⟩:=q;obtain⟨t',rfl⟩:=O;refine max_two_ints (I.ok.hd A) λh' U C=>?_;have G:Inv X E σ H { s with heap:=h',toks:=U }:=I.kept (t':=U) C
  by_cases Y:b>a
  .rw[Bd Y]
   exact⟨.int b,H,G,⟨t',rfl⟩,xr J r (by simp only[aq];rw[Bd Y])⟩
  .rw[Bg Y]
   exact⟨.int a,H,G,⟨t,rfl⟩,xr J r (by simp only[aq];rw[Bg Y])⟩
theorem BY (A:X.calm=true):wA X (.builtin "min") tZ:=by
 intro E σ H s P α S vs us ds Q I r T M J;cases GP ds with
 |no h=>exact(rW (X:=X) (r:=tZ ds S) (h _) J).elim
 |of a b B =>
  subst B;obtain⟨v,w,u,x,rfl,rfl,p,L,q,O⟩:=kI M T;cases zF p;cases zF L;obtain⟨t,rfl⟩:=q;obtain⟨t',rfl⟩:=O;refine min_two_ints (I.ok.hd A) λh' U C=>?_;have G:Inv X E σ H { s with heap:=h',toks:=U }:=I.kept (t':=U) C
  by_cases Y:b<a
  .rw[Bd Y]
   exact⟨.int b,H,G,⟨t',rfl⟩,xr J r (by simp only[aq];rw[Bd Y])⟩
  .rw[Bg Y]
   exact⟨.int a,H,G,⟨t,rfl⟩,xr J r (by simp only[aq];rw[Bg Y])⟩
end
section
variable {K:Ak}{H P:Hp}{α: Aa Af}{S:ao}
theorem a_.still {a:Af}{n:Ag}{m:MO}(r:a_ K H P α S)(O:α[n]? = Ab a)(hs:S[n]? = Ab m)(C:m≠.dead):a_ K (bv H a o) (bv P a o) α (S.set n .dead)/\qE P (bv P a o):=by
 have T:=r.sep n a m O hs C;have B:qE P (bv P a o):=pU T;have Y:=r.put (o:=o) (m':=.dead) O hs C trivial;have E:n<S.length:=(Az.mp hs).1;refine⟨⟨Y.tb.keep (λ_ _ q _=>q) λb u q _ p n=>⟨(qJ λ(z:b=a)=>n (by rw[z];exact Cf O)).trans p,n⟩,λb u e=>?_,Y.len,Y.nd,λi b u G J L=>?_,λi b u G J=>(Y.at' i b u G J).mono B (Be _),Y.own⟩,B⟩
 .by_cases U:b=a
  .subst U;rw[qQ] at e ⊢;exact e
  .rw[qJ U] at e ⊢;exact r.sub _ _ e
 .have U:b≠a:=by
   rintro rfl;have:=sN r.nd G O;subst this;rw[Dy E] at J;cases J;exact L rfl
  rw[qJ U];exact Y.sep i b u G J L
end
def qCb (f:DE):DI:=λaj S=>(f aj S).bind λd J=>match d with
 |.loc n=>match J[n]? with
  |some (.dct Y)=>.ok (Y.map (·.2)) (J.set n .dead)
  |_=>.bad
 |_=>.bad
theorem oH {K:Ak}{P:Hp}{α:ae}:∀ {kvs:Aa (be × D)} {vs:Aa (be × V)},mr K P α kvs vs->qB K P α (kvs.map (·.2)) (vs.map (·.2))
 |_,_,.nil=>.nil
 |_,_,.cons z t=>.cons z.2 (oH t)
section
theorem aR {S:ao}{n:Ag}(h:S[n]? = Ab (.dct kvs)):ml (.loc n) S=Ab "dict":=by
 show (match S[n]? with|some (.lst _)=>Ab "list" | some (.dct _)=>Ab "dict" | _=>none)=_
 rw[h]
end
section
theorem cY {K:Ak}{P:Hp}{α:ae}(r:qB K P α ds vs):∀ k:Ag,qB K P α (Dx k ds).flatten (Dx k vs).flatten
 |0=>by simpa using qB.nil
 |k+1=>by
  rw[Ht,Ht,Kh,Kh];exact r.append (cY r k)
theorem VW:Gb "set" = Ab (.type "set"):=by decide +kernel
end
structure wv (X:Cx)(tg it:Bx)(f:rf):Prop where
 get:PI X tg it (p_ X f)
structure QK (B:Acc)(Y:Cx)(step:Ac->Kt Wk)(k:DK):Prop where
 get:PK B Y step k
section
variable {X Y:Cx}{tg it e cg bb:Bx}{dh:Aa Bx}{fa fe:DE}{fA:DA}{fI:DI}{f2:rf}{g:DG}{t:DT}{kk:DK}{p ap:Fb}{k:Ag}{x:As}{cm:Ar}{bg ft:Aa Eb}{ak:Em}{N':Aa As}{bn:Aa (Al Ag)}{mm:Ar}
theorem CL (h:QI X tg it fI):wv X tg it (xO fI):=⟨FC h.1⟩
theorem CK (h:QE X e fa):wv X tg e (nj fa):=⟨O0 h.1⟩
theorem N5 {e1:Bx}{L:Aa Bx}{U:Ag}{O:Fb}(G:Gl X "enumerate")(hm:X.mg "enumerate" = none)(C:QA X [e1] fA)(hs:Bo [e1] X.env=(false,eval e1 X.env)::Bo [] X.env:=by rfl)(J:(Gr ap (Bo [] X.env)).any (·.1)=false:=by rfl) :
  QI X (.Tuple L U O) (.Call (.Name "enumerate" p) [e1] [] ap) (rF fA):=⟨FB G hm C.1 hs J⟩
theorem N6 (U:Y.xe=λ_ _=>Fk)(J:bg[k+1]? = none)(G:QE Y cg fe):QK kq Y (λar=>xB false cg bg ak ap k ar Y.env) (zT fe):=⟨TN U J G.1⟩
theorem KH (L:X.calm=true)(S:dz X.env.scope X.N ak N' bn)(hi:wv X tg bb f2)(I:∀ G C O U J,QG (qY X N' ak G C O U J) tg g)(E:∀ G C O U J,wl (qY X N' ak G C O U J) dh t)
  (has:∀ g',(⟨tg,bb,dh,0⟩::ft:Aa Eb)[0+1]? = Ab g'->g'.is_async=0)
  (T:∀ G C O U J,QK kq (qY X N' ak G C O U J) (λar=>xB false cg (⟨tg,bb,dh,0⟩::ft) ak ap 0 ar (qY X N' ak G C O U J).env) kk) (hs:∀ x,Gg bb X.env x=pure x) :
  QE X (.ListComp cg (⟨tg,bb,dh,0⟩::ft) ak ap) (zK mm bn f2 g t kk):=
 ⟨UE L S hi.1 (λG C O s H=>(I G C O s H).1) (λG C O s H=>(E G C O s H).1) has (λG C O s H=>(T G C O s H).1) hs⟩
theorem KO {y:As}{L:Fb}(w:X.calm=true)(z:X.N.Nodup)(S:dz X.env.scope X.N ak N' bn)(hi:wv X tg bb f2)(j:∀ G C O U J,QG (qY X N' ak G C O U J) tg g)(E:∀ G C O U J,wl (qY X N' ak G C O U J) dh t)
  (has:∀ g',(⟨tg,bb,dh,0⟩::ft:Aa Eb)[0+1]? = Ab g'->g'.is_async=0)
  (M:∀ G C O U J,QK kq (qY X N' ak G C O U J) (λar=>xB false cg (⟨tg,bb,dh,0⟩::ft) ak ap 0 ar (qY X N' ak G C O U J).env) kk) (I:X.N[m]? = Ab y) (T:Loc X.env.scope y) (A:X.fn y=true\/X.env.scope.names.lookup y=Ab .local)
  (hsw:Pu (.ListComp cg (⟨tg,bb,dh,0⟩::ft) ak ap) (Ab (.Name y py)) L.line X.env=pure true) (hs:∀ x,Gg bb X.env x=pure x):QS X (.Assign [.Name y py] (.ListComp cg (⟨tg,bb,dh,0⟩::ft) ak ap) L) (qR (zK mm bn f2 g t kk) (bi m)):=
 ⟨UM w z S hi.1 (λG C O s H=>(j G C O s H).1) (λG C O s H=>(E G C O s H).1) has (λG C O s H=>(M G C O s H).1) I T A hsw hs⟩
theorem aZ:we X "dict.setdefault" wM:=⟨Y9⟩
theorem qA5 (J:av cm k X.A):ki X (Di .Lt) lN:=⟨EL (by have:=wd J;fin2)⟩
end
def yC (H:Hp):Aa (Af × HO)->Hp
 |[]=>H
 |p::Y=>yC (bv H p.1 p.2) Y
theorem fX {b:Af}:∀ {L:Aa (Af × HO)} {H:Hp},b ∉ L.map (·.1)->yC H L b=H b
 |[],_,_=>rfl
 |p::Y,H,h=>by
  simp only[De,Av,Xj] at h;show yC (bv H p.1 p.2) Y b=H b;rw[fX h.2,qJ h.1]
theorem tJ {a:Af}{o:HO}:∀ {L:Aa (Af × HO)} {H:Hp},(L.map (·.1)).Nodup->(a,o)∈L->yC H L a=Ab o
 |p::J,H,Y,h=>by
  simp only[De,Dj] at Y;show yC (bv H p.1 p.2) J a=Ab o;rcases Av.mp h with rfl|h
  .rw[fX Y.1,qQ]
  .exact tJ Y.2 h
theorem aS {b:Af}:∀ {L:Aa (Af × HO)} {H:Hp},yC H L b=Ab u->(b,u)∈L\/H b=Ab u
 |[],_,h=>.inr h
 |p::J,H,h=>by
  rcases aS (L:=J) (H:=bv H p.1 p.2) h with h|h
  .exact .inl (Ap _ h)
  .by_cases Y:b=p.1
   .subst Y
    rw[qQ] at h;cases h;exact .inl (Bc ..)
   .rw[qJ Y] at h
    exact .inr h
section
variable {K:Ak}
theorem a_.pureL {α:ae}{S:ao}:∀ {L:Aa (Af × HO)} {H P:Hp},(∀ p∈L,H p.1=none)->(L.map (·.1)).Nodup->a_ K H P α S->a_ K (yC H L) (yC P L) α S/\qE P (yC P L)
 |[],_,_,_,_,r=>⟨r,qE.refl _⟩
 |p::G,H,P,J,Y,r=>by
  simp only[De,Dj] at Y;obtain⟨B,T⟩:=r.pure (o:=p.2) (J p (Bc ..));obtain⟨C,O⟩:=a_.pureL (L:=G) (λq U=>by
   have:q.1≠p.1:=λe=>Y.1 (e▸Bl.mpr ⟨q,U,rfl⟩);rw[qJ this];exact J q (Ap _ U)) Y.2 B
  exact⟨C,T.trans O⟩
end
section
variable {X:Cx}{ai:aa}{σ: _L.St}{H:Hp}{s:Ai}
theorem Inv.laidL {L:Aa (Af × HO)}{t':Ag}(I:Inv X ai σ H s)(k:∀ b u,s.heap.get? b=Ab u->h'.get? b=Ab u)(hp:∀ p∈L,s.heap.objs.size<=p.1)(U:∀ p∈L,zJ X.prog X.w (yC H L) h' p.1 p.2) :
  Inv X ai σ (yC H L) { s with heap:=h',toks:=t' }:=by
 have Y:∀ b u,H b=Ab u->yC H L b=Ab u:=λb u e=>by
  rw[fX (L:=L)]
  .exact e
  .intro hb
   obtain⟨p,J,rfl⟩:=Bl.mp hb;rw[I.hok.fresh (hp p J)] at e;cases e
 have O:∀ b,b<s.heap.objs.size->yC H L b=H b:=λb hb=>fX λG=>by
  obtain⟨p,J,rfl⟩:=Bl.mp G;exact absurd (Bh hb (hp p J)) (Eg _)
 refine I.un ⟨λb u q _ _ _=>k b u q,λb u q _ _ _=>⟨u.slots,k b u q⟩,λb u q n _=>by rw[O b (Ba q)];exact n,λb u q _=>⟨u,k b u q⟩,λb xs q=>Y b _ q,λb o xs q=>Y b _ q,λb C q=>⟨#[],by rw[Y b _ q];simp⟩⟩ λb u e=>?_
 rcases aS e with G|hb
 .exact U (b,u) G
 .exact(I.hok b u hb).stay (λc v _ q=>k c v q) (λc q=>Y c _ q) λc xs q=>Y c _ q
end
noncomputable def kD:be->D
 |.inl i=>.int i
 |.inr x=>.str x
theorem WX {K:Ak}{P:Hp}{α:ae}(k:be):aq K P α (kD k) (kV k):=by
 cases k <;> simp only[kD,kV,aq]
theorem B0 {k:be}(h:pI k u=true):qH (kV k) u:=by
 rcases zW h with⟨i,t,rfl,rfl⟩|⟨x,t,rfl,rfl⟩
 .exact⟨t,rfl⟩
 .exact⟨t,rfl⟩
def wL (f:DE):DE:=λaj S=>(f aj S).bind λd J=>match d with
 |.loc n=>match J[n]? with
  |some (.dct Y)=>.ok (.lst (Y.map λp=>.tup [kD p.1,p.2])) J
  |_=>.bad
 |_=>.bad
theorem XY:Gb "list" = Ab (.type "list"):=by decide +kernel
def aL (as:ae)(vs:Aa (be × V)):Aa (Af × HO):=List.zipWith (λa p=>(a,HO.tup [kV p.1,p.2])) as vs
theorem aM:∀ (as:ae) (vs:Aa (be × V)),as.length=vs.length->(aL as vs).map (·.1)=as
 |[],vs,h=>rfl
 |a::as,vs,h=>by
  cases vs with
  |nil=>exact Nat.noConfusion h
  |cons v vs=>exact congrArg (a::·) (aM as vs (Nat.succ.inj h))
theorem aP:∀ {as:ae} {vs:Aa (be × V)} {p:Af × HO},p∈aL as vs->∃ (j:Ag) (q:be × V),as[j]? = Ab p.1/\vs[j]? = Ab q/\p.2=HO.tup [kV q.1,q.2]
 |a::as,v::vs,p,h=>by
  rcases Av.mp (show p∈(a,HO.tup [kV v.1,v.2])::aL as vs from h) with rfl|h
  .exact⟨0,v,rfl,rfl,rfl⟩
  .obtain⟨j,q,U,Y,J⟩:=aP h
   exact⟨j+1,q,by simpa using U,by simpa using Y,J⟩
theorem sY {K:Ak}{P:Hp}{α:ae}:∀ {as:ae} {kvs:Aa (be × D)} {vs:Aa (be × V)},mr K P α kvs vs->as.length=vs.length->(∀ p∈aL as vs,P p.1=Ab p.2)->qB K P α (kvs.map λp=>D.tup [kD p.1,p.2]) (as.map V.ref)
 |[],[],_,.nil,_,_=>.nil
 |a::as,_,_,.cons (a:=x) (b:=y) (l₁:=xs) (l₂:=ys) z t,Y,h=>by
  refine .cons ?_ (sY t (by simpa using Y) λp U=>h p (Ap _ U))
  have J:=h (a,HO.tup [kV y.1,y.2]) (Bc ..);simp only[aq];refine⟨a,[kV y.1,y.2],rfl,.inl (.inl J),.cons ?_ (.cons z.2 .nil)⟩;rw[z.1];exact WX _
 |[],_::_,_,.cons _ _,Y,_=>by simp at Y
theorem c9 {κ:Type}:∀ {vs:Aa (κ × V)} {us:Aa (κ × Ac)},KV vs us->∀ {j:Ag} {q:κ × V},vs[j]? = Ab q->∃ u,us[j]? = Ab (q.1,u)/\qH q.2 u
 |_,_,.nil,j,q,h=>by simp at h
 |_,_,.cons (a:=x) (b:=y) z t,j,q,h=>by
  cases j with
  |zero =>
   simp at h;subst h;exact⟨y.2,by simp;exact Fc z.1.symm rfl,z.2⟩
  |succ j =>
   obtain⟨u,J,Y⟩:=c9 t (j:=j) (q:=q) (by simpa using h)
   exact⟨u,by simpa using J,Y⟩
theorem VJ (as:ae):qI (as.map V.ref) (as.map Cw):=by
 induction as with
 |nil=>exact .nil
 |cons a as Y=>exact .cons rfl Y
section
variable {X:Cx}{o:Bx}{fo:DE}{dw eh ap p2:Fb}
set_option tactic.hygienic true in
theorem WG (hc:X.calm=true)(hg:Gl X "list")(hm:X.mg "list" = none)(ho:PE X o (tD X fo))(A:Kj o "items" X.env (eval o X.env)=eval o X.env:=by rfl)(C:(dw.endLine == eh.line)=true:=by rfl)
  (he:Bo [.Call (.Attribute o "items" dw) [] [] eh] X.env=(false,eval (.Call (.Attribute o "items" dw) [] [] eh) X.env)::Bo [] X.env:=by rfl) :
  PE X (.Call (.Name "list" p2) [.Call (.Attribute o "items" dw) [] [] eh] [] ap) (tD X (wL fo)):=by
 intro ai s σ H Q I h;obtain⟨P,α,aj,S,r,re,af⟩:=h;refine Call_ (yN I hg hm XY (Fh ?_ he rfl));rw[he];refine Lh (Ph A C (bj (zS ho I r re af) λvv G ⟨v,H1,P1,zl,d,S1,B,Y⟩=>?_));cases d with
 |loc n =>
  simp only at Y
  split at Y
  .rename_i kvs hS
   have rp:=B.rep;have f:=B.inv;have r1:=B.rel;have ht:ml (.loc n) S1=Ab "dict":=aR hS;obtain⟨h1,h2⟩:=l4 f B.val (l5 r1 rp ht cy)
   simp only[aq] at rp;obtain⟨a,rfl,ha⟩:=rp;cases (show vv=Cw a from B.val)
   obtain⟨vs,z,t⟩:=r1.at' n a _ ha hS;obtain⟨hz,hd,us,T,dd⟩:=rG f.hok z;refine⟨"dict","dict.items",Lc,Ld,Vw,h1,h2,Ls rfl (Se ?_)⟩;refine Rz Ld dd.typeIs Uu (Uc _) (meets_dict_items (zI X.prog X.w) a hd) ⟨⟨us,dd⟩,?_⟩;obtain⟨ep,oa,es,zv,qD⟩:=dd.dictAt;refine Pr ?_;have zs:us.length<=sizeLine:=by rw[<- T.length];exact hz
   refine PySem.W.kdx_call (s:={ G with heap:=G.heap.push { cls:=.type "dict_items",data:=.fields #[.ref a] } }) (knd:=zI X.prog X.w) (d:=a) (kvs:=us) (ep:=ep) (f.ok.hd hc) ⟨_,Bb _ rfl,rfl,rfl⟩ ⟨oa,es,Aj _ zv,qD⟩ zs λh' tk ar c J hk hL w g M=>?_
   have I2:=f.kept (t':=G.toks) (h':=G.heap.push { cls:=.type "dict_items",data:=.fields #[.ref a] }) λb u e=>Aj _ e;have E:J.length=vs.length:=by rw[w,T.length]
   let U:Af:=(G.heap.push { cls:=.type "dict_items",data:=.fields #[.ref a] }).objs.size
   let L:Aa (Af × HO):=aL J vs++[(U,HO.lst (J.map V.ref))]
   have O:L.map (·.1)=J++[U]:=by simp[L,aM J vs E]
   have nd:(L.map (·.1)).Nodup:=by
    rw[O,Ki];refine⟨g.rise.imp λzb=>Ch zb,by simp,λx hx y hy e=>?_⟩
    have zx:y=U:=by simpa using hy
    rw[e,zx] at hx;exact absurd (g.above U hx) (Eg _)
   have l:∀ p∈L,(G.heap.push { cls:=.type "dict_items",data:=.fields #[.ref a] }).objs.size<=p.1:=λp hp=>by
    have:p.1∈J++[U]:=by rw[<- O];exact Bl.mpr ⟨p,hp,rfl⟩
    rcases Cc.mp this with h|h
    .exact Ef (g.above _ h)
    .have:p.1=U:=by simpa using h
     rw[this];exact Aw _
   have I3:Inv X ai σ (yC H1 L) { G with heap:=h',toks:=tk }:=Inv.laidL (s:={ G with heap:=G.heap.push { cls:=.type "dict_items",data:=.fields #[.ref a] } }) (L:=L) (t':=tk) I2 hk l λp hp=>by
    rcases Cc.mp hp with hp|hp
    .obtain⟨j,q,e1,e2,i⟩:=aP hp
     obtain⟨u,e4,e5⟩:=c9 T e2;obtain⟨zc,k,x,f1,f2,f3⟩:=g.pairs j p.1 e1;rw[e4] at f1;cases f1;rw[i];exact⟨(by decide:2<=sizeLine),[zc,u],.cons (B0 f2) (.cons e5 .nil),_,f3,rfl,_,rfl⟩
    .have:p=(U,HO.lst (J.map V.ref)):=by simpa using hp
     subst this;refine⟨by rw[Ao,E];exact hz,J.map Cw,c,VJ J,?_⟩
     rw[hL,<- M]
   obtain⟨r3,i⟩:=r1.pureL (L:=L) (λp hp=>I2.hok.fresh (l p hp)) nd;refine⟨.ref U,_,I3,rfl,Y _ _ _ zl r3 (B.same.trans i) B.pre ?_⟩;have zo:yC P1 L U=Ab (HO.lst (J.map V.ref)):=tJ nd (by simp[L])
   refine fU (.inl (.inl zo)) ?_;exact sY (mr.mono i (Be _) t) E λp hp=>tJ nd (Du _ hp)
  .exact Au Y
 |_=>exact Au Y
end
section
variable {X:Cx}{o:Bx}{fo:DE}{p ap dw eh:Fb}
theorem YZ (U:X.calm=true)(C:Gl X "list")(hm:X.mg "list" = none)(O:QE X o fo)(Y:Kj o "items" X.env (eval o X.env)=eval o X.env:=by rfl)(J:(dw.endLine == eh.line)=true:=by rfl)
  (G:Bo [.Call (.Attribute o "items" dw) [] [] eh] X.env=(false,eval (.Call (.Attribute o "items" dw) [] [] eh) X.env)::Bo [] X.env:=by rfl) :
  QE X (.Call (.Name "list" p) [.Call (.Attribute o "items" dw) [] [] eh] [] ap) (wL fo):=⟨WG U C hm O.1 Y J G⟩
end
section
variable {X:Cx}
theorem qBE (Y:X.calm=true):f_ X (.builtin "sum") eX:=⟨D8 Y⟩
theorem ID (Y:X.calm=true):f_ X (.builtin "max") tY:=⟨BX Y⟩
theorem IE (Y:X.calm=true):f_ X (.builtin "min") tZ:=⟨BY Y⟩
end
end _D
namespace _S
variable {mask:Ag}{xs:Ay Ag}
def Rs (xs:Ay Ag):Prop:=xs.toList.Pairwise (· < ·)
theorem Rs.lt (h:Rs xs){a b:Ag}{x y:Ag}(Q:a<b)(G:xs[a]? = Ab x)(J:xs[b]? = Ab y):x<y:=by
 obtain⟨U,N⟩:=Dz.mp G;obtain⟨O,Y⟩:=Dz.mp J;have:=Kk.mp h a b (by simpa using U) (by simpa using O) Q
 rw[<- N,<- Y];simpa using this
theorem qg {i x d:Ag}(h:xs[i]? = Ab x):xs.getD i d=x:=by
 obtain⟨Q,Y⟩:=Dz.mp h;simp[Gw,Q,Y]
structure _l (xs:Ay Ag)(j p:Ag):Prop where
 le:p<=xs.size
 lo:∀ i x,i<p->xs[i]? = Ab x->x<j
 hi:∀ i x,p<=i->xs[i]? = Ab x->j<=x
set_option tactic.hygienic true in
theorem mK (h:Rs xs)(j:Ag):∀ (fuel lo hi:Ag),hi-lo<=fuel->lo<=hi->hi<=xs.size ->
  (∀ i x,i<lo->xs[i]? = Ab x->x<j)->(∀ i x,hi<=i->xs[i]? = Ab x->j<=x)->_l xs j (Aa9 xs j fuel lo hi)
 |0,lo,hi,C,L,G,J,U=>by
  have:lo=hi:=by lia
  subst this;exact⟨G,J,U⟩
 |fuel+1,lo,hi,C,L,G,J,U=>by
  unfold Aa9;by_cases Y:lo<hi
  .rw[Bd Y]
   have B:(lo+hi)/2<xs.size:=by lia
   have e:xs[(lo+hi)/2]? = Ab xs[(lo+hi)/2]:=Ed B;simp only[qg e]
   split
   .rename_i N
    refine mK h j fuel _ hi ca ca G (λi x O Q=>?_) U
    by_cases q:i=(lo+hi)/2
    .subst q;rw[e] at Q;cases Q;exact N
    .exact Iw (h.lt ca Q e) N
   .rename_i N
    refine mK h j fuel lo _ ca ca ca J (λi x O Q=>?_)
    by_cases q:i=(lo+hi)/2
    .subst q;rw[e] at Q;cases Q;lia
    .have:=h.lt (show (lo+hi)/2<i by lia) e Q
     lia
  .rw[Bg Y]
   have:lo=hi:=by lia
   subst this;exact⟨G,J,U⟩
theorem jB (h:Rs xs)(j:Ag):_l xs j (Cn xs j):=
 mK h j _ _ _ ca ca (Aw _) (λi x Y=>by lia) λi x Y Q=>by
  have:=(Dz.mp Q).1
  lia
theorem mJ (h:Rs xs){i j:Ag}(e:xs[i]? = Ab j):Cn xs j=i:=by
 have b:=jB h j;have U:=(Dz.mp e).1;by_cases Y:Cn xs j<i
 .have Q:xs[Cn xs j]? = Ab xs[Cn xs j]:=Ed ca
  have:=h.lt Y Q e;have:=b.hi _ _ (Aw _) Q
  lia
 .by_cases J:i<Cn xs j
  .have:=b.lo _ _ J e
   lia
  .lia
theorem Z6 (h:Rs xs){i j:Ag}(e:xs[i]? = Ab j):Cn xs (j+1)=i+1:=by
 have b:=jB h (j+1);have G:=(Dz.mp e).1;have U:i<Cn xs (j+1):=by
  apply Fa;intro q;have:=b.hi _ _ ca e
  lia
 by_cases J:i+1<Cn xs (j+1)
 .have Y:i+1<xs.size:=by have:=b.le;lia
  have Q:xs[i+1]? = Ab xs[i+1]:=Ed Y;have:=b.lo _ _ J Q;have:=h.lt (Ib i) e Q
  lia
 .lia
theorem Z7 (h:Rs xs):Cn xs 0=0:=by
 have b:=jB h 0;apply Fa;intro q;have Y:0<xs.size:=by have:=b.le;lia
 have Q:xs[0]? = Ab xs[0]:=Ed Y;have:=b.lo _ _ ca Q
 lia
structure Tb (t:Fw):Prop where
 rs:Rs t.place
 dm:t.dummies=#[]
theorem o4 (j:Ag):wS #[] j=false:=by simp[wS]
theorem sT {t:Fw}(T:Tb t){i j:Ag}(e:t.place[i]? = Ab j):t.slot j=.live i:=by
 unfold AbN;simp only[mJ T.rs e,e];simp
theorem XB {t:Fw}(T:Tb t)(j:Ag):(∃ i,t.slot j=.live i/\t.place[i]? = Ab j)\/(t.slot j=.empty/\j ∉ t.place.toList):=by
 by_cases h:j∈t.place.toList
 .obtain⟨i,Y,e⟩:=Cq.mp h
  have Q:t.place[i]? = Ab j:=by rw[<- Br,An Y,e]
  exact .inl ⟨i,sT T Q,Q⟩
 .refine .inr ⟨?_,h⟩
  unfold AbN;simp only[T.dm,o4];rw[Bg,Bg cy]
  intro q;apply h;have:t.place[Cn t.place j]? = Ab j:=by simpa using q
  obtain⟨U,J⟩:=Dz.mp this;rw[<- J];simp
theorem V6 (h:Rs xs){j:Ag}(O:j ∉ xs.toList):Rs (Cb xs (Cn xs j) j):=by
 have b:=jB h j;unfold Rs;rw[Uv];have Y:∀ (i:Ag) (x:Ag),xs.toList[i]? = Ab x->(i<Cn xs j->x<j)/\(Cn xs j<=i->j<x):=λi x e=>by
  have G:xs[i]? = Ab x:=by rw[<- Br];exact e
  refine⟨λq=>b.lo _ _ q G,λq=>?_⟩;have C:=b.hi _ _ q G;have:x≠j:=by
   rintro rfl;exact O (Cf e)
  lia
 have U:∀ x∈xs.toList.take (Cn xs j),x<j:=λx Q=>by
  obtain⟨i,J,e⟩:=Cq.mp Q;rw[Fl] at J;rw[Ud] at e;exact(Y i x (by rw[An ca,e])).1 ca
 have N:∀ x∈xs.toList.drop (Cn xs j),j<x:=λx Q=>by
  obtain⟨i,J,e⟩:=Cq.mp Q;rw[Nd] at J;rw[Ue] at e;exact(Y (Cn xs j+i) x (by rw[An ca,e])).2 ca
 rw[DL,Do];refine⟨List.Pairwise.take h,⟨N,List.Pairwise.drop h⟩,λx Q y hy=>?_⟩;rcases Av.mp hy with rfl|hy
 .exact U x Q
 .exact Iw (U x Q) (N y hy)
theorem nF {α:Type}(xs:Ay α){p:Ag}(hp:p<=xs.size)(x:α)(i:Ag):(Cb xs p x)[i]? = if i<p then xs[i]? else if i=p then Ab x else xs[i-1]?:=by
 rw[<- Br,Uv];have J:(xs.toList.take p).length=p:=by simp;lia
 by_cases Q:i<p
 .rw[Bd Q,Bk ca,Om Q,Br]
 .rw[Bg Q,Ct ca,J]
  by_cases Y:i=p
  .subst Y;simp
  .rw[Bg Y]
   obtain⟨k,U⟩:∃ k,i-p=k+1:=⟨i-p-1,by lia⟩
   rw[U,Pi,dL,Br]
   congr 1;lia
theorem u6 {α:Type}(xs:Ay α)(p:Ag)(x:α):(Cb xs p x).size=xs.size+1:=by
 have:=(Jl xs p x).length_eq;simpa using this
theorem HY {t:Fw}(T:Tb t){j:Ag}(Q:j ∉ t.place.toList):Tb (t.put j).1:=by
 refine⟨V6 T.rs Q,?_⟩;show (if wS t.dummies j then _ else t.dummies)=#[]
 rw[T.dm,o4];rfl
open PySem.SetTable (Probe leap runEnd turns bits)
noncomputable def pf (mask:Ag)(p:Pw):Pw:=if p.more>0 then { p with j:=p.j+1,more:=p.more-1 } else { p with j:=(leap mask p.i p.perturb).1,more:=Hy mask (leap mask p.i p.perturb).1-(leap mask p.i p.perturb).1,i:=(leap mask p.i p.perturb).1,perturb:=(leap mask p.i p.perturb).2 }
theorem LV (t:Fw)(p:Pw):t.advance p=pf t.mask p:=rfl
def it (mask:Ag):Ag->Pw->Pw
 |0,p=>p
 |n+1,p=>it mask n (pf mask p)
theorem fL (mask:Ag):∀ (n:Ag) (p:Pw),it mask (n+1) p=pf mask (it mask n p)
 |0,p=>rfl
 |n+1,p=>fL mask n (pf mask p)
theorem nJ (mask:Ag):∀ (m n:Ag) (p:Pw),it mask (m+n) p=it mask n (it mask m p)
 |0,n,p=>by rw[Hc];rfl
 |m+1,n,p=>by rw[Td];exact nJ mask m n (pf mask p)
noncomputable def rs (mask i Q:Ag):Pw:={ j:=i,more:=Hy mask i-i,i,perturb:=Q,dummy:=none }
def st (mask:Ag)(h:Ah):Pw:=rs mask (bits h % (mask+1)) (bits h)
theorem qAo (t:Fw)(h:Ah):t.probeStart h=st t.mask h:=rfl
theorem bO (mask i Q:Ag):∀ k,k<=Hy mask i-i->it mask k (rs mask i Q)={ j:=i+k,more:=Hy mask i-i-k,i,perturb:=Q,dummy:=none }
 |0,_=>rfl
 |k+1,Y=>by
  rw[fL,bO mask i Q k ca]
  unfold pf;rw[Bd (by show Hy mask i-i-k>0;lia)]
  simp only[Probe.mk.injEq,and_true,true_and]
  lia
theorem oA (mask i Q:Ag):it mask (Hy mask i-i+1) (rs mask i Q)=rs mask (leap mask i Q).1 (leap mask i Q).2:=by
 rw[fL,bO mask i Q _ (Aw _)];unfold pf;rw[Bg (by show ¬ (Hy mask i-i-(Hy mask i-i)>0);lia)]
 rfl
theorem A6 (mask i:Ag):Hy mask i-i+1<=10:=by
 unfold Hy
 split <;> lia
def lp (mask:Ag):Ag->Ag × Ag->Ag × Ag
 |0,q=>q
 |n+1,q=>lp mask n (leap mask q.1 q.2)
theorem Y5 (mask:Ag):∀ (m n:Ag) (q:Ag × Ag),lp mask (m+n) q=lp mask n (lp mask m q)
 |0,n,p=>by rw[Hc];rfl
 |m+1,n,p=>by rw[Td];exact Y5 mask m n _
theorem PZ (mask:Ag):∀ (n i Q:Ag),∃ k,k<=10*n/\it mask k (rs mask i Q)=rs mask (lp mask n (i,Q)).1 (lp mask n (i,Q)).2
 |0,i,Q=>⟨0,by lia,rfl⟩
 |n+1,i,Q=>by
  obtain⟨k,Y,e⟩:=PZ mask n (leap mask i Q).1 (leap mask i Q).2;refine⟨(Hy mask i-i+1)+k,by have:=A6 mask i;lia,?_⟩
  rw[nJ,oA,e];rfl
theorem oK (mask:Ag):∀ (n i Q:Ag),(lp mask n (i,Q)).2=Q/32 ^ n
 |0,i,Q=>by simp[lp]
 |n+1,i,Q=>by
  show (lp mask n ((leap mask i Q).1,Q/32)).2=_;rw[oK mask n _ (Q/32),Nat.div_div_eq_div_mul,<- Nat.pow_succ']
theorem lX (mask i Q:Ag):(leap mask i Q).1<=mask:=Mi (Sg _ (Sa _))
theorem B7 (mask:Ag):∀ (n i Q:Ag),i<=mask->(lp mask n (i,Q)).1<=mask
 |0,i,Q,h=>h
 |n+1,i,Q,h=>B7 mask n _ _ (lX mask i Q)
theorem iK (h:Ah):bits h<2 ^ 64:=by
 unfold bits;have Y:(0:Ah)<=h % 2 ^ 64:=Ip _ cz
 have Q:h % 2 ^ 64<(2 ^ 64:Ah):=Hi _ cz
 lia
def s_ (mask:Ag):Ag->Ag->Ag
 |0,i=>i
 |n+1,i=>s_ mask n ((i*5+1) % (mask+1))
theorem fG (mask:Ag):∀ (m n i:Ag),s_ mask (m+n) i=s_ mask n (s_ mask m i)
 |0,n,p=>by rw[Hc];rfl
 |m+1,n,p=>by rw[Td];exact fG mask m n _
theorem Y6 (mask:Ag):∀ (n i:Ag),(lp mask n (i,0)).1=s_ mask n i
 |0,i=>rfl
 |n+1,i=>by
  show (lp mask n (leap mask i 0)).1=_;have:leap mask i 0=((i*5+1) % (mask+1),0):=by simp[leap]
  rw[this,Y6 mask n];rfl
def q_ (mask:Ag):Prop:=mask=7\/mask=31\/mask=127\/mask=511\/mask=2047
noncomputable def xa (mask:Ag):Ag->Ag->Ag->Ag
 |0,_,Q=>Q
 |n+1,i,Q=>xa mask n ((i*5+1) % (mask+1)) (Q ||| 1 <<< i)
def W6 (mask:Ag):Ar:=xa mask (mask+1) 0 0 == 2 ^ (mask+1)-1&&s_ mask (mask+1) 0 == 0
theorem W7 (h:q_ mask):W6 mask=true:=by
 rcases h with rfl|rfl|rfl|rfl|rfl <;> decide +kernel
theorem oQ (mask e:Ag):∀ (n i ar:Ag),(xa mask n i ar).testBit e=true->ar.testBit e=true\/∃ m,m<n/\s_ mask m i=e
 |0,i,ar,h=>.inl h
 |n+1,i,ar,h=>by
  rcases oQ mask e n _ _ h with q|⟨m,Q,q⟩
  .rw[Nat.testBit_or,Kc] at q
   rcases q with q|q
   .exact .inl q
   .rw[Nat.one_shiftLeft,Nat.testBit_two_pow,Bi] at q
    exact .inr ⟨0,by lia,q⟩
  .exact .inr ⟨m+1,by lia,q⟩
theorem U8 (h:q_ mask){i e:Ag}(hi:i<=mask)(Y:e<=mask):∃ n,n<=mask/\s_ mask n i=e:=by
 have a:=W7 h;unfold W6 at a;rw[AT] at a;obtain⟨Q,N⟩:=a;have Q:xa mask (mask+1) 0 0=2 ^ (mask+1)-1:=by simpa using Q
 have g:∀ e,e<=mask->∃ n,n<=mask/\s_ mask n 0=e:=λe Y=>by
  have q:(xa mask (mask+1) 0 0).testBit e=true:=by rw[Q,Nat.testBit_two_pow_sub_one];simp;lia
  rcases oQ mask e _ _ _ q with q|⟨n,U,q⟩
  .simp at q
  .exact⟨n,by lia,q⟩
 have G:s_ mask (mask+1) 0=0:=by simpa using N
 obtain⟨m,O,em⟩:=g i hi;obtain⟨n,U,J⟩:=g e Y;by_cases q:m<=n
 .refine⟨n-m,by lia,?_⟩
  rw[<- em,<- fG,show m+(n-m)=n by lia]
  exact J
 .refine⟨n+(mask+1)-m,by lia,?_⟩
  rw[<- em,<- fG,show m+(n+(mask+1)-m)=(mask+1)+n by lia,fG,G]
  exact J
theorem cA (h:q_ mask){i Q e:Ag}(hi:i<=mask)(hp:Q<2 ^ 64)(Y:e<=mask):∃ n,n<=mask+13/\(lp mask n (i,Q)).1=e:=by
 have J:(lp mask 13 (i,Q)).2=0:=by
  rw[oK];apply Nat.div_eq_of_lt;exact Iw hp cz
 obtain⟨n,U,q⟩:=U8 h (B7 mask 13 i Q hi) Y;refine⟨13+n,by lia,?_⟩
 rw[Y5];have:lp mask 13 (i,Q)=((lp mask 13 (i,Q)).1,0):=by rw[<- J]
 rw[this,Y6];exact q
theorem c5 (h:q_ mask)(hs:Ah){e:Ag}(Y:e<=mask):∃ n,n<10*turns mask/\(it mask n (st mask hs)).j=e:=by
 obtain⟨n,J,q⟩:=cA h (i:=bits hs % (mask+1)) (Mi (Sg _ (Sa _))) (iK hs) Y;obtain⟨k,U,Q⟩:=PZ mask n (bits hs % (mask+1)) (bits hs);refine⟨k,by unfold turns;lia,?_⟩
 show (it mask k (rs mask _ _)).j=e;rw[Q];exact q
theorem mZ (mask:Ag):∀ (n:Ag) (p:Pw),(it mask n p).dummy=p.dummy
 |0,p=>rfl
 |n+1,p=>by
  show (it mask n (pf mask p)).dummy=_;rw[mZ mask n];unfold pf
  split <;> rfl
def qh (t:Fw)(p:Pw)(n:Ag):Prop:=∀ m,m<n->(it t.mask m p).j∈t.place.toList
inductive Meets (t:Fw)(hashAt:Ag->Ah)(h:Ah)(p:Pw)(fuel:Ag):Al SetTable.Met->Prop
 |emp (n:Ag) (hn:n<fuel) (w:qh t p n) (e:(it t.mask n p).j ∉ t.place.toList) (q:∀ m i,m<n->t.place[i]? = Ab (it t.mask m p).j->hashAt i≠h):Meets t hashAt h p fuel (Ab (.empty (it t.mask n p).j none))
 |cand (n i:Ag) (hn:n<fuel) (w:qh t p n) (e:t.place[i]? = Ab (it t.mask n p).j) (hh:hashAt i=h) (q:∀ m i,m<n->t.place[i]? = Ab (it t.mask m p).j->hashAt i≠h):Meets t hashAt h p fuel (Ab (.candidate (it t.mask n p).j i (it t.mask (n+1) p)))
theorem V5 (h:Rs xs){a b x:Ag}(Y:xs[a]? = Ab x)(Q:xs[b]? = Ab x):a=b:=by rw[<- mJ h Y,mJ h Q]
set_option tactic.hygienic true in
theorem pD {t:Fw}(T:Tb t)(hashAt:Ag->Ah)(h:Ah):∀ (fuel:Ag) (p:Pw),p.dummy=none->(∃ n,n<fuel/\(it t.mask n p).j ∉ t.place.toList)->Meets t hashAt h p fuel (Mj t hashAt h fuel p)
 |0,p,_,⟨n,z,_⟩=>by lia
 |fuel+1,p,A,⟨n,z,Y⟩=>by
  unfold Mj;rcases XB T p.j with⟨i,e,G⟩|⟨e,q⟩
  .rw[e]
   simp only
   split
   .rename_i C
    exact Meets.cand 0 i ca (λm Q=>by lia) G (by simpa using C) λm i Q=>by lia
   .rename_i C
    have O:hashAt i≠h:=by simpa using C
    have u:n≠0:=by
     rintro rfl;exact Y (Cf (by rw[Br];exact G))
    obtain⟨B,rfl⟩:∃ B,n=B+1:=⟨n-1,by lia⟩
    have H:=pD T hashAt h fuel (pf t.mask p) (by rw[<- A];exact mZ t.mask 1 p) ⟨B,by lia,Y⟩
    rw[LV];have U:p.j∈t.place.toList:=Cf (by rw[Br];exact G)
    have up:∀ {k:Ag},qh t (pf t.mask p) k->qh t p (k+1):=λ{k} w m Q=>by
     cases m with
     |zero=>exact U
     |succ m=>exact w m ca
    have J:∀ {k:Ag},(∀ m i,m<k->t.place[i]? = Ab (it t.mask m (pf t.mask p)).j->hashAt i≠h)->∀ m i,m<k+1->t.place[i]? = Ab (it t.mask m p).j->hashAt i≠h:=λ{k} q m N Q M=>by
     cases m with
     |zero=>rw[V5 T.rs M G];exact O
     |succ m=>exact q m N ca M
    generalize o:Mj t hashAt h fuel (pf t.mask p)=r at H;cases H with
    |emp k y w I L=>exact Meets.emp (p:=p) (k+1) ca (up w) I (J L)
    |cand k N y w I E L=>exact Meets.cand (p:=p) (k+1) N ca (up w) I E (J L)
  .rw[e]
   simp only[A];exact Meets.emp (p:=p) 0 ca (λm Q=>by lia) q λm i Q=>by lia
end _S
namespace _S
open PySem.SetTable (Probe leap runEnd turns bits)
variable {us:Aa Ag}{mask:Ag}{owner:Ay (Al Ag)}
structure ur (mask:Ag)(owner:Ay (Al Ag))(us:Aa Ag):Prop where
 size:owner.size=mask+1
 nd:us.Nodup
 le:∀ u∈us,u<=mask
 at':∀ j k,j<=mask->(owner.getD j (Ab 0)=Ab k↔us[k]? = Ab j)
theorem dB {i:Ag}(hi:i<=mask):Hy mask i<=mask:=by
 unfold Hy
 split <;> lia
theorem dD (mask i:Ag):i<=Hy mask i:=by
 unfold Hy
 split <;> lia
theorem ur.none (O:ur mask owner us){j:Ag}(Q:j<=mask):(owner.getD j (Ab 0)).isNone=true↔j ∉ us:=by
 constructor
 .intro h Y
  obtain⟨k,J,e⟩:=Cq.mp Y;have:=(O.at' j k Q).mpr (by rw[An J,e])
  rw[this] at h;cases h
 .intro h
  cases q:owner.getD j (Ab 0) with
  |none=>rfl
  |some k=>exact absurd (Cf ((O.at' j k Q).mp q)) h
theorem sA (O:ur mask owner us):∀ (fuel i Q:Ag),i<=mask->(∃ L,L<fuel/\(lp mask L (i,Q)).1 ∉ us) ->
  ∃ n,Jm mask owner fuel i Q=Ab (it mask n (rs mask i Q)).j/\(it mask n (rs mask i Q)).j<=mask/\(it mask n (rs mask i Q)).j ∉ us/\∀ m,m<n->(it mask m (rs mask i Q)).j∈us
 |0,i,Q,E,⟨L,l,_⟩=>by lia
 |fuel+1,i,Q,E,⟨L,l,J⟩=>by
  unfold Jm;have z:=dB E;have o:=dD mask i;cases C:(Cd (Hy mask i+1-i)).find? λk=>(owner.getD (i+k) (Ab 0)).isNone with
  |some k =>
   obtain⟨I,w,u⟩:=List.find?_range_eq_some.mp C;have T:k<Hy mask i+1-i:=Dc.mp w;have G:(it mask k (rs mask i Q)).j=i+k:=by rw[bO mask i Q k ca]
   refine⟨k,?_,?_,?_,λm B=>?_⟩
   .rw[G]
   .rw[G];lia
   .rw[G];exact(O.none ca).mp I
   .rw[bO mask i Q m ca]
    have:=u m B;apply Fa;intro q;rw[(O.none (show i+m<=mask by lia)).mpr q] at this
    cases this
  |none =>
   have Y:∀ k,k<Hy mask i+1-i->i+k∈us:=λk T=>by
    have:=f8.mp C k (Dc.mpr T);apply Fa;intro q;exact this ((O.none (show i+k<=mask by lia)).mpr q)
   have g:L≠0:=by
    rintro rfl;exact J (Y 0 ca)
   obtain⟨N,rfl⟩:∃ N,L=N+1:=⟨L-1,by lia⟩
   obtain⟨n,p,y,M,H⟩:=sA O fuel (leap mask i Q).1 (leap mask i Q).2 (lX mask i Q) ⟨N,by lia,J⟩
   have e:∀ m,it mask (Hy mask i-i+1+m) (rs mask i Q)=it mask m (rs mask (leap mask i Q).1 (leap mask i Q).2):=λm=>by rw[nJ,oA]
   refine⟨Hy mask i-i+1+n,?_,?_,?_,λm B=>?_⟩
   .rw[e];exact p
   .rw[e];exact y
   .rw[e];exact M
   .by_cases A:m<Hy mask i-i+1
    .rw[bO mask i Q m ca]
     exact Y m ca
    .obtain⟨U,rfl⟩:∃ U,m=Hy mask i-i+1+U:=⟨m-(Hy mask i-i+1),by lia⟩
     rw[e];exact H U ca
theorem gap (h:us.length<=mask):∃ e,e<=mask/\e ∉ us:=by
 apply Fa;intro q;have:Cd (mask+1) ⊆ us:=λe Q=>by
  apply Fa;intro r;exact q ⟨e,by have:=Dc.mp Q;lia,r⟩
 have:=List.Nodup.length_le_of_subset Qs this;rw[Kl] at this
 lia
theorem TF (mask:Ag):ur mask (Array.replicate (mask+1) none) []:=by
 refine⟨by simp,Mt,λu Q=>by simp at Q,λj k Y=>?_⟩
 have:j<mask+1:=by lia
 simp[Gw,this]
theorem K7 (O:ur mask owner us){j:Ag}(H:j<=mask)(C:j ∉ us):ur mask (owner.setIfInBounds j (Ab us.length)) (us++[j]):=by
 refine⟨by simp[O.size],?_,λu B=>?_,λi k E=>?_⟩
 .rw[Ki]
  refine⟨O.nd,by simp,λa I b N=>?_⟩
  simp at N;rintro rfl;subst N;exact C I
 .rcases Cc.mp B with h|h
  .exact O.le u h
  .simp at h;lia
 .have L:=O.size
  have Y:i<owner.size:=by lia
  have T:∀ {k},us[k]? = Ab i->k<us.length:=λq=>(Az.mp q).1;by_cases Q:j=i
  .subst Q
   have G:(owner.setIfInBounds j (Ab us.length)).getD j (Ab 0)=Ab us.length:=by simp[Gw,Y]
   rw[G];constructor
   .intro q;cases q;simp
   .intro q
    by_cases U:k<us.length
    .rw[Bk U] at q
     exact absurd (Cf q) C
    .rw[Ct ca] at q
     have:k-us.length=0:=by
      cases J:k-us.length with
      |zero=>rfl
      |succ z=>rw[J] at q;simp at q
     congr 1;lia
  .have G:(owner.setIfInBounds j (Ab us.length)).getD i (Ab 0)=owner.getD i (Ab 0):=by
    simp[Gw,Y,Array.getElem_setIfInBounds,Q]
   rw[G,O.at' i k E];constructor
   .intro q;rw[Bk (T q)];exact q
   .intro q
    by_cases U:k<us.length
    .rw[Bk U] at q;exact q
    .rw[Ct ca] at q
     cases J:k-us.length with
     |zero=>rw[J] at q;simp at q;exact absurd q Q
     |succ z=>rw[J] at q;simp at q
def QR (mask:Ag)(us:Aa Ag)(hs:Aa Ah):Prop:=∀ (k:Ag) (h:Ah),hs[k]? = Ab h->∃ n,us[k]? = Ab (it mask n (st mask h)).j/\∀ m,m<n->(it mask m (st mask h)).j∈us
theorem dZ (H:q_ mask):∀ (hs done:Aa Ah) (owner:Ay (Al Ag)) (us:Aa Ag),ur mask owner us->us.length=done.length->done.length+hs.length<=mask->QR mask us done ->
  ∃ Q Y,hs.foldl (λar h=>do
   let (owner,k) <- ar
   let j <- Jm mask owner (turns mask) (bits h % (mask+1)) (bits h)
   pure (owner.setIfInBounds j (Ab k),k+1)) (Ab (owner,us.length))=Ab (Q,Y.length)/\ur mask Q Y/\Y.length=done.length+hs.length/\QR mask Y (done++hs)
 |[],done,owner,us,O,G,_,I=>⟨owner,us,rfl,O,by simpa using G,by simpa using I⟩
 |h::hs,done,owner,us,O,G,U,I=>by
  rw[By] at U;obtain⟨e,w,C⟩:=gap (mask:=mask) (us:=us) ca
  obtain⟨L,r,N⟩:=cA H (i:=bits h % (mask+1)) (Mi (Sg _ (Sa _))) (iK h) w;obtain⟨n,v,g,q,y⟩:=sA O (turns mask) (bits h % (mask+1)) (bits h) (Mi (Sg _ (Sa _))) ⟨L,by unfold turns;lia,by rw[N];exact C⟩
  have s:=K7 O g q;have E:QR mask (us++[(it mask n (rs mask (bits h % (mask+1)) (bits h))).j]) (done++[h]):=λk c J=>by
   by_cases l:k<done.length
   .rw[Bk l] at J
    obtain⟨f,o,u⟩:=I k c J;exact⟨f,by rw[Bk ca];exact o,λm B=>Du _ (u m B)⟩
   .rw[Ct ca] at J
    cases T:k-done.length with
    |succ z=>rw[T] at J;simp at J
    |zero =>
     rw[T] at J;simp at J;subst J;refine⟨n,?_,λm B=>Du _ (y m B)⟩;rw[Ct ca,G,T]
     rfl
  obtain⟨Q,Y,A,d,p,M⟩:=dZ H hs (done++[h]) _ _ s (by simp[G]) (by simp;lia) E
  refine⟨Q,Y,?_,d,by simpa [Nq,Vt 1] using p,by simpa using M⟩
  rw[Lo];rw[Cu] at A;have t:(do
   let (owner,k) <- Ab (owner,us.length)
   let j <- Jm mask owner (turns mask) (bits h % (mask+1)) (bits h)
   pure (owner.setIfInBounds j (Ab k),k+1))=Ab (owner.setIfInBounds (it mask n (rs mask (bits h % (mask+1)) (bits h))).j (Ab us.length),us.length+1):=by
   show (Jm mask owner (turns mask) (bits h % (mask+1)) (bits h)).bind _=_;rw[v];rfl
  rw[t];exact A
theorem r8 (O:q_ mask)(hs:Ay Ah)(Y:hs.size<=mask):∃ owner us,AaA mask hs=Ab owner/\ur mask owner us/\us.length=hs.size/\QR mask us hs.toList:=by
 obtain⟨Q,J,U,C,G,N⟩:=dZ O hs.toList [] _ [] (TF mask) rfl (by simpa using Y) (λk h e=>by simp at e)
 refine⟨Q,J,?_,C,by simpa using G,by simpa using N⟩
 unfold AaA;rw[<- Array.foldl_toList];have:(([]:Aa Ag).length)=0:=rfl;rw[this] at U
 erw [U]
 rfl
structure Laid (mask:Ag)(hs:Ay Ah)(t:Fw)(qP:Ay Ag):Prop where
 msk:t.mask=mask
 tb:Tb t
 size:t.place.size=hs.size
 le:∀ x∈t.place.toList,x<=mask
 perm:qP.toList.Perm (Cd hs.size)
 way:∀ (i k:Ag) (h:Ah),qP[i]? = Ab k->hs[k]? = Ab h->∃ n,t.place[i]? = Ab (it mask n (st mask h)).j/\qh t (st mask h) n
theorem Y1 (r:q_ mask)(hs:Ay Ah)(B:hs.size<=mask)(finger moves:Ag)(led plain:Ar) :
  ∃ t qP,Zf mask finger moves led plain hs=Ab (t,qP)/\t.led=led/\t.plain=plain/\Laid mask hs t qP:=by
 obtain⟨owner,us,e,O,d,hL⟩:=r8 r hs B;have g:∀ j,j<=mask->owner.getD j none=owner.getD j (Ab 0):=λj E=>by
  have:j<owner.size:=by rw[O.size];lia
  simp[Gw,this]
 generalize G:((Cd (mask+1)).filterMap λj=>(owner.getD j none).map (j,·))=live
 have mem:∀ (j k:Ag),(j,k)∈live↔us[k]? = Ab j:=λj k=>by
  rw[<- G,Jq];constructor
  .rintro⟨L,I,q⟩
   have J:L<=mask:=by have:=Dc.mp I;lia
   rw[g L J] at q;cases Y:owner.getD L (Ab 0) with
   |none=>rw[Y] at q;cases q
   |some u =>
    rw[Y] at q;simp at q;obtain⟨rfl,rfl⟩:=q;exact(O.at' _ _ J).mp Y
  .intro q
   have E:j<=mask:=O.le j (Cf q);refine⟨j,Dc.mpr ca,?_⟩
   rw[g j E,(O.at' j k E).mpr q];rfl
 have C:live.map (·.1)=(Cd (mask+1)).filter λj=>(owner.getD j none).isSome:=by
  rw[<- G,List.map_filterMap];generalize owner.getD=f
  induction Cd (mask+1) with
  |nil=>rfl
  |cons a l y =>
   rw[Jg,Kx];cases Y:f a none with
   |none=>simpa using y
   |some k=>simpa using y
 have p:(live.map (·.1)).Pairwise (· < ·):=by
  rw[C];exact Hn _ Wv
 have M:(live.map (·.2)).Nodup:=by
  unfold Vi;rw[Ei];have N:=Ei.mp p;refine Uw (λ{a b} ha c zb=>?_) N;intro q;have ea:=(mem a.1 a.2).mp ha;have z:=(mem b.1 b.2).mp c;rw[<- q,ea] at z;simp at z
  lia
 have o:(live.map (·.2)).Perm (Cd hs.size):=by
  rw[Nh M Qs];intro k;rw[Bl,Dc,<- d];constructor
  .rintro⟨⟨j,u⟩,N,rfl⟩
   exact(Az.mp ((mem j u).mp N)).1
  .intro A
   exact⟨(us[k],k),(mem _ _).mpr (An A),rfl⟩
 have U:∀ j,j∈live.map (·.1)↔j∈us:=λj=>by
  rw[Bl];constructor
  .rintro⟨⟨L,k⟩,N,rfl⟩
   exact Cf ((mem _ _).mp N)
  .intro N
   obtain⟨k,A,e⟩:=Cq.mp N;exact⟨(j,k),(mem _ _).mpr (by rw[An A,e]),rfl⟩
 refine⟨{ mask,place:=(live.map (·.1)).toArray,dummies:=#[],finger,led,moves,plain },(live.map (·.2)).toArray,?_,rfl,rfl,rfl,⟨?_,rfl⟩,?_,λx s=>?_,?_,λi k h e1 e2=>?_⟩
 .unfold Zf
  rw[e,<- G];rfl
 .exact p
 .have:=o.length_eq
  simp at this ⊢;exact this
 .exact O.le x ((U x).mp s)
 .exact o
 .have Q:(live.map (·.2))[i]? = Ab k:=by simpa using e1
  rw[Dp] at Q;cases Y:live[i]? with
  |none=>rw[Y] at Q;cases Q
  |some w =>
   rw[Y] at Q;simp at Q;have T:=Cf Y;have v:=(mem w.1 w.2).mp T;obtain⟨n,H,w2⟩:=hL k h (by rw[Br];exact e2)
   rw[<- Q] at H;rw[v] at H;refine⟨n,?_,λm hm=>?_⟩
   .rw[<- H]
    simp[Y]
   .have:=(U _).mpr (w2 m hm)
    simpa using this
theorem NO {t:Fw}{hs:Ay Ah}:SetTable.relaid t hs w=Zf (Ff w-1) t.finger (t.movedTo (Ff w-1)) t.led t.plain hs:=rfl
end _S
namespace _S
open PySem.SetTable (Probe leap runEnd turns bits)
structure gp {K:Type}(is:K->Ac->Prop)(hash:K->Ah)(es:Ay (Ah × Ac))(seen:Aa K):Prop where
 good:∀ e∈es.toList,∃ k,e.1=hash k/\is k e.2
 nd:es.toList.Pairwise λa b=>∀ k,is k a.2->¬ is k b.2
 mem:∀ k,k∈seen↔∃ e∈es.toList,is k e.2
section
variable {K:Type}{is:K->Ac->Prop}{au:K->Ah}{es mq:Ay (Ah × Ac)}{seen:Aa K}
theorem gp.perm (Z:gp is au es seen)(p:mq.toList.Perm es.toList):gp is au mq seen:=
 ⟨λe Q=>Z.good e (p.mem_iff.mp Q),(p.pairwise_iff λ{x y} h k Y J=>h k J Y).mpr Z.nd,λk=>(Z.mem k).trans ⟨λ⟨e,Q,q⟩=>⟨e,p.mem_iff.mpr Q,q⟩,λ⟨e,Q,q⟩=>⟨e,p.mem_iff.mp Q,q⟩⟩⟩
theorem gp.nil:gp is au #[] []:=⟨λe Q=>by simp at Q,by simp,λk=>by simp⟩
theorem gp.push (Z:gp is au es seen)(Q:∀ {k Y:K} {v:Ac},is k v->is Y v->k=Y){k:K}{x:Ac}(J:is k x)(N:k ∉ seen)(p:mq.toList.Perm (es.toList++[(au k,x)])):gp is au mq (k::seen):=by
 refine gp.perm (es:=es.push (au k,x)) ⟨λe he=>?_,?_,λY=>?_⟩ (by simpa using p)
 .rw[Ej] at he
  rcases Cc.mp he with he|he
  .exact Z.good e he
  .simp at he;subst he;exact⟨k,rfl,J⟩
 .rw[Ej,DL]
  refine⟨Z.nd,by simp,λa C b U Y G O=>?_⟩
  simp at U;subst U;have:=Q J O;subst this;exact N ((Z.mem k).mpr ⟨a,C,G⟩)
 .rw[Av,Z.mem,Ej]
  constructor
  .rintro (rfl|⟨e,he,q⟩)
   .exact⟨(au Y,x),by simp,J⟩
   .exact⟨e,Du _ he,q⟩
  .rintro⟨e,he,q⟩
   rcases Cc.mp he with he|he
   .exact .inr ⟨e,he,q⟩
   .simp at he;subst he;exact .inl (Q q J)
theorem gp.again (Z:gp is au es seen){k:K}(Q:k∈seen):gp is au es (k::seen):=
 ⟨Z.good,Z.nd,λY=>by rw[Av,Z.mem];exact⟨λh=>h.elim (λe=>by subst e;exact(Z.mem _).mp Q) id,.inr⟩⟩
end
section
open Classical in
theorem t5 {K:Type}{is:K->Ac->Prop}:∀ (L:Aa (Ah × Ac)) (U:Aa K),L.Pairwise (λa b=>∀ k,is k a.2->¬ is k b.2)->(∀ e∈L,∃ k∈U,is k e.2)->L.length<=U.length
 |[],U,_,_=>Ho _
 |e::L,U,J,h=>by
  rw[Do] at J;obtain⟨G,Q,B⟩:=h e cy
  have O:=t5 L (U.erase G) J.2 λN Y=>by
   obtain⟨k,C,q⟩:=h N (by simp[Y])
   have:k≠G:=λz=>J.1 N Y G B (z▸q);exact⟨k,(Yg this).mpr C,q⟩
  rw[Op Q] at O;have:0<U.length:=Lv Q;rw[By]
  lia
open Classical in
theorem gp.few {K:Type}{is:K->Ac->Prop}{N:K->Ah}{seen U:Aa K}{k:K}(Z:gp is N es seen)(C:∀ Q∈seen,Q∈U)(J:k∈U)(O:k ∉ seen):es.size<U.length:=by
 have:=t5 es.toList (U.erase k) Z.nd λe G=>by
  obtain⟨Q,_,q⟩:=Z.good e G;have hs:=(Z.mem Q).mpr ⟨e,G,q⟩;have Y:Q≠k:=λz=>O (z▸hs);exact⟨Q,(Yg Y).mpr (C Q hs),q⟩
 rw[Op J,Bq] at this;have:0<U.length:=Lv J
 lia
end
structure jj (t:Fw)(es:Ay (Ah × Ac)):Prop where
 tb:Tb t
 msk:q_ t.mask
 size:t.place.size=es.size
 le:∀ x∈t.place.toList,x<=t.mask
 few:es.size*5<t.mask*3
 way:∀ (i:Ag) (e:Ah × Ac),es[i]? = Ab e->∃ n,t.place[i]? = Ab (it t.mask n (st t.mask e.1)).j/\qh t (st t.mask e.1) n
 plain:t.plain=true
theorem jj.fits {t:Fw}(T:jj t es):t.fits es.size=true:=by
 have Q:=T.size;have J:=T.few;have Y:t.fill=es.size:=by unfold Nr;rw[T.tb.dm,Q];rfl
 unfold Zg;rw[Y,Q];rcases T.msk with h|h|h|h|h <;> rw[h] at J ⊢ <;> simp <;> lia
theorem jj.gap {t:Fw}(T:jj t es):∃ e,e<=t.mask/\e ∉ t.place.toList:=by
 apply _S.gap;rw[Bq,T.size];have Q:=T.few;rcases T.msk with h|h|h|h|h <;> rw[h] at Q ⊢ <;> lia
theorem jj.odd {t:Fw}(T:jj t es):t.gaveWay=false:=by
 unfold SetTable.gaveWay;rcases T.msk with h|h|h|h|h <;> rw[h] <;> rfl
theorem jj.put {t:Fw}(T:jj t es){h:Ah}{x:Ac}{n:Ag}(w:qh t (st t.mask h) n)(E:(it t.mask n (st t.mask h)).j ∉ t.place.toList)(U:(it t.mask n (st t.mask h)).j<=t.mask) :
  let mq:=Cb es (t.put (it t.mask n (st t.mask h)).j).2 (h,x)
  Tb (t.put (it t.mask n (st t.mask h)).j).1/\(t.put (it t.mask n (st t.mask h)).j).1.place.size=mq.size/\(∀ y∈(t.put (it t.mask n (st t.mask h)).j).1.place.toList,y<=t.mask) /\
  (∀ (i:Ag) (e:Ah × Ac),mq[i]? = Ab e->∃ m,(t.put (it t.mask n (st t.mask h)).j).1.place[i]? = Ab (it t.mask m (st t.mask e.1)).j/\qh (t.put (it t.mask n (st t.mask h)).j).1 (st t.mask e.1) m):=by
 generalize H:(it t.mask n (st t.mask h)).j=j at *;have B:∀ y,y∈(t.put j).1.place.toList↔y=j\/y∈t.place.toList:=λy=>by
  show y∈(Cb t.place (Cn t.place j) j).toList↔_;rw[(Jl _ _ _).mem_iff];simp[or_comm]
 have N:Cn t.place j<=t.place.size:=(jB T.tb.rs j).le;have Y:∀ {p:Pw} {m:Ag},qh t p m->qh (t.put j).1 p m:=λ{p m} w q I=>(B _).mpr (.inr (w q I));refine⟨HY T.tb E,?_,λy hy=>?_,λi e L=>?_⟩
 .show (Cb t.place _ j).size=(Cb es _ (h,x)).size
  rw[u6,u6,T.size]
 .rcases (B y).mp hy with rfl|hy
  .exact U
  .exact T.le y hy
 .have Q:(if i<Cn t.place j then es[i]? else if i=Cn t.place j then Ab (h,x) else es[i-1]?)=Ab e:=by
   rw[<- nF es (by rw[<- T.size];exact N)]
   exact L
  have pl:(t.put j).1.place[i]? = if i<Cn t.place j then t.place[i]? else if i=Cn t.place j then Ab j else t.place[i-1]?:=nF t.place N j i
  rw[pl];by_cases O:i<Cn t.place j
  .rw[Bd O] at Q ⊢
   obtain⟨m,G,J⟩:=T.way i e Q;exact⟨m,G,Y J⟩
  .rw[Bg O] at Q ⊢
   by_cases C:i=Cn t.place j
   .rw[Bd C] at Q ⊢
    cases Q;exact⟨n,by rw[H],Y w⟩
   .rw[Bg C] at Q ⊢
    obtain⟨m,G,J⟩:=T.way _ e Q;exact⟨m,G,Y J⟩
theorem PY {mask:Ag}(p:Pw)(hp:p.j+p.more<=mask):∀ n,(it mask n p).j+(it mask n p).more<=mask
 |0=>hp
 |n+1=>by
  rw[fL];have Y:=PY p hp n;unfold pf
  split
  .show (it mask n p).j+1+((it mask n p).more-1)<=mask
   lia
  .show (leap mask _ _).1+(Hy mask (leap mask _ _).1-(leap mask _ _).1)<=mask
   have Q:=dB (lX mask (it mask n p).i (it mask n p).perturb);have J:=dD mask (leap mask (it mask n p).i (it mask n p).perturb).1
   lia
theorem BM (mask:Ag)(h:Ah)(n:Ag):(it mask n (st mask h)).j<=mask:=by
 have Q:bits h % (mask+1)<=mask:=Mi (Sg _ (Sa _));have:=PY (mask:=mask) (st mask h) (by
  show bits h % (mask+1)+(Hy mask (bits h % (mask+1))-bits h % (mask+1))<=mask;have Y:=dB Q;have J:=dD mask (bits h % (mask+1))
  lia) n
 lia
theorem mD {t:Fw}{es:Ay (Ah × Ac)}(u:q_ t.mask)(hp:t.plain=true)(h1:t.place.size=es.size)(h2:es.size<=1001)(H:t.tooFull=true)(v:t.dummies=#[])(h3:(es.size-1)*5<t.mask*3)(n:0<es.size) :
  Ff (Hq es.size)<=2048/\∃ t' qP,t.relaid (es.map (·.1)) (Hq es.size)=Ab (t',qP)/\t'.led=t.led/\(qP.filterMap (es[·]?)).toList.Perm es.toList/\jj t' (qP.filterMap (es[·]?))/\qP.toList.Perm (Cd es.size):=by
 have N:t.fill=es.size:=by unfold Nr;rw[v,h1];rfl
 have E:t.mask*3<=es.size*5:=by
  unfold Vj at H;rw[N] at H;simpa using H
 have Q:(es.size=5/\Ff (Hq es.size)=32)\/(es.size=19/\Ff (Hq es.size)=128)\/(es.size=77/\Ff (Hq es.size)=512)\/(es.size=307/\Ff (Hq es.size)=2048):=by
  rcases u with h|h|h|h|h <;> rw[h] at E h3
  .have:es.size=5:=by lia
   exact .inl ⟨this,by rw[this];decide⟩
  .have:es.size=19:=by lia
   exact .inr (.inl ⟨this,by rw[this];decide⟩)
  .have:es.size=77:=by lia
   exact .inr (.inr (.inl ⟨this,by rw[this];decide⟩))
  .have:es.size=307:=by lia
   exact .inr (.inr (.inr ⟨this,by rw[this];decide⟩))
  .lia
 have T:q_ (Ff (Hq es.size)-1):=by
  rcases Q with⟨_,h⟩|⟨_,h⟩|⟨_,h⟩|⟨_,h⟩ <;> rw[h]
  .exact .inr (.inl rfl)
  .exact .inr (.inr (.inl rfl))
  .exact .inr (.inr (.inr (.inl rfl)))
  .exact .inr (.inr (.inr (.inr rfl)))
 have A:(es.map (·.1)).size<=Ff (Hq es.size)-1:=by
  rw[Yb];rcases Q with⟨U,h⟩|⟨U,h⟩|⟨U,h⟩|⟨U,h⟩ <;> rw[h,U] <;> lia
 obtain⟨t',qP,e,f,g,L⟩:=Y1 T (es.map (·.1)) A t.finger (t.movedTo (Ff (Hq es.size)-1)) t.led t.plain
 have z:qP.size=es.size:=by
  have:=L.perm.length_eq;simpa using this
 have G:∀ i k,qP[i]? = Ab k->k<es.size:=λi k q=>by
  have:k∈Cd (es.map (·.1)).size:=L.perm.mem_iff.mp (Cf (by rw[Br];exact q))
  simpa using this
 have B:(qP.filterMap (es[·]?)).toList=qP.toList.map λk=>es.toList.getD k (0,.none):=by
  rw[Array.toList_filterMap];have:∀ l:Aa Ag,(∀ k∈l,k<es.size)->l.filterMap (es[·]?)=l.map λk=>es.toList.getD k (0,.none):=by
   intro l
   induction l with
   |nil=>intro _;rfl
   |cons a l p =>
    intro M;have j:=M a cy
    rw[Jg,De,p λk O=>M k (by simp[O])]
    rw[Ed j];simp[j]
  refine this _ λk O=>?_;obtain⟨i,r,q⟩:=Cq.mp O;exact G i k (by rw[<- Br,An r,q])
 have Y:(qP.filterMap (es[·]?)).toList.Perm es.toList:=by
  rw[B];have y:=L.perm.map λk=>es.toList.getD k (0,Dr);refine y.trans ?_;have d:(Cd (es.map (·.1)).size).map (λk=>es.toList.getD k (0,Dr))=es.toList:=by
   apply Vk
   .simp
   .intro i m c
    have o:i<es.size:=by simpa using c
    simp[o]
  rw[d]
 have C:(qP.filterMap (es[·]?)).size=es.size:=by rw[<- Bq,Y.length_eq,Bq]
 have J:∀ i,(qP.filterMap (es[·]?))[i]? = (qP[i]?).map λk=>es.toList.getD k (0,.none):=λi=>by
  rw[<- Br,B,Dp,Br]
 refine⟨by rcases Q with⟨_,h⟩|⟨_,h⟩|⟨_,h⟩|⟨_,h⟩ <;> rw[h] <;> decide,t',qP,by rw[NO];exact e,f,Y,⟨L.tb,by rw[L.msk];exact T,by rw[L.size,C,Yb],by rw[L.msk];exact L.le,?_,λi w q=>?_,by rw[g];exact hp⟩,by have:=L.perm;rwa [Yb] at this⟩
 .rw[C,L.msk]
  rcases Q with⟨U,h⟩|⟨U,h⟩|⟨U,h⟩|⟨U,h⟩ <;> rw[h,U] <;> lia
 .rw[J] at q
  cases I:qP[i]? with
  |none=>rw[I] at q;cases q
  |some k =>
   rw[I] at q;simp only[Ww,Option.some.injEq] at q;have O:=G i k I;have:(es.map (·.1))[k]? = Ab w.1:=by
    rw[Array.getElem?_map,Ed O];rw[<- q];simp[O]
   rw[L.msk];exact L.way i k w.1 I this
end _S
namespace _S
open PySem.SetTable (Probe leap runEnd turns bits)
variable {Q:Ar->Ai->Prop}
def mj (h0 h:Bv):Prop:=∀ b o,h0.get? b=Ab o->h.get? b=Ab o
def ig (prog:Bj)(w:Bz)(h0:Bv)(ks:Aa Ah)(v:Ac):Prop:=∃ a,v=.ref a/\Sh (Cz prog w) h0 ks a
section
variable {prog:Bj}{w:Bz}{h0:Bv}
theorem ig.inj (U:ig prog w h0 x v)(Y:ig prog w h0 y v):x=y:=by
 obtain⟨a,rfl,J⟩:=U;obtain⟨b,e,G⟩:=Y;cases e;exact J.inj G
theorem uH {a:Af}(J:mj h0 h)(G:Sh (Cz prog w) h0 ks a):Sh (Cz prog w) h ks a:=by
 obtain⟨o,Y,n,U,r⟩:=G;exact⟨o,Y,n,J _ _ U,r⟩
variable {A:Bw}{E:ab}{s:Ai}
theorem ZJ {k:Aa Ah}{Q:Ah->Ai->Prop}(U:A.units<EQ)(J:mj h0 s.heap)(Y:ig prog w h0 k v)(h:Q (Vx (Cz prog w) k) { s with toks:=s.toks+(k.length+1) }) : Aq (Ax prog w) A (pyHash v) Q E s:=by
 obtain⟨a,rfl,Y⟩:=Y;exact wpAny_pyHash_tuple U (uH J Y) h
theorem eqT {k N:Aa Ah}(O:A.units<EQ)(U:mj h0 s.heap)(J:ig prog w h0 k v)(Y:ig prog w h0 N G)(h:Q (decide (k=N)) s):Aq (Ax prog w) A (eqBool v G) Q E s:=by
 obtain⟨a,rfl,J⟩:=J;obtain⟨b,rfl,Y⟩:=Y;exact wpAny_eqBool_tuple O (uH U J) (uH U Y) h
theorem nK:∀ {ks:Aa Ah} {vs:ah},ItemsAre (Cz prog w) ks vs->∀ v∈vs,∃ i t,v=.int i t:=by
 intro ks vs h
 induction h with
 |nil=>intro v hv;simp at hv
 |@cons k U ks vs Y _ J =>
  intro v hv;rcases Av.mp hv with rfl|hv
  .cases v <;> first|exact⟨_,_,rfl⟩|exact absurd Y (by rintro⟨⟩)
  .exact J v hv
theorem qBR {k:Aa Ah}(C:mj h0 s.heap)(U:ig prog w h0 k v)(h:Q true s):Aq (Ax prog w) A (Qt 8 v) Q E s:=by
 obtain⟨a,rfl,U⟩:=U;have U:=uH C U;have I:=U.typeIs;obtain⟨o,J,n,T,_,B,L⟩:=U;unfold Qt;refine Ad (Oc I F.slot_tuple_hash.lookup ?_);show Aq _ _ (seqItems? (.ref a) >>= _) Q E s;refine Ad (Hb T B ?_);refine Ad ?_;show Aq _ _ (forIn J _ _) _ _ s;rw[<- Ou];refine Kw _ (λqD r N=>r.1=none/\N=s/\∀ v∈qD,∃ i t,v=.int i t) _ ?_ ?_ _ _ ⟨rfl,rfl,nK L⟩
 .rintro v qD r N ⟨G,rfl,Y⟩
  obtain⟨i,t,rfl⟩:=Y v Bc;show Aq _ _ (Qt 7 (.int i t) >>= _) _ _ _;rw[show Qt 7 (.int i t)=pure true from rfl]
  refine Ad (Am ?_);simp only[Jh,Bp,Dv];exact Am ⟨rfl,rfl,λu O=>Y u (Ap _ O)⟩
 .rintro⟨M,H⟩ N ⟨G,rfl,_⟩
  simp only at G;subst G;exact Am h
theorem DB {k:Aa Ah}(C:mj h0 s.heap)(U:ig prog w h0 k v)(h:Q false s):Aq (Ax prog w) A (Hr 8 v) Q E s:=by
 obtain⟨a,rfl,U⟩:=U;have U:=uH C U;have I:=U.typeIs;obtain⟨o,J,n,T,_,B,L⟩:=U;unfold Hr;refine Ad (Mx I ?_);dsimp only;refine Ad (Am ?_);simp only[Jh,Bp,Dv];refine Ad (Hb T B ?_);refine Ad ?_;show Aq _ _ (forIn J _ _) _ _ s;rw[<- Ou];refine Kw _ (λqD r N=>r.1=none/\N=s/\∀ v∈qD,∃ i t,v=.int i t) _ ?_ ?_ _ _ ⟨rfl,rfl,nK L⟩
 .rintro v qD r N ⟨G,rfl,Y⟩
  obtain⟨i,t,rfl⟩:=Y v Bc;show Aq _ _ (Hr 7 (.int i t) >>= _) _ _ _;rw[show Hr 7 (.int i t)=pure false from rfl]
  refine Ad (Am ?_);simp only[Bp,Dv];exact Am ⟨rfl,rfl,λu O=>Y u (Ap _ O)⟩
 .rintro⟨M,H⟩ N ⟨G,rfl,_⟩
  simp only at G;subst G;exact Am h
theorem A0 {k:Aa Ah}(J:mj h0 s.heap)(Y:ig prog w h0 k v)(h:Q true s):Aq (Ax prog w) A (eqIsQuiet 8 v) Q E s:=by
 obtain⟨a,rfl,Y⟩:=Y;exact wpAny_eqIsQuiet_tuple (uH J Y) h
theorem ZP {α:Type}{c:Prop}[Io c]{M:Pq}{t u:Kt α}{Q:α->Ai->Prop}(h1:c->Aq M A t Q E s)(h2:¬ c->Aq M A u Q E s):Aq M A (if c then t else u) Q E s:=by
 by_cases h:c
 .rw[Bd h];exact h1 h
 .rw[Bg h];exact h2 h
structure xq (prog:Bj)(w:Bz){K:Type}[NE K](is:K->Ac->Prop)(hash:K->Ah)(h0:Bv):Prop where
 inj:∀ {k k':K} {v:Ac},is k v->is k' v->k=k'
 ref:∀ {k:K} {v:Ac},is k v->∃ a,v=.ref a
 hsh:∀ {A:Bw} {E:ab} {s:Ai} {k:K} {v:Ac} {Q:Ah->Ai->Prop},A.units+8<EQ->mj h0 s.heap->is k v->(∀ tk,s.toks<=tk->Q (hash k) { s with toks:=tk }) -> Aq (Ax prog w) A (pyHash v) Q E s
 eq:∀ {A:Bw} {E:ab} {s:Ai} {k k':K} {v v':Ac} {Q:Ar->Ai->Prop},A.units+8<EQ->mj h0 s.heap->is k v->is k' v'->Q (decide (k=k')) s->Aq (Ax prog w) A (eqBool v v') Q E s
 byV:∀ {A:Bw} {E:ab} {s:Ai} {k:K} {v:Ac} {Q:Ar->Ai->Prop},mj h0 s.heap->is k v->Q true s->Aq (Ax prog w) A (Qt 8 v) Q E s
 cls:∀ {A:Bw} {E:ab} {s:Ai} {k:K} {v:Ac} {Q:Ar->Ai->Prop},mj h0 s.heap->is k v->Q false s->Aq (Ax prog w) A (Hr 8 v) Q E s
 quiet:∀ {A:Bw} {E:ab} {s:Ai} {k:K} {v:Ac} {Q:Ar->Ai->Prop},mj h0 s.heap->is k v->Q true s->Aq (Ax prog w) A (eqIsQuiet 8 v) Q E s
theorem _V:xq prog w (ig prog w h0) (Vx (Cz prog w)) h0:=⟨ig.inj,λ⟨a,e,_⟩=>⟨a,e⟩,λU Y J h=>ZJ om Y J (h _ (Hm _ _)),λU Y J G h=>eqT om Y J G h,qBR,DB,A0⟩
variable {K:Type}[NE K]{is:K->Ac->Prop}{au:K->Ah}
theorem qAj (M:xq prog w is au h0){k:K}{x:Ac}{L:ah}{Q:Ar->Ai->Prop}(G:mj h0 s.heap)(B:is k x)(T:∀ y∈L,∃ U,is U y)(h:Q false s):Aq (Ax prog w) A (searchCouldBeSeen x L) Q E s:=by
 unfold searchCouldBeSeen;refine Ad ?_;refine Kw _ (λqD r O=>r.1=none/\O=s/\∀ v∈qD,∃ U,is U v) _ ?_ ?_ _ _ ⟨rfl,rfl,T⟩
 .rintro v qD r O ⟨N,rfl,J⟩
  obtain⟨U,hv⟩:=J v Bc;have Y:∀ u∈qD,∃ U,is U u:=λu C=>J u (Ap _ C);dsimp only;refine ZP (λ_=>Am ⟨rfl,rfl,Y⟩) λ_=>?_
  .refine Ad (M.quiet G B ?_)
   simp only[Jh,Bp,Dv];refine Ad (M.quiet G hv ?_);simp only[Jh,Bp,Dv];refine Ad (M.cls G B ?_);simp only[Bp,Dv];refine Ad (M.cls G hv ?_);simp only[Bp,Dv];exact Am ⟨rfl,rfl,Y⟩
 .rintro⟨H,I⟩ O ⟨N,rfl,_⟩
  simp only at N;subst N;exact Am h
theorem qAi (M:xq prog w is au h0){k:K}{v:Ac}{Q:Ar->Ai->Prop}(Y:is k v)(h:Q true s):Aq (Ax prog w) A (isSame v v) Q E s:=by
 obtain⟨a,rfl⟩:=M.ref Y;unfold isSame;simp only[Gc,Dq];exact Am h
theorem PU (M:xq prog w is au h0){k:K}{x:Ac}{S:Af}{o:Cp}{es:Ay (Ah × Ac)}{ep:Ag}{t:Fw}{seen:Aa K}(hu:A.units+8<EQ)(hS:mj h0 s.heap)(ho:s.heap.get? S=Ab o)(hd:o.data=.set es ep t)
  (T:jj t es) (Z:gp is au es seen) (hx:is k x) (N:Ag) (v:qh t (st t.mask (au k)) N)
  (U:(it t.mask N (st t.mask (au k))).j ∉ t.place.toList) (zc:N<10*turns t.mask) {Q:SetFound->Ai->Prop}
  (h1:k∈seen->Q (.there none) s) (h2:k ∉ seen->Q (.free (it t.mask N (st t.mask (au k))).j false) s) :
  ∀ (fuel n:Ag) (Y:Al Pw),Y.getD (t.probeStart (au k))=it t.mask n (st t.mask (au k))->n<=N->N-n<fuel ->
   (∀ (m i:Ag) (e:Ah × Ac),m<n->t.place[i]? = Ab (it t.mask m (st t.mask (au k))).j->es[i]? = Ab e->¬ is k e.2) ->
   Aq (Ax prog w) A (Uf S x (au k) true fuel Y) Q E s
 |0,n,Y,_,_,hf,_=>by lia
 |fuel+1,n,Y,zl,hn,hf,hq=>by
  unfold Uf;refine Ad (Gk ho hd T.fits ?_);dsimp only;rw[T.odd];simp only[Bp,Dv];rw[zl];generalize hg:t.probe _ (au k) (it t.mask n (st t.mask (au k)))=r;obtain⟨H,hH,hg⟩:∃ H:Ag->Ah,(∀ i,H i=(es[i]?.map (·.1)).getD 0)/\t.probe H (au k) (it t.mask n (st t.mask (au k)))=r:=⟨_,λi=>rfl,hg⟩
  have J:∀ m,it t.mask m (it t.mask n (st t.mask (au k)))=it t.mask (n+m) (st t.mask (au k)):=λm=>(nJ _ _ _ _).symm;have gm:Meets t H (au k) (it t.mask n (st t.mask (au k))) (10*turns t.mask) r:=by
   rw[<- hg];refine pD T.tb H _ _ _ (by rw[mZ];rfl) ⟨N-n,by lia,?_⟩
   rw[J,show n+(N-n)=N by lia]
   exact U
  have C:∀ j:Ag,(∀ m i:Ag,m<j->t.place[i]? = Ab (it t.mask m (it t.mask n (st t.mask (au k)))).j->H i≠au k) ->
    ∀ (m i:Ag) (e:Ah × Ac),m<n+j->t.place[i]? = Ab (it t.mask m (st t.mask (au k))).j->es[i]? = Ab e->¬ is k e.2:=λj qj m i e hm L I u=>by
   by_cases zo:m<n
   .exact hq m i e zo L I u
   .refine qj (m-n) i ca (by rw[J,show n+(m-n)=m by lia];exact L) ?_
    rw[hH,I];obtain⟨b,e1,e2⟩:=Z.good e (Cf (by rw[Br];exact I))
    rw[M.inj u e2];simpa using e1
  cases gm with
  |emp j hj w' O q =>
   rw[J] at O;have c:n+j=N:=by
    rcases Mk (n+j) N with h|h|h
    .exact absurd (v _ h) O
    .exact h
    .have:=w' (N-n) ca
     rw[J,show n+(N-n)=N by lia] at this
     exact absurd this U
   dsimp only;rw[J,c];refine Am (h2 λu=>?_);obtain⟨e,a,d⟩:=(Z.mem k).mp u;obtain⟨i,hi,L⟩:=Cq.mp a;have G:es[i]? = Ab e:=by rw[<- Br,An hi,L]
   obtain⟨m,w1,w2⟩:=T.way i e G;obtain⟨b,g1,l⟩:=Z.good e a;have:=M.inj d l;subst this;rw[g1] at w1 w2;have f:m<N:=by
    apply Fa;intro hc;by_cases f:m=N
    .subst f
     exact U (Cf (by rw[Br];exact w1))
    .exact U (w2 N ca)
   exact C j q m i e ca w1 G d
  |cand j i hj w' O hh q =>
   rw[J] at O;have hi:i<es.size:=by
    rw[<- T.size];exact(Dz.mp O).1
   have L:es[i]? = Ab es[i]:=Ed hi;have c:n+j<N:=by
    rcases Mk (n+j) N with h|h|h
    .exact h
    .rw[h] at O
     exact absurd (Cf (by rw[Br];exact O)) U
    .have:=w' (N-n) ca
     rw[J,show n+(N-n)=N by lia] at this
     exact absurd this U
   obtain⟨b,g1,l⟩:=Z.good es[i] cy
   dsimp only;have B:Aq (Ax prog w) A (do
     let Ab (_,y):=es[i]?|unsupported "internal:set-entry"
     let equal <- holding [y] (eqBool y x)
     let (mq,_,t') <- Zq S
     if true&&equal then return .there none
     let Ab same:=t'.sameMemory t.moves t.mask|unsupported "set.changed-during-lookup:is-the-new-block-at-the-old-address"
     let still <- match (if same then t'.slot (it t.mask j (it t.mask n (st t.mask (au k)))).j else .empty) with
      |.live p=>match mq[p]? with
       |some (_,y')=>do pure (if <- isSame y' y then Ab p else none)
       |none=>pure none
      |_=>pure none
     match still with
     |none=>rule "set.search.anew";Uf S x (au k) true fuel none
     |some p=>if equal then return .there (Ab p) else Uf S x (au k) true fuel (Ab (it t.mask (j+1) (it t.mask n (st t.mask (au k)))))) Q E s:=by
    rw[L];dsimp only;refine Ad (Fn (M.eq hu hS l hx ?_));refine Ad (Gk ho hd T.fits ?_);by_cases z:b=k
    .subst z
     simp only[Ju,Bool.and_self,Dq];exact Am (h1 ((Z.mem b).mpr ⟨es[i],by simp,l⟩))
    .simp only[z,Jy,So,Bp,Dv]
     have hm:t.sameMemory t.moves t.mask=Ab true:=by simp[SetTable.sameMemory]
     rw[hm];dsimp only;rw[J,sT T.tb O];simp only[Dq,L];refine Ad (qAi M l ?_);simp only[Dq];refine Ad (Am ?_);dsimp only;refine PU M hu hS ho hd T Z hx N v U zc h1 h2 fuel (n+j+1) _ ?_ ca ca λm p e hm G I u=>?_
     .rw[Qm,J]
      rfl
     .by_cases zb:m<n+j
      .exact C j q m p e zb G I u
      .have:m=n+j:=by lia
       subst this;have:=V5 T.tb.rs G O;subst this;rw[L] at I;cases I;exact z (M.inj l u)
   refine ZP (λ_=>?_) λ_=>?_
   .refine Ad (qAj M hS hx (λy hy=>?_) ?_)
    .obtain⟨e,a,rfl⟩:=Bl.mp hy
     have:e∈es.toList:=by
      have:=(Rg.mp a);exact Rg.mpr (Array.mem_filter.mp this).1
     obtain⟨k2,_,g⟩:=Z.good e this;exact⟨k2,g⟩
    .simp only[Bp,Dv]
     exact B
   .exact B
end
end _S
namespace _S
open PySem.SetTable (Probe leap runEnd turns bits)
@[reducible] noncomputable def kn (es:Ay (Ah × Ac))(ep:Ag)(t:Fw):Cp:={ cls:=.type "set",dict:=none,data:=.set es ep t }
theorem fT {h:Bv}{S:Af}{t t':Fw}(Q:h.get? S=Ab (kn es ep t)):(h.update S (AbB mq t')).get? S=Ab (kn mq (ep+1) t'):=Gi _ Q rfl
structure jl {K:Type}(is:K->Ac->Prop)(hash:K->Ah)(S:Af)(led:Ar)(V:ah)(seen:Aa K)(h:Bv):Prop where
 ex:∃ es ep t,h.get? S=Ab (kn es ep t)/\gp is hash es seen/\jj t es/\t.led=led/\∀ e∈es.toList,e.2∈V
section
variable {prog:Bj}{w:Bz}{h0:Bv}{A:Bw}{E:ab}{s:Ai}{S:Af}{led:Ar}{V:ah}
theorem KZ (a:Af)(Q:Ag):setRelay a Q=(do
  let (es,_,t) <- Zq a
  if Ff Q>sizeLine then unsupported "set:memory"
  let (es,t) <- (do
   let Ab (t,qP):=t.relaid (es.map (·.1)) Q|unsupported "internal:set-table-without-room"
   let mq:=qP.filterMap (es[·]?)
   if mq.size != es.size then unsupported "internal:set-table-lost-an-element"
   pure (mq,t))
  storeSet a es t):=rfl
theorem qBN {K:Type}[NE K]{is:K->Ac->Prop}{J:K->Ah}(M:xq prog w is J h0){seen:Aa K}{k:K}{x:Ac}{Q:Ar->Ai->Prop}(hu:A.units+8<EQ)(hS:mj h0 s.heap)(Z:jl is J S led V seen s.heap)(o:is k x)(hV:x∈V){U:Aa K}(hU:U.length<=1000)(zx:∀ k'∈seen,k'∈U)(zc:k∈U)
  (h:∀ (b:Ar) (h':Bv) (tk:Ag),s.toks<=tk->Ew S s.heap h'->jl is J S led V (k::seen) h'->Q b { s with heap:=h',toks:=tk }) : Aq (Ax prog w) A (AaQ S x) Q E s:=by
 obtain⟨G,ep,t,H,Z,T,hl,hm⟩:=Z;unfold AaQ;refine Fn (Ad (M.hsh hu hS o λtk I=>?_));unfold setAddHashed setAddHashedIn;refine Fn (Ad (Gk (s:={ s with toks:=tk }) H rfl T.fits ?_))
 dsimp only;have zy:byScan x G=false:=by
  obtain⟨a,rfl⟩:=M.ref o;rfl
 rw[zy];simp only[Bp,Dv];obtain⟨e,n,zl⟩:=T.gap;have first:∃ N,qh t (st t.mask (J k)) N/\(it t.mask N (st t.mask (J k))).j ∉ t.place.toList/\N<10*turns t.mask:=by
  obtain⟨N,hN,eN⟩:=c5 T.msk (J k) n;have gm:=pD T.tb (λ_=>J k+1) (J k) (10*turns t.mask) (st t.mask (J k)) rfl ⟨N,hN,by rw[eN];exact zl⟩
  generalize Mj t _ _ _ _=r at gm;cases gm with
  |emp j hj w' e' q=>exact⟨j,w',e',hj⟩
  |cand j i hj w' e' hh q=>exact absurd hh ca
 obtain⟨N,l,d,zo⟩:=first
 have z0:N<100000:=by
  have:turns t.mask<=2200:=by
   unfold turns;rcases T.msk with h|h|h|h|h <;> rw[h] <;> lia
  lia
 refine Ad (PU M (s:={ s with toks:=tk }) hu hS H rfl T Z o N l d zo (λhk=>?_) (λhk=>?_) 100000 0 none rfl ca ca λm i e hm=>by lia)
 .exact Am (h _ s.heap _ I (Ub _ _) ⟨G,ep,t,H,Z.again hk,T,hl,hm⟩)
 .have z1:G.size<1000:=Bh (Z.few zx zc hk) hU
  dsimp only;refine Ad (Gk (s:={ s with toks:=tk }) H rfl T.fits ?_)
  obtain⟨y,z,p3,p4⟩:=T.put (h:=J k) (x:=x) l d (BM _ _ _);generalize hj:(it t.mask N (st t.mask (J k))).j=j at *;have L:(t.put j).1.mask=t.mask:=rfl;have m2:(t.put j).1.plain=true:=T.plain;have m3:(t.put j).1.led=led:=hl;generalize hp:t.put j=tp at *;obtain⟨B,p⟩:=tp;dsimp only at y z p3 p4 L m2 m3 ⊢;rw[m2];simp only[Dq];refine Ad (M.byV (s:={ s with toks:=tk }) hS o ?_)
  simp only[Dq,Sr,AbO];have Y:(Cb G p (J k,x)).size=G.size+1:=u6 _ _ _;have O:G.size+1<=sizeLine:=by rw[Fy];lia
  refine Ad (Px (s:={ s with toks:=tk }) H rfl ?_ (by rw[Y];exact O))
  have Z1:gp is J (Cb G p (J k,x)) (k::seen):=by
   refine Z.push (λa b=>M.inj a b) o hk ?_;have:=Jl G p (J k,x);rw[Ej] at this;exact this
  have u:∀ e∈(Cb G p (J k,x)).toList,e.2∈V:=λe n=>by
   have:=(Jl G p (J k,x)).mem_iff.mp n;rw[Ej] at this;rcases Cc.mp this with h1|h1
   .exact hm e h1
   .simp at h1;subst h1;exact hV
  have C:=fT (mq:=Cb G p (J k,x)) (t':=B) H;have zb:=Hu s.heap S (AbB (Cb G p (J k,x)) B);have c:B.fits (Cb G p (J k,x)).size=true:=by
   have g:B.fill=G.size+1:=by unfold Nr;rw[y.dm,z,Y];rfl
   have h2:=T.few;unfold Zg;rw[g,z,Y,L];rcases T.msk with h|h|h|h|h <;> rw[h] at h2 ⊢ <;> simp <;> lia
  refine ZP (λv=>?_) λv=>?_
  .have zv:q_ B.mask:=by rw[L];exact T.msk
   have g:((Cb G p (J k,x)).size-1)*5<B.mask*3:=by rw[Y,L];exact T.few
   obtain⟨q1,t2,qP,q2,q3,q4,q5,_⟩:=mD zv m2 z (by rw[Y];lia) (by simpa using v) y.dm g (by rw[Y];lia)
   rw[Y] at q1 q2;rw[KZ];refine Ad ?_;refine Ad (Gk (s:={ s with heap:=_,toks:=tk }) C rfl c ?_)
   dsimp only;rw[Bg (by rw[Fy];lia)]
   refine Ad ?_;rw[q2];dsimp only;have f:(qP.filterMap λzs=>(Cb G p (J k,x))[zs]?).size=G.size+1:=by rw[<- Bq,q4.length_eq,Bq,Y]
   rw[Bg (by rw[f,Y];simp)]
   refine Am ?_;refine Px (s:={ s with heap:=_,toks:=tk }) C rfl ?_ (by rw[f];exact O)
   refine Am (h _ _ _ I (zb.trans (Hu _ S _)) ⟨_,_,t2,fT C,Z1.perm q4,q5,by rw[q3];exact m3,λe n=>u e (q4.mem_iff.mp n)⟩)
  .refine Am (h _ _ _ I zb ⟨_,_,B,C,Z1,⟨y,by rw[L];exact T.msk,z,by rw[L];exact p3,?_,by rw[L];exact p4,m2⟩,m3,u⟩)
   have g:B.fill=G.size+1:=by unfold Nr;rw[y.dm,z,Y];rfl
   unfold Vj at v;rw[g] at v;rw[Y];simpa using v
end
end _S
namespace _S
open PySem.SetTable (Probe leap runEnd turns bits)
variable {seen:Aa Ah}
def ow (prog:Bj)(w:Bz)(k:Ah)(v:Ac):Prop:=(Cz prog w).is k v=true
section
variable {prog:Bj}{w:Bz}{A:Bw}{E:ab}{s:Ai}{S:Af}{led:Ar}{V:ah}
set_option tactic.hygienic true in
theorem wN {k:Ah}(h:ow prog w k v):∃ t,v=.int k t:=by
 cases v <;> first|(exact absurd h (by rintro⟨⟩)) | skip
 rename_i i t;refine⟨t,?_⟩;have:i=k:=(Cz prog w).inj (.int i t) i k (Zh _ _ _ _) h;rw[this]
theorem eS (Z:gp (ow prog w) (Cz prog w).hash es seen):ElemsOf (Cz prog w) es.toList:=λe J=>by
 obtain⟨k,Y,Q⟩:=Z.good e J;refine⟨⟨k,Q,Y⟩,?_⟩;obtain⟨t,q⟩:=wN Q;rw[q];rfl
theorem qBM {k:Ah}{Q:Ar->Ai->Prop}(Z:jl (ow prog w) (Cz prog w).hash S led V seen s.heap)(l:ow prog w k x)(hV:x∈V){U:Aa Ah}(hU:U.length<=1000)(zc:∀ k'∈seen,k'∈U)(n:k∈U)
  (h:∀ (b:Ar) (h':Bv) (tk:Ag),s.toks<=tk->Ew S s.heap h'->jl (ow prog w) (Cz prog w).hash S led V (k::seen) h'->Q b { s with heap:=h',toks:=tk }) : Aq (Ax prog w) A (AaQ S x) Q E s:=by
 obtain⟨Y,ep,t,o,Z,T,hl,hm⟩:=Z;have v:x.scannable=true:=by
  obtain⟨tk,q⟩:=wN l;rw[q];rfl
 have C:=T.fits;have hb:Y.size<scanBound:=by
  have h1:=T.few;have:scanBound=4096:=rfl;rcases T.msk with h|h|h|h|h <;> rw[h] at h1 <;> lia
 unfold AaQ;refine Fn (Ad ((Cz prog w).pyHash (k:=k) l ?_));unfold setAddHashed setAddHashedIn;refine Fn (Ad (Gk (s:={ s with toks:=s.toks+1 }) o rfl C ?_))
 dsimp only;rw[byScan_of v hb (eS Z)];simp only[Dq];unfold setAddByScan;refine Ad (Ad (Gu (Ad (wpAny_setScan_of (s:={ s with toks:=s.toks+1 }) l o rfl C (eS Z) ?_))))
 cases hr:Y.toList.findIdx? (λe=>(Cz prog w).is k e.2) with
 |some j =>
  dsimp only;obtain⟨f,z0,_⟩:=List.findIdx?_eq_some_iff_getElem.mp hr;have z:k∈seen:=(Z.mem k).mpr ⟨Y.toList[j],Vf f,z0⟩;exact Am (Am (h _ s.heap _ (Hm _ _) (Ub _ _) ⟨Y,ep,t,o,Z.again z,T,hl,hm⟩))
 |none =>
  dsimp only;have z:k ∉ seen:=λz=>by
   obtain⟨e,B,q⟩:=(Z.mem k).mp z;have:=List.findIdx?_eq_none_iff.mp hr e B;rw[show (Cz prog w).is k e.2=true from q] at this
   cases this
  have z2:Y.size<1000:=Bh (Z.few zc n z) hU;obtain⟨e,B,zo⟩:=T.gap;have first:∃ N,qh t (st t.mask ((Cz prog w).hash k)) N/\(it t.mask N (st t.mask ((Cz prog w).hash k))).j ∉ t.place.toList/\t.freeSlot ((Cz prog w).hash k)=Ab ((it t.mask N (st t.mask ((Cz prog w).hash k))).j,false):=by
   obtain⟨N,hN,eN⟩:=c5 T.msk ((Cz prog w).hash k) B;have gm:=pD T.tb (λ_=>(Cz prog w).hash k+1) ((Cz prog w).hash k) (10*turns t.mask) (st t.mask ((Cz prog w).hash k)) rfl ⟨N,hN,by rw[eN];exact zo⟩
   unfold SetTable.freeSlot SetTable.probe;rw[qAo];generalize Mj t _ _ _ _=r at gm;cases gm with
   |emp j f w' e' q=>exact⟨j,w',e',rfl⟩
   |cand j i f w' e' hh q=>exact absurd hh ca
  obtain⟨N,zs,zv,zl⟩:=first
  obtain⟨y,M,p3,p4⟩:=T.put (h:=(Cz prog w).hash k) (x:=x) zs zv (BM _ _ _);generalize f:(it t.mask N (st t.mask ((Cz prog w).hash k))).j=j at *;have H:(t.put j).1.mask=t.mask:=rfl;have m2:(t.put j).1.plain=true:=T.plain;have m3:(t.put j).1.led=led:=hl;generalize hp:t.put j=tp at *;obtain⟨O,p⟩:=tp;dsimp only at y M p3 p4 H m2 m3 ⊢;have J:(Cb Y p ((Cz prog w).hash k,x)).size=Y.size+1:=u6 _ _ _;have c:O.fits (Cb Y p ((Cz prog w).hash k,x)).size=true:=by
   have g:O.fill=Y.size+1:=by unfold Nr;rw[y.dm,M,J];rfl
   have h2:=T.few;unfold Zg;rw[g,M,J,H];rcases T.msk with h|h|h|h|h <;> rw[h] at h2 ⊢ <;> simp <;> lia
  have z1:layNew t Y ((Cz prog w).hash k) x=(Cb Y p ((Cz prog w).hash k,x),O,false,false):=by
   unfold layNew;rw[zl];dsimp only;rw[hp];dsimp only;unfold SetTable.orStandIn;rw[c];rfl
  rw[z1];dsimp only;refine Ad (Am (a:=()) ?_);have zx:Qt 8 x=pure true:=by
   rw[hashByValue_scannable 8 v];obtain⟨tk,q⟩:=wN l;subst q;rfl
  rw[zx,ite_self];refine Ad (Am ?_);simp only[Dq];have G:Y.size+1<=sizeLine:=by rw[Fy];lia
  refine Ad (Px (s:={ s with toks:=s.toks+1 }) o rfl ?_ (by rw[J];exact G))
  have pm:(Cb Y p ((Cz prog w).hash k,x)).toList.Perm (Y.toList++[((Cz prog w).hash k,x)]):=by
   have:=Jl Y p ((Cz prog w).hash k,x);rw[Ej] at this;exact this
  have Z1:gp (ow prog w) (Cz prog w).hash (Cb Y p ((Cz prog w).hash k,x)) (k::seen):=Z.push (λa b=>(Cz prog w).inj _ _ _ a b) l z pm;have u:∀ e∈(Cb Y p ((Cz prog w).hash k,x)).toList,e.2∈V:=λe B=>by
   rcases Cc.mp (pm.mem_iff.mp B) with h1|h1
   .exact hm e h1
   .simp at h1;subst h1;exact hV
  have I:=fT (mq:=Cb Y p ((Cz prog w).hash k,x)) (t':=O) o;have d:=Hu s.heap S (AbB (Cb Y p ((Cz prog w).hash k,x)) O);refine ZP (λC=>?_) λC=>?_
  .have zb:q_ O.mask:=by rw[H];exact T.msk
   have g:((Cb Y p ((Cz prog w).hash k,x)).size-1)*5<O.mask*3:=by rw[J,H];exact T.few
   obtain⟨q1,t2,qP,q2,q3,m,q5,q6⟩:=mD zb m2 M (by rw[J];lia) (by simpa using C) y.dm g (by rw[J];lia)
   have zy:(qP.filterMap λL=>(Cb Y p ((Cz prog w).hash k,x))[L]?).size=Y.size+1:=by rw[<- Bq,m.length_eq,Bq,J]
   have rl:relayAll O (Cb Y p ((Cz prog w).hash k,x)) (Hq (Cb Y p ((Cz prog w).hash k,x)).size)=(qP.filterMap λL=>(Cb Y p ((Cz prog w).hash k,x))[L]?,t2,false):=by
    unfold relayAll;rw[q2];dsimp only;have c1:coversAll qP (Cb Y p ((Cz prog w).hash k,x)).size=true:=by
     unfold coversAll;exact List.isPerm_iff.mpr q6
    rw[c1,q5.fits];rfl
   rw[rl];dsimp only;refine Ad (Am (a:=()) ?_);refine Ad (Px (s:={ s with heap:=_,toks:=s.toks+1 }) I rfl ?_ (by rw[zy];exact G))
   exact Am (Am (h _ _ _ (Hm _ _) (d.trans (Hu _ S _)) ⟨_,_,t2,fT I,Z1.perm m,q5,by rw[q3];exact m3,λe B=>u e (m.mem_iff.mp B)⟩))
  .refine Am (Am (h _ _ _ (Hm _ _) d ⟨_,_,O,I,Z1,⟨y,by rw[H];exact T.msk,M,by rw[H];exact p3,?_,by rw[H];exact p4,m2⟩,m3,u⟩))
   have g:O.fill=Y.size+1:=by unfold Nr;rw[y.dm,M,J];rfl
   unfold Vj at C;rw[g] at C;rw[J];simpa using C
end
end _S
namespace _S
variable {Q:ab}{i:Ag}
structure so (prog:Bj)(w:Bz){K:Type}(is:K->Ac->Prop)(hash:K->Ah)(h0:Bv):Prop where
 add:∀ {A:Bw} {E:ab} {s:Ai} {S:Af} {led:Ar} {V:ah} {seen U:Aa K} {k:K} {x:Ac} {Q:Ar->Ai->Prop},A.units+8<EQ->mj h0 s.heap->jl is hash S led V seen s.heap->is k x->x∈V->U.length<=1000->(∀ k'∈seen,k'∈U)->k∈U ->
  (∀ (b:Ar) (h':Bv) (tk:Ag),s.toks<=tk->Ew S s.heap h'->jl is hash S led V (k::seen) h'->Q b { s with heap:=h',toks:=tk }) -> Aq (Ax prog w) A (AaQ S x) Q E s
theorem LR (h0:Bv):so prog w (ig prog w h0) (Vx (Cz prog w)) h0:=⟨λU Y Z N O G C J h=>qBN _V U Y Z N O G C J h⟩
theorem LQ (h0:Bv):so prog w (ow prog w) (Cz prog w).hash h0:=⟨λ_ _ Z U G J N Y h=>qBM Z U G J N Y h⟩
def u4 {K:Type}(Y:Ag->K):Ag->Aa K
 |0=>[]
 |i+1=>Y i::u4 Y i
theorem kG {K:Type}{Y:Ag->K}{k:K}:∀ {n:Ag},k∈u4 Y n↔∃ i,i<n/\Y i=k
 |0=>by simp[u4]
 |n+1=>by
  rw[u4,Av,kG];constructor
  .rintro (rfl|⟨i,h,e⟩)
   .exact⟨n,by lia,rfl⟩
   .exact⟨i,by lia,e⟩
  .rintro⟨i,h,e⟩
   by_cases J:i=n
   .subst J;exact .inl e.symm
   .exact .inr ⟨i,by lia,e⟩
section
variable {prog:Bj}{w:Bz}{A:Bw}{R:Result->Ai->Prop}{I:Af}{fp wr:ae}{G:Ay AaX->Ay AaX->Prop}{n:Ag}{P:Ag->Ac->Prop}{St:Ag->Ai->Prop}
variable {K:Type}{is:K->Ac->Prop}{au:K->Ah}{h0:Bv}{led:Ar}{V:ah}{U:Aa K}
theorem jl.sup {S:Af}{seen:Aa K}{h h':Bv}(Z:jl is au S led V seen h)(e:∀ o,h.get? S=Ab o->h'.get? S=Ab o):jl is au S led V seen h':=by
 obtain⟨N,Y,t,J,r⟩:=Z;exact⟨N,Y,t,e _ J,r⟩
theorem NN (a:so prog w is au h0)(W:WalksS prog w A.in1 I fp wr G n P St)(S:Af)(E:S ∉ fp)(m:A.in1.units+8<EQ)(Y:Ag->K)(H:∀ i v,P i v->is (Y i) v/\v∈V)(x:U.length<=1000)(u:∀ i,i<n->Y i∈U)
  (r:h0.get? S=none) (c:∀ b∈wr,h0.get? b=none):∀ (k i:Ag) (s:Ai),n-i=k->i<=n->St i s->mj h0 s.heap->jl is au S led V (u4 Y i) s.heap ->
   (∀ s',Moved (S::wr) G s s'->jl is au S led V (u4 Y n) s'.heap->R (.ok (.ret .none)) s')->Jr (Ax prog w) A (.builtin "set.update.loop" ⟨[.ref S,.ref I],[]⟩) R s:=by
 have y:S ∉ wr:=λh=>E (W.sub _ h);have J:∀ b∈wr,b∈S::wr:=λb N=>Ap _ N;intro k
 induction k with
 |zero =>
  intro i s hk hi B t Z d;have l:i=n:=by lia
  subst l;refine Lw Oe ?_;rw[Kn Jn _];show Aq _ A.in1 (Pl (.ref I) >>= _) _ _ s;refine Ad (W.done s _ _ B λs' L=>?_);exact Am (d s' (L.mono J) (Z.sup λo e=>L.heap S _ y e))
 |succ k ih =>
  intro i s hk hi B t Z d;have O:i<n:=by lia
  refine Lw Oe ?_;rw[Kn Jn _];show Aq _ A.in1 (Pl (.ref I) >>= _) _ _ s;refine Ad (W.item i s _ _ O B λv s' hP M L=>?_);obtain⟨q1,q2⟩:=H i v hP;have T:mj h0 s'.heap:=λb o e=>L.heap b o (λN=>by rw[c b N] at e;cases e) (t b o e)
  show Aq _ A.in1 (holding [v] (AaQ S v) >>= _) _ _ s';refine Ad (Fn (a.add m T (Z.sup λo e=>L.heap S _ y e) q1 q2 x (λk' p=>?_) (u i O) λb h' tk q C Z'=>?_))
  .obtain⟨j,hj,e⟩:=kG.mp p
   exact e▸u j ca
  .refine Am ⟨Ug Jn _,ih (i+1) _ ca O (W.frame _ s' _ _ M q λb N o e=>?_) (λb o e=>?_) Z' λf z g=>?_⟩
   .rw[C.2 b (λh:b=S=>E (by rw[<- h];exact N))];exact e
   .rw[C.2 b (λh:b=S=>by rw[h,r] at e;cases e)];exact T b o e
   .refine d f (Moved.trans W.gtrans ((L.mono J).then_heap q λb o N e=>?_) z) g
    rw[C.2 b (λh:b=S=>N (by rw[h];exact Bc))];exact e
end
section
variable {prog:Bj}{w:Bz}{A:Bw}{E:ab}{s:Ai}
noncomputable def vC (w:Bz):Ar:=!w.params.followText "set-order"
@[reducible] def mn (w:Bz):Cp:=kn #[] 0 (.fresh 0 0 (vC w))
theorem iB (a:Ac){Q₁:ab}(h:Q₁ (.ref s.heap.objs.size) { s with heap:=s.heap.push (mn w) }) : Jr (Ax prog w) A (.call (.builtin "set.__new__") ⟨[.type "set",a],[]⟩) (wants Q₁ E) s:=by
 refine Wt ?_;show Aq _ A.in1 (do checkBuiltinCall "set.__new__" ⟨[.type "set",a],[]⟩;again (.builtin "set.__new__" ⟨[.type "set",a],[]⟩)) _ _ s
 refine Ad (AaM (PySem.F.newCall_set_1 a) (Am ⟨Ug Xl _,Lw PySem.F.entry_set_new ?_⟩));rw[Kn Xl _];unfold Kv.«set.__new__» AbJ;have Y:=PySem.sub_set_self;obtain⟨U,g,d,J,os⟩:=s;dsimp only
 wp_walk
 refine La (Am ?_);dsimp only;simp only[newObj];exact Ad (wpAny_alloc (Am (Am h)))
theorem VC (w:Bz):jj (.fresh 0 0 (vC w)) #[]:=⟨⟨by unfold Rs;exact Ps,rfl⟩,.inl rfl,rfl,λx Y=>(by cases Y),(show 0*5<7*3 by decide),λi e h=>(by simp at h),rfl⟩
variable {K:Type}{is:K->Ac->Prop}{au:K->Ah}{U:Aa K}
theorem Z8 (a:so prog w is au s.heap){l:Af}{items:Ay Ac}{Q:ab}(hh:A.handled=none)(hu:A.units+16<EQ)(hl:s.heap.IsList l items\/s.heap.IsTuple l items)(J:Ag->K)(k:∀ i v,items[i]? = Ab v->is (J i) v)(hU:U.length<=1000)(zo:∀ i,i<items.size->J i∈U)
  (h:∀ (h':Bv) (tk:Ag),jl is au s.heap.objs.size (vC w) items.toList (u4 J items.size) h'->(∀ b o,s.heap.get? b=Ab o->h'.get? b=Ab o)->Q (.ref s.heap.objs.size) { s with heap:=h',toks:=tk }) :
  Aq (Ax prog w) A (call (.type "set") [.ref l]) Q E s:=by
 obtain⟨c,tl,zv⟩:=Hj.mro;have zb:=Hj.made;have zx:=Hj.sub;refine wpAny_call (Wt ?_);show Aq _ _ (callAny (.type "set") _) _ _ _;refine Am ⟨Code.quiet_builtin _ (by decide +kernel),Lw PySem.F.entry_type_call ?_⟩
 rw[Around.under_plain (weight_type_call_type "set" [.ref l] []) rfl];have h1:=Hj.notType;have h2:=Hj.canCreate;have z1:=PySem.F.typeCall_set_1 (.ref l)
 repeat (any_goals (first|assumption|wp_step))
 refine Pg (iB (.ref l) (E:=E) (Q₁:=λf C=>f=.ref s.heap.objs.size/\C={ s with heap:=s.heap.push (mn w) }) ⟨rfl,rfl⟩) λr C hr=>?_
 cases r with
 |error e=>exact hr
 |ok fl =>
  cases fl with
  |ret f =>
   obtain⟨rfl,rfl⟩:=hr;have hS:(s.heap.push (mn w)).get? s.heap.objs.size=Ab (mn w):=Bb _ rfl;have hT:Zi { s with heap:=s.heap.push (mn w) } (.ref s.heap.objs.size) "set":=⟨_,hS,rfl⟩
   have z0:=Hj.init.lookup;have zy:=Hj.init.bind (.ref s.heap.objs.size)
   repeat (any_goals (first|assumption|wp_step))
   refine Pg (codeAny_call_builtin (R:=wants (λr B=>r=.none/\∃ h' tk,B={ s with heap:=h',toks:=tk } /\ jl is au s.heap.objs.size (vC w) items.toList (u4 J items.size) h'/\∀ b o,s.heap.get? b=Ab o->h'.get? b=Ab o) E) Hj.init.plain PySem.F.entry_set_init (check_set_init_1 hT ?_)) λp B Y=>?_
   .have g:l<s.heap.objs.size:=by rcases hl with⟨_,e,_⟩|⟨_,e,_⟩ <;> exact Ba e
    have O:l≠(s.heap.push (mn w)).objs.size:=by
     rw[Ee];exact Ch (Pv g)
    have nS:s.heap.get? s.heap.objs.size=none:=Rf (Aw _);have nI:s.heap.get? (s.heap.push (mn w)).objs.size=none:=Rf (by rw[Ee];exact Tk _)
    rcases hl with⟨⟨d,z,H,N⟩,q,M,x,j⟩|⟨⟨d,z,H,N⟩,q,M,x,j⟩
    all_goals
     simp only at M j;subst M;subst j;have L:=Aj (mn w) q
    case' inl =>
     have u:=PySem.F.sub_list_set;have y:=PySem.F.sub_list_frozenset;have zc:(Je "list" == Je "dict")=false:=by decide
     have G:(s.heap.push (mn w)).IsList l items:=⟨_,L,rfl,x,rfl⟩
    case' inr =>
     have u:=PySem.F.sub_tuple_set;have y:=PySem.F.sub_tuple_frozenset;have zc:(Je "tuple" == Je "dict")=false:=by decide
     have G:(s.heap.push (mn w)).IsTuple l items:=⟨_,L,rfl,x,rfl⟩
    all_goals
     unfold Kv.«set.__init__» noKeywords AbC;generalize n:Qi=PI
     wp_walk
     subst n
     first
      |(refine Gj G ?_;have W:=(AbA (prog:=prog) (w:=w) (A:=A.in1.in1.in1) (by simp[hh]) _ l O items).toS)
      |(refine Gp G ?_;have W:=(AaL (prog:=prog) (w:=w) (A:=A.in1.in1.in1) (by simp[hh]) _ l O items).toS)
     refine Ad (wpAny_runValue ?_);refine NN (led:=vC w) (V:=items.toList) a W s.heap.objs.size ?_ (by show A.units+3+8<EQ;lia) J (λi v hv=>⟨k i v hv,?_⟩) hU zo nS (λb hb=>?_) (items.size-0) 0 _ ca (Ho _)
      ⟨⟨_,Bb _ rfl,rfl,rfl⟩,G.push _⟩ (λb o e=>Aj _ (Aj _ e)) ?_ λs' t T=>?_
     .rw[Ee];simp only[Av,Dn,Ds,Ik,Xj]
      exact⟨Ch (Ib _),Gy g⟩
     .exact Cf (by rw[Br];exact hv)
     .rw[Dn.mp hb];exact nI
     .exact⟨#[],0,_,Aj _ hS,gp.nil,VC w,rfl,λe he=>by simp at he⟩
     .obtain⟨h',g',d',zl,zs⟩:=s'
      have eg:g'=s.gens:=t.gens;have ed:d'=s.drawn:=t.drawn;have eo:zs=s.os:=t.os;subst eg;subst ed;subst eo;refine Am (Am ⟨rfl,h',zl,rfl,T,λb o e=>?_⟩);refine t.heap b o (λhb=>?_) (Aj _ (Aj _ e));rcases Av.mp hb with rfl|hb
      .rw[nS] at e;cases e
      .rw[Dn.mp hb,nI] at e;cases e
   .cases p with
    |error e=>exact Y
    |ok I =>
     cases I with
     |ret r =>
      obtain⟨rfl,h',tk,rfl,T,m⟩:=Y
      repeat (any_goals (first|assumption|wp_step))
      exact h _ _ T m
     |_=>exact Y.elim
  |_=>exact hr.elim
end
theorem vA {α:Type}:∀ {l:Aa α} {i:Ag} (h:i<l.length),(l[i]::l.eraseIdx i).Perm l
 |a::l,0,h=>by simp
 |a::l,i+1,h=>by
  rw[List.eraseIdx_cons_succ,List.getElem_cons_succ];exact(AbE _ _ _).trans ((vA (l:=l) (i:=i) (by simpa using h)).cons a)
theorem sQ {α:Type}(next:Ag->Ag):∀ (fuel k:Ag) (left:Aa α) (Y:Ay α),left.length=fuel->(wT next fuel k left Y).toList.Perm (Y.toList++left)
 |0,k,left,Y,h=>by
  have:left=[]:=Ru h;subst this;unfold wT;simp
 |fuel+1,k,left,Y,h=>by
  unfold wT;have J:next k % left.length<left.length:=Sg _ om
  rw[An J];dsimp only;refine(sQ next fuel (k+1) _ _ (by rw[Yh,Bd J];fin2)).trans ?_
  rw[Ej,Cy];refine Ic _ ?_;exact vA J
theorem d8 {α:Type}(next:Ag->Ag)(xs:Ay α) : (Rv next xs).toList.Perm xs.toList:=by
 have:=sQ next xs.size 0 xs.toList #[] cy
 simpa [Rv] using this
theorem yZ:Slot "set_iterator" "__next__" "set_iterator.__next__":=
 .of (owner:="set_iterator") (n:="__next__") (by rw[typeLookup_type,Xm];kernel_rfl) (by decide +kernel) (by decide +kernel) (by decide +kernel) (.inl (by decide +kernel)) (by rw[Yc];kernel_rfl)
theorem tX:entryFor table "set_iterator.__next__" = Ab Kv.«set_iterator.__next__»:=entryFor_of_fast (by kernel_rfl)
theorem dM (a:Ac):AaP "set_iterator.__next__" ⟨[a],[]⟩:=by unfold AaP;kernel_rfl
theorem sU:Slot "set_iterator" "__iter__" "set_iterator.__iter__":=
 .of (owner:="set_iterator") (n:="__iter__") (by rw[typeLookup_type,Xm];kernel_rfl) (by decide +kernel) (by decide +kernel) (by decide +kernel) (.inl (by decide +kernel)) (by rw[Yc];kernel_rfl)
theorem ZH:entryFor table "set_iterator.__iter__" = Ab Kv.«dict_keyiterator.__iter__»:=entryFor_alias (id':="dict_keyiterator.__iter__") (by kernel_rfl) rfl (by decide +kernel) (by kernel_rfl)
theorem XT (a:Ac):AaP "set_iterator.__iter__" ⟨[a],[]⟩:=by unfold AaP;kernel_rfl
theorem ZG:entryFor table "set.__iter__" = Ab Kv.«frozenset.__iter__»:=entryFor_alias (id':="frozenset.__iter__") (by kernel_rfl) rfl (by decide +kernel) (by kernel_rfl)
theorem MW (a:Af)(slot given Y:Ag):setNext a slot given Y=(do
  let (es,epoch,t) <- Zq a
  if <- setsByText then
   if epoch != Y then unsupported "set_iterator.__next__:elements-changed"
   return ((<- setWalk a)[given]?).map λe=>(e.2,slot)
  if !t.plain&&es.size>1 then unsupported "set_iterator.__next__:the-table-is-plain-no-more"
  (do if !t.led&&!es.isEmpty then unsupported "set:maker-not-led")
  return match es[Cn t.place slot]?,t.place[Cn t.place slot]? with
   |some (_,x),Ab j=>Ab (x,j+1)
   |_,_=>none):=rfl
theorem L7 (a:Af):setWalk a=(do
  let (es,epoch,t) <- Zq a
  if <- setsByText then return Rv ((<- ask).params.setOrder a epoch) es
  if !t.plain&&es.size>1 then return (<- drawOrder es.size es.toList).toArray
  (do if !t.led&&es.size>1 then unsupported "set:maker-not-led")
  return es):=rfl
theorem UK (a:Af):setDrawn a=(do
  let (es,_,t) <- Zq a
  let byText <- setsByText
  return !byText&&(!t.plain&&es.size>1)):=rfl
structure lx (w:Bz)(S:Af)(es:Ay (Ah × Ac))(ep:Ag)(t:Fw):Prop where
 tab:jj t es
 led:t.led=vC w
def qP (w:Bz)(S:Af)(ep:Ag)(es:Ay (Ah × Ac)):Ay (Ah × Ac):=if w.params.followText "set-order" = true then Rv (w.params.setOrder S ep) es else es
theorem nR (w:Bz)(S:Af)(ep:Ag)(es:Ay (Ah × Ac)):(qP w S ep es).toList.Perm es.toList:=by
 unfold qP
 split
 .exact d8 _ _
 .exact Mu _
theorem uW (w:Bz)(S:Af)(ep:Ag)(es:Ay (Ah × Ac)):(qP w S ep es).size=es.size:=by
 rw[<- Bq,(nR w S ep es).length_eq,Bq]
noncomputable def u_ (slot i:Ag)(S:Af)(n ep:Ag):Cp:={ cls:=.type "set_iterator",data:=.fields #[.int slot 0,.int i 0,.ref S,.int n 0,.int ep 0] }
def At (w:Bz)(I S:Af)(es:Ay (Ah × Ac))(ep:Ag)(t:Fw)(i:Ag)(h:Bv):Prop:=
 ∃ slot,h.get? I=Ab (u_ slot i S es.size ep)/\h.get? S=Ab (kn es ep t)/\(w.params.followText "set-order" = true\/Cn t.place slot=i)
section
variable {prog:Bj}{w:Bz}{A:Bw}{E:ab}{s:Ai}{S I:Af}{es:Ay (Ah × Ac)}{ep:Ag}{t:Fw}
theorem XA {slot:Ag}{Q:Al (Ac × Ag)->Ai->Prop}(Z:lx w S es ep t)(C:s.heap.get? S=Ab (kn es ep t))(hs:w.params.followText "set-order" = true\/Cn t.place slot=i)
  (h1:∀ e Y,(qP w S ep es)[i]? = Ab e->(w.params.followText "set-order" = true\/Cn t.place Y=i+1)->Q (Ab (e.2,Y)) s) (h2:(qP w S ep es)[i]? = none->Q none s):Aq (Ax prog w) A (setNext S slot i ep) Q E s:=by
 rw[MW];refine Ad (Gk C rfl Z.tab.fits ?_);dsimp only;refine Ad (Ad (La (Am ?_)));cases J:w.params.followText "set-order" with
 |true =>
  show Aq _ _ (if (w.params.followText "set-order")=true then _ else _) _ _ _
  rw[Bd J];have N:(ep != ep)=false:=by simp
  rw[N];simp only[Bp,Dv];refine Ad ?_;rw[L7];refine Ad (Gk C rfl Z.tab.fits ?_);dsimp only;refine Ad (Ad (La (Am ?_)));show Aq _ _ (if (w.params.followText "set-order")=true then _ else _) _ _ _
  rw[Bd J];refine Ad (La (Am (Am ?_)));show Q (((Rv (w.params.setOrder S ep) es)[i]?).map λe=>(e.2,slot)) s;have U:qP w S ep es=Rv (w.params.setOrder S ep) es:=by unfold qP;rw[Bd J]
  rw[U] at h1 h2;cases G:(Rv (w.params.setOrder S ep) es)[i]? with
  |none=>exact h2 G
  |some e=>exact h1 e slot G (.inl J)
 |false =>
  show Aq _ _ (if (w.params.followText "set-order")=true then _ else _) _ _ _
  rw[Bg (by rw[J];decide),Z.tab.plain,Z.led]
  unfold vC;rw[J];simp only[Jh,Jp,Bp,Dv,Sr];have N:Cn t.place slot=i:=by
   rcases hs with h|h
   .rw[J] at h;cases h
   .exact h
  rw[N];have U:qP w S ep es=es:=by unfold qP;rw[Bg (by rw[J];decide)]
  rw[U] at h1 h2;refine Am ?_;cases G:es[i]? with
  |none=>exact h2 G
  |some e =>
   have B:i<t.place.size:=by rw[Z.tab.size];exact(Dz.mp G).1
   have O:t.place[i]? = Ab t.place[i]:=Ed B;rw[O];exact h1 e _ G (.inr (Z6 Z.tab.tb.rs O))
theorem At.type (h:At w I S es ep t i s.heap):s.TypeIs (.ref I) "set_iterator":=by
 obtain⟨slot,h,_⟩:=h;exact⟨_,h,rfl⟩
theorem sM (Z:lx w S es ep t)(L:At w I S es ep t i s.heap)
  (h1:∀ e Y slot,(qP w S ep es)[i]? = Ab e->s.heap.get? I=Ab (u_ slot i S es.size ep)->s.heap.get? S=Ab (kn es ep t)->(w.params.followText "set-order" = true\/Cn t.place Y=i+1) ->
   Q e.2 { s with heap:=(s.heap.update I (Zj (·.setIfInBounds 0 (Gq Y)))).update I (Zj (·.setIfInBounds 1 (Gq ((i:Ah)+1)))) })
  (h2:(qP w S ep es)[i]? = none->Aq (Ax prog w) A (do setField (.ref I) 2 .none;raiseNew (<- newExc (.type "StopIteration") [])) (λ(fin:PySem.Fin) s'=>∃ r,fin=.done (.ret r)/\Q r s') E s) :
  Aq (Ax prog w) A (Kv.«set_iterator.__next__» ⟨[.ref I],[]⟩) (λfin s'=>∃ r,fin=.done (.ret r)/\Q r s') E s:=by
 obtain⟨slot,J,U,B⟩:=L;show Aq _ _ (fieldsOf (.ref I) >>= _) _ _ s;refine Ad (wpAny_fieldsOf J rfl ?_);show Aq _ _ (setEntries S >>= _) _ _ s;refine Ad (Zk U rfl Z.tab.fits ?_);have N:(((es.size:Ag):Ah) != ((es.size:Ag):Ah))=false:=by simp
 rw[N];simp only[Bp,Dv];show Aq _ _ (setNext S (slot:Ah).toNat (i:Ah).toNat (ep:Ah).toNat >>= _) _ _ s;rw[Gh,Gh,Gh];refine Ad (XA Z U B (λe Y G O=>?_) λG=>?_)
 .dsimp only
  refine Ad (Pp J rfl (by show 0<5;decide) ?_)
  have C:=Gi (Zj (·.setIfInBounds 0 (Gq Y))) J rfl
  refine Ad (Pp C rfl (by show 1<5;decide) ?_)
  exact Am ⟨_,rfl,h1 e Y slot G J U O⟩
 .exact h2 G
theorem L6 (H:A.handled=none)(N:S≠I)(Z:lx w S es ep t):Walks prog w A I [I,S] [I] es.size (λi v=>∃ e,(qP w S ep es)[i]? = Ab e/\e.2=v) (λi h=>At w I S es ep t i h) where
 sub:=λb Y=>by simp at Y;simp[Y]
 frame:=λi h y ⟨slot,L,M,j⟩ B=>⟨slot,B I cy _ L,B S cy _ M,j⟩
 item:=λi s Q E k st G=>by
  unfold Pl;refine Ad (Lu (El (name:=Iu "__next__") st.type yZ (Eh yZ st.type tX (sM Z st (λe J slot U O C Y=>?_) λU=>?_) (dM _))))
  .refine Am (G e.2 _ s.toks ⟨e,U,rfl⟩ ⟨J,?_,?_,Y⟩ λb o Y e=>?_)
   .exact Gi _ (Gi _ O rfl) rfl
   .rw[Dk _ _ N.symm,Dk _ _ N.symm];exact C
   .have Y:I≠b:=λz=>Y (by simp[z])
    rw[Dk _ _ Y,Dk _ _ Y];exact e
  .have:=Array.getElem?_eq_none_iff.mp U
   rw[uW] at this;fin2
 done:=λs Q E st G=>by
  unfold Pl;refine Ad (Lu (El (name:=Iu "__next__") st.type yZ (Eh yZ st.type tX (sM Z st (λe J slot U O C Y=>?_) λU=>?_) (dM _))))
  .have:=(Dz.mp U).1
   rw[uW] at this;fin2
  .obtain⟨slot,O,C,Y⟩:=st
   refine Ad (Pp O rfl (by show 2<5;decide) ?_)
   refine Ad ?_;simp only[newExc,newTuple];refine Ad (Er ?_ (by size_fits))
   refine Ad (m:=Sm _ _) (AaM (a:=Dr) (by first|rfl|(simp only[Sm];rfl)) ?_)
   refine Er ?_ (by size_fits)
   simp only[raiseNew];refine Ad (wpAny_handled ?_);rw[show A.in1.handled=none from H]
   refine Ad (Am (wpAny_throw ?_));refine Ad (Qr (T:="StopIteration") (b:=true) ⟨_,Bb _ rfl,rfl⟩ XV ?_);refine Am (G _ s.toks λb o Y e=>?_);exact(((Hu ..).extBut.push _).push _) b o (λz=>Y (by simp[z])) e
 self:=λi s Q E st G=>by
  refine wpAny_pyIter_slot st.type sU (Eh sU st.type ZH ?_ (XT _));show Aq _ _ (ret (.ref I)) _ _ s;exact Am ⟨_,rfl,"set_iterator",_,st.type,yZ.lookup,G⟩
theorem JE (Z:lx w S es ep t)(Y:s.heap.get? S=Ab (kn es ep t))(h:Q (.ref s.heap.objs.size) { s with heap:=s.heap.push (u_ 0 0 S es.size ep) }) : Aq (Ax prog w) A (Qi (.ref S)) Q E s:=by
 have J:s.TypeIs (.ref S) "set":=⟨_,Y,rfl⟩;refine wpAny_pyIter_slot J Xn (Eh Xn J ZG ?_ (PySem.F.args_set_iter_1 _));show Aq _ _ (Ux S >>= _) _ _ s;unfold Ux;refine Ad (Ad (Zk Y rfl Z.tab.fits (Am ?_)));refine Ad ?_;rw[UK];refine Ad (Gk Y rfl Z.tab.fits ?_);dsimp only;refine Ad (Ad (La (Am (Am ?_))));rw[Z.tab.plain];simp only[Jh,Jp,So,Bp,Dv];refine Ad (Am ?_);unfold setEpoch;refine Ad (Ad (Gk Y rfl Z.tab.fits (Am ?_)));refine Ad (Er (Am ⟨_,rfl,"set_iterator",_,⟨_,Bb _ rfl,rfl⟩,yZ.lookup,h⟩))
theorem BS (Z:lx w S es ep t)(Y:s.heap.get? S=Ab (kn es ep t)):At w s.heap.objs.size S es ep t 0 (s.heap.push (u_ 0 0 S es.size ep)):=
 ⟨0,Bb _ rfl,Aj _ Y,.inr (Z7 Z.tab.tb.rs)⟩
end
end _S
namespace _S
open PySem.W
variable {vs:ah}{n lo:Ag}{ax m:Ay Bm}
structure Ord {K:Type}(lt:K->K->Ar):Prop where
 irr:∀ a,lt a a=false
 tr:∀ {a b c},lt a b=true->lt b c=true->lt a c=true
 tri:∀ {a b},lt a b=false->a=b\/lt b a=true
def qf (a b:Ah):Ar:=decide (a<b)
theorem _Q:Ord qf:=⟨λa=>by simp[qf],λ{a b c} Q Y=>by simp only[qf,Bi] at *;fin2,λ{a b} h=>by simp only[qf,Bi,IN] at *;fin2⟩
theorem oI:∀ a:Aa Ah,_H.lexLt a a=false
 |[]=>rfl
 |x::Q=>by rw[_H.cq,Bd rfl];exact oI Q
theorem Y3:∀ {a b c:Aa Ah},_H.lexLt a b=true->_H.lexLt b c=true->_H.lexLt a c=true
 |_,[],[],_,h=>by cases h
 |_,_::_,[],_,h=>by cases h
 |[],_,_::_,_,_=>rfl
 |_::_,[],_::_,h,_=>by cases h
 |x::G,y::O,z::N,Y,Q=>by
  rw[_H.cq] at Y Q ⊢;by_cases U:x=y
  .subst U
   rw[Bd rfl] at Y;by_cases J:x=z
   .rw[Bd J] at Q ⊢;exact Y3 Y Q
   .rw[Bg J] at Q ⊢;exact Q
  .rw[Bg U] at Y
   have Y:=Bs Y;by_cases J:y=z
   .subst J;rw[Bg U];exact Co Y
   .rw[Bg J] at Q
    have Q:=Bs Q;rw[Bg om]
    exact Co om
theorem oJ:∀ {a b:Aa Ah},_H.lexLt a b=false->a=b\/_H.lexLt b a=true
 |[],[],_=>.inl rfl
 |[],_::_,h=>by cases h
 |_::_,[],_=>.inr rfl
 |x::Y,y::Q,h=>by
  rw[_H.cq] at h ⊢;by_cases e:x=y
  .subst e
   rw[Bd rfl] at h ⊢;rcases oJ h with h|h
   .exact .inl (by rw[h])
   .exact .inr h
  .rw[Bg e] at h
   have h:=Il h;rw[Bg (Gd e)];exact .inr (Co om)
theorem pQ:Ord _H.lexLt:=⟨oI,Y3,oJ⟩
theorem dU {α:Type}{p q:α->Ar}:∀ {l:Aa α},(∀ x∈l,p x=true->q x=true)->(∃ x∈l,q x=true/\p x=false)->l.countP p<l.countP q
 |[],_,⟨x,h,_⟩=>by simp at h
 |a::l,h,⟨x,hx,Y,J⟩=>by
  have G:l.countP p<=l.countP q:=Qu λy Q=>h y (by simp[Q])
  rw[AaR,AaR];rcases Av.mp hx with rfl|hx
  .rw[Bg (by rw[J];decide),Bd Y];fin2
  .have N:=dU (l:=l) (λy Q=>h y (by simp[Q])) ⟨x,hx,Y,J⟩
   have:=h a cy
   cases U:p a with
   |false=>rw[Bg cz];split <;> fin2
   |true=>rw[Bd rfl,Bd (this U)];fin2
section
variable {K:Type}{lt':K->K->Ar}
def pT (lt':K->K->Ar)(ks:Aa K)(x:K):Ah:=(ks.countP (λk=>lt' k x):Ag)
theorem cW (O:Ord lt'){ks:Aa K}{x y:K}(Y:x∈ks):lt' x y=decide (pT lt' ks x<pT lt' ks y):=by
 unfold pT;cases h:lt' x y with
 |true =>
  refine(Co ?_).symm;have:=dU (l:=ks) (p:=λk=>lt' k x) (q:=λk=>lt' k y) (λz _ Q=>O.tr Q h) ⟨x,Y,h,O.irr x⟩;fin2
 |false =>
  refine(Cs ?_).symm;have:ks.countP (λk=>lt' k y)<=ks.countP (λk=>lt' k x):=by
   rcases O.tri h with e|h'
   .rw[e];exact Aw _
   .exact Qu λz _ Q=>O.tr Q h'
  fin2
def rX (lt':K->K->Ar)(ks:Aa K)(d:K)(i j:Ag):Ar:=lt' (ks.getD i d) (ks.getD j d)
def Nf (lt':K->K->Ar)(l:Aa K):Prop:=l.Pairwise λa b=>lt' b a=false
theorem oO (O:Ord lt'):∀ {a b:Aa K},Nf lt' a->Nf lt' b->a.Perm b->a=b
 |[],b,_,_,p=>(List.nil_perm.mp p).symm
 |x::a,b,Y,Q,p=>by
  cases b with
  |nil=>exact absurd p.symm cy
  |cons y b =>
   unfold Nf at Y Q;rw[Do] at Y Q;have e:x=y:=by
    rcases Av.mp (p.mem_iff.mp (.head _)) with e|e
    .exact e
    .rcases Av.mp (p.mem_iff.mpr (.head _)) with e'|e'
     .exact e'.symm
     .have J:=Y.1 y e'
      have U:=Q.1 x e;rcases O.tri J with e|h
      .exact e.symm
      .rw[U] at h;cases h
   subst e;rw[oO O Y.2 Q.2 (List.Perm.cons_inv p)]
theorem YG (O:Ord lt'){l:Aa K}(h:Nf lt' l)(nd:l.Nodup):l.Pairwise λa b=>lt' a b=true:=by
 refine List.Pairwise.imp₂ (λ{a b} Q Y=>?_) h nd;exact(O.tri Q).elim (λe=>absurd e.symm Y) id
noncomputable def wQ (lt':K->K->Ar)(l:Aa K):Aa K:=l.mergeSort λa b=>!lt' b a
theorem v3 (l:Aa K):(wQ lt' l).Perm l:=List.mergeSort_perm _ _
theorem dF (O:Ord lt')(l:Aa K):Nf lt' (wQ lt' l):=by
 have:=List.pairwise_mergeSort (le:=λa b=>!lt' b a) (λa b c J Q=>?_) (λa b=>?_) l
 .exact this.imp λh=>by simpa using h
 .have J:lt' b a=false:=by simpa using J
  have Q:lt' c b=false:=by simpa using Q
  cases Y:lt' c a with
  |false=>rfl
  |true =>
   rcases O.tri J with e|h
   .rw[<- e] at Y;rw[Y] at Q;cases Q
   .have:=O.tr Y h;rw[Q] at this;cases this
 .cases h:lt' b a with
  |false=>rfl
  |true =>
   cases U:lt' a b with
   |false=>rfl
   |true=>have:=O.tr h U;rw[O.irr] at this;cases this
noncomputable def jH (lt':K->K->Ar)(x:K):Aa K->Aa K
 |[]=>[x]
 |y::l=>if lt' x y then x::y::l else if lt' y x then y::jH lt' x l else y::l
def jq (lt':K->K->Ar):Aa K->Aa K
 |[]=>[]
 |x::Q=>jH lt' x (jq lt' Q)
set_option tactic.hygienic true in
theorem mY (O:Ord lt')(x y:K):∀ l:Aa K,y∈jH lt' x l↔y=x\/y∈l
 |[]=>by simp[jH]
 |z::l=>by
  unfold jH
  split
  .simp
  .rename_i Q
   split
   .rw[Av,mY O x y l,Av]
    exact⟨λh=>by rcases h with h|h|h <;> simp[h],λh=>by rcases h with h|h|h <;> simp[h]⟩
   .rename_i Y
    have:x=z:=(O.tri (by simpa using Q)).elim id λh=>absurd h Y
    subst this;simp
set_option tactic.hygienic true in
theorem o6 (O:Ord lt')(x:K):∀ l:Aa K,l.Pairwise (λa b=>lt' a b=true)->(jH lt' x l).Pairwise (λa b=>lt' a b=true)
 |[],_=>by simp[jH]
 |z::l,h=>by
  rw[Do] at h;unfold jH
  split
  .rename_i Q
   refine Do.mpr ⟨λy hy=>?_,Do.mpr h⟩;rcases Av.mp hy with rfl|hy
   .exact Q
   .exact O.tr Q (h.1 y hy)
  .split
   .rename_i Y
    refine Do.mpr ⟨λy hy=>?_,o6 O x l h.2⟩;rcases (mY O x y l).mp hy with rfl|hy
    .exact Y
    .exact h.1 y hy
   .exact Do.mpr h
theorem vY (O:Ord lt')(y:K):∀ l:Aa K,y∈jq lt' l↔y∈l
 |[]=>by simp[jq]
 |x::l=>by rw[jq,mY O,vY O y l,Av]
theorem f7 (O:Ord lt'):∀ l:Aa K,(jq lt' l).Pairwise (λa b=>lt' a b=true)
 |[]=>by simp[jq]
 |x::l=>o6 O x _ (f7 O l)
theorem dI (O:Ord lt'):∀ {a b:Aa K},a.Pairwise (λa b=>lt' a b=true)->b.Pairwise (λa b=>lt' a b=true)->(∀ x,x∈a↔x∈b)->a=b
 |[],[],_,_,_=>rfl
 |[],y::b,_,_,h=>by have:=(h y).mpr cy;simp at this
 |x::a,[],_,_,h=>by have:=(h x).mp cy;simp at this
 |x::a,y::b,U,J,h=>by
  rw[Do] at U J;have Y:∀ {u v},lt' u v=true->lt' v u=true->Fk:=λp q=>by have:=O.tr p q;rw[O.irr] at this;cases this
  have e:x=y:=by
   rcases Av.mp ((h x).mp cy) with e|e
   .exact e
   .rcases Av.mp ((h y).mpr cy) with e'|e'
    .exact e'.symm
    .exact(Y (J.1 x e) (U.1 y e')).elim
  subst e;have G:∀ {z:K} {l:Aa K},(∀ y∈l,lt' x y=true)->z∈l->z≠x:=λh Q e=>by subst e;have:=h _ Q;rw[O.irr] at this;cases this
  rw[dI O U.2 J.2 λz=>⟨λQ=>?_,λQ=>?_⟩]
  .exact(Av.mp ((h z).mp (by simp[Q]))).elim (λe=>absurd e (G U.1 Q)) id
  .exact(Av.mp ((h z).mpr (by simp[Q]))).elim (λe=>absurd e (G J.1 Q)) id
theorem E1 (O:Ord lt'){l xs:Aa K}(h:Nf lt' l)(nd:l.Nodup)(m:∀ x,x∈l↔x∈xs):l=jq lt' xs:=
 dI O (YG O h nd) (f7 O xs) λx=>by rw[m,vY O]
end
theorem MP:typeLookup (.type "set") "__len__" = pure (Ab (.builtin "set.__len__")):=PySem.F.slot_set_len.lookup
section
variable {prog:Bj}{w:Bz}{A:Bw}{E:ab}{s:Ai}{S:Af}{es:Ay (Ah × Ac)}{ep:Ag}{t:Fw}
theorem J7 (hT:s.TypeIs (.ref r) "set"){Q:Ar->Ai->Prop}(h:Q false s):Aq (Ax prog w) A (Ss (.ref r)) Q E s:=by
 unfold Ss;refine Ad (Oc hT MP ?_);generalize J:("set.__len__" : Et)=id0
 wp_delta
 rw[show splitId id0=Ab ("set","__len__") from by subst J;decide +kernel]
 subst J;refine Ad (Qr (T:="set") (b:=true) hT (by rw[Yc];kernel_rfl) ?_)
 refine Wx (λY=>absurd Y cz) (λ_=>?_)
 refine Wx (λ_=>?_) (λY=>absurd (by decide +kernel) Y)
 exact Ad (Mx hT (Am h))
theorem i3 {Q:Aa Ac->Ai->Prop}(hh:A.handled=none)(Z:lx w S es ep t)(d:s.heap.get? S=Ab (kn es ep t))(hn:es.size<=1000)
  (h:∀ h' tk,(∀ b o,s.heap.get? b=Ab o->h'.get? b=Ab o)->s.heap.objs.size<h'.objs.size->Q ((qP w S ep es).toList.map (·.2)) { s with heap:=h',toks:=tk }) : Aq (Ax prog w) A (collect (.ref S)) Q E s:=by
 have T:S<s.heap.objs.size:=Ba d;unfold collect;refine Ad (wpAny_runValue (Lw PySem.F.entry_proto_collect ?_));rw[Kn PySem.F.plain_proto_collect _];show Aq _ A.in1 (newList [] >>= λl=>again (.builtin "list.__iadd__" ⟨[l,.ref S],[]⟩)) _ _ s;refine Ad (Er (Am ⟨Ug Vy _,Lw PySem.F.entry_list_iadd ?_⟩));rw[Kn Vy _];have hD:(s.heap.push { cls:=.type "list",data:=.seq ([] : Aa Ac).toArray }).get? s.heap.objs.size=Ab { cls:=.type "list",data:=.seq #[] }:=Bb _ rfl;have J:(s.heap.push { cls:=.type "list",data:=.seq ([] : Aa Ac).toArray }).get? S=Ab (kn es ep t):=Aj _ d;show Aq _ A.in1 (Su (.ref s.heap.objs.size) (.ref S) (.ref s.heap.objs.size)) _ _ _;unfold Su;have z:Zi { s with heap:=s.heap.push { cls:=.type "list",data:=.seq ([] : Aa Ac).toArray } } (.ref S) "set":=⟨_,J,rfl⟩
 refine Ad (Mx z ?_);have h1:Uy (.ref s.heap.objs.size) (.ref S)=false:=by simp[Uy];exact Gy T
 rw[Bg (by rw[h1];decide)]
 refine Ad (JE (s:={ s with heap:=s.heap.push { cls:=.type "list",data:=.seq ([] : Aa Ac).toArray } }) Z J ?_)
 have B:=Aj (u_ 0 0 S es.size ep) hD;have k:Zi { s with heap:=(s.heap.push { cls:=.type "list",data:=.seq ([] : Aa Ac).toArray }).push (u_ 0 0 S es.size ep) } (.ref S) "set":=⟨_,Aj _ J,rfl⟩
 refine Ad (Fn (J7 k ?_));refine Wx (λ_=>?_) (λg=>absurd cz g)
 refine Ad (Gu (Ad ?_));show Aq _ _ (updateSeq s.heap.objs.size (·.push .none) >>= λ_=>updateSeq s.heap.objs.size (·.pop)) _ _ _
 refine Ad (wpAny_updateSeq B rfl ?_);have O:=Gi (Fd (·.push Dr)) B rfl
 refine wpAny_updateSeq (hz:=by seq_fits) O rfl ?_
 have u:=Gi (Fd (·.pop)) O rfl
 have L:(s.heap.push { cls:=.type "list",data:=.seq ([] : Aa Ac).toArray }).objs.size=s.heap.objs.size+1:=Ee ..;have U:∀ {b:Af} {o:Cp},b≠s.heap.objs.size->((s.heap.push { cls:=.type "list",data:=.seq ([] : Aa Ac).toArray }).push (u_ 0 0 S es.size ep)).get? b=Ab o ->
   ((((s.heap.push { cls:=.type "list",data:=.seq ([] : Aa Ac).toArray }).push (u_ 0 0 S es.size ep)).update s.heap.objs.size (Fd (·.push Dr))).update s.heap.objs.size (Fd (·.pop))).get? b=Ab o:=
  λG e=>(Dk _ _ (Gd G)).trans ((Dk _ _ (Gd G)).trans e)
 have y:=BS (w:=w) (s:={ s with heap:=s.heap.push { cls:=.type "list",data:=.seq ([] : Aa Ac).toArray } }) Z J
 refine Am ⟨Ug PySem.F.plain_extend_loop _,?_⟩;refine codeAny_extend_loopS ((L6 (prog:=prog) (A:=A.in1) (I:=(s.heap.push { cls:=.type "list",data:=.seq ([] : Aa Ac).toArray }).objs.size) hh (by rw[L];exact Ch (Pv T)) Z).toS) (by rw[Fy];lia) s.heap.objs.size ?_ _ es.size 0 _ #[] _ rfl (Ho _) ?_ u (ItemsOf.nil _) λv M c H N Y=>?_
 .rw[L]
  simp only[Av,Ds,Ik,Xj];exact⟨Ch (Ib _),Gy T⟩
 .obtain⟨slot,f,a2,a3⟩:=y
  exact⟨slot,U (by rw[L];exact Gy (Ib _)) f,U (Ch T) a2,a3⟩
 .show Aq _ A (load s.heap.objs.size >>= _) _ _ v
  refine Ad (wpAny_load N ?_);obtain⟨h',g',d',j,p⟩:=v;have x:g'=s.gens:=H.gens;have a:d'=s.drawn:=H.drawn;have r:p=s.os:=H.os;subst x;subst a;subst r;have e:M.toList=(qP w S ep es).toList.map (·.2):=by
   refine AaB λi=>?_;rw[Br,Dp,Br];by_cases hi:i<es.size
   .have C:i<M.size:=by rw[Y.1];exact hi
    obtain⟨e,he,q⟩:=Y.2 i M[i] (Ed C);rw[Ed C,he,Ww,q]
   .rw[Wy (by rw[Y.1];lia),Wy (by rw[uW];lia)]
    rfl
  refine Am ?_;show Q M.toList _;rw[e];refine h h' j (λb o q=>?_) (Ba N);have G:b<s.heap.objs.size:=Ba q;refine H.heap b o (λhx=>?_) (U (Ch G) (Aj _ (Aj _ q)));simp only[Av,Ds,Ik] at hx;rcases hx with hx|hx
  .exact absurd G (by rw[hx];exact Eg _)
  .exact absurd G (by rw[hx,L];exact Qb.mpr (Tk _))
end
def lQ:Ar->Bm->Ay Bm->Ag->Ag->Ag->Ni Fp Kt (Al Ag):=sortPriv% PySem.Builtin.gallop
def JV:Ay Bm->Ay Bm->Ni Fp Kt (Ay Bm):=sortPriv% PySem.Builtin.mergeLo
def JU:Ay Bm->Ay Bm->Ni Fp Kt (Ay Bm):=sortPriv% PySem.Builtin.mergeHi
def nv:Bm:=(Dr,Dr)
section
variable {M:Pq}{A:Bw}{E:ab}{s:Ai}{κ: Of}{U:Bm->Prop}{r:Bm->Ah}
structure Cm (M:Pq)(A:Bw)(s:Ai)(κ : Of)(U:Bm->Prop)(r:Bm->Ah):Prop where
 lt:∀ {x y:Bm},U x->U y->∀ {E:ab} {Q:Al Ar->Fp->Prop} {st:Fp},kindOf st=κ->Q (Ab (decide (r x<r y))) st->wpS M A E s (lt' x y) Q st
theorem zD {i:Ag}{Q:Bm->Fp->Prop}{st:Fp}(h:i<ax.size)(q:Q (ax.getD i nv) st):wpS M A E s (elem' ax i) Q st:=by
 rw[elem'_eq,getElem?_pos ax i h];have e:ax.getD i nv=ax[i]:=by simp[Gw,h]
 rw[e] at q;exact Bu q
theorem XQ (C:Cm M A s κ U r){left:Ar}{Y:Bm}{ax:Ay Bm}{i:Ag}{Q:Al Ar->Fp->Prop}{st:Fp}(N:kindOf st=κ)(hi:i<ax.size)(G:U (ax.getD i nv))(J:U Y)
  (q:Q (Ab (if left then decide (r (ax.getD i nv)<r Y) else !decide (r Y<r (ax.getD i nv)))) st) :
  wpS M A E s (do let x <- elem' ax i;if left then lt' x Y else (do let a <- lt' Y x;pure (a.map (λb=>!b)))) Q st:=by
 refine Bf (zD hi ?_);cases left with
 |true=>exact C.lt G J N q
 |false=>exact Bf (C.lt J G N (Bu q))
theorem l9 (C:Cm M A s κ U r){left:Ar}{N:Bm}{ax:Ay Bm}{base n Y G:Ag}{Q:Al Ag->Fp->Prop}{st:Fp}(hk:kindOf st=κ)(t:Y<n)(hb:base+n<=ax.size)(l:∀ i,i<n->U (ax.getD (base+i) nv))(w:U N)(hc:G<=n)
  (k:∀ i,i<n->(if left then decide (r (ax.getD (base+i) nv)<r N) else !decide (r N<r (ax.getD (base+i) nv)))=decide (i<G)) (h:Q (Ab G) st):wpS M A E s (lQ left N ax base n Y) Q st:=by
 have B:∀ {i:Ag} {E:ab} {Q:Al Ar->Fp->Prop},i<n->Q (Ab (decide (i<G))) st->wpS M A E s (do let x <- elem' ax (base+i);if left then lt' x N else (do let a <- lt' N x;pure (a.map (λb=>!b)))) Q st:=by
  intro i E Q hi q;exact XQ C hk ca (l i hi) w (by rw[k i hi];exact q)
 have zr:∀ {lo hi:Ag} {f:Ag->Al (Al Ag) × Ag × Ag->Ni Fp Kt (ForInStep (Al (Al Ag) × Ag × Ag))},lo<=G->G<=hi->hi<=n ->
   (∀ x a b,f x (none,a,b)=if a>=b then pure (.done (none,a,b)) else ((do let x <- elem' ax (base+(a+(b-a)/2));if left then lt' x N else (do let a <- lt' N x;pure (a.map (λb=>!b)))) >>= λo=>match o with
    |some H=>if H then pure (.yield (none,a+(b-a)/2+1,b)) else pure (.yield (none,a,a+(b-a)/2))
    |_=>pure (.done (Ab none,a,b))))->wpS M A E s (forIn [0:n] (none,lo,hi) f) (λc J=>J=st/\∃ a,c=(none,a,G)) st:=by
  intro lo hi f u e h3 p;refine Ft (I:=λx c J=>J=st/\∃ a b,c=(none,a,b)/\a<=G/\G<=b/\b<=n/\b+x<=n+a) ?_ ?_ ⟨rfl,lo,hi,rfl,u,e,h3,by lia⟩
  .rintro x c J _ y ⟨rfl,a,b,rfl,O,L,T,d⟩
   rw[p];by_cases g:a>=b
   .rw[Bd g];exact Bu ⟨rfl,a,by rw[show b=G by lia]⟩
   .rw[Bg g]
    have v:a<=a+(b-a)/2/\a+(b-a)/2<b:=by lia
    generalize a+(b-a)/2=m at v;refine Bf (B ca ?_)
    by_cases z:m<G
    .simp only[z,Ju,Dq]
     exact Bu ⟨rfl,_,_,rfl,by lia,L,T,by lia⟩
    .simp only[z,Jy,Bp,Dv]
     exact Bu ⟨rfl,_,_,rfl,O,by lia,by lia,by lia⟩
  .rintro c J ⟨rfl,a,b,rfl,O,L,T,d⟩
   exact⟨rfl,a,by rw[show b=G by lia]⟩
 refine Bf (B t ?_);dsimp only;by_cases j:Y<G
 .simp only[j,Ju,Dq]
  refine Bf (Hv (Ft (I:=λx c J=>J=st/\∃ a b,c=(none,a,b)/\Y+a<G/\a<b/\x<b)
   (Q:=λc J=>J=st/\∃ a b,c=(none,a,b)/\Y+a<G/\G<=Y+min b (n-Y)) ?_ ?_ ⟨rfl,0,1,rfl,j,by lia,by lia⟩) ?_)
  .rintro x c J _ y ⟨rfl,a,b,rfl,O,L,T⟩
   dsimp only;by_cases g:b>=n-Y
   .rw[Bd g];exact Bu ⟨rfl,a,b,rfl,O,by lia⟩
   .rw[Bg g]
    refine Bf (B ca ?_)
    by_cases z:Y+b<G
    .simp only[z,Ju,Jh,Bp,Dv]
     exact Bu ⟨rfl,_,_,rfl,z,by lia,by lia⟩
    .simp only[z,Jy,Sr,Dq]
     exact Bu ⟨rfl,a,b,rfl,O,by lia⟩
  .rintro c J ⟨rfl,a,b,rfl,O,L,T⟩
   exact⟨rfl,a,b,rfl,O,by lia⟩
  .rintro c J ⟨rfl,a,b,rfl,O,L⟩
   dsimp only;refine Bf (Hv (zr (lo:=Y+a+1) (hi:=Y+min b (n-Y)) ca L ca λ_ _ _=>rfl) ?_)
   rintro c J ⟨rfl,a',rfl⟩;exact Bu h
 .simp only[j,Jy,Bp,Dv]
  refine Bf (Hv (Ft (I:=λx c J=>J=st/\∃ a b,c=(none,a,b)/\G+a<=Y/\a<b/\x<b)
   (Q:=λc J=>J=st/\∃ a b,c=(none,a,b)/\G+a<=Y/\Y+1<=G+min b (Y+1)) ?_ ?_ ⟨rfl,0,1,rfl,by lia,by lia,by lia⟩) ?_)
  .rintro x c J _ y ⟨rfl,a,b,rfl,O,L,T⟩
   dsimp only;by_cases g:b>=Y+1
   .rw[Bd g];exact Bu ⟨rfl,a,b,rfl,O,by lia⟩
   .rw[Bg g]
    refine Bf (B ca ?_)
    by_cases z:Y-b<G
    .simp only[z,Ju,Dq]
     exact Bu ⟨rfl,a,b,rfl,O,by lia⟩
    .simp only[z,Jy,Bp,Dv]
     exact Bu ⟨rfl,_,_,rfl,by lia,by lia,by lia⟩
  .rintro c J ⟨rfl,a,b,rfl,O,L,T⟩
   exact⟨rfl,a,b,rfl,O,by lia⟩
  .rintro c J ⟨rfl,a,b,rfl,O,L⟩
   dsimp only;refine Bf (Hv (zr (lo:=Y+1-min b (Y+1)) (hi:=Y-a) ca ca ca λ_ _ _=>rfl) ?_)
   rintro c J ⟨rfl,a',rfl⟩;exact Bu h
end
def Le (r:Bm->Ah)(x y:Bm):Prop:=r x<=r y
structure Mg (r:Bm->Ah)(o A B T:Aa Bm):Prop where
 p1:(o++A).Pairwise (Le r)
 p2:(o++B).Pairwise (Le r)
 pm:(o++A++B).Perm T
structure Mh (r:Bm->Ah)(A B o T:Aa Bm):Prop where
 p1:(A++o).Pairwise (Le r)
 p2:(B++o).Pairwise (Le r)
 pm:(A++B++o).Perm T
section
variable {r:Bm->Ah}{o A B A1 A2 B1 B2 T:Aa Bm}
theorem Mg.b (h:Mg r o A (B1++B2) T)(l:∀ x∈B1,∀ y∈A,Le r x y):Mg r (o++B1) A B2 T:=by
 obtain⟨Q,Y,U⟩:=h;refine⟨?_,by rw[Cy];exact Y,?_⟩
 .rw[Cy]
  rw[DL] at Q Y ⊢;refine⟨Q.1,?_,λx J y hy=>?_⟩
  .rw[DL]
   exact⟨(DL.mp Y.2.1).1,Q.2.1,l⟩
  .rcases Cc.mp hy with hy|hy
   .exact Y.2.2 x J y (Du _ hy)
   .exact Q.2.2 x J y hy
 .refine Rw ?_ U
  simp only[Cy];refine Ic _ ?_;simp only[<- Cy];exact Lx _ Ml
theorem Mg.a (h:Mg r o (A1++A2) B T)(l:∀ x∈A1,∀ y∈B,Le r x y):Mg r (o++A1) A2 B T:=by
 obtain⟨Q,Y,U⟩:=h;refine⟨by rw[Cy];exact Q,?_,by simpa only [Cy] using U⟩
 rw[Cy];rw[DL] at Q Y ⊢;refine⟨Y.1,?_,λx J y hy=>?_⟩
 .rw[DL]
  exact⟨(DL.mp Q.2.1).1,Y.2.1,l⟩
 .rcases Cc.mp hy with hy|hy
  .exact Q.2.2 x J y (Du _ hy)
  .exact Y.2.2 x J y hy
theorem Mh.a (h:Mh r (A1++A2) B o T)(l:∀ x∈B,∀ y∈A2,Le r x y):Mh r A1 B (A2++o) T:=by
 obtain⟨Q,Y,U⟩:=h;refine⟨by rw[<- Cy];exact Q,?_,?_⟩
 .rw[Cy] at Q
  rw[DL] at Q Y ⊢;refine⟨Y.1,Q.2.1,λx J y hy=>?_⟩;rcases Cc.mp hy with hy|hy
  .exact l x J y hy
  .exact Y.2.2 x J y hy
 .refine Rw ?_ U
  simp only[Cy];refine Ic _ ?_;simp only[<- Cy];exact Lx _ Ml
theorem Mh.b (h:Mh r A (B1++B2) o T)(l:∀ x∈A,∀ y∈B2,Le r x y):Mh r A B1 (B2++o) T:=by
 obtain⟨Y,Q,U⟩:=h;refine⟨?_,by rw[<- Cy];exact Q,by simpa only [Cy] using U⟩
 rw[Cy] at Q;rw[DL] at Y Q ⊢;refine⟨Y.1,Q.2.1,λx J y hy=>?_⟩;rcases Cc.mp hy with hy|hy
 .exact l x J y hy
 .exact Y.2.2 x J y hy
end
structure Mo (r:Bm->Ah)(T:Aa Bm)(m:Ay Bm):Prop where
 pm:m.toList.Perm T
 up:m.toList.Pairwise (Le r)
abbrev aE (st:Fp)(g:Ag):Fp:=Dg (kindOf st) (arrOf st) (pendingOf st) g (failedOf st)
theorem lI {a:Ay Bm}{i:Ag}(h:i<a.size):a.toList.drop i=a.getD i nv::a.toList.drop (i+1):=by
 rw[Fz (by simpa using h)]
 congr 1
 simp[Gw,h]
theorem zQ {a:Ay Bm}{i:Ag}(h:i<a.size):a.getD i nv∈a.toList:=by
 have e:a.getD i nv=a[i]:=by simp[Gw,h]
 rw[e];exact Array.getElem_mem_toList h
theorem yE {r:Bm->Ah}{a:Ay Bm}(s:a.toList.Pairwise (Le r)){i j:Ag}(h:i<=j)(Q:j<a.size):r (a.getD i nv)<=r (a.getD j nv):=by
 rcases Ep i j with l|l
 .have e:=Kk.mp s i j (by simpa using Iw l Q) (by simpa using Q) l
  have Y:i<a.size:=Iw l Q;simpa [Gw,Y,Q,Le] using e
 .rw[Wz h l];exact Ja _
theorem pJ {a:Ay Bm}{x:Bm}(h:x∈a.toList.drop i):∃ j,i<=j/\j<a.size/\x=a.getD j nv:=by
 obtain⟨k,Y,e⟩:=Cq.mp h;rw[Ue] at e;have Q:k<a.size-i:=by simpa using Y
 refine⟨i+k,by lia,by lia,?_⟩
 have:i+k<a.size:=by lia
 simp[Gw,this,<- e]
theorem pL {a:Ay Bm}{x:Bm}(h:x∈a.toList.take n):∃ j,j<n/\j<a.size/\x=a.getD j nv:=by
 obtain⟨k,Y,e⟩:=Cq.mp h;rw[Ud] at e;have Q:k<n/\k<a.size:=by rw[Fl,Bq] at Y;lia
 refine⟨k,Q.1,Q.2,?_⟩;simp[Gw,Q.2,<- e]
theorem mT {a:Ay Bm}{i k:Ag}:(a.extract i (i+k)).toList++a.toList.drop (i+k)=a.toList.drop i:=by
 rw[Ko,Ie,Gn,<- List.drop_drop];exact Qv _ _
theorem fH {a:Ay Bm}:(a.extract i a.size).toList=a.toList.drop i:=by
 rw[Ko,Ie];exact Hw cy
theorem gK {a:Ay Bm}{i k:Ag}{x:Bm}(h:x∈(a.extract i (i+k)).toList):∃ j,i<=j/\j<i+k/\j<a.size/\x=a.getD j nv:=by
 rw[Ko,Ie,Gn] at h;obtain⟨m,Y,e⟩:=Cq.mp h;rw[Ud,Ue] at e;have Q:m<k/\i+m<a.size:=by rw[Fl,Nd,Bq] at Y;lia
 refine⟨i+m,by lia,by lia,Q.2,?_⟩
 simp[Gw,Q.2,<- e]
def GL (r:Bm->Ah)(a b o:Ay Bm)(i j:Ag):Prop:=Mg r o.toList (a.toList.drop i) (b.toList.drop j) (a.toList++b.toList)
section
variable {r:Bm->Ah}{a b o:Ay Bm}{i j k:Ag}
theorem GL.pb (N:a.toList.Pairwise (Le r))(h:GL r a b o i j)(G:j<b.size)(l:i<a.size->r (b.getD j nv)<=r (a.getD i nv)):GL r a b (o.push (b.getD j nv)) i (j+1):=by
 have Y:Mg r o.toList (a.toList.drop i) ([b.getD j nv]++b.toList.drop (j+1)) (a.toList++b.toList):=by rw[Xo,<- lI G];exact h
 have:=Y.b λx Q y J=>by
  cases Dn.mp Q;obtain⟨m,U,O,rfl⟩:=pJ J;exact Ey (l ca) (yE N U O)
 unfold GL;rw[Ej];exact this
theorem GL.pa (N:b.toList.Pairwise (Le r))(h:GL r a b o i j)(hi:i<a.size)(l:j<b.size->r (a.getD i nv)<=r (b.getD j nv)):GL r a b (o.push (a.getD i nv)) (i+1) j:=by
 have Q:Mg r o.toList ([a.getD i nv]++a.toList.drop (i+1)) (b.toList.drop j) (a.toList++b.toList):=by rw[Xo,<- lI hi];exact h
 have:=Q.a λx U y Y=>by
  cases Dn.mp U;obtain⟨m,J,G,rfl⟩:=pJ Y;exact Ey (l ca) (yE N J G)
 unfold GL;rw[Ej];exact this
theorem GL.ea (N:b.toList.Pairwise (Le r))(h:GL r a b o i j)(L:j<b.size)(l:∀ m,m<k->r (a.getD (i+m) nv)<=r (b.getD j nv)):GL r a b (o++a.extract i (i+k)) (i+k) j:=by
 have Y:Mg r o.toList ((a.extract i (i+k)).toList++a.toList.drop (i+k)) (b.toList.drop j) (a.toList++b.toList):=by rw[mT];exact h
 have:=Y.a λx Q y J=>by
  obtain⟨m,C,T,O,rfl⟩:=gK Q;obtain⟨B,U,G,rfl⟩:=pJ J;have:=l (m-i) ca
  rw[show i+(m-i)=m by lia] at this
  exact Ey this (yE N U G)
 unfold GL;rw[Dt];exact this
theorem GL.eb (N:a.toList.Pairwise (Le r))(h:GL r a b o i j)(hi:i<a.size)(l:∀ m,m<k->r (b.getD (j+m) nv)<=r (a.getD i nv)):GL r a b (o++b.extract j (j+k)) i (j+k):=by
 have Q:Mg r o.toList (a.toList.drop i) ((b.extract j (j+k)).toList++b.toList.drop (j+k)) (a.toList++b.toList):=by rw[mT];exact h
 have:=Q.b λx G y Y=>by
  obtain⟨m,C,L,O,rfl⟩:=gK G;obtain⟨B,J,U,rfl⟩:=pJ Y;have:=l (m-j) ca
  rw[show j+(m-j)=m by lia] at this
  exact Ey this (yE N J U)
 unfold GL;rw[Dt];exact this
theorem GL.fin (h:GL r a b o i j)(e:i=a.size\/j=b.size):Mo r (a.toList++b.toList) (o++a.extract i a.size++b.extract j b.size):=by
 refine⟨?_,?_⟩ <;> rw[Dt,Dt,fH,fH]
 .exact h.pm
 .rcases e with rfl|rfl
  .rw[Qe cy,Gm];exact h.p2
  .rw[Qe (l:=b.toList) cy,Gm];exact h.p1
theorem GL.last (h:GL r a b o i j)(e:i+1=a.size)(l:∀ x∈b.toList,Le r x (a.getD (a.size-1) nv)):Mo r (a.toList++b.toList) (o++b.extract j b.size++a.extract i a.size):=by
 have U:i<a.size:=by lia
 have J:a.toList.drop i=[a.getD i nv]:=by rw[lI U,Qe (by simp;lia)]
 refine⟨?_,?_⟩ <;> rw[Dt,Dt,fH,fH]
 .refine Rw ?_ h.pm
  rw[Cy,Cy];exact Ic _ Ml
 .have Q:=h.p1
  rw[J] at Q ⊢;rw[DL] at Q ⊢;refine⟨h.p2,Vz _ _,λx hx y Y=>?_⟩;rcases Cc.mp hx with hx|hx
  .exact Q.2.2 x hx y Y
  .cases Dn.mp Y
   have:=l x (Yi hx);rw[show a.size-1=i by lia] at this
   exact this
end
theorem eM {p:Ag->Ar}:∀ (n:Ag),(∀ i j,i<=j->j<n->p j=true->p i=true)->∃ c,c<=n/\∀ i,i<n->p i=decide (i<c)
 |0,_=>⟨0,Aw _,λi h=>by lia⟩
 |n+1,h=>by
  obtain⟨c,Y,e⟩:=eM n λi j a b=>h i j a ca
  by_cases q:p n=true
  .refine⟨n+1,Aw _,λi Q=>?_⟩
   rw[h i n ca ca q]
   simp[Q]
  .refine⟨c,by lia,λi Q=>?_⟩
   rcases Ep i n with l|l
   .exact e i l
   .have:i=n:=by lia
    subst this;have:¬ i<c:=by lia
    simp[this,q]
section
variable {M:Pq}{A:Bw}{E:ab}{s:Ai}{κ: Of}{U:Bm->Prop}{r:Bm->Ah}
theorem qO {σ α:Type}{c:Prop}[Io c]{x y:Ni σ Kt α}{Q:α->σ->Prop}{st:σ}(h1:c->wpS M A E s x Q st)(h2:¬ c->wpS M A E s y Q st):wpS M A E s (if c then x else y) Q st:=by
 by_cases h:c
 .rw[Bd h];exact h1 h
 .rw[Bg h];exact h2 h
theorem J0 (C:Cm M A s κ U r){Y:Bm}{ax:Ay Bm}{base n J:Ag}{Q:Al Ag->Fp->Prop}{st:Fp}(H:kindOf st=κ)(I:J<n)(B:base+n<=ax.size)(L:∀ i,i<n->U (ax.getD (base+i) nv))(N:U Y)
  (w:∀ i j,i<=j->j<n->r (ax.getD (base+i) nv)<=r (ax.getD (base+j) nv)) (h:∀ c,c<=n->(∀ i,i<c->r (ax.getD (base+i) nv)<=r Y)->(∀ i,c<=i->i<n->r Y<r (ax.getD (base+i) nv))->Q (Ab c) st):wpS M A E s (lQ false Y ax base n J) Q st:=by
 obtain⟨c,O,e⟩:=eM (p:=λi=>!decide (r Y<r (ax.getD (base+i) nv))) n λi j a b q=>by
  have:=w i j a b;simp only[Uh,IN] at q ⊢
  lia
 refine l9 C H I B L N O (λi G=>by simpa using e i G) (h c O (λi G=>?_) λi G T=>?_)
 .have:=e i ca
  simp only[G,Ju,Uh,IN] at this
  lia
 .have:=e i T
  simp only[show ¬ i<c by lia,Jy,Bool.not_eq_false',Bi] at this
  exact this
theorem J2 (C:Cm M A s κ U r){Y:Bm}{ax:Ay Bm}{base n J:Ag}{Q:Al Ag->Fp->Prop}{st:Fp}(H:kindOf st=κ)(I:J<n)(B:base+n<=ax.size)(L:∀ i,i<n->U (ax.getD (base+i) nv))(N:U Y)
  (w:∀ i j,i<=j->j<n->r (ax.getD (base+i) nv)<=r (ax.getD (base+j) nv)) (h:∀ c,c<=n->(∀ i,i<c->r (ax.getD (base+i) nv)<r Y)->(∀ i,c<=i->i<n->r Y<=r (ax.getD (base+i) nv))->Q (Ab c) st):wpS M A E s (lQ true Y ax base n J) Q st:=by
 obtain⟨c,O,e⟩:=eM (p:=λi=>decide (r (ax.getD (base+i) nv)<r Y)) n λi j a b q=>by
  have:=w i j a b;simp only[Bi] at q ⊢
  lia
 refine l9 C H I B L N O (λi G=>by simpa using e i G) (h c O (λi G=>?_) λi G T=>?_)
 .have:=e i ca
  simp only[G,Ju,Bi] at this;exact this
 .have:=e i T
  simp only[show ¬ i<c by lia,Jy,IN] at this
  lia
end
section
variable {M:Pq}{A:Bw}{E:ab}{s:Ai}{σ α γ δ:Type}{Q:α->σ->Prop}{st:σ}{c c' c2:Prop}[Io c][Io c'][Io c2]
theorem QH {K:γ->Ni σ Kt α}(h:∀ z,wpS M A E s (K z) Q st):wpS M A E s (if c then K x else K y) Q st:=qO (λ_=>h x) λ_=>h y
theorem VL {K:γ->δ->Ni σ Kt α}(P:γ->δ->Prop)(hK:∀ z w,P z w->wpS M A E s (K z w) Q st)(h1:c->c'->wpS M A E s u Q st)(h2:c->¬ c'->P x w)(h3:¬ c->P y v):wpS M A E s (if c then (if c' then u else K x w) else K y v) Q st:=qO (λe=>qO (h1 e) λY=>hK _ _ (h2 e Y)) λe=>hK _ _ (h3 e)
theorem VM {K:γ->δ->Ni σ Kt α}(P:γ->δ->Prop)(hK:∀ z w,P z w->wpS M A E s (K z w) Q st)(h1:c->c'->wpS M A E s u Q st)(h1':c->¬ c'->c2->wpS M A E s J Q st)(h2:c->¬ c'->¬ c2->P x w)(h3:¬ c->P y v):wpS M A E s (if c then (if c' then u else if c2 then J else K x w) else K y v) Q st:=qO (λe=>qO (h1 e) λY=>qO (h1' e Y) λU=>hK _ _ (h2 e Y U)) λe=>hK _ _ (h3 e)
end
inductive MI {ρ γ:Type}(f:Ay Bm->Ag->Ag->ρ->γ)(P:Ay Bm->Ag->Ag->Prop)(st:Fp)(c:Al (Ay Bm) × γ)(st':Fp):Prop
 |mk (g:Ag) (o:Ay Bm) (i j:Ag) (q:ρ) (hs:st'=aE st g) (hc:c=(none,f o i j q)) (h:P o i j):MI f P st c st'
inductive MQ {ρ γ:Type}(f:Ay Bm->Ag->Ag->ρ->γ)(F:Ay Bm->Prop)(P:Ay Bm->Ag->Ag->Prop)(st:Fp)(c:Al (Ay Bm) × γ)(st':Fp):Prop
 |fin (g:Ag) (m:Ay Bm) (hs:st'=aE st g) (hc:c.1=Ab m) (hm:F m):MQ f F P st c st'
 |on (g:Ag) (o:Ay Bm) (i j:Ag) (q:ρ) (hs:st'=aE st g) (hc:c=(none,f o i j q)) (h:P o i j):MQ f F P st c st'
structure ML (r:Bm->Ah)(a b:Ay Bm)(Z:Ag->Ag->Prop)(o:Ay Bm)(i j:Ag):Prop where
 G:GL r a b o i j
 hi:i+1<a.size
 hj:j<b.size
 z:Z i j
section
variable {prog:Bj}{w:Bz}{A:Bw}{E:ab}{s:Ai}{κ: Of}{U:Bm->Prop}{r:Bm->Ah}
theorem iI (C:Cm (Ax prog w) A s κ U r){a b:Ay Bm}{Q:Ay Bm->Fp->Prop}{st:Fp}(hk:kindOf st=κ)(ua:∀ x∈a.toList,U x)(ub:∀ x∈b.toList,U x)(sa:a.toList.Pairwise (Le r))(sb:b.toList.Pairwise (Le r))
  (h:∀ m g,Mo r (a.toList++b.toList) m->Q m (aE st g)) (ha:0<a.size) (hb:0<b.size) (h0:r (b.getD 0 nv)<=r (a.getD 0 nv)) (h1:∀ x∈b.toList,Le r x (a.getD (a.size-1) nv)):wpS (Ax prog w) A E s (JV a b) Q st:=by
 have G0:GL r a b #[] 0 0:=⟨by simpa using sa,by simpa using sb,by simp⟩
 have G1:=G0.pb sa hb λ_=>h0;refine Bf (Tq (Gu ⟨rfl,?_⟩));refine Bf (zD hb ?_);dsimp only;refine qO (λe=>Bu (h _ (WF st) (G1.fin (.inr (by simpa using e))))) λe1=>?_
 refine qO (λe=>Bu (h _ (WF st) (G1.last (by simpa using e) h1))) λe2=>?_
 have e1:1<b.size:=by
  have:¬ 1=b.size:=by simpa using e1
  lia
 have e2:0+1<a.size:=by
  have:¬ 0+1=a.size:=by simpa using e2
  lia
 refine Bf (Pj ?_);refine Bf (Hv (Ft (I:=λx=>MI (λo i j q=>(o,i,j,q)) (ML r a b λi j=>x<i+j) st)
  (Q:=MQ (λo i j q=>(o,i,j,q)) (Mo r (a.toList++b.toList)) (λ_ _ _=>Fk) st) ?_ ?_ ⟨WF st,_,0,1,_,rfl,rfl,G1,e2,e1,by lia⟩) ?_)
 .rintro x c B _ hx ⟨g,o,i,j,mg,rfl,rfl,G,N,Y,hp⟩
  dsimp only;refine Bf (Hv (Ft (I:=λy=>MI (λo i j q=>(o,i,j,q)) (ML r a b λJ O=>i+j+y<=J+O) st)
   (Q:=MQ (λo i j q=>(o,i,j,q)) (Mo r (a.toList++b.toList)) (ML r a b λJ O=>x+1<J+O) st) ?_ ?_ ⟨g,o,i,j,(0,0),rfl,rfl,G,N,Y,by lia⟩) ?_)
  .rintro y c B _ hy ⟨g,o,J,O,⟨p,q⟩,rfl,rfl,G,N,Y,H⟩
   dsimp only;refine Bf (zD Y (Bf (zD (i:=J) ca (Bf (C.lt (ub _ (zQ Y)) (ua _ (zQ (i:=J) ca)) hk ?_)))))
   dsimp only;refine qO (λl=>?_) λl=>?_
   .have l:r (b.getD O nv)<r (a.getD J nv):=by simpa using l
    have G2:=G.pb sa Y λ_=>Go l;refine Bf (zD Y ?_);refine qO (λe=>?_) λe=>?_
    .exact Bu (.fin _ _ rfl rfl (G2.fin (.inr (by simpa using e))))
    .have e:¬ O+1=b.size:=by simpa using e
     refine qO (λ_=>?_) λ_=>?_
     .exact Bu (.on _ _ _ _ (_,_) rfl rfl ⟨G2,N,by lia,by lia⟩)
     .exact Bu ⟨_,_,_,_,(_,_),rfl,rfl,G2,N,by lia,by lia⟩
   .have l:¬ r (b.getD O nv)<r (a.getD J nv):=by simpa using l
    have G2:=G.pa sb ca λ_=>Nt.mp l
    refine Bf (zD (i:=J) ca ?_)
    refine qO (λe=>?_) λe=>?_
    .exact Bu (.fin _ _ rfl rfl (G2.last (by simpa using e) h1))
    .have e:¬ J+1+1=a.size:=by simpa using e
     refine qO (λ_=>?_) λ_=>?_
     .exact Bu (.on _ _ _ _ (_,_) rfl rfl ⟨G2,by lia,Y,by lia⟩)
     .exact Bu ⟨_,_,_,_,(_,_),rfl,rfl,G2,by lia,Y,by lia⟩
  .rintro c B ⟨g,o,J,O,q,rfl,rfl,G,N,Y,H⟩
   exact .on g _ _ _ _ rfl rfl ⟨G,N,Y,by lia⟩
  .rintro c B (⟨g,m,rfl,d,hm⟩|⟨g,o,J,O,⟨p,q⟩,rfl,rfl,G,N,Y,H⟩)
   .obtain⟨c0,c1⟩:=c
    cases d;exact Bu (.fin _ m rfl rfl hm)
   dsimp only;refine Bf (Tq (Gu ⟨rfl,?_⟩));refine Bf (Hv (Ft (I:=λy=>MI (λo i j q=>(o,i,j,q)) (ML r a b λJ O=>x+1<J+O) st)
    (Q:=MQ (λo i j q=>(o,i,j,q)) (Mo r (a.toList++b.toList)) (ML r a b λJ O=>x+1<J+O) st) ?_ ?_ ⟨g,o,J,O,(_,_,_),rfl,rfl,G,N,Y,H⟩) ?_)
   .rintro y c B _ hy ⟨g,o,i,j,⟨p,q,t⟩,rfl,rfl,G,N,Y,H⟩
    dsimp only;generalize p-1=p1;apply QH (x:=p1) (y:=p);intro mg;have u:i<a.size:=Ui N;refine Bf (Jz ?_);refine Bf (zD Y ?_);refine Bf (J0 C hk (Uj u) (xL (Zl (Ef u))) (λJ zc=>ua _ (zQ (Mm zc))) (ub _ (zQ Y)) (λJ O h1 h2=>yE sa (Ji h1 _) (Mm h2)) λk k1 k2 k3=>?_);dsimp only;have G2:=G.ea sb Y k2;have k4:i+k<=a.size:=Xp (Ef u) k1;have k5:i+k<a.size->r (b.getD j nv)<r (a.getD (i+k) nv):=λh=>k3 k (Aw _) (Yj (by rw[Vt];exact h))
    have k6:x+1<i+k+j:=Bh H (Rj (Hm _ _) _);have k7:k=0->i=i+k:=λh=>by rw[h];rfl
    generalize i+k=i1 at G2 k4 k5 k6 k7 ⊢;generalize o++a.extract i i1=o1 at G2 ⊢;apply VM (x:=o1) (w:=i1) (y:=o) (v:=i) (P:=λL T=>GL r a b L T j/\T+1<a.size/\x+1<T+j/\r (b.getD j nv)<r (a.getD T nv))
    case h1=>exact λ_ e=>Bu (.fin _ _ rfl rfl (G2.last (by simpa using e) h1))
    case h1'=>exact λ_ _ e=>Bu (.fin _ _ rfl rfl (G2.fin (.inl (by simpa using e))))
    case h2 =>
     intro _ e3 e4;have e3:¬ i1+1=a.size:=by simpa using e3
     have e4:¬ i1=a.size:=by simpa using e4
     have e5:i1<a.size:=Im k4 e4;exact⟨G2,Im e5 e3,k6,k5 e5⟩
    case h3 =>
     intro e;have e:=k7 (Ly e);exact⟨G,N,H,by rw[e];exact k5 (by rw[<- e];exact u)⟩
    case hK =>
     rintro L T ⟨G2,hl,H,d⟩;have M:T<a.size:=Ui hl;refine Bf (zD Y ?_);have G3:=G2.pb sa Y λ_=>Go d;refine qO (λe=>Bu (.fin _ _ rfl rfl (G3.fin (.inr (by simpa using e))))) λe5=>?_
     have e5:¬ j+1=b.size:=by simpa using e5
     have f:j+1<b.size:=Im Y e5;refine Bf (zD M ?_);refine Bf (J2 C hk (Uj f) (xL (Zl Y)) (λi N=>ub _ (zQ (Mm N))) (ua _ (zQ M)) (λi j h1 h2=>yE sb (Ji h1 _) (Mm h2)) λm m1 m2 m3=>?_);dsimp only;have G4:=G3.eb sa M λi N=>Go (m2 i N);have m4:j+1+m<=b.size:=Xp Y m1;have m5:j+1+m<b.size->r (a.getD T nv)<=r (b.getD (j+1+m) nv):=λh=>m3 m (Aw _) (Yj (by rw[Vt];exact h))
     have m6:j+1<=j+1+m:=Hm _ _;have m7:m=0->j+1=j+1+m:=λh=>by rw[h]
     generalize j+1+m=j1 at G4 m4 m5 m6 m7 ⊢;generalize L.push (b.getD j nv)++b.extract (j+1) j1=o2 at G4 ⊢;apply VL (x:=o2) (w:=j1) (y:=L.push (b.getD j nv)) (v:=j+1) (P:=λL ib=>GL r a b L T ib/\ib<b.size/\j+1<=ib/\r (a.getD T nv)<=r (b.getD ib nv))
     case h1=>exact λ_ e=>Bu (.fin _ _ rfl rfl (G4.fin (.inr (by simpa using e))))
     case h2 =>
      intro _ e6;have e6:¬ j1=b.size:=by simpa using e6
      have e7:=Im m4 e6;exact⟨G4,e7,m6,m5 e7⟩
     case h3 =>
      intro e;have e:=m7 (Ly e);exact⟨G3,f,Aw _,by rw[e];exact m5 (by rw[<- e];exact f)⟩
     case hK =>
      rintro L ib ⟨G4,zb,zo,zl⟩;refine Bf (zD M ?_);have G5:=G4.pa sb M λ_=>zl;refine qO (λe=>Bu (.fin _ _ rfl rfl (G5.last (by simpa using e) h1))) λe7=>?_
      have e7:¬ T+1+1=a.size:=by simpa using e7
      have e8:T+1+1<a.size:=Im hl e7;have e9:x+1<T+1+ib:=Bh H (Yd (Tk _) (Nat.le_of_succ_le zo));exact qO (λ_=>Bu (.on _ _ _ _ (_,_,_) rfl rfl ⟨G5,e8,zb,e9⟩)) λ_=>Bu ⟨_,_,_,_,(_,_,_),rfl,rfl,G5,e8,zb,e9⟩
   .rintro c B ⟨g,o,J,O,q,rfl,rfl,G,N,Y,H⟩
    exact .on g _ _ _ _ rfl rfl ⟨G,N,Y,by lia⟩
   .rintro c B (⟨g,m,rfl,d,hm⟩|⟨g,o,J,O,⟨p,q,t⟩,rfl,rfl,G,N,Y,H⟩)
    .obtain⟨c0,c1⟩:=c
     cases d;exact Bu (.fin _ m rfl rfl hm)
    dsimp only;refine Bf (Jz ?_);exact Bu ⟨_,_,_,_,_,rfl,rfl,G,N,Y,by lia⟩
 .rintro c B ⟨g,o,J,O,p,rfl,rfl,G,N,Y,H⟩
  exfalso
  lia
 .rintro c B (⟨g,m,rfl,d,hm⟩|⟨_,_,_,_,_,_,_,z⟩);rotate_left;exact z.elim
  obtain⟨c0,c1⟩:=c;cases d;exact Bu (h m g hm)
end
theorem dH {a:Ay Bm}(h:0<n)(Y:n<=a.size):a.toList.take n=a.toList.take (n-1)++[a.getD (n-1) nv]:=by
 obtain⟨m,rfl⟩:∃ m,n=m+1:=⟨n-1,by lia⟩
 rw[Ov,List.take_add_one];have Q:m<a.size:=by lia
 simp[Gw,Q]
theorem eV {a:Ay Bm}{i:Ag}(h:i<=n):a.toList.take i++(a.extract i n).toList=a.toList.take n:=by
 rw[Ko,Ie]
 conv=>rhs;rw[show n=i+(n-i) by lia,List.take_add]
theorem pA {a:Ay Bm}:(a.extract 0 n).toList=a.toList.take n:=by
 rw[Ko,Ie];simp
theorem cB {a:Ay Bm}{i:Ag}{x:Bm}(Q:i<=n)(h:x∈(a.extract i n).toList):∃ j,i<=j/\j<n/\j<a.size/\x=a.getD j nv:=by
 obtain⟨k,rfl⟩:∃ k,n=i+k:=⟨n-i,by lia⟩
 exact gK h
def GH (r:Bm->Ah)(a b o:Ay Bm)(i j:Ag):Prop:=Mh r (a.toList.take i) (b.toList.take j) o.toList.reverse (a.toList++b.toList)
section
variable {r:Bm->Ah}{a b o:Ay Bm}{i j k:Ag}
theorem GH.pa (U:b.toList.Pairwise (Le r))(h:GH r a b o i j)(h1:0<i)(h2:i<=a.size)(N:j<=b.size)(l:0<j->r (b.getD (j-1) nv)<=r (a.getD (i-1) nv)):GH r a b (o.push (a.getD (i-1) nv)) (i-1) j:=by
 have Q:Mh r (a.toList.take (i-1)++[a.getD (i-1) nv]) (b.toList.take j) o.toList.reverse (a.toList++b.toList):=by rw[<- dH h1 h2];exact h
 have:=Q.a λx J y Y=>by
  cases Dn.mp Y;obtain⟨m,O,G,rfl⟩:=pL J;exact Ey (yE U ca ca) (l ca)
 unfold GH;rw[Ej,Nu];exact this
theorem GH.pb (U:a.toList.Pairwise (Le r))(h:GH r a b o i j)(h1:0<j)(h2:j<=b.size)(hi:i<=a.size)(l:0<i->r (a.getD (i-1) nv)<=r (b.getD (j-1) nv)):GH r a b (o.push (b.getD (j-1) nv)) i (j-1):=by
 have Q:Mh r (a.toList.take i) (b.toList.take (j-1)++[b.getD (j-1) nv]) o.toList.reverse (a.toList++b.toList):=by rw[<- dH h1 h2];exact h
 have:=Q.b λx J y Y=>by
  cases Dn.mp Y;obtain⟨m,N,G,rfl⟩:=pL J;exact Ey (yE U ca ca) (l ca)
 unfold GH;rw[Ej,Nu];exact this
theorem GH.ea (B:b.toList.Pairwise (Le r))(h:GH r a b o i j)(Q:k<=i)(T:j<=b.size)(l:0<j->∀ m,k<=m->m<i->m<a.size->r (b.getD (j-1) nv)<=r (a.getD m nv)):GH r a b (o++(a.extract k i).reverse) k j:=by
 have Y:Mh r (a.toList.take k++(a.extract k i).toList) (b.toList.take j) o.toList.reverse (a.toList++b.toList):=by rw[eV Q];exact h
 have:=Y.a λx G y J=>by
  obtain⟨m,E,L,rfl⟩:=pL G;obtain⟨U,C,O,N,rfl⟩:=cB Q J;exact Ey (yE B ca ca) (l ca U C O N)
 unfold GH;rw[Dt,Mz,Nu,Yk];exact this
theorem GH.eb (B:a.toList.Pairwise (Le r))(h:GH r a b o i j)(Q:k<=j)(hi:i<=a.size)(l:0<i->∀ m,k<=m->m<j->m<b.size->r (a.getD (i-1) nv)<=r (b.getD m nv)):GH r a b (o++(b.extract k j).reverse) i k:=by
 have Y:Mh r (a.toList.take i) (b.toList.take k++(b.extract k j).toList) o.toList.reverse (a.toList++b.toList):=by rw[eV Q];exact h
 have:=Y.b λx G y J=>by
  obtain⟨m,T,L,rfl⟩:=pL G;obtain⟨U,C,O,N,rfl⟩:=cB Q J;exact Ey (yE B ca ca) (l ca U C O N)
 unfold GH;rw[Dt,Mz,Nu,Yk];exact this
theorem GH.fin (h:GH r a b o i j)(e:i=0\/j=0):Mo r (a.toList++b.toList) (a.extract 0 i++b.extract 0 j++o.reverse):=by
 refine⟨?_,?_⟩ <;> rw[Dt,Dt,pA,pA,Mz]
 .exact h.pm
 .rcases e with rfl|rfl
  .rw[AbF,Ke];exact h.p2
  .rw[AbF,Gm];exact h.p1
theorem GH.first (h:GH r a b o i j)(e:j=1)(U:0<b.size)(l:∀ x∈a.toList,Le r (b.getD 0 nv) x):Mo r (a.toList++b.toList) (b.extract 0 j++a.extract 0 i++o.reverse):=by
 subst e;have J:b.toList.take 1=[b.getD 0 nv]:=by rw[dH ca ca];rfl
 refine⟨?_,?_⟩ <;> rw[Dt,Dt,pA,pA,Mz]
 .refine Rw ?_ h.pm
  exact Lx _ Ml
 .have Q:=h.p2
  rw[J] at Q ⊢;rw[Cy];rw[DL] at Q ⊢;refine⟨Q.1,h.p1,λx Y y hy=>?_⟩;rcases Cc.mp hy with hy|hy
  .cases Dn.mp Y
   exact l y (Yl hy)
  .exact Q.2.2 x Y y hy
end
structure MH (r:Bm->Ah)(a b:Ay Bm)(Z:Ag->Ag->Prop)(o:Ay Bm)(i j:Ag):Prop where
 G:GH r a b o i j
 hi:0<i
 hi2:i<=a.size
 hj:1<j
 hj2:j<=b.size
 z:Z i j
section
variable {prog:Bj}{w:Bz}{A:Bw}{E:ab}{s:Ai}{κ: Of}{U:Bm->Prop}{r:Bm->Ah}
theorem iH (C:Cm (Ax prog w) A s κ U r){a b:Ay Bm}{Q:Ay Bm->Fp->Prop}{st:Fp}(hk:kindOf st=κ)(ua:∀ x∈a.toList,U x)(ub:∀ x∈b.toList,U x)(sa:a.toList.Pairwise (Le r))(sb:b.toList.Pairwise (Le r))
  (h:∀ m g,Mo r (a.toList++b.toList) m->Q m (aE st g)) (ha:0<a.size) (hb:0<b.size) (h0:∀ x∈a.toList,Le r (b.getD 0 nv) x) (h1:r (b.getD (b.size-1) nv)<=r (a.getD (a.size-1) nv)):wpS (Ax prog w) A E s (JU a b) Q st:=by
 have G0:GH r a b #[] a.size b.size:=by
  unfold GH;rw[Hw cy,Hw cy]
  exact⟨by simpa using sa,by simpa using sb,by simp⟩
 have G1:=G0.pa sb ha (Aw _) (Aw _) λ_=>h1;refine Bf (Tq (Gu ⟨rfl,?_⟩));refine Bf (zD (i:=a.size-1) ca ?_)
 dsimp only;refine qO (λe=>Bu (h _ (WF st) (G1.fin (.inl (by simpa using e))))) λe1=>?_
 refine qO (λe=>Bu (h _ (WF st) (G1.first (by simpa using e) hb h0))) λe2=>?_
 have e1:¬ a.size-1=0:=by simpa using e1
 have e2:¬ b.size=1:=by simpa using e2
 refine Bf (Pj ?_);refine Bf (Hv (Ft (I:=λx=>MI (λo i j q=>(i,j,o,q)) (MH r a b λi j=>x+i+j<a.size+b.size) st)
  (Q:=MQ (λo i j q=>(i,j,o,q)) (Mo r (a.toList++b.toList)) (λ_ _ _=>Fk) st) ?_ ?_ ⟨WF st,_,a.size-1,b.size,_,rfl,rfl,G1,by lia,by lia,by lia,by lia,by lia⟩) ?_)
 .rintro x c L _ hx ⟨g,o,i,j,mg,rfl,rfl,G,B,Y,T,J,hp⟩
  dsimp only;refine Bf (Hv (Ft (I:=λy=>MI (λo i j q=>(i,j,o,q)) (MH r a b λN O=>N+O+y<=i+j) st)
   (Q:=MQ (λo i j q=>(i,j,o,q)) (Mo r (a.toList++b.toList)) (MH r a b λN O=>x+1+N+O<a.size+b.size) st) ?_ ?_ ⟨g,o,i,j,(0,0),rfl,rfl,G,B,Y,T,J,by lia⟩) ?_)
  .rintro y c L _ hy ⟨g,o,N,O,⟨p,q⟩,rfl,rfl,G,B,Y,T,J,u⟩
   dsimp only;refine Bf (zD (i:=O-1) ca (Bf (zD (i:=N-1) ca (Bf (C.lt (ub _ (zQ (i:=O-1) ca)) (ua _ (zQ (i:=N-1) ca)) hk ?_)))))
   dsimp only;refine qO (λl=>?_) λl=>?_
   .have l:r (b.getD (O-1) nv)<r (a.getD (N-1) nv):=by simpa using l
    have G2:=G.pa sb B Y J λ_=>Go l;refine Bf (zD (i:=N-1) ca ?_)
    refine qO (λe=>Bu (.fin _ _ rfl rfl (G2.fin (.inl (by simpa using e))))) λe=>?_
    have e:¬ N-1=0:=by simpa using e
    exact qO (λ_=>Bu (.on _ _ _ _ (_,_) rfl rfl ⟨G2,by lia,by lia,T,J,by lia⟩)) λ_=>Bu ⟨_,_,_,_,(_,_),rfl,rfl,G2,by lia,by lia,T,J,by lia⟩
   .have l:¬ r (b.getD (O-1) nv)<r (a.getD (N-1) nv):=by simpa using l
    have G2:=G.pb sa ca J Y λ_=>Nt.mp l
    refine Bf (zD (i:=O-1) ca ?_)
    refine qO (λe=>Bu (.fin _ _ rfl rfl (G2.first (by simpa using e) hb h0))) λe=>?_
    have e:¬ O-1=1:=by simpa using e
    exact qO (λ_=>Bu (.on _ _ _ _ (_,_) rfl rfl ⟨G2,B,Y,by lia,by lia,by lia⟩)) λ_=>Bu ⟨_,_,_,_,(_,_),rfl,rfl,G2,B,Y,by lia,by lia,by lia⟩
  .rintro c L ⟨g,o,N,O,q,rfl,rfl,G,B,Y,T,J,u⟩
   exact .on g _ _ _ _ rfl rfl ⟨G,B,Y,T,J,by lia⟩
  .rintro c L (⟨g,m,rfl,hc,hm⟩|⟨g,o,N,O,⟨p,q⟩,rfl,rfl,G,B,Y,T,J,u⟩)
   .obtain⟨c0,c1⟩:=c
    cases hc;exact Bu (.fin _ m rfl rfl hm)
   dsimp only;refine Bf (Tq (Gu ⟨rfl,?_⟩));refine Bf (Hv (Ft (I:=λy=>MI (λo i j q=>(i,j,o,q)) (MH r a b λN O=>x+1+N+O<a.size+b.size) st)
    (Q:=MQ (λo i j q=>(i,j,o,q)) (Mo r (a.toList++b.toList)) (MH r a b λN O=>x+1+N+O<a.size+b.size) st) ?_ ?_ ⟨g,o,N,O,(_,_,_),rfl,rfl,G,B,Y,T,J,u⟩) ?_)
   .rintro y c L _ hy ⟨g,o,i,j,⟨p,q,t⟩,rfl,rfl,G,B,Y,T,J,u⟩
    dsimp only;generalize p-1=p1;apply QH (x:=p1) (y:=p);intro mg;refine Bf (Jz ?_);have j0:0<j:=Ui T;have jb:j-1<b.size:=Bh (Nv j0 Mn) J;refine Bf (zD jb ?_);refine Bf (J0 C hk (Nv B Mn) (by rw[Hc];exact Y) (λN zc=>ua _ (zQ (by rw[Hc];exact Bh zc Y))) (ub _ (zQ jb)) (λN O h1 h2=>yE sa (Ji h1 0) (by rw[Hc];exact Bh h2 Y)) λk k1 k2 k3=>?_)
    simp only[Hc] at k2 k3;dsimp only;have G2:=G.ea sb k1 J λ_ m q1 q2 _=>Go (k3 m q1 q2);have kc:i-k=0->k=i:=λh=>Wz k1 (Xq h);generalize i-k=ac at kc ⊢;generalize o++(a.extract k i).reverse=o1 at G2 ⊢;apply VL (x:=k) (w:=o1) (y:=i) (v:=o) (P:=λM H=>GH r a b H M j/\0<M/\M<=a.size/\x+1+M+j<a.size+b.size/\r (a.getD (M-1) nv)<=r (b.getD (j-1) nv))
    case h1=>exact λ_ e=>Bu (.fin _ _ rfl rfl (G2.fin (.inl (by simpa using e))))
    case hK =>
     rintro M H ⟨G2,hl,f,u,hc⟩;have d:M-1<a.size:=Bh (Nv hl Mn) f;refine Bf (zD jb ?_);have G3:=G2.pb sa j0 J f λ_=>hc;refine qO (λe=>Bu (.fin _ _ rfl rfl (G3.first (by simpa using e) hb h0))) λe5=>?_
     have e5:¬ j-1=1:=by simpa using e5
     have j1:0<j-1:=Uj T;refine Bf (zD d ?_);refine Bf (J2 C hk (Nv j1 Mn) (by rw[Hc];exact Ef jb) (λi B=>ub _ (zQ (by rw[Hc];exact Iw B jb))) (ua _ (zQ d)) (λi j h1 h2=>yE sb (Ji h1 0) (by rw[Hc];exact Iw h2 jb)) λm m1 m2 m3=>?_)
     simp only[Hc] at m2 m3;dsimp only;have G4:=G3.eb sa m1 f λ_ m q1 q2 _=>m3 m q1 q2;have mc:j-1-m=0->m=j-1:=λh=>Wz m1 (Xq h);generalize j-1-m=bc at mc ⊢;generalize H.push (b.getD (j-1) nv)++(b.extract m (j-1)).reverse=o2 at G4 ⊢;apply VM (x:=m) (w:=o2) (y:=j-1) (v:=H.push (b.getD (j-1) nv)) (P:=λnb H=>GH r a b H M nb/\1<nb/\nb<=j-1/\r (b.getD (nb-1) nv)<=r (a.getD (M-1) nv))
     case h1=>exact λ_ e=>Bu (.fin _ _ rfl rfl (G4.first (by simpa using e) hb h0))
     case h1'=>exact λ_ _ e=>Bu (.fin _ _ rfl rfl (G4.fin (.inr (by simpa using e))))
     case hK =>
      rintro nb H ⟨G4,h4,h5,zl⟩;have h6:nb<=b.size:=Ci h5 (Ef jb);have zb:x+1+(M-1)+nb<a.size+b.size:=Ot (Yd (Ji (Nat.sub_le _ _) _) (Ci h5 (Nat.sub_le _ _))) u;refine Bf (zD d ?_);have G5:=G4.pa sb hl f h6 λ_=>zl;refine qO (λe=>Bu (.fin _ _ rfl rfl (G5.fin (.inl (by simpa using e))))) λe7=>?_
      have e7:0<M-1:=Ow (by simpa using e7)
      exact qO (λ_=>Bu (.on _ _ _ _ (_,_,_) rfl rfl ⟨G5,e7,Ef d,h4,h6,zb⟩)) λ_=>Bu ⟨_,_,_,_,(_,_,_),rfl,rfl,G5,e7,Ef d,h4,h6,zb⟩
     case h2 =>
      intro _ e6 e7;have e6:¬ m=1:=by simpa using e6
      have e7:¬ m=0:=by simpa using e7
      exact⟨G4,Im (Ow e7) (Gd e6),m1,Go (m2 (m-1) (Nv (Ow e7) Mn))⟩
     case h3 =>
      intro e;cases mc (Ly e);exact⟨G3,Im j1 (Gd e5),Aw _,Go (m2 (j-1-1) (Nv j1 Mn))⟩
    case h2 =>
     intro _ e;have e3:0<k:=Ow (by simpa using e)
     exact⟨G2,e3,Ci k1 Y,Ot (Rj (Ji k1 _) _) u,k2 (k-1) (Nv e3 Mn)⟩
    case h3 =>
     intro e;have e:=kc (Ly e);exact⟨G,B,Y,u,k2 (i-1) (by rw[e];exact Nv B Mn)⟩
   .rintro c L ⟨g,o,N,O,q,rfl,rfl,G,B,Y,T,J,u⟩
    exact .on g _ _ _ _ rfl rfl ⟨G,B,Y,T,J,by lia⟩
   .rintro c L (⟨g,m,rfl,hc,hm⟩|⟨g,o,N,O,⟨p,q,t⟩,rfl,rfl,G,B,Y,T,J,u⟩)
    .obtain⟨c0,c1⟩:=c
     cases hc;exact Bu (.fin _ m rfl rfl hm)
    dsimp only;refine Bf (Jz ?_);exact Bu ⟨_,_,_,_,_,rfl,rfl,G,B,Y,T,J,by lia⟩
 .rintro c L ⟨g,o,N,O,p,rfl,rfl,G,B,Y,T,J,u⟩
  exfalso
  lia
 .rintro c L (⟨g,m,rfl,hc,hm⟩|⟨_,_,_,_,_,_,_,z⟩);rotate_left;exact z.elim
  obtain⟨c0,c1⟩:=c;cases hc;exact Bu (h m g hm)
end
theorem XN:∀ (l:Aa Bm) (ax:Ay Bm) (o d:Ag),o+d+l.length<=ax.size->∀ k,((l.zipIdx d).foldl (λa p=>a.setIfInBounds (o+p.2) p.1) ax)[k]? = if o+d<=k/\k<o+d+l.length then l[k-(o+d)]? else ax[k]?
 |[],ax,o,d,h,k=>by
  rw[Bg (by simp only[Hs];lia)];rfl
 |x::l,ax,o,d,h,k=>by
  rw[By] at h;rw[Vh,Lo,XN l _ o (d+1) (by rw[Array.size_setIfInBounds];lia) k,By]
  by_cases Y:k=o+d
  .subst Y
   rw[Bg ca,Bd ca,x0,Array.getElem?_setIfInBounds_self_of_lt ca]
   rfl
  .by_cases Q:o+(d+1)<=k/\k<o+(d+1)+l.length
   .rw[Bd Q,Bd ca,show k-(o+d)=(k-(o+(d+1)))+1 by lia,Pi]
   .rw[Bg Q,Bg ca,Array.getElem?_setIfInBounds_ne ca]
def wb (ax:Ay Bm)(o:Ag)(m:Ay Bm):Ay Bm:=m.toList.zipIdx.foldl (λa p=>a.setIfInBounds (o+p.2) p.1) ax
theorem QF {o:Ag}(h:o+m.size<=ax.size)(k:Ag):(wb ax o m).getD k nv=if o<=k/\k<o+m.size then m.getD (k-o) nv else ax.getD k nv:=by
 have e:=XN m.toList ax o 0 (by simpa using h) k
 simp only[Nat.add_zero,Bq,Br] at e;rw[Fi,Fi,Fi];unfold wb;rw[e]
 split <;> rfl
theorem XO {o d:Ag}(h:o+m.size<=ax.size)(Q:d<m.size):(wb ax o m).getD (o+d) nv=m.getD d nv:=by
 rw[QF h,Bd ⟨Hm _ _,Nat.add_lt_add_left Q _⟩,Gn]
theorem jT {o k:Ag}(h:o+m.size<=ax.size)(Q:k<o\/o+m.size<=k):(wb ax o m).getD k nv=ax.getD k nv:=by
 rw[QF h,Bg ca]
theorem PR {a:Ay Bm}{i:Ag}(h:i+n<=a.size):(a.extract i (i+n)).size=n:=by rw[Li];lia
theorem L9 {o:Ag}(h:o+m.size<=ax.size):(wb ax o m).toList=ax.toList.take o++(m.toList++ax.toList.drop (o+m.size)):=by
 apply AaB;intro k;have e:=XN m.toList ax o 0 (by simpa using h) k
 simp only[Nat.add_zero,Bq,Br] at e;unfold wb;rw[Br,e];have Y:(ax.toList.take o).length=o:=by rw[Fl,Bq];lia
 by_cases Q:k<o
 .rw[Bg ca,Bk ca,Om Q,Br]
 .rw[Ct ca,Y]
  by_cases J:k<o+m.size
  .rw[Bd ca,Bk (by rw[Bq];lia),Br]
  .rw[Bg ca,Ct (by rw[Bq];lia),dL,Bq,Br]
   congr 1
   lia
theorem LC {o:Ag}(h:o+n<=ax.size)(p:m.toList.Perm (ax.extract o (o+n)).toList):(wb ax o m).toList.Perm ax.toList:=by
 have Q:m.size=n:=by
  have:=p.length_eq;rw[Bq,Bq,Li] at this
  lia
 rw[L9 ca,Q]
 have e:ax.toList=ax.toList.take o++((ax.extract o (o+n)).toList++ax.toList.drop (o+n)):=by rw[mT,Qv]
 conv=>rhs;rw[e]
 exact Ic _ (Lx _ p)
def Seg (r:Bm->Ah)(a:Ay Bm)(lo n:Ag):Prop:=∀ i j,lo<=i->i<=j->j<lo+n->r (a.getD i nv)<=r (a.getD j nv)
theorem Q0 {r:Bm->Ah}{a:Ay Bm}(h:Seg r a lo n){i k:Ag}(h1:lo<=i)(h2:i+k<=lo+n)(h3:i+k<=a.size):(a.extract i (i+k)).toList.Pairwise (Le r):=by
 rw[Kk];intro x y J Y l;have G:x<k:=by rw[Bq,Li] at J;lia
 have N:y<k:=by rw[Bq,Li] at Y;lia
 have e:=h (i+x) (i+y) ca ca ca
 have U:i+x<a.size:=by lia
 have Q:i+y<a.size:=by lia
 simpa [Gw,U,Q,Le] using e
theorem eU {a:Ay Bm}{i k m:Ag}(h:m<k)(h3:i+k<=a.size):(a.extract i (i+k)).getD m nv=a.getD (i+m) nv:=by
 have Q:i+m<a.size:=by lia
 have J:m<(a.extract i (i+k)).size:=by rw[Li];lia
 have Y:m<min (i+k) a.size-i:=by lia
 simp[Gw,Q,Y]
theorem UX {a:Ay Bm}{i j k:Ag}(h1:i<=j)(h2:j<=k):(a.extract i j).toList++(a.extract j k).toList=(a.extract i k).toList:=by
 rw[<- Dt,Array.extract_append_extract]
 congr 2 <;> lia
section
variable {prog:Bj}{w:Bz}{A:Bw}{E:ab}{s:Ai}{κ: Of}{U:Bm->Prop}{r:Bm->Ah}
theorem LD {σ:Type}{Q:PUnit->σ->Prop}{st Y:σ}(h:Q ⟨⟩ Y):wpS M A E s (set Y:Ni σ Kt PUnit) Q st:=by
 unfold wpS;rw[StateT.run_set];exact Am ⟨rfl,h⟩
theorem iG (C:Cm (Ax prog w) A s κ U r){i Y B pw L pz:Ag}{Q:Ar->Fp->Prop}{ax:Ay Bm}{pd:Ay (Ag × Ag × Ag)}{g:Ag}(ua:∀ x∈ax.toList,U x)(e1:pd[i]? = Ab (Y,B,pw))(e2:pd[i+1]? = Ab (Y+B,L,pz))(p1:0<B)(p2:0<L)(hz:Y+B+L<=ax.size)
  (o:Seg r ax Y B) (T:Seg r ax (Y+B) L)
  (h:∀ N g,N.toList.Perm ax.toList->(∀ k,k<Y\/Y+B+L<=k->N.getD k nv=ax.getD k nv)->Seg r N Y (B+L)->Q true (Dg κ N ((pd.setIfInBounds i (Y,B+L,pw)).eraseIdxIfInBounds (i+1)) g none)) :
  wpS (Ax prog w) A E s (mergeAt' i) Q (Dg κ ax pd g none):=by
 refine Bf (Pj ?_);dsimp only;rw[e1,e2];dsimp only;refine Bf (LD ?_);refine Bf (zD (i:=Y+B) ca ?_)
 refine Bf (J0 C rfl ca ca (λi hi=>ua _ (zQ ca)) (ua _ (zQ ca)) (λi j a b=>o _ _ ca ca ca) λk k1 k2 k3=>?_)
 obtain⟨t,rfl⟩:=Fu k1;clear k1 p1 e1 e2;simp only[Gn,<- Nq] at *;refine qO (λe=>Bu (h ax g (Mu _) (λ_ _=>rfl) λi j a b c=>?_)) λe=>?_
 .have e:t=0:=by simpa using e
  subst e;by_cases q1:j<Y+k
  .exact o i j a b q1
  .by_cases q2:Y+k<=i
   .exact T i j q2 b ca
   .have:=k2 (i-Y) ca
    rw[show Y+(i-Y)=i by lia] at this
    exact Ey this (T _ _ (Aw _) ca ca)
 have e:t≠0:=by simpa using e
 obtain⟨u,rfl⟩:∃ u,t=u+1:=⟨t-1,by lia⟩
 clear e;rw[show Y+k+(u+1)-1=Y+k+u from rfl]
 refine Bf (zD (i:=Y+k+u) ca ?_)
 refine Bf (J2 C rfl ca ca (λi hi=>ua _ (zQ ca)) (ua _ (zQ ca)) (λi j a b=>T _ _ ca ca ca) λm m1 m2 m3=>?_)
 dsimp only;have hk:=k3 k (Aw _) ca
 have hq:=o (Y+k) (Y+k+u) ca ca ca
 refine qO (λe=>?_) λe=>?_
 .have e:m=0:=by simpa using e
  subst e;exact absurd (Te hk (Ey hq (m3 0 (Aw _) p2))) (Int.lt_irrefl _)
 have e:m≠0:=by simpa using e
 have zx:=PR (a:=ax) (i:=Y+k) (n:=u+1) ca
 have zy:=PR (a:=ax) (i:=Y+k+(u+1)) (n:=m) ca
 have px:=Q0 o (i:=Y+k) (k:=u+1) ca ca ca
 have py:=Q0 T (Aw _) (k:=m) ca ca
 have I:∀ x∈(ax.extract (Y+k) (Y+k+(u+1))).toList,U x/\r (ax.getD (Y+k+(u+1)) nv)<=r x/\r x<=r (ax.getD (Y+k+u) nv):=λx O=>by
  obtain⟨j,q1,q2,q3,rfl⟩:=gK O;exact⟨ua _ (zQ q3),Go (Te hk (o (Y+k) j ca q1 ca)),o j _ ca ca ca⟩
 have p:∀ x∈(ax.extract (Y+k+(u+1)) (Y+k+(u+1)+m)).toList,U x/\r (ax.getD (Y+k+(u+1)) nv)<=r x/\r x<=r (ax.getD (Y+k+u) nv):=λx O=>by
  obtain⟨j,q1,q2,q3,rfl⟩:=gK O;obtain⟨d,rfl⟩:=Fu q1;exact⟨ua _ (zQ q3),T _ _ (Aw _) q1 ca,Go (m2 d ca)⟩
 have zb:∀ G l,Mo r ((ax.extract (Y+k) (Y+k+(u+1))).toList++(ax.extract (Y+k+(u+1)) (Y+k+(u+1)+m)).toList) G->Q true (Dg κ (wb ax (Y+k) G) ((pd.setIfInBounds i (Y,k+(u+1)+L,pw)).eraseIdxIfInBounds (i+1)) l none):=by
  intro G l M;have hm:G.size=u+1+m:=by
   have:=M.pm.length_eq;rw[Cu,Bq,Bq,Bq,zx,zy] at this;exact this
  have J:Y+k+G.size<=ax.size:=by lia
  have bd:∀ d,d<G.size->r (ax.getD (Y+k+(u+1)) nv)<=r (G.getD d nv)/\r (G.getD d nv)<=r (ax.getD (Y+k+u) nv):=λd hd=>(Cc.mp (M.pm.mem_iff.mp (zQ hd))).elim (λq=>(I _ q).2) λq=>(p _ q).2;refine h _ l (LC (n:=u+1+m) ca ?_) (λj hj=>jT J ca) λi j a b c=>?_
  .rw[<- Nq (Y+k),<- UX (j:=Y+k+(u+1)) ca ca]
   exact M.pm
  rcases Ep i (Y+k) with i1|i1
  .obtain⟨x,rfl⟩:=Fu a
   have v:=k2 x ca
   rw[jT J (.inl i1)];rcases Ep j (Y+k) with j1|j1
   .rw[jT J (.inl j1)];exact o _ j a b ca
   obtain⟨y,rfl⟩:=Fu j1;refine Ey v ?_;rcases Ep y G.size with j2|j2
   .rw[XO J j2];exact(bd y j2).1
   .rw[jT J (.inr ca)];exact T _ _ (Aw _) ca ca
  obtain⟨x,rfl⟩:=Fu i1;obtain⟨y,rfl⟩:=Fu (Ci i1 b);rcases Ep x G.size with i2|i2
  .rw[XO J i2]
   rcases Ep y G.size with j2|j2
   .rw[XO J j2];exact yE M.up ca j2
   .rw[jT J (.inr ca)]
    obtain⟨z,rfl⟩:∃ z,y=u+1+z:=⟨y-(u+1),by lia⟩
    have v:=m3 z ca ca
    rw[Nq (Y+k)] at v;exact Ey (bd x i2).2 v
  .rw[jT J (.inr ca),jT J (.inr ca)]
   exact T _ _ ca b ca
 have y0:(ax.extract (Y+k+(u+1)) (Y+k+(u+1)+m)).getD 0 nv=ax.getD (Y+k+(u+1)) nv:=eU ca ca
 have xl:(ax.extract (Y+k) (Y+k+(u+1))).getD ((ax.extract (Y+k) (Y+k+(u+1))).size-1) nv=ax.getD (Y+k+u) nv:=by rw[zx];exact eU ca ca
 have ux:=λx O=>(I x O).1;have uy:=λx O=>(p x O).1;have nx:0<(ax.extract (Y+k) (Y+k+(u+1))).size:=by lia
 have ny:0<(ax.extract (Y+k+(u+1)) (Y+k+(u+1)+m)).size:=by lia
 have f:∀ x∈(ax.extract (Y+k) (Y+k+(u+1))).toList,r (ax.getD (Y+k+(u+1)) nv)<=r x:=λx O=>(I x O).2.1;have H:∀ x∈(ax.extract (Y+k+(u+1)) (Y+k+(u+1)+m)).toList,r x<=r (ax.getD (Y+k+u) nv):=λx O=>(p x O).2.2;rw[<- y0] at f;rw[<- xl] at H;refine qO (λ_=>Bf (iI C rfl ux uy px py (λG l M=>Bf (Jz (Bf (Pj (Bu (zb G l M)))))) nx ny (f _ (zQ nx)) H)) λ_=>Bf (iH C rfl ux uy px py (λG l M=>Bf (Jz (Bf (Pj (Bu (zb G l M)))))) nx ny f (H _ (zQ ca)))
end
def mir (a:Ay Bm)(i j:Ag):Ay Bm:=mirror a i j ((j-i)/2)
theorem y8 {a:Ay Bm}{i j:Ag}(Q:j<=a.size)(k:Ag):(mir a i j).getD k nv=if i<=k/\k<j then a.getD (i+j-1-k) nv else a.getD k nv:=by
 rw[Fi,Fi,Fi];unfold mir;rw[getElem?_mirror_all Q]
 split <;> rfl
structure Cr (a b:Ay Bm)(lo n:Ag):Prop where
 pm:b.toList.Perm a.toList
 out:∀ k,k<lo\/lo+n<=k->b.getD k nv=a.getD k nv
theorem Cr.z {a b:Ay Bm}(h:Cr a b lo n):b.size=a.size:=by
 have:=h.pm.length_eq;simpa using this
theorem Cr.rfl' {a:Ay Bm}:Cr a a lo n:=⟨Mu _,λ_ _=>rfl⟩
theorem Cr.mir {a b:Ay Bm}{i j:Ag}(h:Cr a b lo n)(h1:lo<=i)(h2:j<=lo+n)(h3:j<=a.size):Cr a (mir b i j) lo n:=
 ⟨(Tl.mp (mirror_perm _ _ _ _)).trans h.pm,λk Q=>by rw[y8 (by rw[h.z];exact h3),Bg ca];exact h.out k Q⟩
def vw (r:Bm->Ah)(a:Ay Bm)(lo n:Ag):Prop:=∀ i j,lo<=i->i<=j->j<lo+n->r (a.getD j nv)<=r (a.getD i nv)
theorem G8 {r:Bm->Ah}{a:Ay Bm}(h:Seg r a lo n)(h1:1<=n)(l:r (a.getD (lo+n-1) nv)<=r (a.getD (lo+n) nv)):Seg r a lo (n+1):=λi j Q J U=>by
 by_cases q:j<lo+n
 .exact h i j Q J q
 .have:j=lo+n:=by lia
  subst this;by_cases Y:i=lo+n
  .subst Y;exact Ja _
  .exact Ey (h i (lo+n-1) Q ca ca) l
theorem gZ {r:Bm->Ah}{a:Ay Bm}(h:vw r a lo n)(h1:1<=n)(l:r (a.getD (lo+n) nv)<=r (a.getD (lo+n-1) nv)):vw r a lo (n+1):=λi j Q J U=>by
 by_cases q:j<lo+n
 .exact h i j Q J q
 .have:j=lo+n:=by lia
  subst this;by_cases Y:i=lo+n
  .subst Y;exact Ja _
  .exact Ey l (h i (lo+n-1) Q ca ca)
theorem Q1 {r:Bm->Ah}{a:Ay Bm}:Seg r a lo 1:=λi j J Q Y=>by
 have:i=j:=by lia
 subst this;exact Ja _
theorem FI {r:Bm->Ah}{a:Ay Bm}:vw r a lo 1:=λi j J Q Y=>by
 have:i=j:=by lia
 subst this;exact Ja _
def QP (r:Bm->Ah)(a:Ay Bm)(lo n q:Ag):Prop:=q+1<=n/\∀ k,lo+n-(q+1)<=k->k<lo+n->r (a.getD k nv)=r (a.getD (lo+n-1) nv)
set_option tactic.hygienic true in
theorem p9 {r:Bm->Ah}{a:Ay Bm}(Q:lo+n<=a.size)(h:QP r a lo n q)(k:Ag):r ((mir a (lo+n-(q+1)) (lo+n)).getD k nv)=r (a.getD k nv):=by
 rw[y8 Q];have:=h.1
 split
 .rename_i c
  rw[h.2 k ca c.2,h.2 _ ca ca]
 .rfl
theorem FH {r:Bm->Ah}{a:Ay Bm}(Q:lo+n<=a.size)(h:vw r a lo n):Seg r (mir a lo (lo+n)) lo n:=λi j U Y J=>by
 rw[y8 Q,y8 Q,Bd ca,Bd ca]
 exact h _ _ ca ca ca
section
variable {prog:Bj}{w:Bz}{A:Bw}{E:ab}{s:Ai}{κ: Of}{U:Bm->Prop}{r:Bm->Ah}
theorem gR (C:Cm (Ax prog w) A s κ U r){i j:Ag}{ax:Ay Bm}{J:Ay (Ag × Ag × Ag)}{g:Ag}{Q:Al Ar->Fp->Prop}(Y:∀ x∈ax.toList,U x)(hi:i<ax.size)(G:j<ax.size)
  (q:Q (Ab (decide (r (ax.getD i nv)<r (ax.getD j nv)))) (Dg κ ax J g none)):wpS (Ax prog w) A E s (ltAt' i j) Q (Dg κ ax J g none):=by
 refine Bf (Pj ?_);exact Bf (zD hi (Bf (zD G (C.lt (Y _ (zQ hi)) (Y _ (zQ G)) rfl q))))
theorem fZ {Q:PUnit->Fp->Prop}(q:Q ⟨⟩ (Dg κ (mir ax i j) Y g none)):wpS (Ax prog w) A E s (reverseSlice' i j) Q (Dg κ ax Y g none):=Jz q
theorem I9 {σ α:Type}{c:Prop}[Io c]{Q:α->σ->Prop}{st:σ}{y:Ag}{K:Ag->Ni σ Kt α}{u:Ni σ Kt α}(P:Ag->σ->Prop)(hK:∀ z st,P z st->wpS (Ax prog w) A E s (K z) Q st)(h1:c->(∀ z st,P z st->wpS (Ax prog w) A E s (K z) Q st)->wpS (Ax prog w) A E s u Q st)(h2:¬ c->P y st):wpS (Ax prog w) A E s (if c then u else K y) Q st:=qO (λe=>h1 e hK) λe=>hK _ _ (h2 e)
theorem VN {σ α:Type}{c:Prop}[Io c]{Q:α->σ->Prop}{st:σ}{K u:Ni σ Kt α}(P:σ->Prop)(hK:∀ st,P st->wpS (Ax prog w) A E s K Q st)(h1:c->(∀ st,P st->wpS (Ax prog w) A E s K Q st)->wpS (Ax prog w) A E s u Q st)(h2:¬ c->P st):wpS (Ax prog w) A E s (if c then u else K) Q st:=qO (λe=>h1 e hK) λe=>hK _ (h2 e)
theorem rC (C:Cm (Ax prog w) A s κ U r){lo N:Ag}{ax:Ay Bm}{B:Ay (Ag × Ag × Ag)}{g:Ag}{Q:Al Ag->Fp->Prop}(ua:∀ x∈ax.toList,U x)(h1:1<=N)(hz:lo+N<=ax.size)
  (h:∀ n b,1<=n->n<=N->Cr ax b lo N->Seg r b lo n->Q (Ab n) (Dg κ b B g none)):wpS (Ax prog w) A E s (countRun' lo N) Q (Dg κ ax B g none):=by
 have u:∀ {b:Ay Bm},Cr ax b lo N->∀ x∈b.toList,U x:=λh x H=>ua x (h.pm.mem_iff.mp H);have L:∀ {b:Ay Bm} {n:Ag} {f:Ag->Al (Al Ag) × Ag->Ni Fp Kt (ForInStep (Al (Al Ag) × Ag))},Cr ax b lo N->1<=n->n<=N->Seg r b lo n ->
   (∀ x m,f x (none,m)=(ltAt' (lo+m) (lo+m-1) >>= λo=>match o with
    |some z=>if z then pure (.done (none,m)) else pure (.yield (none,m+1))
    |_=>pure (.done (Ab none,m))))->wpS (Ax prog w) A E s (forIn [n:N] (none,n) f) (λc Y=>Y=Dg κ b B g none/\∃ m,c=(none,m)/\n<=m/\m<=N/\Seg r b lo m/\(m=N\/r (b.getD (lo+m) nv)<r (b.getD (lo+m-1) nv))) (Dg κ b B g none):=by
  intro b n f J hn hN sg hf;have zb:=J.z;refine Ft (I:=λx c Y=>Y=Dg κ b B g none/\c=(none,x)/\n<=x/\Seg r b lo x) ?_ ?_ ⟨rfl,rfl,Aw _,sg⟩
  .rintro x c Y T H ⟨rfl,rfl,p,sg⟩
   rw[hf];refine Bf (gR C (u J) ca ca ?_)
   by_cases l:r (b.getD (lo+x) nv)<r (b.getD (lo+x-1) nv)
   .simp only[l,Ju,Dq]
    exact Bu ⟨rfl,x,rfl,T,by lia,sg,.inr l⟩
   .simp only[l,Jy,Bp,Dv]
    exact Bu ⟨rfl,rfl,by lia,G8 sg ca ca⟩
  .rintro c Y ⟨rfl,rfl,p,sg⟩
   rw[show max n N=N by lia] at sg ⊢
   exact⟨rfl,N,rfl,hN,Aw _,sg,.inl rfl⟩
 refine Bf (Hv (L Cr.rfl' (Aw 1) h1 Q1 λ_ _=>rfl) ?_);rintro c Y ⟨rfl,n,rfl,t,n2,sg,nd⟩;dsimp only;refine qO (λe=>Bu (h n ax t n2 Cr.rfl' sg)) λe=>?_;have e:¬ n=N:=by simpa using e
 have nd:r (ax.getD (lo+n) nv)<r (ax.getD (lo+n-1) nv):=by lia
 refine VN (λst=>∃ b,st=Dg κ b B g none/\Cr ax b lo N/\vw r b lo (n+1)) ?_ (λnp v=>?_) λnp=>⟨ax,rfl,Cr.rfl',?_⟩
 .rintro _ ⟨b,rfl,J,O⟩
  refine Bf (Tq (Gu ⟨rfl,?_⟩));refine Bf (Hv (Ft (I:=λx c Y=>∃ b q,Y=Dg κ b B g none/\c=(none,x,q)/\Cr ax b lo N/\vw r b lo x/\QP r b lo x q)
   (Q:=λc Y=>∃ b m q,Y=Dg κ b B g none/\c=(none,m,q)/\1<=m/\m<=N/\Cr ax b lo N/\vw r b lo m/\QP r b lo m q) ?_ ?_ ⟨_,0,rfl,rfl,J,O,by lia,λk a b=>by rw[show k=lo+(n+1)-1 by lia]⟩) ?_)
  .rintro x c Y T H ⟨b,q,rfl,rfl,J,O,G⟩
   dsimp only;have zb:=J.z;refine Bf (gR C (u J) ca ca ?_)
   dsimp only;refine qO (λl=>?_) λl=>?_
   .have l:r (b.getD (lo+x) nv)<r (b.getD (lo+x-1) nv):=by simpa using l
    have d2:=gZ O ca (Go l)
    have e2:∀ b:Ay Bm,QP r b lo (x+1) 0:=λb=>⟨by lia,λk a b=>by rw[show k=lo+(x+1)-1 by lia]⟩
    refine qO (λy=>Bf (fZ (Bu ⟨_,0,rfl,rfl,J.mir (by have:=G.1;lia) ca ca,λi j a c d=>?_,e2 _⟩))) λy=>Bu ⟨_,0,rfl,rfl,J,d2,e2 _⟩
    rw[p9 ca G,p9 ca G]
    exact d2 i j a c d
   .have l:¬ r (b.getD (lo+x) nv)<r (b.getD (lo+x-1) nv):=by simpa using l
    refine Bf (gR C (u J) ca ca ?_)
    dsimp only;refine qO (λM=>Bu ⟨b,x,q,rfl,rfl,by lia,by lia,J,O,G⟩) λM=>?_
    have M:¬ r (b.getD (lo+x-1) nv)<r (b.getD (lo+x) nv):=by simpa using M
    have ee:r (b.getD (lo+x) nv)=r (b.getD (lo+x-1) nv):=by lia
    refine Bu ⟨b,q+1,rfl,rfl,J,gZ O ca ca,by have:=G.1;lia,λk a c=>?_⟩
    rw[show lo+(x+1)-1=lo+x by lia]
    by_cases kx:k=lo+x
    .rw[kx]
    .rw[ee];exact G.2 k ca ca
  .rintro c Y ⟨b,q,rfl,rfl,J,O,G⟩
   rw[show max (n+1) N=N by lia] at O G ⊢
   exact⟨b,N,q,rfl,rfl,h1,Aw _,J,O,G⟩
  .rintro c Y ⟨b,m,q,rfl,rfl,m1,m2,J,O,G⟩
   dsimp only;have zb:=J.z;refine VN (λst=>∃ b,st=Dg κ b B g none/\Cr ax b lo N/\vw r b lo m) ?_ (λy v=>?_) λy=>⟨b,rfl,J,O⟩
   .rintro _ ⟨b,rfl,J,O⟩
    have z2:=J.z;refine Bf (fZ ?_);refine Bf (Hv (L (J.mir (Aw _) ca ca) m1 m2 (FH ca O) λ_ _=>rfl) ?_)
    rintro c Y ⟨rfl,n',rfl,q1,q2,q3,_⟩;exact Bu (h n' _ ca q2 (J.mir (Aw _) ca ca) q3)
   .refine Bf (fZ (v _ ⟨_,rfl,J.mir (by have:=G.1;lia) ca ca,λi j a c d=>?_⟩))
    rw[p9 ca G,p9 ca G]
    exact O i j a c d
 .refine Bf (gR C ua ca ca ?_)
  dsimp only;refine qO (λe=>Bu (h n ax t n2 Cr.rfl' sg)) λl=>?_;have l:¬ r (ax.getD lo nv)<r (ax.getD (lo+n-1) nv):=by simpa using l
  refine Bf (fZ (v _ ⟨_,rfl,Cr.rfl'.mir (Aw _) ca ca,gZ (λi j a b c=>?_) t ?_⟩))
  .rw[y8 ca,y8 ca,Bd ca,Bd ca]
   exact sg _ _ ca ca ca
  .rw[y8 ca,y8 ca,Bg ca,Bd ca,show lo+(lo+n)-1-(lo+n-1)=lo by lia]
   lia
 .have:n=1:=by lia
  subst this;exact gZ FI (Aw _) (Go nd)
end
theorem mL {a:Ay Bm}{Q d:Ag}(hs:Q<a.size)(Y:d<=Q)(k:Ag):(bubble a Q d).getD k nv=if k=Q-d then a.getD Q nv else if Q-d<k/\k<=Q then a.getD (k-1) nv else a.getD k nv:=by
 simp only[Fi];rw[getElem?_bubble hs d Y]
 repeat' split
 all_goals rfl
theorem eA {a:Ay Bm}{s d k:Ag}(hs:s+d<a.size)(h:k<s\/s+d<k):(bubble a (s+d) d).getD k nv=a.getD k nv:=by
 rw[mL hs (WP _ _),Ov,Bg ca,Bg ca]
theorem rZ {a:Ay Bm}{s d:Ag}(hs:s+d<a.size):(bubble a (s+d) d).getD s nv=a.getD (s+d) nv:=by
 rw[mL hs (WP _ _),Ov,Bd rfl]
theorem tO {a:Ay Bm}{s d z:Ag}(hs:s+d<a.size)(h:s<=z)(h2:z<s+d):(bubble a (s+d) d).getD (z+1) nv=a.getD z nv:=by
 rw[mL hs (WP _ _),Ov,Bg ca,Bd ⟨by lia,h2⟩]
 rfl
section
variable {prog:Bj}{w:Bz}{A:Bw}{E:ab}{s:Ai}{κ: Of}{U:Bm->Prop}{r:Bm->Ah}
theorem aX (C:Cm (Ax prog w) A s κ U r){lo n ok:Ag}{ax:Ay Bm}{O:Ay (Ag × Ag × Ag)}{g:Ag}{Q:Ar->Fp->Prop}(p:∀ x∈ax.toList,U x)(h1:ok<=n)(hz:lo+n<=ax.size)(sg:Seg r ax lo ok)
  (h:∀ b,Cr ax b lo n->Seg r b lo n->Q true (Dg κ b O g none)):wpS (Ax prog w) A E s (binarySort' lo n ok) Q (Dg κ ax O g none):=by
 have o:∀ {b:Ay Bm},Cr ax b lo n->∀ x∈b.toList,U x:=λh x T=>p x (h.pm.mem_iff.mp T);have L:Seg r ax lo (max ok 1):=by
  by_cases q:ok=0
  .rw[q];exact Q1
  .rw[show max ok 1=ok by lia];exact sg
 refine Bf (Hv (Ft (I:=λk c Y=>c=(none,())/\∃ b,Y=Dg κ b O g none/\Cr ax b lo n/\Seg r b lo k)
  (Q:=λc Y=>c=(none,())/\∃ b,Y=Dg κ b O g none/\Cr ax b lo n/\Seg r b lo n) ?_ ?_ ⟨rfl,ax,rfl,Cr.rfl',L⟩) ?_)
 .rintro k c Y f H ⟨rfl,b,rfl,J,sg⟩
  have zb:=J.z;dsimp only;refine Bf (Hv (Ft (I:=λx c Y=>Y=Dg κ b O g none/\∃ l u,c=(none,l,u)/\l<=u/\u<=k/\u+x<=k+l/\(∀ i,i<l->r (b.getD (lo+i) nv)<=r (b.getD (lo+k) nv))/\∀ i,u<=i->i<k->r (b.getD (lo+k) nv)<r (b.getD (lo+i) nv))
   (Q:=λc Y=>Y=Dg κ b O g none/\∃ l u,c=(none,l,u)/\l<=k/\(∀ i,i<l->r (b.getD (lo+i) nv)<=r (b.getD (lo+k) nv))/\∀ i,l<=i->i<k->r (b.getD (lo+k) nv)<r (b.getD (lo+i) nv)) ?_ ?_
   ⟨rfl,0,k,rfl,Ho _,Aw _,Aw _,λi t=>absurd t (Nat.not_lt_zero _),λi a b=>absurd a (Nat.not_le.mpr b)⟩) ?_)
  .rintro x c Y _ T ⟨rfl,l,u,rfl,B,M,v,N,G⟩
   dsimp only;refine qO (λe=>Bu ⟨rfl,l,u,rfl,by lia,N,λi a b=>G i ca b⟩) λe=>?_
   refine Bf (gR C (o J) ca ca ?_)
   dsimp only;refine qO (λz=>?_) λz=>?_
   .have z:r (b.getD (lo+k) nv)<r (b.getD (lo+(l+u)/2) nv):=by simpa using z
    exact Bu ⟨rfl,_,_,rfl,by lia,by lia,by lia,N,λi a c=>Te z (sg _ _ ca ca ca)⟩
   .have z:¬ r (b.getD (lo+k) nv)<r (b.getD (lo+(l+u)/2) nv):=by simpa using z
    exact Bu ⟨rfl,_,_,rfl,by lia,by lia,by lia,λi a=>Ey (sg _ _ ca ca ca) (Nt.mp z),G⟩
  .rintro c Y ⟨rfl,l,u,rfl,B,M,v,N,G⟩
   exact⟨rfl,l,u,rfl,by lia,N,λi a b=>G i ca b⟩
  .rintro c Y ⟨rfl,l,u,rfl,B,N,G⟩
   obtain⟨m,rfl⟩:=Fu B;clear B f;dsimp only;simp only[<- Nq] at N G ⊢;have hs:lo+l+m<b.size:=by lia
   have em:lo+l+m-(lo+l)=m:=Gn ..;refine Bf (Jz (Bu ⟨rfl,_,rfl,⟨(Tl.mp (bubble_perm _ _ _)).trans J.pm,λj y=>?_⟩,?_⟩))
   .show (bubble b (lo+l+m) (lo+l+m-(lo+l))).getD j nv=_
    rw[em,eA hs ca]
    exact J.out j y
   .intro i j a c d
    show r ((bubble b (lo+l+m) (lo+l+m-(lo+l))).getD i nv)<=r ((bubble b (lo+l+m) (lo+l+m-(lo+l))).getD j nv);rw[em];rcases Mk i (lo+l) with i1|rfl|i1
    .rw[eA hs (.inl i1)]
     rcases Mk j (lo+l) with j1|rfl|j1
     .rw[eA hs (.inl j1)];exact sg _ j a c ca
     .obtain⟨x,rfl⟩:=Fu a
      rw[rZ hs];exact N x ca
     .obtain⟨z,rfl⟩:∃ z,j=z+1:=⟨j-1,by lia⟩
      rw[tO hs ca ca];exact sg _ _ a ca ca
    .rw[rZ hs]
     rcases Nat.eq_or_lt_of_le c with rfl|j1
     .rw[rZ hs];exact Ja _
     .obtain⟨z,rfl⟩:∃ z,j=lo+z+1:=⟨j-1-lo,by lia⟩
      rw[tO hs ca ca];exact Go (G z ca ca)
    .obtain⟨x,rfl⟩:∃ x,i=x+1:=⟨i-1,by lia⟩
     obtain⟨z,rfl⟩:∃ z,j=z+1:=⟨j-1,by lia⟩
     rw[tO hs ca ca,tO hs ca ca];exact sg _ _ ca ca ca
 .rintro c Y ⟨rfl,b,rfl,J,sg⟩
  refine⟨rfl,b,rfl,J,?_⟩;intro i j a c d;exact sg i j a c ca
 .rintro c Y ⟨rfl,b,rfl,J,sg⟩
  exact Bu (h b J sg)
end
def Rn (r:Bm->Ah)(a:Ay Bm):Aa (Ag × Ag × Ag)->Ag->Ag->Prop
 |[],x,y=>x=y
 |(s,n,_)::t,x,y=>s=x/\0<n/\Seg r a s n/\Rn r a t (x+n) y
section
variable {r:Bm->Ah}{a b:Ay Bm}
theorem Rn.app:∀ {O Q:Aa (Ag × Ag × Ag)} {x y:Ag},Rn r a (O++Q) x y↔∃ m,Rn r a O x m/\Rn r a Q m y
 |[],Q,x,y=>⟨λh=>⟨x,rfl,h⟩,λ⟨m,Y,J⟩=>by cases Y;exact J⟩
 |(s,n,p)::t,Q,x,y=>by
  show s=x/\0<n/\Seg r a s n/\Rn r a (t++Q) (x+n) y↔∃ m,(s=x/\0<n/\Seg r a s n/\Rn r a t (x+n) m)/\Rn r a Q m y;rw[Rn.app];exact⟨λ⟨Y,J,U,m,G,N⟩=>⟨m,⟨Y,J,U,G⟩,N⟩,λ⟨m,⟨Y,J,U,G⟩,N⟩=>⟨Y,J,U,m,G,N⟩⟩
theorem Rn.le:∀ {L:Aa (Ag × Ag × Ag)} {x y:Ag},Rn r a L x y->x+L.length<=y
 |[],x,y,h=>by cases h;simp
 |(s,n,p)::t,x,y,h=>by have:=Rn.le h.2.2.2;have:=h.2.1;simp only[By];lia
theorem Rn.congr:∀ {L:Aa (Ag × Ag × Ag)} {x y:Ag},Rn r a L x y->(∀ k,x<=k->k<y->b.getD k nv=a.getD k nv)->Rn r b L x y
 |[],x,y,h,_=>h
 |(s,n,p)::t,x,y,h,e=>by
  obtain⟨rfl,Q,J,Y⟩:=h;have l:=Rn.le Y;refine⟨rfl,Q,λi j a c d=>?_,Rn.congr Y λk U Q=>e k ca Q⟩
  rw[e i ca ca,e j ca ca]
  exact J i j a c d
theorem Rn.mod {f:Ag × Ag × Ag->Ag × Ag × Ag}(Y:∀ u v p,∃ Q,f (u,v,p)=(u,v,Q)):∀ {L:Aa (Ag × Ag × Ag)} {i x y:Ag},Rn r a L x y->Rn r a (L.modify i f) x y
 |[],i,x,y,h=>by simpa using h
 |(s,n,p)::t,0,x,y,h=>by
  obtain⟨Q,e⟩:=Y s n p;rw[List.modify_zero_cons,e];exact h
 |(s,n,p)::t,i+1,x,y,h=>by
  rw[List.modify_succ_cons];exact⟨h.1,h.2.1,h.2.2.1,Rn.mod Y h.2.2.2⟩
end
theorem AQ {α:Type}{l:Aa α}{i:Ag}(h:i+1<l.length):∃ Q x y Y,l=Q++x::y::Y/\Q.length=i:=by
 refine⟨l.take i,l[i],l[i+1],l.drop (i+2),?_,by rw[Fl];lia⟩
 rw[<- Fz h,<- Fz ca,Qv]
section
variable {prog:Bj}{w:Bz}{A:Bw}{E:ab}{s:Ai}{κ: Of}{U:Bm->Prop}{r:Bm->Ah}
theorem nM (C:Cm (Ax prog w) A s κ U r){i e:Ag}{Q:Ar->Fp->Prop}{ax:Ay Bm}{Y:Ay (Ag × Ag × Ag)}{g:Ag}(c:∀ x∈ax.toList,U x)(hi:i+1<Y.size)(R:Rn r ax Y.toList 0 e)(he:e<=ax.size)
  (h:∀ b G g,b.toList.Perm ax.toList->(∀ k,e<=k->b.getD k nv=ax.getD k nv)->Rn r b G.toList 0 e->G.size+1=Y.size->Q true (Dg κ b G g none)):wpS (Ax prog w) A E s (mergeAt' i) Q (Dg κ ax Y g none):=by
 obtain⟨j,⟨N,B,T⟩,⟨a,I,pb⟩,v,O,L⟩:=AQ (l:=Y.toList) (i:=i) (by simpa using hi)
 rw[O] at R;obtain⟨m,R1,rfl,z,d,rfl,o,u,R2⟩:=Rn.app.mp R;have t:=Rn.le R2;have p:Y[i]? = Ab (N,B,T):=by
  rw[<- Br,O,<- L,Ct (Aw _),x0];rfl
 have y:Y[i+1]? = Ab (N+B,I,pb):=by
  rw[<- Br,O,<- L,Ct ca,Gn];rfl
 refine iG C c p y z o ca d u λb g f J sg=>?_
 have H:((Y.setIfInBounds i (N,B+I,T)).eraseIdxIfInBounds (i+1)).toList=j++(N,B+I,T)::v:=by
  rw[Array.toList_eraseIdxIfInBounds,Array.toList_setIfInBounds,O,<- L,List.set_append_right _ _ (Aw _),x0,Lj,List.eraseIdx_append_of_length_le ca,Gn]
  rfl
 refine h b _ g f (λk M=>J k ca) ?_ ?_
 .rw[H]
  refine Rn.app.mpr ⟨N,R1.congr λk _ M=>J k ca,rfl,by lia,sg,?_⟩
  rw[<- Nq];exact R2.congr λk M _=>J k ca
 .have:=congrArg Qk H
  have q:=congrArg Qk O;simp only[Bq,Cu,By] at this q
  lia
theorem rD (C:Cm (Ax prog w) A s κ U r){Q:Wk->Fp->Prop}{ax:Ay Bm}{g:Ag}(ua:∀ x∈ax.toList,U x)(h2:0<ax.size)
  (h:∀ b Y g,b.toList.Perm ax.toList->b.toList.Pairwise (Le r)->Q () (Dg κ b Y g none)):wpS (Ax prog w) A E s sortRuns' Q (Dg κ ax #[] g none):=by
 have M:∀ {b:Ay Bm},b.toList.Perm ax.toList->∀ x∈b.toList,U x:=λh x o=>ua x (h.mem_iff.mp o);have L:∀ {b:Ay Bm},b.toList.Perm ax.toList->b.size=ax.size:=λh=>by simpa using h.length_eq
 refine Bf (Pj ?_);dsimp only;refine Bf (Hv (Ft (I:=λx c J=>∃ b Y g lo,J=Dg κ b Y g none/\c=(none,lo)/\b.toList.Perm ax.toList/\lo<=ax.size/\min x ax.size<=lo/\Rn r b Y.toList 0 lo)
  (Q:=λc J=>∃ b Y g,J=Dg κ b Y g none/\c=(none,ax.size)/\b.toList.Perm ax.toList/\Rn r b Y.toList 0 ax.size) ?_ ?_ ⟨ax,#[],g,0,rfl,rfl,Mu _,by lia,by lia,rfl⟩) ?_)
 .rintro x c J _ o ⟨b,Y,g,lo,rfl,rfl,G,lo1,zs,R⟩
  have zb:=L G;dsimp only;refine qO (λe=>Bu ⟨b,Y,g,rfl,by rw[show lo=ax.size by lia],G,by rw[show ax.size=lo by lia];exact R⟩) λe=>?_
  refine Bf (rC C (M G) ca ca λn b2 n1 n2 cr sg=>?_)
  have R2:Rn r b2 Y.toList 0 lo:=R.congr λk _ H=>cr.out k (.inl H);have N:=cr.pm.trans G;have z2:=L N;dsimp only;apply I9 (y:=n) (P:=λn st=>∃ b,st=Dg κ b Y g none/\b.toList.Perm ax.toList/\Rn r b Y.toList 0 lo/\Seg r b lo n/\lo+n<=ax.size/\0<n/\min (x+1) ax.size<=lo+n)
  .rintro n _ ⟨b,rfl,G,R,sg,n3,n4,n5⟩
   refine Bf (Pj ?_);dsimp only;rcases hb:Y.back? with _|⟨s1,l1,p1⟩
   .dsimp only
    refine Bf (Jz (Bu ⟨_,_,_,_,rfl,rfl,G,n3,n5,?_⟩));show Rn r _ (Y.push _).toList 0 _;rw[Ej];exact Rn.app.mpr ⟨lo,R,rfl,n4,sg,rfl⟩
   .dsimp only
    refine Bf (Hv (Ft (I:=λ_ c J=>c=(none,())/\∃ b Y g,J=Dg κ b Y g none/\b.toList.Perm ax.toList/\Rn r b Y.toList 0 lo/\Seg r b lo n)
     (Q:=λc J=>c=(none,())/\∃ b Y g,J=Dg κ b Y g none/\b.toList.Perm ax.toList/\Rn r b Y.toList 0 lo/\Seg r b lo n) ?_ (λ_ _ z=>z) ⟨rfl,_,Y,g,rfl,G,R,sg⟩) ?_)
    .rintro y c J _ hy ⟨rfl,b,Y,g,rfl,G,R,sg⟩
     have zb:=L G;refine Bf (Pj ?_);dsimp only;by_cases hp:Y.size>1
     .rw[Bd hp]
      rcases hq:Y[Y.size-2]? with _|⟨u,v,zv⟩
      .exact Bu ⟨rfl,b,Y,g,rfl,G,R,sg⟩
      .dsimp only
       refine qO (λ_=>Bu ⟨rfl,b,Y,g,rfl,G,R,sg⟩) λ_=>?_;refine Bf (nM C (M G) ca R ca λp B g' p' O R' _=>?_)
       refine qO (λe=>by simp at e) λ_=>Bu ⟨rfl,p,B,g',rfl,p'.trans G,R',λi j a c d=>?_⟩
       rw[O i a,O j ca]
       exact sg i j a c d
     .rw[Bg hp]
      exact Bu ⟨rfl,b,Y,g,rfl,G,R,sg⟩
    .rintro c J ⟨rfl,b,Y,g,rfl,G,R,sg⟩
     dsimp only;refine Bf (Jz (Bf (Jz (Bu ⟨_,_,_,_,rfl,rfl,G,n3,n5,?_⟩))));show Rn r b ((Y.modify (Y.size-1) _).push _).toList 0 _;rw[Ej,Array.toList_modify];exact Rn.app.mpr ⟨lo,Rn.mod (λ_ _ _=>⟨_,rfl⟩) R,rfl,n4,sg,rfl⟩
  .intro lt H
   refine Bf (Tq (Gu ⟨rfl,?_⟩));refine Bf (aX C (M N) ca ca sg λb3 T zo=>?_)
   exact qO (λe=>by simp at e) λ_=>H _ _ ⟨b3,rfl,T.pm.trans N,R2.congr λk _ H=>T.out k (.inl H),zo,by lia,by lia,by lia⟩
  .exact λlt=>⟨b2,rfl,N,R2,sg,by lia,n1,by lia⟩
 .rintro c J ⟨b,Y,g,lo,rfl,rfl,G,lo1,zs,R⟩
  have:lo=ax.size:=by lia
  subst this;exact⟨b,Y,g,rfl,rfl,G,R⟩
 .rintro c J ⟨b,Y,g,rfl,rfl,G,R⟩
  dsimp only;have hl:=R.le;rw[Bq] at hl;refine Bf (Hv (Ft (I:=λx c J=>c=(none,())/\∃ b Y g,J=Dg κ b Y g none/\b.toList.Perm ax.toList/\Rn r b Y.toList 0 ax.size/\(Y.size<=1\/Y.size+x<=ax.size))
   (Q:=λc J=>c=(none,())/\∃ b Y g,J=Dg κ b Y g none/\b.toList.Perm ax.toList/\Rn r b Y.toList 0 ax.size/\Y.size<=1) ?_ ?_ ⟨rfl,b,Y,g,rfl,G,R,by lia⟩) ?_)
  .rintro x c J _ o ⟨rfl,b,Y,g,rfl,G,R,hs⟩
   have zb:=L G;refine Bf (Pj ?_);dsimp only;refine qO (λe=>Bu ⟨rfl,b,Y,g,rfl,G,R,e⟩) λe=>?_;refine Bf (nM C (M G) ?_ R ca λp B g' p' O R' z'=>?_)
   .have e:¬ Y.size<=1:=e
    have q:∀ (c:Prop) [Io c],(if c then Y.size-2-1 else Y.size-2)+1<Y.size:=λc _=>by split <;> lia
    exact q _
   exact qO (λe=>by simp at e) λ_=>Bu ⟨rfl,p,B,g',rfl,p'.trans G,R',by lia⟩
  .rintro c J ⟨rfl,b,Y,g,rfl,G,R,hs⟩
   exact⟨rfl,b,Y,g,rfl,G,R,by lia⟩
  .rintro c J ⟨rfl,b,Y,g,rfl,G,R,hs⟩
   have zb:=L G;refine Bu (h b Y g G ?_);have hs:Y.toList.length<=1:=by simpa using hs
   revert R hs
   cases Y.toList with
   |nil=>intro R;have:0=ax.size:=R;lia
   |cons q t =>
    obtain⟨s0,n0,p0⟩:=q;intro R hs;have:t=[]:=by cases t with|nil=>rfl|cons _ _=>simp at hs
    subst this;obtain⟨rfl,_,sg,e⟩:=R;have e:n0=ax.size:=by have:0+n0=ax.size:=e;lia
    subst e;rw[Kk];intro i j hi hj l;have f:i<b.size:=by simpa using hi
    have zl:j<b.size:=by simpa using hj
    have:=sg i j ca ca ca
    simpa [Gw,f,zl,Le] using this
end
structure ut (prog:Bj)(w:Bz)(h0:Bv)(vs:ah)(f:Ag->Ag->Ar):Prop where
 ex:∃ κ,∀ (A:Bw),A.units+8<EQ->∀ (s:Ai),mj h0 s.heap->(∀ (Q:Of->Ai->Prop) (E:ab),Q κ s->Aq (Ax prog w) A (keyKind' vs.toArray) Q E s)/\∀ i j (C:Ar->Ai->Prop),i<vs.length->j<vs.length->C (f i j) s->kas_ask prog w A κ vs i j C s
open Classical in
def kV {K:Type}(is:K->Ac->Prop)(d:K)(v:Ac):K:=if h:∃ k,is k v then choose h else d
open Classical in
theorem kE {K:Type}{is:K->Ac->Prop}{d:K}(h:∃ k,is k v):is (kV is d v) v:=by
 unfold kV;rw[dif_pos h];exact choose_spec h
section
variable {prog:Bj}{w:Bz}{A:Bw}{E:ab}{s:Ai}
theorem B8 {K:Type}{is:K->Ac->Prop}{lt':K->K->Ar}{d:K}(O:Ord lt')(zo:∀ {k k':K} {v:Ac},is k v->is k' v->k=k'){a:Af}{vs:ah}{ks:Aa K}{n:Ag}{h0:Bv}{P:PySem.Fin->Ai->Prop}(J:vs.length=ks.length)(zl:∀ i v,vs[i]? = Ab v->is (ks.getD i d) v)(M:s.heap.get? a=Ab (Eu "list" vs.toArray n))(hu:A.units+8<EQ)(hz:vs.length<=100000)(c:2<=vs.length->ut prog w h0 vs (rX lt' ks d))(hS:mj h0 s.heap)(ha:h0.get? a=none)
  (h:∀ ps:Aa (K × Ac),ps.Perm (ks.zip vs)->Nf lt' (ps.map (·.1))->P (.done (.ret .none)) { s with heap:=sortedHeap s.heap a vs (ps.map (·.2)).toArray }) : Aq (Ax prog w) A (Kv.«list.sort» ⟨[.ref a],[]⟩) P E s:=by
 rw[list_sort_plain];have hb:a<s.heap.objs.size:=Ba M;have zb:vs.toArray.size=vs.length:=by simp
 refine Ad (listItems_at M rfl (Ad (listUpdate_at M rfl ?_ (by rw[zb,Fy];lia) (Ho _))))
 obtain⟨r,H⟩:∃ r,(s.heap.update a (Fd λ_=>#[])).get? a=Ab (Eu "list" #[] r):=⟨_,Og M (λ_=>#[])⟩;refine Ad (seqEpoch_at H rfl (Ad (Xz (Ad (Zm (Fn ?_) (Ho _))) (by show vs.length<=_;rw[Fy];lia))))
 have T:(((s.heap.update a (Fd λ_=>#[])).push (Eu "tuple" vs.toArray 0)).push (Eu "list" #[] 0)).get? a=Ab (Eu "list" #[] r):=
  Aj _ (Aj _ H)
 have S6:mj h0 (((s.heap.update a (Fd λ_=>#[])).push (Eu "tuple" vs.toArray 0)).push (Eu "list" #[] 0)):=λb o e =>
  Aj _ (Aj _ ((Dk _ _ (λz:a=b=>by rw[<- z,ha] at e;cases e)).trans (hS b o e)))
 show Aq (Ax prog w) A _ P E { s with heap:=((s.heap.update a (Fd λ_=>#[])).push (Eu "tuple" vs.toArray 0)).push (Eu "list" #[] 0) }
 dsimp only;have I:∀ (Y:Fp) (ps:Aa (K × Ac)),(arrOf Y).map (·.2)=(ps.map (·.2)).toArray->failedOf Y=none->ps.Perm (ks.zip vs)->Nf lt' (ps.map (·.1))->Aq (Ax prog w) A (do
   let N:=(<- seqEpoch a) != r
   Builtin.List.listUpdate (.ref a) λ_=>(arrOf Y).map (·.2)
   if let Ab e:=failedOf Y then rule "list.sort.comparison-raised";throw e
   if N then rule "list.sort.modified";raiseError "ValueError" "list modified during sort"
   ret .none) P E { s with heap:=((s.heap.update a (Fd λ_=>#[])).push (Eu "tuple" vs.toArray 0)).push (Eu "list" #[] 0) }:=by
  intro Y ps h1 U f h4;have hl:(ps.map (·.2)).length=vs.length:=by rw[Ao,f.length_eq,Rx,J,wE]
  refine Ad (seqEpoch_at T rfl ?_);rw[h1];refine Ad (listUpdate_at T rfl ?_ (Ho _) (by show (ps.map (·.2)).toArray.size<=_;rw[Bn,hl,Fy];lia))
  rw[U];simp only[bne_self_eq_false,Bp,Dv];exact Am (h ps f h4)
 by_cases U:vs.toArray.size<2
 .rw[Bd U,Bd U]
  refine Ad (Am ?_);rw[StateT.run_pure];refine Ad (Am ?_);refine I (Dg general' (vs.toArray.zip vs.toArray) #[] 7 none) (ks.zip vs) ?_ rfl (Mu _) ?_
  .show (vs.toArray.zip vs.toArray).map (·.2)=_
   apply AaS.mp;simp[List.map_snd_zip,J]
  .rw[Vl ca]
   match ks,J with
   |[],_=>exact Ps
   |[_],_=>exact Vz _ _
   |_::_::_,e=>simp at e U;lia
 .rw[Bg U,Bg U]
  have zc:2<=vs.length:=by lia
  obtain⟨κ,C⟩:=c zc;obtain⟨k1,k2⟩:=C A hu { s with heap:=((s.heap.update a (Fd λ_=>#[])).push (Eu "tuple" vs.toArray 0)).push (Eu "list" #[] 0) } S6
  have l:∀ i,i<vs.length->kV is d (vs.getD i Dr)=ks.getD i d:=λi G=>by
   have q:=zl i (vs.getD i Dr) (by rw[Jv,An G];rfl)
   exact zo (kE ⟨_,q⟩) q
  have km:∀ i,i<vs.length->ks.getD i d∈ks:=λi G=>by
   have:i<ks.length:=by lia
   simp[Lb,this]
  have cm:Cm (Ax prog w) A { s with heap:=((s.heap.update a (Fd λ_=>#[])).push (Eu "tuple" vs.toArray 0)).push (Eu "list" #[] 0) } κ (λx=>∃ i,i<vs.length/\x=(vs.getD i Dr,vs.getD i Dr)) (λx=>pT lt' ks (kV is d x.1)):=by
   refine⟨?_⟩;rintro x y ⟨i,G,rfl⟩ ⟨j,L,rfl⟩ E Q st hk q;rw[lt'_eq];refine Bf (Pj ?_);rw[hk];rw[l i G,l j L,<- cW O (km i G)] at q;refine Bf (Tq (Lu (Hk (k2 i j (λb s'=>s'=_/\b=rX lt' ks d i j) G L ⟨rfl,rfl⟩) ?_ λ_ _ e=>e.elim)));rintro b s' ⟨rfl,rfl⟩;exact⟨rfl,Bu q⟩
  have pl:(vs.toArray.zip vs.toArray).toList=(Cd vs.length).map λi=>(vs.getD i Dr,vs.getD i Dr):=by
   apply Vk
   .simp
   .intro i h1 U
    have:i<vs.length:=by simpa using U
    simp[this]
  refine Ad (k1 _ _ ?_);refine Ad (Hk (rD (E:=E) (Q:=λ_ Y=>∃ b u g,Y=Dg κ b u g none/\b.toList.Perm (vs.toArray.zip vs.toArray).toList/\b.toList.Pairwise (Le λx=>pT lt' ks (kV is d x.1))) cm (ax:=vs.toArray.zip vs.toArray) (g:=7) ?_ ?_ λb u g p q=>⟨b,u,g,rfl,p,q⟩) ?_ λ_ _ e=>e)
  .intro x B
   rw[pl] at B;obtain⟨i,G,rfl⟩:=Bl.mp B;exact⟨i,Dc.mp G,rfl⟩
  .simp;lia
  .rintro⟨⟨⟩,Y⟩ s' ⟨rfl,b,u,g,rfl,pm,up⟩
   refine I _ (b.toList.map λx=>(kV is d x.1,x.2)) ?_ rfl ?_ ?_
   .show b.map (·.2)=_
    apply AaS.mp;simp
   .refine(pm.map _).trans ?_
    rw[pl,Ea];have:ks.zip vs=(Cd vs.length).map λi=>(ks.getD i d,vs.getD i Dr):=by
     apply Vk
     .simp[J]
     .intro i h1 U
      have f:i<vs.length:=by simpa using U
      have h4:i<ks.length:=by lia
      simp[f,h4]
    rw[this];refine List.Perm.of_eq (Jj λi G=>?_);show (kV is d (vs.getD i Dr),_)=_;rw[l i (Dc.mp G)]
   .unfold Nf
    rw[Ea,Ei];refine up.imp_of_mem λ{x y} B t h=>?_;have B:=pm.mem_iff.mp B;have t:=pm.mem_iff.mp t;rw[pl] at B t;obtain⟨i,G,rfl⟩:=Bl.mp B;obtain⟨j,L,rfl⟩:=Bl.mp t;have h:pT lt' ks (kV is d (vs.getD i Dr))<=pT lt' ks (kV is d (vs.getD j Dr)):=h;show lt' (kV is d (vs.getD j Dr)) (kV is d (vs.getD i Dr))=false;have L:=Dc.mp L;rw[cW O (ks:=ks) (by rw[l j L];exact km j L)]
    exact Cs ca
end
section
variable {prog:Bj}{w:Bz}{h0:Bv}
theorem MR {b:Ar}{Q:Ar->Ai->Prop}:∀ {xs Y:Aa Ah} {us vs:ah} {i:Ag} {N M:Ag},ItemsAre (Cz prog w) xs us->ItemsAre (Cz prog w) Y vs->N+Y.length=M+xs.length->Q (_H.lexLt xs Y) s->KatLex prog w A b (decide (N<M)) Q (us.zip vs) i s:=by
 intro xs Y us vs i N M G
 induction G generalizing Y vs i with
 |nil =>
  intro U J h;cases U with
  |nil =>
   have:decide (N<M)=false:=Cs (by simp at J;lia)
   rw[this];exact h
  |@cons k v Y vs q r =>
   have:decide (N<M)=true:=Co (by simp at J;lia)
   rw[this];exact h
 |@cons x u xs us L E O =>
  intro U J h;cases U with
  |nil =>
   have:decide (N<M)=false:=Cs (by simp at J;lia)
   rw[this];exact h
  |@cons y v Y vs B C =>
   obtain⟨t,rfl⟩:=wN (prog:=prog) (w:=w) L;obtain⟨T,rfl⟩:=wN (prog:=prog) (w:=w) B;rw[Ta];refine kat_cons (wpAny_eqBool_int ?_);rw[_H.cq] at h;refine kat_go (λe=>kat_yes ?_) λe=>kat_no ?_
   .rw[Bd (by simpa using e)] at h
    exact O C (by simp at J;lia) h
   .rw[Bg (by simpa using e)] at h
    cases b&&i == 0 with
    |true=>exact oneLt_int h
    |false=>exact kat_one _ _ (Yw h)
theorem Q9:∀ {vs:ah} {ks:Aa (Aa Ah)},vs.length=ks.length->(∀ i v,vs[i]? = Ab v->ig prog w h (ks.getD i []) v)->(∀ k∈ks,k≠[])->∃ U,KatTups h vs U/\U.length=vs.length/\∀ f∈U,∃ n t,f=Ts n t
 |[],[],_,_,_=>⟨[],trivial,rfl,λf hf=>by simp at hf⟩
 |v::vs,k::ks,C,hv,J=>by
  obtain⟨U,L,E,T⟩:=Q9 (vs:=vs) (ks:=ks) (by simpa using C) (λi u O=>by simpa using hv (i+1) u (by simpa using O)) λk G=>J k (by simp[G])
  obtain⟨a,rfl,o,Q,n,B,A,I,H⟩:=hv 0 v rfl;have G:k≠[]:=J k cy
  have Y:ItemsAre (Cz prog w) k Q.toList:=H;cases N:Q.toList with
  |nil=>rw[N] at Y;cases Y;exact absurd rfl G
  |cons f qD =>
   rw[N] at Y;cases Y with
   |cons q _ =>
    obtain⟨t,rfl⟩:=wN (prog:=prog) (w:=w) q;refine⟨_::U,KatTups.cons B A I (by rw[<- Br,N];rfl) L,by simp[E],λf hf=>?_⟩
    rcases Av.mp hf with rfl|hf
    .exact⟨_,_,rfl⟩
    .exact T f hf
theorem DJ {ks:Aa (Aa Ah)}(L:vs.length=ks.length)(hv:∀ i v,vs[i]? = Ab v->ig prog w h0 (ks.getD i []) v)(J:∀ k∈ks,k≠[])(h2:2<=vs.length):ut prog w h0 vs (rX _H.lexLt ks []):=by
 refine⟨tuples' (Je "int" != Je "tuple"),λA d s G=>⟨λQ E h=>?_,λi j C o p h=>?_⟩⟩
 .obtain⟨f,I,x,M⟩:=Q9 (h:=s.heap) L (λi v Y=>by obtain⟨a,e,q⟩:=hv i v Y;exact⟨a,e,uH G q⟩) J
  refine kat_kind I ca (λv Y=>?_) cz h
  obtain⟨n,t,rfl⟩:=M v Y;exact Looks.of_pure rfl
 .have g:∀ k (U:k<vs.length),∃ a,vs.getD k Dr=.ref a/\Sh (Cz prog w) s.heap (ks.getD k []) a:=λk U=>by
   obtain⟨a,e,q⟩:=hv k vs[k] (An U);exact⟨a,by rw[<- e];simp[Lb,U],uH G q⟩
  obtain⟨a,u,oa,r,na,l,_,z,N⟩:=g i o;obtain⟨b,H,ob,ib,nb,B,_,y,O⟩:=g j p;unfold kas_ask;rw[u,H];refine kat_lt l z B y (MR N O ?_ h);have c:=N.length;have T:=O.length;simp only[Bq] at c T
  lia
theorem DH {ks:Aa Ah}(I:vs.length=ks.length)(hv:∀ i v,vs[i]? = Ab v->ow prog w (ks.getD i 0) v)(h2:2<=vs.length):ut prog w h0 vs (rX qf ks 0):=by
 have J:∀ v∈vs,∃ n t,v=Ts n t:=λv N=>by
  obtain⟨i,J,e⟩:=Cq.mp N;obtain⟨t,q⟩:=wN (hv i v (by rw[An J,e]))
  exact⟨_,t,q⟩
 refine⟨oneType',λA T s L=>⟨λQ E h=>?_,λi j C J B h=>?_⟩⟩
 .obtain⟨v₁,Y,qD,rfl⟩:∃ v₁ Y qD,vs=v₁::Y::qD:=by
   match vs,h2 with
   |v₁::Y::qD,_=>exact⟨v₁,Y,qD,rfl⟩
  rw[keyKind_ints (intsAre_map _ J)];exact Am h
 .have g:∀ k (U:k<vs.length),∃ t,vs.getD k Dr=.int (ks.getD k 0) t:=λk U=>by
   obtain⟨t,q⟩:=wN (hv k vs[k] (An U));exact⟨t,by rw[<- q];simp[Lb,U]⟩
  obtain⟨t,G⟩:=g i J;obtain⟨u,O⟩:=g j B;unfold kas_ask;rw[G,O];exact kat_lt_int h
end
section
variable {K:Type}
theorem VP {α:Type}{ks:Aa K}{vs:Aa α}(U:vs.length=ks.length){p:K × α}(h:p∈ks.zip vs):∃ i,vs[i]? = Ab p.2/\ks.getD i d=p.1:=by
 obtain⟨i,Y,e⟩:=Cq.mp h;have Q:i<ks.length:=by rw[Rx] at Y;lia
 have J:i<vs.length:=by lia
 rw[List.getElem_zip] at e;subst e;exact⟨i,An J,by simp[Q]⟩
end
structure Kind (prog:Bj)(w:Bz){K:Type}(is:K->Ac->Prop)(hash:K->Ah)(lt':K->K->Ar)(d:K)(Fit:K->Prop)(h0:Bv):Prop where
 ord:Ord lt'
 inj:∀ {k k':K} {v:Ac},is k v->is k' v->k=k'
 cmps:∀ {vs:ah} {ks:Aa K},vs.length=ks.length->(∀ i v,vs[i]? = Ab v->is (ks.getD i d) v)->(∀ k∈ks,Fit k)->2<=vs.length->ut prog w h0 vs (rX lt' ks d)
theorem B4 (prog:Bj)(w:Bz)(h0:Bv):Kind prog w (ig prog w h0) (Vx (Cz prog w)) _H.lexLt [] (·≠[]) h0:=⟨pQ,ig.inj,λY U Q J=>DJ Y U Q J⟩
theorem B3 (prog:Bj)(w:Bz)(h0:Bv):Kind prog w (ow prog w) (Cz prog w).hash qf 0 (λ_=>Sc) h0:=⟨_Q,λa b=>(Cz prog w).inj _ _ _ a b,λQ J _ Y=>DH Q J Y⟩
section
variable {prog:Bj}{w:Bz}{A:Bw}{E:ab}{s:Ai}{K:Type}{is:K->Ac->Prop}{au:K->Ah}{lt':K->K->Ar}{d:K}{pq:K->Prop}{h0:Bv}{S:Af}{V:ah}{seen:Aa K}
open Classical in
def sw (is:K->Ac->Prop)(d:K)(e:Ah × Ac):K:=if h:∃ k,is k e.2 then choose h else d
open Classical in
theorem RM {e:Ah × Ac}(h:∃ k,is k e.2):is (sw is d e) e.2:=by
 unfold sw;rw[dif_pos h];exact choose_spec h
theorem XE {Q:ab}(kd:Kind prog w is au lt' d pq h0)(hh:A.handled=none)(hu:A.units+16<EQ)(hS:mj h0 s.heap)(Z:jl is au S (vC w) V seen s.heap)(hf:∀ k∈seen,pq k){U:Aa K}(hU:U.length<=1000)(zs:∀ k∈seen,k∈U)
  (h:∀ h' tk D c (ps:Aa (K × Ac)),(∀ b o,s.heap.get? b=Ab o->h'.get? b=Ab o)->s.heap.objs.size<=D->h'.get? D=Ab (Eu "list" (ps.map (·.2)).toArray c)->ps.map (·.1)=jq lt' seen->(∀ p∈ps,is p.1 p.2/\p.2∈V)->ps.length<=1000->Q (.ref D) { s with heap:=h',toks:=tk }) :
  Aq (Ax prog w) A (call (.builtin "sorted") [.ref S]) Q E s:=by
 obtain⟨O,H,t,ho,I,T,hl,hV⟩:=Z;have st:lx w S O H t:=⟨T,hl⟩;have hn:O.size<=1000:=by
  have:=t5 O.toList U I.nd λe N=>by
   obtain⟨k',_,q⟩:=I.good e N;exact⟨k',zs k' ((I.mem k').mpr ⟨e,N,q⟩),q⟩
  rw[Bq] at this
  lia
 have M:=nR w S H O;have zy:=uW w S H O;have Y:∀ e∈(qP w S H O).toList,is (sw is d e) e.2/\e.2∈V:=λe N=>by
  have j:=M.mem_iff.mp N;obtain⟨k,_,q⟩:=I.good e j;exact⟨RM ⟨k,q⟩,hV e j⟩
 have zv:(qP w S H O).toList.Pairwise λa b=>∀ k,is k a.2->¬ is k b.2:=(M.pairwise_iff λ{x y} h k hy hx=>h k hx hy).mpr I.nd;generalize zb:(qP w S H O).toList=oe at *;have zx:oe.length<=1000:=by rw[M.length_eq,Bq];exact hn
 have B:∀ i v,(oe.map (·.2))[i]? = Ab v->is ((oe.map (sw is d)).getD i d) v/\v∈V:=λi v hv=>by
  rw[Dp] at hv;cases r:oe[i]? with
  |none=>rw[r] at hv;cases hv
  |some e =>
   rw[r] at hv;cases hv;have g:=Y e (Cf r);have:(oe.map (sw is d)).getD i d=sw is d e:=by rw[Jv,Dp,r];rfl
   rw[this];exact g
 have nd:(oe.map (sw is d)).Nodup:=by
  unfold Vi;rw[Ei];refine Uw (λ{a b} ha L h e=>?_) zv;exact h _ (Y a ha).1 (e▸(Y b L).1)
 have mem:∀ x,x∈oe.map (sw is d)↔x∈seen:=λx=>by
  rw[I.mem,Bl];constructor
  .rintro⟨e,N,rfl⟩
   exact⟨e,M.mem_iff.mp N,(Y e N).1⟩
  .rintro⟨e,N,q⟩
   exact⟨e,M.mem_iff.mpr N,kd.inj (Y e (M.mem_iff.mpr N)).1 q⟩
 have G:(oe.map (·.2)).length=(oe.map (sw is d)).length:=by simp
 refine Uk kind_sorted plain_sorted entry_sorted (args_sorted1 _) ?_;unfold Kv.«sorted»;refine Ad (m:=checkCount "sorted" 1 1 _) (Am ?_);refine Ad (i3 hh st ho ca λJ u l C=>?_)
 rw[zb];refine Ad (Zm ?_ (by rw[Fy,Ao];lia))
 have hD:(J.push (Eu "list" (oe.map (·.2)).toArray 0)).get? J.objs.size=Ab (Eu "list" (oe.map (·.2)).toArray 0):=Bb _ rfl
 have n0:h0.get? J.objs.size=none:=by
  cases q:h0.get? J.objs.size with
  |none=>rfl
  |some o=>exact absurd (Ba (hS _ _ q)) (Qb.mpr (Ef C))
 show Aq _ _ _ _ _ { s with heap:=J.push (Eu "list" (oe.map (·.2)).toArray 0),toks:=u }
 refine Ad (Fn (Eh slot_list_sort ⟨_,hD,rfl⟩ entry_list_sort (B8 (h0:=h0) (is:=is) kd.ord kd.inj (d:=d) (vs:=oe.map (·.2)) G (λi v hv=>(B i v hv).1) hD (by show A.units+2+8<EQ;lia) (by rw[Ao];lia) (λh2=>kd.cmps G (λi v hv=>(B i v hv).1) (λk hk=>hf k ((mem k).mp hk)) h2) (λb o e=>Aj _ (l b o (hS b o e))) n0 λps pm nf=>⟨_,rfl,?_⟩) (args_list_sort _)))
 refine Am ⟨_,rfl,?_⟩;have hz:(J.push (Eu "list" (oe.map (·.2)).toArray 0)).objs.size=J.objs.size+1:=size_push' ..
 have zc:∀ b o,b≠J.objs.size->(J.push (Eu "list" (oe.map (·.2)).toArray 0)).get? b=Ab o->((((J.push (Eu "list" (oe.map (·.2)).toArray 0)).update J.objs.size (Fd λ_=>#[])).push (Eu "tuple" (oe.map (·.2)).toArray 0)).push (Eu "list" #[] 0)).get? b=Ab o:=λb o L e =>
  Aj _ (Aj _ ((Dk _ _ (Gd L)).trans e))
 obtain⟨f,zl⟩:∃ f,((J.push (Eu "list" (oe.map (·.2)).toArray 0)).update J.objs.size (Fd λ_=>#[])).get? J.objs.size=Ab (Eu "list" #[] f):=⟨_,Og hD (λ_=>#[])⟩
 have zo:=Og (Aj (Eu "list" #[] 0) (Aj (Eu "tuple" (oe.map (·.2)).toArray 0) zl)) (λ_=>(ps.map (·.2)).toArray)
 have pk:(ps.map (·.1)).Perm (oe.map (sw is d)):=by
  have:=pm.map (·.1)
  rwa [Vl ca] at this
 refine h _ u J.objs.size _ ps (λb o e=>?_) (Ef C) zo (E1 kd.ord nf (pk.nodup_iff.mpr nd) λx=>by rw[pk.mem_iff,mem]) (λp hp=>?_) (by have:=pk.length_eq;rw[Ao,Ao] at this;lia)
 .have L:b≠J.objs.size:=λz=>by
   subst z;exact absurd (Ba e) (Qb.mpr (Ef C))
  exact(Dk _ _ (Gd L)).trans (zc b o L (Aj _ (l b o e)))
 .obtain⟨i,f,e2⟩:=VP (d:=d) G (pm.mem_iff.mp hp)
  exact e2▸B i _ f
end
end _S
namespace _D
open _L
noncomputable def wF:Aa D->Al (Aa (Aa Ah))
 |[]=>Ab []
 |.tup Q::r=>(zO Q).bind λk=>(wF r).map (k::·)
 |_::_=>none
def fj (k:Aa Ah):D:=.tup (k.map D.int)
theorem tI:∀ {Q:Aa D} {ks:Aa (Aa Ah)},wF Q=Ab ks->Q=ks.map fj
 |[],ks,h=>by cases h;rfl
 |d::r,ks,h=>by
  cases d with
  |tup U =>
   obtain⟨k,J,G⟩:=Ex.mp (show (zO U).bind (λk=>(wF r).map (k::·))=Ab ks from h)
   obtain⟨m,Y,rfl⟩:=Dl.mp G;rw[tI Y,yS J];rfl
  |_=>cases h
theorem uJ (ks:Aa (Aa Ah)):wF (ks.map fj)=Ab ks:=by
 induction ks with
 |nil=>rfl
 |cons k ks Q =>
  show (zO (k.map D.int)).bind (λk=>(wF (ks.map fj)).map (k::·))=_
  rw[uC,Q];rfl
def jP (xs:Aa D):Al (Aa D):=match zO xs with
 |some Y=>if (_S.jq _S.qf Y).length<=1000 then Ab ((_S.jq _S.qf Y).map D.int) else none
 |none=>match wF xs with
  |some Q=>if ((_S.jq _H.lexLt Q).length<=1000&&Q.all λk=>!k.isEmpty) then Ab ((_S.jq _H.lexLt Q).map fj) else none
  |none=>none
def G9:D->Al (Aa D)
 |.lst Q=>Ab Q
 |.tup Q=>Ab Q
 |_=>none
theorem GG {K:Type}{lt':K->K->Ar}(O:_S.Ord lt')(ks:Aa K)(d:K):_S.jq lt' (_S.u4 (λi=>ks.getD i d) ks.length)=_S.jq lt' ks:=
 _S.dI O (_S.f7 O _) (_S.f7 O _) λx=>by
  rw[_S.vY O,_S.vY O,_S.kG];constructor
  .rintro⟨i,Q,rfl⟩
   simp[Lb,Q]
  .intro Y
   obtain⟨i,Q,e⟩:=Cq.mp Y;exact⟨i,Q,by simp[Lb,Q,e]⟩
section
variable {X:Cx}{e:Bx}
theorem XZ:Gb "sorted" = Ab (.builtin "sorted"):=by decide +kernel
theorem lT:∀ {k:Aa Ah} {us:ah},qI (k.map V.int) us->ItemsAre (Cz prog w) k us
 |[],us,h=>by cases h;exact .nil
 |i::k,us,h=>by
  cases h with
  |cons q t =>
   obtain⟨Q,rfl⟩:=q;exact .cons (Zh _ _ _ _) (lT t)
theorem aD {σ : _L.St}{H P:Hp}{α : Aa Af}{S:ao}(I:Inv X ai σ H s)(r:a_ X.K H P α S)(p:aq X.K P α d v)(q:qH v Y)(h:G9 d=Ab xs) :
  ∃ a vs am,Y=.ref a/\qB X.K P α xs vs/\qI vs am/\(s.heap.IsList a am.toArray\/s.heap.IsTuple a am.toArray)/\xs.length=am.length:=by
 cases d with
 |lst J =>
  cases h;obtain⟨a,vs,am,n,rfl,_,t,Q,e,l,_⟩:=gI I r p;exact⟨a,vs,am,q,t,Q,.inl ⟨_,e,rfl,n,rfl⟩,l⟩
 |tup J =>
  cases h;obtain⟨a,vs,am,rfl,_,t,Q,⟨o,e,G,n,U⟩,l,_⟩:=uI I r p;exact⟨a,vs,am,q,t,Q,.inr ⟨o,e,G,n,U⟩,l⟩
 |_=>cases h
end
end _D
section
namespace _D
open _L
mutual
def vz:D->Al PyData
 |.non=>Ab .none
 |.bl b=>Ab (.bool b)
 |.int i=>Ab (.int i)
 |.str x=>Ab (.str x)
 |.tup Q=>(tB Q).map .tuple
 |.lst Q=>(tB Q).map .list
 |.dct0=>Ab (.dict [])
 |_=>none
def tB:Aa D->Al (Aa PyData)
 |[]=>Ab []
 |d::Q=>(vz d).bind λx=>(tB Q).map (x::·)
end
end _D
end
namespace _S
open PySem.W
section
variable {prog:Bj}{w:Bz}{A:Bw}{E:ab}{s:Ai}{K:Type}{is:K->Ac->Prop}{au:K->Ah}{lt':K->K->Ar}{d:K}{pq:K->Prop}{h0:Bv}
theorem XD {Q:ab}(kd:Kind prog w is au lt' d pq h0)(hu:A.units+16<EQ)(u:mj h0 s.heap){l:Af}{vs:ah}(t:s.heap.IsList l vs.toArray\/s.heap.IsTuple l vs.toArray)(ks:Aa K)(Y:vs.length=ks.length)(J:∀ i v,vs[i]? = Ab v->is (ks.getD i d) v)(a:∀ k∈ks,pq k)(O:vs.length<=100000)
  (h:∀ (h1 h':Bv) (tk:Ag) (D:Af) (c:Ag) (ps:Aa (K × Ac)),(∀ b o,s.heap.get? b=Ab o->h1.get? b=Ab o)->(∀ b o,h1.get? b=Ab o->h'.get? b=Ab o)->h1.objs.size<=D->h'.get? D=Ab (Eu "list" (ps.map (·.2)).toArray c)->ps.map (·.1)=wQ lt' ks->(∀ p∈ps,is p.1 p.2/\p.2∈vs)->ps.length=ks.length->Q (.ref D) { s with heap:=h',toks:=tk }) :
  Aq (Ax prog w) A (call (.builtin "sorted") [.ref l]) Q E s:=by
 refine Uk kind_sorted plain_sorted entry_sorted (args_sorted1 _) ?_;unfold Kv.«sorted»;refine Ad (m:=checkCount "sorted" 1 1 _) (Am ?_);have G:∀ {R:Aa Ac->Ai->Prop},(∀ h1:Bv,(∀ b o,s.heap.get? b=Ab o->h1.get? b=Ab o)->R vs { s with heap:=h1 }) -> Aq (Ax prog w) A.in1 (collect (.ref l)) R E s:=λ{R} f=>by
  have e:vs.toArray.toList=vs:=by simp
  rcases t with⟨o,L,y,n,M⟩|⟨o,L,y,n,M⟩
  .exact wpAny_collect_seq l (.inl rfl) L y M (λh' H=>by rw[e];exact f h' H) (by rw[Bn,Fy];lia)
  .exact wpAny_collect_seq l (.inr rfl) L y M (λh' H=>by rw[e];exact f h' H) (by rw[Bn,Fy];lia)
 refine Ad (G λh1 U=>?_);refine Ad (Zm ?_ (by rw[Fy];lia))
 have j:(h1.push (Eu "list" vs.toArray 0)).get? h1.objs.size=Ab (Eu "list" vs.toArray 0):=Bb _ rfl;have x:h0.get? h1.objs.size=none:=by
  cases q:h0.get? h1.objs.size with
  |none=>rfl
  |some o=>exact absurd (Ba (U _ _ (u _ _ q))) (Eg _)
 show Aq _ _ _ _ _ { s with heap:=h1.push (Eu "list" vs.toArray 0),toks:=s.toks }
 refine Ad (Fn (Eh slot_list_sort ⟨_,j,rfl⟩ entry_list_sort (B8 (h0:=h0) (is:=is) kd.ord kd.inj (d:=d) (vs:=vs) Y J j (by show A.units+2+8<EQ;lia) O (λh2=>kd.cmps Y J a h2) (λb o e=>Aj _ (U b o (u b o e))) x λps g nf=>⟨_,rfl,?_⟩) (args_list_sort _)))
 refine Am ⟨_,rfl,?_⟩;have hz:(h1.push (Eu "list" vs.toArray 0)).objs.size=h1.objs.size+1:=size_push' ..;have I:∀ b o,b≠h1.objs.size->(h1.push (Eu "list" vs.toArray 0)).get? b=Ab o->((((h1.push (Eu "list" vs.toArray 0)).update h1.objs.size (Fd λ_=>#[])).push (Eu "tuple" vs.toArray 0)).push (Eu "list" #[] 0)).get? b=Ab o:=λb o C e =>
  Aj _ (Aj _ ((Dk _ _ (Gd C)).trans e))
 obtain⟨N,B⟩:∃ N,((h1.push (Eu "list" vs.toArray 0)).update h1.objs.size (Fd λ_=>#[])).get? h1.objs.size=Ab (Eu "list" #[] N):=⟨_,Og j (λ_=>#[])⟩;have T:=Og (Aj (Eu "list" #[] 0) (Aj (Eu "tuple" vs.toArray 0) B)) (λ_=>(ps.map (·.2)).toArray)
 have r:(ps.map (·.1)).Perm ks:=by
  have:=g.map (·.1)
  rwa [Vl ca] at this
 refine h h1 _ s.toks h1.objs.size _ ps U (λb o e=>?_) (Aw _) T (oO kd.ord nf (dF kd.ord ks) (r.trans (v3 ks).symm)) (λp hp=>?_) (by have:=r.length_eq;rwa [Ao] at this)
 .have C:b≠h1.objs.size:=λz=>by
   subst z;exact absurd (Ba e) (Eg _)
  exact(Dk _ _ (Gd C)).trans (I b o C (Aj _ e))
 .obtain⟨i,N,e2⟩:=VP (d:=d) Y (g.mem_iff.mp hp)
  exact⟨e2▸J i _ N,Cf N⟩
end
end _S
namespace _D
open _L
def uA (xs:Aa D):Al (Aa D):=match zO xs with
 |some Y=>if Y.length<=100000 then Ab ((_S.wQ _S.qf Y).map D.int) else none
 |none=>match wF xs with
  |some Q=>if (decide (Q.length<=100000)&&Q.all λk=>!k.isEmpty) then Ab ((_S.wQ _H.lexLt Q).map fj) else none
  |none=>none
def GF (R:Aa D->ao->aw D):DF:=λQ S=>match Q with
 |[d]=>match (G9 d).bind uA with
  |some Y=>R Y S
  |none=>.bad
 |_=>.bad
def vO:DF:=GF λQ S=>.ok (.lst Q) S
section
variable {X:Cx}{ai:aa}{σ: _L.St}{H P:Hp}{α: Aa Af}{S:ao}{s:Ai}
inductive se (X:Cx)(pins:aa)(σ : _L.St)(H P:Hp)(α : Aa Af)(ys:Aa D)(u:Ac)(s':Ai):Prop
 |mk (D:Af) (vs:Aa V) (e:u=.ref D) (hn:H D=none) (I:Inv X pins σ (bv H D (.lst vs)) s') (rp:qB X.K P α ys vs):se X pins σ H P α ys u s'
theorem sV {K:Type}{is:K->Ac->Prop}{au:K->Ah}{lt':K->K->Ar}{d:K}{z:K->Prop}(kd:_S.Kind X.prog X.w is au lt' d z s.heap)(hu:X.A.units+64<EQ)(I:Inv X ai σ H s)(r:a_ X.K H P α S){a:Af}{am:ah}
  (m:s.heap.IsList a am.toArray\/s.heap.IsTuple a am.toArray) (ks:Aa K) (u:ks.length=am.length) (hk:∀ i v,am[i]? = Ab v->is (ks.getD i d) v) (hn:ks.length<=100000) (b:∀ k∈ks,z k) (cw:K->D)
  (G:∀ k v,is k v->v∈am->∃ C,qH C v/\aq X.K P α (cw k) C) {E:ab} :
  c3 X (call (.builtin "sorted") [.ref a]) (se X ai σ H P α ((_S.wQ lt' ks).map cw)) E s:=by
 refine _S.XD kd li (λ_ _ e=>e) m ks u.symm hk b li λj t U D c Y A T y M B x o=>?_;have w:Inv X ai σ H { s with heap:=j,toks:=s.toks }:=I.kept A
 have C:∀ (Y:Aa (K × Ac)),(∀ p∈Y,is p.1 p.2/\p.2∈am)->∃ Q,qI Q (Y.map (·.2))/\qB X.K P α ((Y.map (·.1)).map cw) Q:=by
  intro Y
  induction Y with
  |nil=>exact λ_=>⟨[],.nil,.nil⟩
  |cons p Y f =>
   intro h;obtain⟨Q,N,O⟩:=f λq hq=>h q (by simp[hq])
   obtain⟨v,g,n⟩:=G p.1 p.2 (h p cy).1 (h p cy).2
   exact⟨v::Q,.cons g N,.cons n O⟩
 obtain⟨Q,N,O⟩:=C Y x;rw[B] at O;have nd:([(D,HO.lst Q)].map (·.1)).Nodup:=by simp
 have l:Inv X ai σ (yC H [(D,HO.lst Q)]) { s with heap:=t,toks:=U }:=Inv.laidL (s:={ s with heap:=j,toks:=s.toks }) (L:=[(D,HO.lst Q)]) (t':=U) w T (λp J=>by
  have:p=(D,HO.lst Q):=by simpa using J
  subst this;exact y) λp J=>by
  have:p=(D,HO.lst Q):=by simpa using J
  subst this;refine⟨?_,Y.map (·.2),c,N,M⟩
  have:=N.length;rw[Ao] at this;rw[this,Fy]
  lia
 exact⟨D,Q,rfl,w.hok.fresh y,l,O⟩
set_option tactic.hygienic true in
theorem XC {E:ab}(f:X.A.units+64<EQ)(I:Inv X ai σ H s)(r:a_ X.K H P α S){a:Af}{xs n:Aa D}{vs:Aa V}{am:ah}(e:qB X.K P α xs vs)(O:qI vs am)(e1:s.heap.IsList a am.toArray\/s.heap.IsTuple a am.toArray)(g:xs.length=am.length)(hs:uA xs=Ab n) :
  c3 X (call (.builtin "sorted") [.ref a]) (se X ai σ H P α n) E s:=by
 unfold uA at hs;cases C:zO xs with
 |some h =>
  rw[C] at hs;dsimp only at hs
  split at hs
  .rename_i Y
   cases hs;have:=yS C;subst this;have:=w8 e;subst this;refine sV (d:=0) (_S.B3 X.prog X.w s.heap) f I r e1 h (by simpa using g) (λi u Q=>?_) Y (λ_ _=>trivial) D.int λk u N _=>?_
   .have C:Ku am h:=by simpa using pF O
    obtain⟨t,rfl⟩:=Sw C i u Q;exact Zh _ _ _ _
   .obtain⟨t,rfl⟩:=_S.wN N
    exact⟨.int k,⟨t,rfl⟩,by simp only[aq]⟩
  .cases hs
 |none =>
  rw[C] at hs;dsimp only at hs;cases y:wF xs with
  |none=>rw[y] at hs;cases hs
  |some J =>
   rw[y] at hs;dsimp only at hs
   split at hs
   .rename_i Y
    cases hs;rw[AT,Bi] at Y;have:=tI y;subst this;have G:∀ (i:Ag) (u:Ac),am[i]? = Ab u->∃ b,u=.ref b/\Sh (Cz X.prog X.w) s.heap (J.getD i []) b/\∃ x,qH x u/\aq X.K P α (fj (J.getD i [])) x:=λi u Q=>by
     have U:i<am.length:=(Az.mp Q).1;have T:i<J.length:=by rw[Ao] at g;lia
     obtain⟨v,p,q,_⟩:=wB e O (j:=i) (by rw[Bn];exact U)
     have l:(J.map fj).getD i D.non=fj (J.getD i []):=by simp[Lb,T]
     rw[l] at p;have B:am.toArray[i]'(by rw[Bn];exact U)=u:=by
      rw[An U] at Q;simpa using Q
     rw[B] at q;obtain⟨b,ws,us,rfl,sq,t,rv,⟨o,ho,L,m,l⟩,_,_⟩:=uI I r (show aq X.K P α (.tup ((J.getD i []).map D.int)) v from p)
     cases (show u=Cw b from q)
     have:=w8 t;subst this;exact⟨b,rfl,⟨o,us.toArray,m,ho,L,l,by simpa using lT rv⟩,.ref b,rfl,p⟩
    refine sV (d:=[]) (_S.B4 X.prog X.w s.heap) f I r e1 J (by simpa using g) (λi u Q=>?_) Y.1 (λk N=>?_) fj λk u N M=>?_
    .obtain⟨b,rfl,q,_⟩:=G i u Q
     exact⟨b,rfl,q⟩
    .have:=Bt.mp Y.2 k N
     intro z;subst z;cases this
    .obtain⟨i,c,rfl⟩:=Cq.mp M
     obtain⟨b,eb,q,w,A,pw⟩:=G i _ (An c);have:k=J.getD i []:=_S.ig.inj N ⟨b,eb,q⟩;rw[this];exact⟨w,A,pw⟩
   .cases hs
theorem qAn (L:X.A.units+64<EQ){vs:Aa V}{us:ah}{G:Aa D}{Q:VK}{R:Aa D->ao->aw D}(I:Inv X ai σ H s)(r:a_ X.K H P α S)(j:qI vs us)(B:qB X.K P α G vs)(Y:qU X P α (GF R G S) Q)
  (k:∀ U D J,H D=none->qB X.K P α U J->qU X P α (R U S) Q->Q (.ref D) (bv H D (.lst J))):c3 X (call (.builtin "sorted") us) (EP X ai σ Q) X.xe s:=by
 match G,Y,B with
 |[],Y,_=>exact Au Y
 |_::_::_,Y,_=>exact Au Y
 |[d],Y,B =>
  simp only[GF] at Y;cases C:(G9 d).bind uA with
  |none=>rw[C] at Y;exact Au Y
  |some U =>
   rw[C] at Y;obtain⟨g,A,hs⟩:=Ex.mp C;obtain⟨v,u,rfl,rfl,p,q⟩:=u9 B j;obtain⟨a,vs,o,rfl,T,O,z,M⟩:=aD I r p q A;refine bj (XC L I r T O z M hs) λl y ⟨D,J,e,E,w,N⟩=>?_;subst e;exact⟨.ref D,_,w,rfl,k U D J E N Y⟩
theorem W2 (U:X.A.units+64<EQ):wA X (.builtin "sorted") vO:=by
 intro ai σ H s P α S A E L Q I r C B O;exact qAn U I r C B O λT D N G Y J=>yT r G Y J
end
section
variable {X:Cx}{cm:Ar}{k:Ag}
theorem GU (Q:av cm k X.A):f_ X (.builtin "sorted") vO:=⟨W2 Q.units⟩
end
end _D
namespace _L
variable {jw:Aa As}{mg mb:ag}
def qBI (H:Hp):Prop:=∀ b,H b=none\/(∃ o Q,H b=Ab (.frz o (.lst Q)))\/H b=Ab (.tbl #[])
def yr (K:Ak)(H:Hp):Prop:=∀ x∈wC,∀ c T,Dw K x=Ab (c,T)->H T=Ab (.tbl #[])
structure xj (K:Ak)(h:Bv):Prop where
 at':∀ x∈wC,∀ c T,Dw K x=Ab (c,T)->Xx h c T/\h.get? T=Ab (Mv #[]) /\ K.lookup T=none
 inj:∀ x∈wC,∀ y∈wC,∀ c d T,Dw K x=Ab (c,T)->Dw K y=Ab (d,T)->x=y
theorem JM {P:Bj}{w:Bz}{K:Ak}{CX:vy}{k:Ag}{fa a:Af}{fd:Fv}{x:As}{sp:Sp}{Q:Ai}{vs:ah}{t:Aa Ah}
  (KX:K.In Q.heap) (zb:Q.heap.Ns Df mg) (J:Q.heap.Ns Sd mb) (zs:∀ x:As,x ≠ "__name__" -> mb x=Gb x) (zl:Q.heap.NoLimit) (hg:Q.gens=#[]) (z0:LL mg Q.heap) (G:xj K Q.heap)
  (y:Q.heap.get? a=Ab { cls:=.type "list",data:=.seq vs.toArray }) (hi:Ku vs t) (hl:t.length<=sizeLine) (hr:ip k T0)
  (F:∀ base:Bv,K.In base->base.Ns Df mg->md P w K mg base CX k fa fd [x] sp) (I:∀ (s:Ai) (u:Ac),Qj s fd ⟨[u],[]⟩ [(x,u)])
  (zy:∀ H:Hp,yr K H->ql K H a (t.map V.int)->sp [.ref a] H (λv _=>v=.bl true) λ_ _ _=>Fk)
  (z1:∀ H e s',CX [] H Q (λ_ _ _=>Fk) e s'->Fk) :
  Jr (Ax P w) T0 (.call (.ref fa) ⟨[.ref a],[]⟩) (λr s'=>r=.ok (.ret (.bool true))/\OldK Q.heap s'.heap/\s'.os=Q.os/\Qg s'.gens) Q:=by
 have rv:=VI hi;have z3:=hi.length
 let ig:Af->Prop:=λb=>∃ x∈wC,∃ c,Dw K x=Ab (c,b)
 have tab:∀ b,ig b->Q.heap.get? b=Ab (Mv #[]) /\ K.lookup b=none:=λb ⟨x,U,c,h⟩=>(G.at' x U c b h).2;have B:∀ H:Hp,qBI H->yr K H->ql K H a (t.map V.int)->gz P w H Q.heap->(∀ b,H b≠none->b=a\/ig b)->(H a≠none->K.lookup a=none) ->
   Jr (Ax P w) T0 (.call (.ref fa) ⟨[.ref a],[]⟩) (λr s'=>r=.ok (.ret (.bool true))/\OldK Q.heap s'.heap/\s'.os=Q.os/\Qg s'.gens) Q:=by
  intro H hO hT hS p hA hK;have Y:∀ {b:Af} {o:Cp},Q.heap.get? b=Ab o->H b=none->(pE Q.heap H).get? b=Ab o:=λe n=>J6 e n;have zo:∀ {b:Af} {o:Cp},Q.heap.get? b=Ab o->o.cls≠.none->(o.cls≠.type "list" \/ ∃ l j,o.data=.dict l j)->H b=none:=λ{b o} e c1 c2=>by
   cases q:H b with
   |none=>rfl
   |some u =>
    rcases hA b (by rw[q];simp) with e'|e'
    .subst e'
     rw[y] at e;cases e;rcases c2 with z|⟨l,j,d⟩
     .exact absurd rfl z
     .cases d
    .rw[(tab b e').1] at e;cases e
     exact absurd rfl c1
  have zx:∀ {b:Af} {o:Cp} {l:Ay DictEntry} {j:Ag},Q.heap.get? b=Ab o->o.data=.dict l j->H b=none:=λ{b o l j} e d=>by
   cases q:H b with
   |none=>rfl
   |some u =>
    rcases hA b (by rw[q];simp) with e'|e'
    .subst e'
     rw[y] at e;cases e;cases d
    .rw[(tab b e').1] at e;cases e;cases d
  have N:∀ {b:Af} {m:ag},Q.heap.Ns b m->(pE Q.heap H).Ns b m:=λ{b m} ⟨o,l,j,e,d,r⟩=>⟨o,l,j,Y e (zx e d),d,r⟩;have i:K.In (pE Q.heap H):=λb o e=>Y (KX b o e) (by
   cases q:H b with
   |none=>rfl
   |some u =>
    rcases hA b (by rw[q];simp) with e'|e'
    .subst e'
     rw[hK (by rw[q];simp)] at e;cases e
    .rw[(tab b e').2] at e;cases e)
  have hM:Mod K mg (pE Q.heap H):=by
   refine⟨i,N zb,⟨mb,N J,zs⟩,let ⟨mc,h1,h2⟩:=zl;⟨mc,N h1,h2⟩,?_,λx U c T h=>?_,G.inj⟩
   .obtain⟨bm,o,b1,b2,b3,b4,b5⟩:=z0
    exact⟨bm,o,b1,b2,Y b3 (zo b3 (by rw[b4];nofun) (.inl (by rw[b4];decide))),b4,b5⟩
   .obtain⟨o,vs,g,tf,A,tg,zv,zc,tt,L,M,r⟩:=(G.at' x U c T h).1
    exact⟨o,vs,g,tf,A,tg,zv,zc,tt,Y L (zo L (by rw[M];nofun) (.inl (by rw[M];decide))),M,r⟩
  have e0:ni P w K mg (pE Q.heap H) T0 [] Q H:=⟨rfl,hM,λb o e=>TB e,xL (WT _ _),trivial,λb J=>absurd (show b∈([]:ae) from J) cy,p,.of_eq hg⟩
  refine Pg ((F _ i (N zb)).run T0 [] Q H ⟨[.ref a],[]⟩ [.ref a] [.ref a] _ _ hr e0 (I Q (.ref a)) (.cons rfl .nil) (zy H hT hS)) λr s' h=>?_;cases r with
  |error e=>exact(z1 H e s' h).elim
  |ok fl =>
   cases fl with
   |next=>exact Au h
   |brk=>exact Au h
   |cont=>exact Au h
   |ret u =>
    obtain⟨v,H',os,f,un,C,r',q⟩:=h;have q':v=.bl true:=q;subst q';obtain rfl:u=Nk true:=r';refine⟨rfl,⟨λb o e=>?_,λb o e=>un.there b o e cy⟩,os,f⟩
    cases q:H b with
    |none=>exact .inl (un.keep b o e q (by intro z;exact absurd (show b∈([]:ae) from z) cy) cy)
    |some u =>
     rcases hO b with z|⟨ob,xs,z⟩|z
     .rw[q] at z;cases z
     .have z2:=un.frzs b ob _ z
      obtain⟨L,_⟩:=p b _ z;obtain⟨M,_⟩:=C b _ z2;rw[e] at L;cases L;exact .inl M
     .obtain⟨E,z2⟩:=un.tbls b _ z
      have L:Q.heap.get? b=Ab (Mv #[]):=p b _ z;have M:s'.heap.get? b=Ab (Mv (#[] ++ E)):=C b _ z2;rw[e] at L;cases L;rcases hA b (by rw[q];simp) with e'|⟨x,U,c,h⟩
      .subst e';rw[y] at e;cases e
      .exact .inr (.inl ⟨((G.at' x U c b h).1.tab e).isCodeTable,rfl,#[],E,rfl,M⟩)
 have nT:¬ ig a:=λh=>by
  have z:=(tab a h).1;rw[y] at z;cases z
 have tT:∀ x∈wC,∀ c T,Dw K x=Ab (c,T)->ig T:=λx U c T h=>⟨x,U,c,h⟩;have z4:∀ b,Io (ig b):=λb=>Classical.propDecidable _;cases hk:K.lookup a with
 |some o =>
  have e:=KX a o hk;rw[y] at e;cases e;refine B (λb=>if ig b then Ab (.tbl #[]) else none) (λb=>?_) (λx U c T h=>Bd (tT x U c T h)) (.inr ⟨vs,_,hk,by rw[Ao];exact hl,rv⟩) (λb u z=>?_) (λb z=>?_) λz=>absurd (Bg nT) z
  .by_cases h:ig b
   .exact .inr (.inr (Bd h))
   .exact .inl (Bg h)
  .by_cases h:ig b
   .have O:=(Bd h).symm.trans z
    cases O;exact(tab b h).1
   .have O:=(Bg h).symm.trans z
    cases O
  .by_cases h:ig b
   .exact .inr h
   .exact absurd (Bg h) z
 |none =>
  refine B (λb=>if b=a then Ab (.frz { cls:=.type "list",data:=.seq vs.toArray } (.lst (t.map V.int))) else if ig b then Ab (.tbl #[]) else none) (λb=>?_) (λx U c T h=>?_) (.inl (.inr ⟨{ cls:=.type "list",data:=.seq vs.toArray },Bd rfl⟩)) (λb u z=>?_) (λb z=>?_) λ_=>hk
  .by_cases J:b=a
   .exact .inr (.inl ⟨_,_,Bd J⟩)
   .by_cases h:ig b
    .exact .inr (.inr ((Bg J).trans (Bd h)))
    .exact .inl ((Bg J).trans (Bg h))
  .have h':=tT x U c T h
   exact(Bg (λ(z:T=a)=>nT (z▸h'))).trans (Bd h')
  .by_cases J:b=a
   .have O:=(Bd J).symm.trans z
    cases O;subst J;exact⟨y,by rw[Ao];exact hl,vs,_,rv,y⟩
   .by_cases h:ig b
    .have O:=((Bg J).trans (Bd h)).symm.trans z
     cases O;exact(tab b h).1
    .have O:=((Bg J).trans (Bg h)).symm.trans z
     cases O
  .by_cases J:b=a
   .exact .inl J
   .by_cases h:ig b
    .exact .inr h
    .exact absurd ((Bg J).trans (Bg h)) z
def eD (q:Bj)(K:Ak):Ar:=wC.all λx=>match Dw K x with
 |none=>true
 |some (_,T)=>((recsOf q).find? λe=>e.name == x).isSome&&((K.lookup T).isNone&&wC.all λy=>match Dw K y with
  |none=>true
  |some (_,U)=>x == y||!decide (T=U))
theorem L0 {Q:ExcName->Al Ac}{K:Ak}(T:Top q jw Q mg mb h)(X:K.In h)(c:eD q K=true):xj K h:=by
 unfold eD at c;have g:∀ x∈wC,∀ d U,Dw K x=Ab (d,U)->((recsOf q).find? λe=>e.name == x).isSome=true/\(K.lookup U).isNone=true/\(wC.all λy=>match Dw K y with
  |none=>true
  |some (_,V)=>x == y||!decide (U=V))=true:=λx Y d U e=>by
  have z:=Bt.mp c x Y;rw[e] at z;simpa only [AT] using z
 refine⟨λx Y d U e=>?_,λx Y y G d I U E J=>?_⟩
 .obtain⟨N,L,_⟩:=g x Y d U e
  obtain⟨r,O⟩:=Kq.mp N;obtain⟨B,C⟩:=PySem.W.tab_of T X O e;exact⟨B,C,by simpa using L⟩
 .have z:=Bt.mp (g x Y d U E).2.2 y G
  rw[J] at z;simpa using z
theorem L8 {l:Ab2}{n k:Ag}{q:Bj}{jw:Aa As}{i:(As->Al Ac)->Bv->Prop}{M:Bz->Bv->Prop}{d:DefRec}{K:Params->Ak}{CX:Bz->vy}{sp:Bz->Sp}{x:As}
  (hn:l.most=Ab n) (A:n<=sizeLine) (I:d.params.defaults=[]) (hr:ip k T0) (ht:∀ p,eD q (K p)=true)
  (j:∀ (w:Bz) (h:Bv),M w h->(K w.params).In h)
  (F:∀ (w:Bz) (mg:ag) (C:Af) (h:Bv),(K w.params).In h->h.Ns Df mg->mg d.name=Ab (.ref C) ->
   ∃ fd:Fv,(∀ (s:Ai) (u:Ac),Qj s fd ⟨[u],[]⟩ [(x,u)]) /\
    ∀ base:Bv,(K w.params).In base->base.Ns Df mg->md l.prog w (K w.params) mg base (CX w) k C fd [x] (sp w))
  (L:∀ (w:Bz) (H:Hp) (a:Af) (O:Aa Ah),O.length<=n->yr (K w.params) H->ql (K w.params) H a (O.map V.int)->sp w [.ref a] H (λv _=>v=.bl true) λ_ _ _=>Fk)
  (T:∀ (w:Bz) (H:Hp) (s:Ai) (e:Ac) (s':Ai),CX w [] H s (λ_ _ _=>Fk) e s'->Fk) :
  AbP q jw i M l.row.toRowW d [] (λf vs=>Ab9 f vs):=by
 refine _A.nu hn I λw z U mg mb C o pm cd r a vs O G Y ho hd t E N J Q hg=>?_;have B:=j w _ Y;obtain⟨fd,y,hF⟩:=F w mg C _ B G.T.g E;exact JM B G.T.g G.T.b G.T.builtins G.T.nolimit hg (let ⟨bm,ob,c,m,g,b4,b5,b⟩:=G.T.bmain;⟨bm,ob,c,m,g,b4,b5,b⟩) (L0 G.T B (ht _)) N J (Ci Q A) hr hF y (λH hT hS=>L w H a O Q hT hS) λH e s'=>T w H U e s'
end _L
namespace _D
open _L
variable {K:Ak}{mg:ag}
theorem AF (X:K.In h)(G:h.Ns Df mg){x:As}{st:Ge}{ps:Aa As}{f:Af}{L:Ac}{B N:Al Af}{U:Ay (Al Ac)}{kV Y J Q O:Ac}
  (a:Fq K Df x=Ab (Ab (.ref f)))
  (l:K.lookup f=Ab ⟨L,B,.func (Gz x x (yG st) (zN st) (qG st) .none kV Y J N Q O),U⟩) (c:Ms K Q x=true) (k:Ha K (.ref f)=true)
  (C:∀ (kV Y J:Ac) (N:Al Af) (Q O:Ac) (us:ah),us.length=ps.length->Wn (Gz x x (yG st) (zN st) (qG st) .none kV Y J N Q O) ⟨us,[]⟩=pure (ps.zip us)):vm K mg x st ps:=
 have F:=RB (st:=st) l c k
 ⟨f,_,Zn X G a,F,F.binds C⟩
noncomputable def eC (K:Ak)(C:Af):Ar:=
 decide (Pm K (.ref C) "__getattribute__" = Ab (Ab (.builtin "BaseException.__getattribute__")))&&decide (Pm K (.ref C) "__getattr__" = Ab none)
 && decide (Pm K (.ref C) "__class__" = Ab (Ab (.builtin "object.__class__")))&&decide (Yt K C (.type "object")=Ab true)&&decide (Yt K C (.type "BaseException")=Ab true)
 && (PySem.W.clsIn K C).isSome&&decide (Mr K (.ref C) (.type "ValueError")=Ab true)
noncomputable def U3 (K:Ak):Ar:=
 decide (Aa2 K (.builtin "object.__class__") "__get__" = Ab (Ab (.builtin "getset_descriptor.__get__")))&&decide (AaZ K (.builtin "object.__class__")=Ab true)
def D9 (K:Ak)(Q:ae):Ar:=Q.all λC=>Q.all λB=>decide (Mr K (.ref C) (.ref B)=Ab (C == B))
theorem DD {Y:ae}(h1:Y.all (eC K)=true)(h2:U3 K=true)(h3:D9 K Y=true):ya K Y:=by
 have g:=h2;unfold U3 at g;simp only[AT,Bi] at g;have J:∀ C∈Y,eC K C=true:=Bt.mp h1;refine⟨λC Q=>?_,λC Q B N=>?_,λC Q=>?_⟩
 .have e:=J C Q
  unfold eC at e;simp only[AT,Bi] at e;obtain⟨⟨⟨⟨⟨⟨E,U⟩,G⟩,O⟩,L⟩,T⟩,I⟩:=e;exact⟨E,U,G,g.1,g.2,O,L,T⟩
 .have e:=Bt.mp (Bt.mp h3 C Q) B N
  exact Bs e
 .have e:=J C Q
  unfold eC at e;simp only[AT,Bi] at e;exact e.2
def qBU (K:Ak)(Q:ah)(A:Af):Ar:=Q.all λv=>decide (AbG K v (.ref A)=Ab true)
def qBS (K:Ak)(Q:ae)(A:Af):Ar:=Q.all λC=>U2 K C A
def qBT (K:Ak)(Q:ae):Ar:=Q.all λC=>Ha K (.ref C)
def rP (K:Ak):Sp:=λJ H Q E=>yr K H/\∃ a Y,J=[.ref a]/\ql K H a (List.map V.int Y)/\Y.length<=63/\∀ U,Q (.bl true) U
theorem cX {P:Hp}{α:ae}:∀ Q:Aa Ah,qB K P α (Q.map D.int) (Q.map V.int)
 |[]=>.nil
 |n::Q=>.cons (by simp only[aq]) (cX Q)
def wa (H:Hp):Hp:=λb=>match H b with
 |some (.tbl _)=>none
 |u=>u
theorem MM {P:Bj}{w:Bz}{t:Af}{st:Ge}{k:Ag}{x:As}(hs:vm K mg "law" st [x])(y:mg "law" = Ab (.ref t))
  (p:∀ (kV J j:Ac) (I:Al Af) (N A:Ac) (s:Ai) (v:Ac),Qj s (Gz "law" "law" (yG st) (zN st) (qG st) .none kV J j I N A) ⟨[v],[]⟩ [(x,v)])
  (O:∀ base:Bv,∃ F,rS P w K mg base true k "law" [x] F/\∀ U:Aa Ah,U.length<=63->∃ S,F [.lst (U.map D.int)] [] = .ok (.bl true) S) :
  ∃ fd:Fv,(∀ (s:Ai) (v:Ac),Qj s fd ⟨[v],[]⟩ [(x,v)])/\∀ base:Bv,K.In base->base.Ns Df mg->md P w K mg base (n_ P w) k t fd [x] (rP K):=by
 obtain⟨f,fd,g,F,hb⟩:=hs;cases y.symm.trans g;refine⟨fd,?_,λbase _ _=>?_⟩
 .obtain⟨oc,od,kV,J,j,I,N,A,zc,rfl,_,_⟩:=F.ex
  exact p kV J j I N A
 .obtain⟨G,⟨f',zl,M,_,zb,B,X⟩,n⟩:=O base
  cases g.symm.trans M;cases B.one (nL F);refine(X.imp λvs H Q E h=>?_).ok;obtain⟨r,a,U,rfl,m,B,k⟩:=h;obtain⟨S,e⟩:=n U B;have Y:∀ (b:Af) (u:HO),H b=Ab u->(∀ C,u≠.tbl C)->wa H b=Ab u:=λb u q h=>by
   unfold wa;rw[q];cases u with
   |tbl C=>exact absurd rfl (h C)
   |_=>rfl
  have L:ql K (wa H) a (List.map V.int U):=by
   rcases m with (h|⟨o,h⟩)|h
   .exact .inl (.inl (Y _ _ h λ_ z=>by cases z))
   .exact .inl (.inr ⟨o,Y _ _ h λ_ z=>by cases z⟩)
   .exact .inr h
  have sub:qE (wa H) H:=λb u q=>by
   unfold wa at q;cases z:H b with
   |none=>rw[z] at q;cases q
   |some v =>
    rw[z] at q;cases v with
    |tbl C=>cases q
    |_=>exact q
  refine⟨rfl,wa H,[],[.lst (U.map D.int)],[],⟨λx l c T h=>⟨#[],r x l c T h,by unfold wa;rw[r x l c T h],by simp,trivial,λap cv z=>by cases z⟩,sub,rfl,.nil,by simp,by simp,by simp⟩,.cons (fU L (cX U)) .nil,?_⟩
  rw[e];intro v i P' zo _ _ _ d;simp only[aq] at d;subst d;exact k i
theorem qAx {l:Ab2}{I:Aa As}{E:(As->Al Ac)->Bv->Prop}{Y:Bz->Bv->Prop}{d:DefRec}{K:Params->Ak}{k:Ag}{x:As}(C:l.most=Ab 63)(Q:d.params.defaults=[])(T:ip k T0)(B:∀ p,eD q (K p)=true)
  (U:∀ (w:Bz) (h:Bv),Y w h->(K w.params).In h)
  (F:∀ (w:Bz) (mg:ag) (J:Af) (h:Bv),(K w.params).In h->h.Ns Df mg->mg d.name=Ab (.ref J) ->
   ∃ fd:Fv,(∀ (s:Ai) (u:Ac),Qj s fd ⟨[u],[]⟩ [(x,u)])/\∀ base:Bv,(K w.params).In base->base.Ns Df mg->md l.prog w (K w.params) mg base (n_ l.prog w) k J fd [x] (rP (K w.params))) :
  AbP q I E Y l.row.toRowW d [] (λf vs=>Ab9 f vs):=
 _L.L8 (n:=63) (k:=k) (x:=x) (CX:=λw=>n_ l.prog w) (sp:=λw=>rP (K w.params)) C cz Q T B U F (λ_ _ a L N O G=>⟨O,a,L,rfl,G,N,λ_=>rfl⟩) λw H s e A h=>by
  obtain⟨_,_,_,_,_,_,_,_,_,_,_,_,z⟩:=h;exact z
end _D
namespace _D
variable {us:ah}
theorem _n (h:us.length=0):us=[]:=Ru h
theorem ze {n:Ag}(h:us.length=n+1):∃ a vs,us=a::vs/\vs.length=n:=by
 cases us with
 |nil=>exact absurd h cy
 |cons a vs=>exact⟨a,vs,rfl,by simpa using h⟩
theorem Q_ (h:us.length=1):∃ a,us=[a]:=by
 obtain⟨a,Y,rfl,Q⟩:=ze h;exact⟨a,by rw[_n Q]⟩
theorem P_ (h:us.length=2):∃ a b,us=[a,b]:=by
 obtain⟨a,Y,rfl,Q⟩:=ze h;obtain⟨b,rfl⟩:=Q_ Q;exact⟨a,b,rfl⟩
theorem _m (h:us.length=3):∃ a b c,us=[a,b,c]:=by
 obtain⟨a,Y,rfl,Q⟩:=ze h;obtain⟨b,c,rfl⟩:=P_ Q;exact⟨a,b,c,rfl⟩
end _D
namespace _D
open _L
variable {vs:Aa (be × V)}{us:ah}{caps:Aa D}{E:ab}{c':Af}{f:Af->Aa V->aw D}{j:Ag}{oc:Cp}{sc:Em}{H':Hp}{aj:qC}
theorem BL (F:DF):∃ G:DF,G=F:=⟨F,rfl⟩
def sh (F:DF):DF:=Vg (BL F)
theorem zA (F:DF):sh F=F:=Qp (BL F)
def zn:Al Ig->Ar
 |some .local => true
 |some .cell=>true
 |some .free=>true
 |_=>false
noncomputable def yj:Al Ig->Ar
 |some .local => true
 |some .cell=>true
 |_=>false
def isG:Al Ig->Ar
 |some .globalImplicit=>true
 |_=>false
noncomputable def okN (x:As):Ar:=!(x == ("__debug__" : As))&&(!(x == ("__classdict__" : As))&&!decide (x = "__name__"))
def ul (X:Cx)(x:As):Ar:=isG (X.env.kindOf x)&&okN x
def zi (v:Ac)(x:As):Ar:=decide (Gb x=Ab v)
def kO (sc:Em):Aa As:=sc.names.filterMap λy=>if yj (Ab y.2) then Ab y.1 else none
def yQ (sc:Em):Aa As:=(sc.names.filterMap λy=>if yj (Ab y.2)&&!(y.1 == (".0" : As)) then Ab y.1 else none)++sc.names.filterMap λy=>if y.2 == .free then Ab y.1 else none
def Ck (b:Ar):Prop:=b=true
theorem ck {b:Ar}(h:b=true:=by kernel_rfl):Ck b:=h
structure yy (F:DF)(P:Bj)(w:Bz)(K:Ak)(mg:ag)(base:Bv)(cm:Ar)(k:Ag)(x:As)(n:Ag):Prop where
 get:qm P w K mg base cm k x n F
def wu (X:Cx)(m:Ag)(x:As):Ar:=decide (X.N[m]? = Ab x)&&(yj (X.env.scope.names.lookup x)&&(decide X.N.Nodup&&(X.fn x||decide (X.env.scope.names.lookup x=Ab .local))))
noncomputable def yi (X:Cx)(m:Ag)(x:As):Ar:=decide (X.N[m]? = Ab x)&&decide (X.env.scope.names.lookup x=Ab .local)
def rE (Q:Em)(Y:Aa As)(ak:Em)(bn:Aa (Al Ag)):Ar:=
 decide (ak.kind=.function)&&(decide (∀ y∈ak.names,y.2=.local -> ak.names.lookup y.1=Ab .local)&&(decide (∀ y∈ak.names,y.2=.cell->ak.names.lookup y.1=Ab .cell)&&(decide (∀ y∈ak.names,y.2=.free->Q.names.lookup y.1=Ab .cell\/Q.names.lookup y.1=Ab .free)
 && (decide (∀ y∈ak.names,y.2=.free->ak.names.lookup y.1=Ab .free)&&(decide (bn.length=(yQ ak).length)&&(((bn.zip (yQ ak)).all λp=>match p.1 with|none=>true|some i=>Y[i]? == Ab p.2&&ak.names.lookup p.2 == Ab .free)&&decide (yQ ak).Nodup))))))
noncomputable def xc (N P:Aa As)(sc:Em):Ar:=
 decide (sc.kind=.function)&&(decide (sc.isCoroutine=false)&&(decide (sc.isGenerator=false)&&(decide N.Nodup&&(decide (N.take P.length=P)&&(decide (∀ x∈P,sc.names.lookup x=Ab .local \/ sc.names.lookup x=Ab .cell)&&decide (∀ y∈sc.names,y.2≠.free))))))
theorem eF (h:rE Q Y ak bn=true):dz Q Y ak (yQ ak) bn:=by
 simp only[rE,AT,Bi] at h;obtain⟨a,b,c,d,e,f,g,k⟩:=h;exact⟨a,b,c,d,e,f,g,k⟩
theorem h9 {N P:Aa As}(h:xc N P sc=true):cj N P sc:=by
 simp only[xc,AT,Bi] at h;obtain⟨a,b,c,d,e,f,g⟩:=h;exact⟨a,b,c,d,e,f,g⟩
section
variable {X:Cx}{a b e cg tg bb:Bx}{dh:Aa Bx}{fa:DE}{f2:rf}{dg:DG}{t:DT}{kk:DK}{ft:Aa Eb}{ak:Em}{bn:Aa (Al Ag)}{mm:Ar}{l:Ag}{y z:As}{nz:G2}{es:Aa Bx}{fA:DA}{x:As}{p ap:Fb}{cm:Ar}{k n m:Ag}{F:DF}
theorem o9 (h:zn (sc.names.lookup x)=true):qw sc x:=by
 unfold qw
 revert h
 cases sc.names.lookup x with
 |none=>intro h;cases h
 |some y=>cases y <;> intro h <;> first|cases h;done|exact .inl rfl|exact .inr (.inl rfl)|exact .inr (.inr rfl)
theorem M5 (h:yj (sc.names.lookup x)=true):_L.Loc sc x:=by
 unfold _L.Loc
 revert h
 cases sc.names.lookup x with
 |none=>intro h;cases h
 |some y=>cases y <;> intro h <;> first|cases h;done|exact .inl rfl|exact .inr rfl
theorem gN (h:okN x=true):(x == ("__debug__" : As))=false/\(x == ("__classdict__" : As))=false/\x ≠ "__name__":=by
 unfold okN at h;rw[AT,AT] at h;exact⟨by simpa using h.1,by simpa using h.2.1,by simpa using h.2.2⟩
theorem uG (h:ul X x=true):Gl X x/\(x == ("__debug__" : As))=false/\x ≠ "__name__":=by
 have h:=(AT _ _).mp h;refine⟨?_,(gN h.2).1,(gN h.2).2.2⟩;have z:=h.1;unfold Gl
 revert z
 cases X.env.kindOf x with
 |none=>intro z;cases z
 |some y=>cases y <;> intro z <;> first|cases z;done|rfl
theorem nQ (h:wu X m x=true):X.N[m]? = Ab x/\_L.Loc X.env.scope x/\X.N.Nodup/\(X.fn x=true\/X.env.scope.names.lookup x=Ab .local):=by
 simp only[wu,AT,Bi,Kc] at h;exact⟨h.1,M5 h.2.1,h.2.2⟩
theorem nP (h:yi X m x=true):X.N[m]? = Ab x/\X.env.scope.names.lookup x=Ab .local:=by
 simp only[yi,AT,Bi] at h;exact h
theorem OF (h:Ck (ul X x)):Gl X x:=(uG h).1
theorem aV (h:Ck (decide (X.N[m]? = Ab x)&&(zn (X.env.scope.names.lookup x)&&okN x))):QE X (.Name x ap) (q9 m):=by
 unfold Ck at h;simp only[AT,Bi] at h;exact CH m h.1 (o9 h.2.1) (gN h.2.2).1 (gN h.2.2).2.1
theorem aBt (h:Ck (ul X x))(hm:X.mg x=none)(Y:Ck (zi (.type Q) x)):QE X (.Name x ap) (dC (.ty Q)):=
 have h:=uG h
 N0 h.1 hm (Bs Y) h.2.2 h.2.1
theorem aGi (h:Ck (ul X x))(hm:∃ t,X.mg x=Ab (.int v t)):QE X (.Name x ap) (dC (.int v)):=
 have h:=uG h
 N1 h.1 hm h.2.1
abbrev wg (X:Cx)(e:Bx)(es:Aa Bx)(ap:Fb):Prop:=Bo (e::es) X.env=(false,eval e X.env)::Bo es X.env/\(Gr ap (Bo es X.env)).any (·.1)=false
theorem aN (G:yy F X.prog X.w X.K X.mg X.base cm k x n)(Y:av cm k X.A)(Q:ng X)(h:Ck (ul X x))(J:QA X (e::es) fA)(s:wg X e es ap):QE X (.Call (.Name x p) (e::es) [] ap) (qF n F fA):=
 have h:=uG h
 _u G.1 Y Q h.1 J h.2.1 s.1 s.2
theorem aO (G:yy F X.prog X.w X.K X.mg X.base cm k x n)(Q:av cm k X.A)(h:Ck (ul X x))(Y:QA X (e::es) fA)(s:wg X e es ap):QE X (.Call (.Name x p) (e::es) [] ap) (qF n (ou F) fA):=
 have h:=uG h
 _t G.1 Q h.1 Y h.2.1 s.1 s.2
theorem aB {id:Et}(Q:f_ X (.builtin id) F)(h:Ck (ul X x))(hm:X.mg x=none)(Y:Ck (zi (.builtin id) x))(J:QA X (e::es) fA)(s:wg X e es ap):QE X (.Call (.Name x p) (e::es) [] ap) (qW F fA):=
 have h:=uG h
 KF Q h.1 hm (Bs Y) J h.2.2 h.2.1 s.1 s.2
theorem aT (Q:f_ X (.type T) F)(h:Ck (ul X x))(hm:X.mg x=none)(Y:Ck (zi (.type T) x))(J:QA X (e::es) fA)(s:wg X e es ap):QE X (.Call (.Name x p) (e::es) [] ap) (qW F fA):=
 have h:=uG h
 YY Q h.1 hm (Bs Y) J h.2.2 h.2.1 s.1 s.2
theorem aC (S:Ck (rE X.env.scope X.N ak bn))(G:X.calm=true)(hi:wv X tg bb f2)(B:∀ J C U Y Q,QG (qY X (yQ ak) ak J C U Y Q) tg dg)(O:∀ J C U Y Q,wl (qY X (yQ ak) ak J C U Y Q) dh t)
  (has:∀ g',(⟨tg,bb,dh,0⟩::ft:Aa Eb)[0+1]? = Ab g'->g'.is_async=0)
  (N:∀ J C U Y Q,QK kq (qY X (yQ ak) ak J C U Y Q) (λar=>xB false cg (⟨tg,bb,dh,0⟩::ft) ak ap 0 ar (qY X (yQ ak) ak J C U Y Q).env) kk) (hs:∀ x,Gg bb X.env x=pure x) :
  QE X (.ListComp cg (⟨tg,bb,dh,0⟩::ft) ak ap) (zK mm bn f2 dg t kk):=KH G (eF S) hi B O has N hs
theorem aCs {N J:Fb}(hsw:Pu (.ListComp cg (⟨tg,bb,dh,0⟩::ft) ak ap) (Ab (.Name y N)) J.line X.env=pure true)(S:Ck (rE X.env.scope X.N ak bn))(L:Ck (wu X m y))(T:X.calm=true)(hi:wv X tg bb f2)(I:∀ U C G Y Q,QG (qY X (yQ ak) ak U C G Y Q) tg dg)(O:∀ U C G Y Q,wl (qY X (yQ ak) ak U C G Y Q) dh t)
  (has:∀ g',(⟨tg,bb,dh,0⟩::ft:Aa Eb)[0+1]? = Ab g'->g'.is_async=0)
  (B:∀ U C G Y Q,QK kq (qY X (yQ ak) ak U C G Y Q) (λar=>xB false cg (⟨tg,bb,dh,0⟩::ft) ak ap 0 ar (qY X (yQ ak) ak U C G Y Q).env) kk) (hs:∀ x,Gg bb X.env x=pure x) :
  QS X (.Assign [.Name y N] (.ListComp cg (⟨tg,bb,dh,0⟩::ft) ak ap) J) (qR (zK mm bn f2 dg t kk) (bi m)):=
 have h:=nQ L
 KO T h.2.2.1 (eF S) hi I O has B h.1 h.2.1 h.2.2.2 hsw hs
theorem aNm (h:Ck (wu X m x)):QG X (.Name x ap) (bi m):=
 have h:=nQ h
 N3 h.2.2.1 h.1 h.2.1 h.2.2.2
theorem aSt (hs:Pu e (Ab (.Name x Q)) ap.line X.env=pure false)(Y:QE X e fa)(h:Ck (wu X m x)):QS X (.Assign [.Name x Q] e ap) (qR fa (bi m)):=
 have h:=nQ h
 CV h.2.2.1 Y h.1 h.2.1 hs h.2.2.2
theorem aAu (h:Ck (wu X m x))(J:QE X e fa)(Y:xg X op nz):QS X (.AugAssign (.Name x Q) op e ap) (vW m nz fa):=
 have h:=nQ h
 CP h.2.2.1 J Y h.1 h.2.1 h.2.2.2
theorem aP2 {Q Y J:Fb} {kt k2 pt2} (h:Ck (decide X.N.Nodup&&(yi X m x&&(yi X l y&&!decide (m=l))))) (U:X.calm=true) (G:QA X [a,b] fA)
  (hw:Nl [.Tuple [.Name x Q,.Name y Y] kt J] (.Tuple [a,b] k2 pt2) X.env=pure (Ab [x,y])) (hs:Nm [.Tuple [.Name x Q,.Name y Y] kt J] (.Tuple [a,b] k2 pt2) ap.line X.env=pure false) :
  QS X (.Assign [.Tuple [.Name x Q,.Name y Y] kt J] (.Tuple [a,b] k2 pt2) ap) (bZ m l fA):=by
 unfold Ck at h;simp only[AT,Bi,Uh,IN] at h;exact CT U h.1 G (nP h.2.1).1 (nP h.2.2.1).1 h.2.2.2 (nP h.2.1).2 (nP h.2.2.1).2 hw hs
end
structure xh (K:Ak)(mg:ag)(tp:Ag->Ge)(tab:Aa (As × Ag × Aa As))(bl:Aa As)(oo qr:Aa (As × Af))(cs:ah)(exl:ae)(qu:Aa (As × Ah)):Prop where
 src:∀ (j:Ag) {x:As} {i:Ag} {ps:Aa As},tab[j]? = Ab (x,i,ps)->vm K mg x (tp i) ps
 nb:∀ {x:As},Ck (bl.contains x)->mg x=none
 cl:∀ {x:As} {C:Af},oo.lookup x=Ab C->mg x=Ab (.ref C)/\Ha K (.ref C)=true
 rz:∀ {x:As} {C:Af},qr.lookup x=Ab C->∃ Ae,mg x=Ab (.ref C)/\U2 K C Ae=true
 ct:∃ C0,mg "FarError" = Ab (.ref C0)/\∀ c∈cs,AbG K c (.ref C0)=Ab true
 cls:ya K exl
 gi:∀ {x:As} {v:Ah},qu.lookup x=Ab v->∃ t,mg x=Ab (.int v t)
section
variable {K:Ak}{mg:ag}{cm:Ar}{tp:Ag->Ge}{tab:Aa (As × Ag × Aa As)}{bl:Aa As}{oo qr:Aa (As × Af)}{cs:ah}{sy:ae}{qu:Aa (As × Ah)}{x:As}{i m:Ag}{ps:Aa As}{F:DF}{g:DS}
theorem dq (P:Bj)(w:Bz)(base:Bv)(k j:Ag)(T:xh K mg tp tab bl oo qr cs sy qu)(G:tab[j]? = Ab (x,i,ps))(h:Ck (xc (kO (qG (tp i))) ps (qG (tp i))&&decide ((kO (qG (tp i))).length=m)))(U:F=qL m g)
  (Y:∀ (f:Af) (Q:Ac) (A:Bw) (J:Aa Jf) (s:Ai) (H:Hp) (E:XK),gT K x Q->av cm k (A.deeper (Gs x (qG (tp i)) s.heap.objs.size f Q)) ->
   QB (ky cm P w K mg base (kO (qG (tp i))) x (qG (tp i)) f Q A J s H E) (zN (tp i)) g):yy F P w K mg base cm (k+1) x ps.length:=by
 unfold Ck at h;simp only[AT,Bi] at h;obtain⟨h,rfl⟩:=h;exact⟨U▸qBX (T.src j G) (h9 h) rfl Y⟩
theorem dqP {P:Bj}{w:Bz}{base:Bv}(k j:Ag)(T:xh K mg tp tab bl oo qr cs sy qu)(U:tab[j]? = Ab (x,i,ps))(h:Ck (xc (kO (qG (tp i))) ps (qG (tp i))&&decide ((kO (qG (tp i))).length=m)))
  (Y:∀ (f:Af) (Q:Ac) (A:Bw) (J:Aa Jf) (s:Ai) (H:Hp) (E:XK),gT K x Q->av cm k (A.deeper (Gs x (qG (tp i)) s.heap.objs.size f Q)) ->
   QB (ky cm P w K mg base (kO (qG (tp i))) x (qG (tp i)) f Q A J s H E) (zN (tp i)) g):rS P w K mg base cm (k+1) x ps (qL m g):=by
 unfold Ck at h;simp only[AT,Bi] at h;obtain⟨h,rfl⟩:=h;exact IZ (T.src j U) (h9 h) rfl Y
end
theorem hv {a b:Prop}(f:a->b)(h:a):b:=f h
inductive wj (K:Ak)(x:As)(st:Ge)(ps:Aa As):Prop
 |mk {f:Af} {oc:Ac} {od an:Al Af} {osl:Ay (Al Ac)} {kV doc pm cdv ct:Ac} (a:Fq K Df x=Ab (Ab (.ref f)))
  (l:K.lookup f=Ab ⟨oc,od,.func (Gz x x (yG st) (zN st) (qG st) .none kV doc pm an cdv ct),osl⟩) (c:Ms K cdv x=true) (k:Ha K (.ref f)=true):wj K x st ps
def QU (K:Ak)(tp:Ag->Ge):Aa (As × Ag × Aa As)->Prop
 |[]=>Sc
 |(x,i,Q)::t=>wj K x (tp i) Q/\QU K tp t
def y_ (tp:Ag->Ge):Aa (As × Ag × Aa As)->Prop
 |[]=>Sc
 |(x,i,J)::t=>(∀ (kV Q U:Ac) (G:Al Af) (Y N:Ac) (us:ah),us.length=J.length->Wn (Gz x x (yG (tp i)) (zN (tp i)) (qG (tp i)) .none kV Q U G Y N) ⟨us,[]⟩=pure (J.zip us))/\y_ tp t
def QM (K:Ak):Aa (As × Af)->Prop
 |[]=>Sc
 |(x,C)::t=>Fq K Df x=Ab (Ab (.ref C))/\QM K t
def QN (K:Ak):Aa (As × Ah)->Prop
 |[]=>Sc
 |(x,v)::t=>(∃ k,Fq K Df x=Ab (Ab (.int v k)))/\QN K t
def qBh:Al (Al Ac)->Ar
 |some none=>true
 |_=>false
section
variable {K:Ak}{h:Bv}{mg:ag}{tp:Ag->Ge}
theorem Q6 (X:K.In h)(G:h.Ns Df mg):∀ (tab:Aa (As × Ag × Aa As)),QU K tp tab->y_ tp tab->∀ (j:Ag) {x:As} {i:Ag} {ps:Aa As},tab[j]? = Ab (x,i,ps)->vm K mg x (tp i) ps
 |[],_,_,_,_,_,_,e=>by cases e
 |(x,i,ps)::t,H,B,0,_,_,_,e=>by
  cases e;obtain⟨a,l,c,k⟩:=H.1;exact AF X G a l c k B.1
 |(x,i,ps)::t,H,B,j+1,_,_,_,e=>Q6 X G t H.2 B.2 j e
theorem y7 {β:Type}{p:As->β->Prop}{C:β}:∀ {l:Aa (As × β)},(∀ y∈l,p y.1 y.2)->l.lookup x=Ab C->p x C
 |[],_,e=>by cases e
 |(y,b)::t,H,e=>by
  rw[Ky] at e;cases q:x == y with
  |true =>
   rw[q] at e;cases e;rw[eq_of_beq q];exact H (y,_) (.head _)
  |false =>
   rw[q] at e;exact y7 (λz Q=>H z (.tail _ Q)) e
theorem fF (X:K.In h)(G:h.Ns Df mg):∀ {l:Aa (As × Af)},QM K l->∀ y∈l,mg y.1=Ab (.ref y.2)
 |(x,C)::t,H,y,hy=>by
  rcases Av.mp hy with rfl|hy
  .exact Zn X G H.1
  .exact fF X G H.2 y hy
theorem iP (X:K.In h)(G:h.Ns Df mg):∀ {l:Aa (As × Ah)},QN K l->∀ y∈l,∃ k,mg y.1=Ab (.int y.2 k)
 |(x,C)::t,H,y,hy=>by
  rcases Av.mp hy with rfl|hy
  .obtain⟨k,e⟩:=H.1
   exact⟨k,Zn X G e⟩
  .exact iP X G H.2 y hy
theorem qAt {tab:Aa (As × Ag × Aa As)}{bl:Aa As}{oo qr:Aa (As × Af)}{J:ah}{Y:ae}{qu:Aa (As × Ah)}{ff:Af}(B:y_ tp tab)(hp:∀ y∈qr,y∈oo)(U:oo.lookup ("FarError" : As)=Ab ff)(X:K.In h)(G:h.Ns Df mg)
  (s:QU K tp tab) (z:(bl.all λx=>qBh (Fq K Df x))=true) (q:QM K oo) (g:QN K qu) (e1:Y.all (eC K)=true) (e2:U3 K=true) (e3:D9 K Y=true) (e4:qBU K J ff=true) (e5:qBS K (qr.map (·.2)) ff=true) (e6:qBT K (oo.map (·.2))=true):xh K mg tp tab bl oo qr J Y qu where
 src:=Q6 X G tab s B
 nb:=λ{x} N=>by
  have e:=Bt.mp z x (by simpa using List.contains_iff_mem.mp N)
  refine PySem.W.mg_none_of X G ?_
  revert e
  cases Fq K Df x with
  |none=>intro e;cases e
  |some y=>cases y with
   |none=>intro _;rfl
   |some y=>intro e;cases e
 cl:=λh=>⟨y7 (p:=λx C=>mg x=Ab (.ref C)) (fF X G q) h,y7 (p:=λ_ C=>Ha K (.ref C)=true) (λy Q=>Bt.mp e6 y.2 (Nw Q)) h⟩
 rz:=λh=>⟨ff,y7 (p:=λx C=>mg x=Ab (.ref C)) (λy Q=>fF X G q y (hp y Q)) h,y7 (p:=λ_ C=>U2 K C ff=true) (λy Q=>Bt.mp e5 y.2 (Nw Q)) h⟩
 ct:=⟨ff,y7 (p:=λx C=>mg x=Ab (.ref C)) (fF X G q) U,λv hv=>Bs (Bt.mp e4 v hv)⟩
 cls:=DD e1 e2 e3
 gi:=λh=>y7 (p:=λx v=>∃ k,mg x=Ab (.int v k)) (iP X G g) h
end
structure ku where
 qual:As
 params:Ro
 body:Bx
 scope:Em
noncomputable def xN (sc:Em):Aa As:=sc.names.filterMap λy=>if y.2 == .free then Ab y.1 else none
inductive iq (h:Bv)(H:Hp)(fs:ae)(L:ku)(a:Af)(cv:Aa V):Prop
 |mk (cl:Aa (As × Af)) (pm ctv:Ac) (c:Af) (oc:Cp) (ws:Ay Ac) (t:Vr) (o:h.get? a=Ab (Oh "<lambda>" L.qual L.params L.body L.scope cl pm c ctv)) (hc:H c=Ab (.frz oc (.frz oc (.own 0)))) (hd:oc.data=.fields ws) (ht:ws[1]? = Ab (.str L.qual t))
  (inj:∀ x y d,cl.lookup x=Ab d->cl.lookup y=Ab d->x=y) (cel:∀ x d,cl.lookup x=Ab d->H d=none/\∃ v,h.IsCell d v) (has:∀ x,L.scope.names.lookup x=Ab .free->∃ d,cl.lookup x=Ab d)
  (len:cv.length=(xN L.scope).length) (val:∀ (j:Ag) x v,(xN L.scope)[j]? = Ab x->cv[j]? = Ab v->∃ d u,cl.lookup x=Ab d/\qH v u/\h.IsCell d (Ab u)) (hn:H a=none) (hf:a ∉ fs):iq h H fs L a cv
theorem iq.at {X:Cx}{σ:_L.St}{a:Af}(C:iq X.s₀.heap X.H₀ X.fs L a O)(F:ng X)(I:Inv X ai σ H s):iq s.heap H (ir X.stack) L a O:=by
 obtain⟨cl,i,U,c,oc,y,t,o,h,m,r,N,Q,has,G,val,T,B⟩:=C;have J:∀ b,b ∉ X.ex:=λb=>by rw[F.1];simp
 have nf:∀ b o,X.s₀.heap.get? b=Ab o->b ∉ X.fs->b ∉ ir X.stack:=λb o e n z=>(F.mem.mp z).elim (Ch (Bh (Ba e) I.ok.above)) n;have A:∀ d v,X.H₀ d=none->X.s₀.heap.IsCell d v->s.heap.IsCell d v:=λd v Y ⟨o,e,q⟩=>let ⟨_,z⟩:=I.base.any e Y (J d);⟨_,z,q⟩
 refine⟨cl,i,U,c,oc,y,t,I.base.keep a _ o T B (J a),I.base.frzs _ _ _ h,m,r,N,λx d e=>?_,has,G,λj x v e1 l=>?_,I.base.free a _ o T (J a),nf a _ o B⟩
 .obtain⟨Y,v,M⟩:=Q x d e
  obtain⟨p,e3,q⟩:=id M;exact⟨I.base.free d p e3 Y (J d),v,A d v Y M⟩
 .obtain⟨d,u,w,g,k⟩:=val j x v e1 l
  exact⟨d,u,w,g,A d _ (Q x d w).1 k⟩
noncomputable def JI (cm:Ar)(P:Bj)(w:Bz)(K:Ak)(mg:ag)(base:Bv)(N:Aa As)(L:ku)(Q:Aa (As × Af))(f:Af)(cd:Ac)(A:Bw)(Y:Aa Jf)(s:Ai)(H:Hp)(E:XK):Cx where
 prog:=P
 w:=w
 K:=K
 mg:=mg
 base:=base
 A:=A.deeper (My L.qual L.scope s.heap.objs.size f cd Q)
 N:=N
 s₀:=s
 H₀:=H
 env:=My L.qual L.scope s.heap.objs.size f cd Q
 outer:=Y
 stack:=My L.qual L.scope s.heap.objs.size f cd Q::Y
 ex:=[]
 calm:=cm
 fn:=λ_=>false
 pn:=[]
 xe:=za P w A (My L.qual L.scope s.heap.objs.size f cd Q) Y H s E
structure sj (L:ku)(ps:Aa As):Prop where
 kind:L.scope.kind=.function
 co:L.scope.isCoroutine=false
 gen:L.scope.isGenerator=false
 nocell:∀ y∈L.scope.names,y.2≠.cell
 par:∀ x∈ps,L.scope.names.lookup x=Ab .local
 one:ps.length<=1
 fr:∀ x∈xN L.scope,L.scope.names.lookup x=Ab .free
def lB (P:Bj)(w:Bz)(K:Ak)(mg:ag)(base:Bv)(cm:Ar)(k:Ag)(L:ku)(n:Ag)(G:Aa D->DF):Prop:=
 ∀ (A:Bw) (U:Aa Jf) (s:Ai) (H:Hp) (us:ah) (N O:Aa V) (a:Af) (Y:Hp) (α : Aa Af) (S:ao) (caps J:Aa D) (Q:VK) (E:XK),av cm k A->ni P w K mg base A U s H->iq s.heap H (ir U) L a O->a_ K H Y α S ->
  qB K Y α caps O->qB K Y α J N->qI N us->J.length=n->wy K Y α (G caps J S) Q E->Jr (Ax P w) A (.call (.ref a) ⟨us,[]⟩) (CR (n_ P w) U P w H s Q E) s
section
variable {P:Bj}{w:Bz}{K:Ak}{mg:ag}{base:Bv}{cm:Ar}{L:ku}{ps:Aa As}
theorem FZ {U:Aa (As × Af)}{f:Af}{cd:Ac}{A:Bw}{E:XK}{B C:Aa V}{h':Bv}{tk:Ag}(S:sj L ps)(hd:cm=true->A.handled=none)(Y:ni P w K mg base A m s H)
  (l:∀ x y d,U.lookup x=Ab d->U.lookup y=Ab d->x=y) (N:∀ x d,U.lookup x=Ab d->H d=none/\∃ v,s.heap.IsCell d v) (has:∀ x,L.scope.names.lookup x=Ab .free->∃ d,U.lookup x=Ab d)
  (k:C.length=(xN L.scope).length) (val:∀ (j:Ag) x v,(xN L.scope)[j]? = Ab x->C[j]? = Ab v->∃ d u,U.lookup x=Ab d/\qH v u/\s.heap.IsCell d (Ab u)) (O:B.length=ps.length) (r:qI B us)
  (g:h'.Ns s.heap.objs.size λy=>(ps.zip us).reverse.lookup y) (M:∀ b o,s.heap.get? b=Ab o->h'.get? b=Ab o) :
  Inv (JI cm P w K mg base (ps++xN L.scope) L U f cd A m s H E) [] ((B++C).map Ab) H { s with heap:=h',toks:=tk }:=by
 have n:∀ d v,s.heap.IsCell d v->h'.IsCell d v:=λd v ⟨o,e,q⟩=>⟨o,M d o e,q⟩;have T:∀ b:Af,b ∉ ([]:ae):=λb=>by simp
 refine⟨⟨Y.mod,S.kind,rfl,rfl,Aw _,l,λy hy=>?_,(λy c z=>nomatch z),hd,Rh Y.frames,.inr ⟨rfl,rfl⟩,λb z=>absurd z (T b),Y.bs,Y.bsz,λb _ _=>T b,λb z=>absurd z (T b),Y.funs,Y.frf⟩,
  rfl,Y.bare,Un.kept M,⟨_,g,λi y v Q J h3=>?_⟩,λy c h=>?_,Y.hok.fresh (Aw _),λy c h=>(N y c h).1,λp hp=>absurd (show p∈([]:aa) from hp) cy,Y.hok.kept M,?_⟩
 .rcases hy with hy|hy
  .exact absurd rfl (S.nocell _ (Fm hy))
  .exact has y hy
 .have Q:(ps++xN L.scope)[i]? = Ab y:=Q
  rw[Dp] at J;obtain⟨v',J,e⟩:=Dl.mp J;cases e;by_cases G:i<ps.length
  .rw[Bk G] at Q
   rw[Bk (by rw[O];exact G)] at J
   obtain⟨u,a,rv⟩:=r.get J;refine⟨u,rv,.inl ⟨S.par y (Cf Q),?_⟩⟩;have I:=S.one;cases ps with
   |nil=>cases Q
   |cons p t =>
    cases t with
    |cons _ _=>simp at I
    |nil =>
     have i0:i=0:=by simpa using G
     subst i0;cases us with
     |nil=>cases a
     |cons u' us =>
      cases Q;cases a;simp
  .rw[Ct (Ql G)] at Q
   rw[Ct (by rw[O];exact Ql G),O] at J
   obtain⟨d,u,q1,q2,q3⟩:=val _ y v Q J;exact⟨u,q2,.inr ⟨.inr (S.fr y (Cf Q)),d,q1,n d _ q3⟩⟩
 .obtain⟨_,v,q⟩:=N y c h
  exact⟨v,n c v q⟩
 .show _=(ps++xN L.scope).length
  simp[O,k]
theorem RV {k:Ag}{fe:DE}(S:sj L ps)(hb:∀ (U:Aa (As × Af)) (pm zs N:Ac) (us:ah),us.length=ps.length->Wn (AbH "<lambda>" L.qual L.params L.body L.scope U pm zs N) ⟨us,[]⟩=pure (ps.zip us))
  (G:∀ (U:Aa (As × Af)) (f:Af) (cd:Ac) (A:Bw) (al:Aa Jf) (s:Ai) (H:Hp) (E:XK),av cm k (A.deeper (My L.qual L.scope s.heap.objs.size f cd U)) ->
   QE (JI cm P w K mg base (ps++xN L.scope) L U f cd A al s H E) L.body fe):lB P w K mg base cm (k+1) L ps.length λcaps B S=>fe ((B++caps).map Ab) S:=by
 intro A al s H us ws cv a h α St caps B Q E hr M C r rc l rv hn J;obtain⟨U,pm,N,c,oc,vs,t,o,hc,hd,ht,zo,zv,has,g,val,zx,hf⟩:=C;have J:wy K h α (fe ((B++caps).map Ab) St) Q E:=J;have bq:s.heap.NoLimit:=M.mod.nolimit.keeps λb o e=>(M.bs b o e).1;have zl:us.length=ps.length:=by rw[<- rv.length,<- l.length];exact hn
 have T:∀ y∈ps.zip us,L.scope.names.lookup y.1=Ab .local:=λy hy=>S.par _ (Oa hy).1;refine PySem.W.kla_callFunE hr.depth o rfl S.co S.gen rfl ⟨c,oc,vs,t,rfl,(M.hok c _ hc).1,hd,ht⟩ ?_;rw[hb U pm (.ref c) N us zl];refine Am (wpAny_newFunctionEnv S.nocell T (λO n m=>?_) S.kind);have Y:∀ b o,s.heap.get? b=Ab o->O.get? b=Ab o:=λb o e=>m.extBut b o (Ch (Ba e)) (Aj _ e);refine⟨bq.keeps Y,?_⟩;show Jr _ _ (.expr L.body (My L.qual L.scope s.heap.objs.size a (.ref c) U)) _ _;have I:=FZ (cm:=cm) (f:=a) (cd:=.ref c) (E:=E) (tk:=s.toks+(ps.zip us).length) S hr.hd M zo zv has g val (by rw[<- l.length];exact hn) rv n Y
 have re:zE K h α ((ws++cv).map Ab) ((B++caps).map Ab):=by
  have z:=l.append rc;refine⟨by simp[z.length,l.length,rc.length],λi d e=>?_⟩
  rw[Dp] at e;obtain⟨d',e1,e2⟩:=Dl.mp e;cases e2;obtain⟨v,h1,h2⟩:=z.get e1;exact⟨v,by rw[Dp,h1];rfl,h2⟩
 refine PySem.W.kla_codeExpr (Hk ((G U a (.ref c) A al s H E (hr.deeper _)).1 [] _ _ H Q I ⟨h,α,_,St,r,re,?_⟩) (λu s' q=>?_) λ_ _ y=>y)
 .cases z:fe ((B++caps).map Ab) St with
  |ok d S'=>rw[z] at J;exact J
  |ex e x S'=>rw[z] at J;exact λu s' q=>eP (A:=A) rfl q λH' P1 zb r1 e1 e2=>J H' P1 zb r1 e1 e2
  |bad=>rw[z] at J;exact Au J
 .obtain⟨v,H',p,zc,q⟩:=q
  exact⟨v,H',p.os,p.bare,p.base,p.hok,zc,q⟩
end
open Classical in
def mQ (i:Ag)(U:DA)(a:Af)(Y:Aa V)(n:Ag)(G:Aa D->DF):DE:=λaj S=>match aj[i]? with
 |some (Ab (.clo b vs caps))=>if b=a/\vs=Y then (U aj S).bind λQ J=>if Q.length=n then G caps Q J else .bad else .bad
 |_=>.bad
section
variable {X:Cx}{cm:Ar}{k n i:Ag}{x:As}{p ap:Fb}{e:Bx}{es:Aa Bx}{fa:DA}{L:ku}{G:Aa D->DF}{a:Af}{cv:Aa V}
set_option tactic.hygienic true in
theorem BZ {S:ao}{P:Hp}{α:ae}{Ok:D->ao->Prop}(h:qK X P α (mQ i fa a cv n G aj S) Ok):∃ caps,aj[i]? = Ab (Ab (.clo a cv caps))/\qK X P α ((fa aj S).bind λQ S1=>if Q.length=n then G caps Q S1 else .bad) Ok:=by
 unfold mQ at h
 split at h
 .rename_i b vs caps e
  obtain⟨⟨rfl,rfl⟩,Y⟩:=wK h;exact⟨caps,e,Y⟩
 .exact Au h
theorem R8 (C:iq h H Y L a cv):PySem.W.FnAt a h:=by
 obtain⟨U,N,Q,c,oc,J,t,o,_⟩:=C;exact⟨_,_,_,_,o⟩
theorem F0 {ai:aa}{σ:_L.St}{H P:Hp}{α:ae}{s:Ai}{Q:VK}{U:Aa V}{Y:Aa D}{S:ao}(N:lB X.prog X.w X.K X.mg X.base cm k L n G)(B:av cm k X.A)(F:ng X)(C:iq X.s₀.heap X.H₀ X.fs L a cv)
  (I:Inv X ai σ H s) (r:a_ X.K H P α S) (O:qB X.K P α caps cv) (M:qB X.K P α Y U) (A:qI U us) (J:qU X P α (if Y.length=n then G caps Y S else .bad) Q):c3 X (call (.ref a) us) (EP X ai σ Q) X.xe s:=by
 obtain⟨T,J⟩:=wK J;exact mN (λ_=>F) I J (N X.A X.stack s H us U cv a P α S caps Y Q _ B I.env0 (C.at F I) r O M A T (aH J))
theorem RX {ai:aa}{σ:_L.St}{H P:Hp}{α:ae}{s:Ai}{Q:ab}(w:X.N[i]? = Ab x)(hv:qw X.env.scope x)(B:(x == ("__debug__" : As))=false)(J:(x == ("__classdict__" : As))=false)
  (I:Inv X ai σ H s) (C:zE X.K P α σ aj) (O:aj[i]? = Ab (Ab (.clo a cv caps))) (h:∀ Y,Inv X ai σ H Y->qB X.K P α caps cv->Q (.ref a) Y):c3 X (eval (.Name x p) X.env) Q X.xe s:=by
 obtain⟨v,y,U⟩:=C.2 i _ O;simp only[aq] at U;obtain⟨rfl,A⟩:=U;refine bj (YQ w hv B J ai s σ H (λv H'=>v=.ref a/\H'=H) I ⟨_,y,rfl,rfl⟩) λu Y ⟨v,q,M,T,N,z⟩=>?_;subst N;subst z;cases (show u=Cw a from T)
 exact h Y M A
theorem DU (q:lB X.prog X.w X.K X.mg X.base cm k L n G)(g:av cm k X.A)(F:ng X)(C:iq X.s₀.heap X.H₀ X.fs L a cv)(v:X.N[i]? = Ab x)(hv:qw X.env.scope x)(z:(x == ("__debug__" : As))=false)(U:(x == ("__classdict__" : As))=false)(c:PA X (e::es) (lc X fa))
  (w:Bo (e::es) X.env=(false,eval e X.env)::Bo es X.env:=by rfl) (J:(Gr ap (Bo es X.env)).any (·.1)=false:=by rfl):PE X (.Call (.Name x p) (e::es) [] ap) (tD X (mQ i fa a cv n G)):=by
 intro ai s σ H Q I h;obtain⟨P,α,aj,S,r,B,N⟩:=h;obtain⟨caps,t,N⟩:=BZ N;refine Ih (RX v hv z U I B t λs1 A l=>?_);refine PySem.W.callWith_F (R8 (C.at F A)) (bj (wJ c A r B N ap) λus s2 ⟨vs,H2,P2,y,b,S2,O,u,o,d,m,M,T,Y⟩=>⟨R8 (C.at F O),?_⟩) w J;exact F0 q g F C O o (qB.mono M T _ _ l) m u (qU.base M T Y)
end
theorem iE {c:Ac}(l:ah)(h:Np l):Np (l++[Gq i,Gq j,c]):=by
 fun_induction Np l with
 |case1=>simp[Np,Gq]
 |case2 _ _ _ _ _ qD Q=>simp only[Vm,Np];exact Q h
 |case3=>exact Au h
set_option tactic.hygienic true in
theorem XS {c v:Ac}(l:ah)(h:Np l)(e:Rq Y (l++[Gq i,Gq j,c])=Ab v):Rq Y l=Ab v\/v=c:=by
 fun_induction Np l with
 |case1 =>
  simp only[Ke,Rq,Gq] at e
  split at e
  .exact .inr (Dd e).symm
  .cases e
 |case2 _ _ _ _ _ qD J =>
  simp only[Vm,Rq] at e ⊢
  split at e
  .rename_i Q;rw[Bd Q];exact .inl e
  .rename_i Q;rw[Bg Q];exact J h e
 |case3=>exact Au h
theorem tw.at {K:Ak}{H P:Hp}{α:ae}{a:Af}(e:H' a=H a):∀ {o:MO},tw K H P α a o->tw K H' P α a o
 |.dead,_=>trivial
 |.lst _,⟨vs,q,r⟩=>⟨vs,e.trans q,r⟩
 |.dct _,⟨vs,q,r⟩=>⟨vs,e.trans q,r⟩
 |.dcT _,⟨vs,q,r⟩=>⟨vs,e.trans q,r⟩
 |.ins _ _,⟨Q,vs,q,r⟩=>⟨Q,vs,e.trans q,r⟩
section
variable {X:Cx}{ai:aa}{σ: _L.St}{H P:Hp}{α: Aa Af}{s:Ai}{S:ao}{y:As}{c T:Af}
theorem a_.grown {I:Ay Ac}{t:Vr}{i:Ag}(r:a_ X.K H P α S)(m:Mod X.K X.mg X.base)(hy:y∈wC)(ht:Dw X.K y=Ab (c,T))(e:H T=Ab (.tbl ps))(g:P T=none)(l:T ∉ α)(ok:Np ps.toList)
  (cd:∀ Y Q,Rq Y ps.toList=Ab Q->∃ c oc vs t,Q=.ref c/\H c=Ab (.frz oc (.frz oc (.own 0)))/\oc.data=.fields vs/\vs[1]? = Ab (.str (y ++ ".<locals>." ++ "<lambda>") t)) (A:H c'=none) (hd:oc.data=.fields I) (hs:I[1]? = Ab (.str (y ++ ".<locals>." ++ "<lambda>") t)) :
  a_ X.K (bv (bv H T (.tbl (ps++#[Gq i,Gq j,.ref c']))) c' (.frz oc (.frz oc (.own 0)))) P α S:=by
 have ne:T≠c':=qZ e A;have G:∀ b u,b≠T->H b=Ab u->bv (bv H T (.tbl (ps++#[Gq i,Gq j,.ref c']))) c' (.frz oc (.frz oc (.own 0))) b=Ab u:=λb u h q=>by rw[qJ (qZ q A),qJ h];exact q
 have nT:∀ b∈α,b≠T:=λb h z=>l (z▸h);have nc:∀ (k:Ag) b,α[k]? = Ab b->b≠c':=λk b h z=>r.own k b h (z▸A);have J:∀ (k:Ag) b,α[k]? = Ab b->bv (bv H T (.tbl (ps++#[Gq i,Gq j,.ref c']))) c' (.frz oc (.frz oc (.own 0))) b=H b:=λk b h=>by rw[qJ (nc k b h),qJ (nT b (Cf h))]
 refine⟨λx w d U p=>?_,λb u q=>G b u (λz=>by rw[z,g] at q;cases q) (r.sub b u q),r.len,r.nd,r.sep,λk b o v h2=>tw.at (J k b v) (r.at' k b o v h2),λk b h=>by rw[J k b h];exact r.own k b h⟩
 by_cases n:U=T
 .subst n
  cases m.inj x w y hy d c U p ht;refine⟨_,by rw[qJ ne];exact qQ,g,l,?_,λY Q q=>?_⟩
  .rw[Dt];exact iE _ ok
  .rw[Dt] at q
   rcases XS _ ok q with q|q
   .obtain⟨d,O,vs,t,C,M,a3⟩:=cd Y Q q
    exact⟨d,O,vs,t,C,G d _ (λz=>by rw[z,e] at M;cases M) M,a3⟩
   .exact⟨c',oc,I,t,q,qQ,hd,hs⟩
 .obtain⟨qs,e1,a,C,N,B⟩:=r.tb x w d U p
  exact⟨qs,G U _ n e1,a,C,N,λY Q q=>let ⟨d,O,vs,t,b1,L,b3⟩:=B Y Q q;⟨d,O,vs,t,b1,G d _ (λz=>by rw[z,e] at L;cases L) L,b3⟩⟩
theorem Inv.pinned {a:Af}{h':Bv}{tk:Ag}(I:Inv X ai σ H' { s with heap:=h'.push o,toks:=tk })(G:a=h'.objs.size)(hs:s.heap.objs.size<=h'.objs.size)(Y:Inv X ai σ H s)(J:H' a=none)(U:∀ v,o.data≠.cell v)(Q:o.isFreed=false:=by rfl):Inv X ((a,o)::ai) σ H' { s with heap:=h'.push o,toks:=tk }:=by
 refine I.pins_of λp hp=>?_;rcases Av.mp hp with rfl|hp
 .subst G
  exact⟨Bb _ Q,J,Gy (Bh Y.lt hs),Y.nofs hs,U⟩
 .exact I.pin p (Ce _ hp)
theorem JL {M:Pq}{p:Ro}{bo:Bx}{ak:Em}{N:Fb}{cl:Aa (As × Af)}{Q:ab}(I:Inv X ai σ H s)(r:a_ X.K H P α S)(hy:y∈wC)(ht:Dw X.K y=Ab (c,T))(hc:X.env.code=.ref c)(hq:X.env.qual=y ++ ".<locals>.")
  (l:defaultsOf p X.env=([],[])) (k:Ve ak X.env=pure cl)
  (h:∀ (a:Af) (H':Hp) (s':Ai) (pm J:Ac) (c':Af) (oc:Cp) (L:Ay Ac) (t:Vr),Inv X ((a,Oh "<lambda>" (y ++ ".<locals>." ++ "<lambda>") p bo ak cl pm c' J)::ai) σ H' s'->a_ X.K H' P α S ->
   H' c'=Ab (.frz oc (.frz oc (.own 0)))->oc.data=.fields L->L[1]? = Ab (.str (y ++ ".<locals>." ++ "<lambda>") t)->Q (.ref a) s'):Aq M X.A (eval (.Lambda p bo ak N) X.env) Q E s:=by
 obtain⟨ps,e,pn,an,ok,cd⟩:=r.tb y hy c T ht;have hP:s.heap.get? T=Ab (Mv ps):=I.hok T _ e;have hC:Xx s.heap c T:=(I.mod.code y hy c T ht).keeps I.bk;have hg:s.heap.Ns Df X.mg:=I.mod.glob.keeps I.bk;have zc:Df≠T:=λz=>by
  obtain⟨o,es,ep,i,d1,_⟩:=hg;rw[z,hP] at i;cases i;cases d1
 have Y:s.heap.BuiltinsAt X.mg T:=by
  obtain⟨bm,o,b1,b2,b3,b4,b5,b6⟩:=I.mod.bm;have G:=I.bk _ _ b3;refine⟨bm,o,b1,b2,λz=>?_,λz=>?_,G,b4,b5,b6⟩
  .obtain⟨o',es,ep,i,d1,_⟩:=hg
   rw[<- z,G] at i;cases i;rw[b6] at d1;cases d1
  .rw[z,hP] at G;cases G;cases b4
 refine PySem.W.kla_eval l ?_;rw[hq];cases hf:Rq N ps.toList with
 |none =>
  refine PySem.W.kla_makeFunction (mg:=X.mg) k I.ok.glob hg hc hC hP ok hf zc Y λc' J h' tk hx C m x zb=>?_;obtain⟨c2,oc,L,t,z,zo,hd,hs⟩:=x;cases z;have hn:H c'=none:=I.hok.fresh C;have ne:T≠c':=qZ e hn;have U:s.heap.objs.size<=h'.objs.size:=Ci C (Ef m)
  let o:=Oh "<lambda>" (y ++ ".<locals>." ++ "<lambda>") p bo ak cl ((X.mg "__name__").getD .none) c' J
  have kp:∀ b u,b≠T->s.heap.get? b=Ab u->(h'.push o).get? b=Ab u:=λb u Y q=>Aj _ (hx b u Y q);have eT:(h'.push o).get? T=Ab (Mv (ps++#[Gq N.line,Gq N.col,.ref c'])):=Aj _ zb
  let B:=bv (bv H T (.tbl (ps++#[Gq N.line,Gq N.col,.ref c']))) c' (.frz oc (.frz oc (.own 0)))
  have g:∀ b u,b≠T->H b=Ab u->B b=Ab u:=λb u h q=>by show bv _ _ _ b=_;rw[qJ (qZ q hn),qJ h];exact q
  have A:∀ b,b≠T->b≠c'->H b=none->B b=none:=λb h h' q=>by show bv _ _ _ b=_;rw[qJ h',qJ h];exact q
  have nT:∀ b,H b=none->b≠T:=λb q z=>by rw[z,e] at q;cases q
  have eH:B T=Ab (.tbl (ps++#[Gq N.line,Gq N.col,.ref c'])):=by show bv _ _ _ T=_;rw[qJ ne];exact qQ
  have un:Un X.fs [] H B s.heap (h'.push o):=by
   refine⟨λb u q n _ _=>kp b u (nT b n) q,λb u q n _ _=>⟨u.slots,kp b u (nT b n) q⟩,λb u q n _=>A b (nT b n) (Ch (Bh (Ba q) C)) n,λb u q _=>?_,λb xs q=>g b _ (λz=>by rw[z,e] at q;cases q) q,λb u xs q=>g b _ (λz=>by rw[z,e] at q;cases q) q,λb qs q=>?_⟩
   .by_cases Y:b=T
    .rw[Y];exact⟨_,eT⟩
    .exact⟨u,kp b u Y q⟩
   .by_cases Y:b=T
    .rw[Y,e] at q;cases q
     exact⟨_,by rw[Y];exact eH⟩
    .exact⟨#[],by rw[g b _ Y q];simp⟩
  have zl:gz X.prog X.w B (h'.push o):=λb u q=>by
   by_cases Y:b=c'
   .have q':Ab (HO.frz oc (.frz oc (.own 0)))=Ab u:=by rw[<- q,Y];exact qQ.symm
    cases q';have z:(h'.push o).get? b=Ab oc:=by rw[Y];exact Aj _ zo
    exact⟨z,z,_,z⟩
   .by_cases O:b=T
    .rw[O,eH] at q;cases q
     rw[O];exact eT
    .have q':H b=Ab u:=by have q2:bv _ _ _ b=Ab u:=q;rw[qJ Y,qJ O] at q2;exact q2
     refine(I.hok b u q').stay (λd v hd q=>kp d v ?_ q) (λd q=>g d _ (λz=>by rw[z,e] at q;cases q) q) λd xs q=>g d _ (λz=>by rw[z,e] at q;cases q) q
     rcases hd with z|z
     .rw[z];exact O
     .intro w;rw[w,e] at z;cases z
  have I2:=I.un (t':=tk) un zl;refine h h'.objs.size B _ _ J c' oc L t (Inv.pinned I2 rfl U I (A _ (λz=>?_) (Gy m) (I.hok.fresh U)) λv z=>by cases z) (r.grown I.mod hy ht e pn an ok cd hn hd hs) qQ hd hs
  rw[<- z] at e;exact absurd (Bh (I.hok.lt e) U) (Eg _)
 |some cv =>
  obtain⟨c',oc,L,t,rfl,a2,a3,a4⟩:=cd N cv hf;refine PySem.W.kla_makeFunctionHit (mg:=X.mg) k I.ok.glob hg hc hC hP ok hf Y λJ h' tk hk U=>?_;have I2:=I.kept (t':=tk) (h':=h'.push (Oh "<lambda>" (y ++ ".<locals>." ++ "<lambda>") p bo ak cl ((X.mg "__name__").getD .none) c' J)) λb u q=>Aj _ (hk b u q);exact h h'.objs.size H _ _ J c' oc L t (Inv.pinned I2 rfl U I (I.hok.fresh U) λv z=>by cases z) r a2 a3 a4
end
noncomputable def mO:Aa Ag->qC->Al (Aa D)
 |[],_=>Ab []
 |i::r,aj=>match aj[i]? with
  |some (Ab d)=>(mO r aj).map (d::·)
  |_=>none
set_option tactic.hygienic true in
theorem iL {K:Ak}{P:Hp}{α:ae}{σ:_L.St}(J:zE K P α σ aj):∀ (bn:Aa Ag) (caps:Aa D),mO bn aj=Ab caps->∃ Q,qB K P α caps Q/\Q.length=bn.length/\∀ (j i:Ag) v,bn[j]? = Ab i->Q[j]? = Ab v->σ[i]? = Ab (Ab v)
 |[],caps,h=>by cases h;exact⟨[],.nil,rfl,λj i v e=>by simp at e⟩
 |i::r,caps,h=>by
  unfold mO at h
  split at h
  .rename_i d e
   obtain⟨G,N,rfl⟩:=Dl.mp h;obtain⟨Q,C,T,L⟩:=iL J r G N;obtain⟨v,O,B⟩:=J.2 i d e;refine⟨v::Q,.cons B C,by simp[T],λj k w U Y=>?_⟩
   cases j with
   |zero=>cases U;cases Y;exact O
   |succ j=>exact L j k w (by simpa using U) (by simpa using Y)
  .cases h
open Classical in
def uw (f:Af->Aa V->aw D):aw D:=if ∀ a Q,f a Q=f 0 [] then f 0 [] else .bad
theorem AY {R:aw D}(h:∀ a Q,f a Q=R):uw f=R:=by
 unfold uw;rw[Bd λa Q=>(h a Q).trans (h 0 []).symm];exact h 0 []
set_option tactic.hygienic true in
theorem AX (h:uw f≠.bad)(a:Af)(Q:Aa V):f a Q=uw f:=by
 unfold uw at h ⊢
 split at h
 .rename_i z;rw[Bd z];exact z a Q
 .exact absurd rfl h
def ym (Q:Ar)(R:aw D):aw D:=match Q,R with
 |true,.ex _ _ _=>.bad
 |_,R=>R
def gE (J:Ar)(bn:Aa Ag)(n N:Ag)(G:DA)(g:Af->Aa V->DS):DE:=λaj S=>match mO bn aj with
 |none=>.bad
 |some caps=>(G aj S).bind λY U=>if Y.length+1=n then ym J (uw λa Q=>qL N (g a Q) (.clo a Q caps::Y) U) else .bad
def LN (P:Bj)(w:Bz)(K:Ak)(mg:ag)(base:Bv)(cm:Ar)(k B m:Ag)(x:As)(n N:Ag)(g:(Aa D->DF)->Af->Aa V->DS):Prop:=
 ∃ f C st J Y,Y.length=n/\J.length=N/\mg x=Ab (.ref f)/\tz K x x st f C/\vZ K C Y [] /\ cj J Y (qG st)/\∀ (L:ku) (G:Aa D->DF) (a:Af) (U:Aa V),lB P w K mg base cm B L m G ->
  ∀ (Q:Ac) (A:Bw) (O:Aa Jf) (s:Ai) (H:Hp) (E:XK),iq s.heap H (ir O) L a U->av cm k (A.deeper (Gs x (qG st) s.heap.objs.size f Q))->QB (ky cm P w K mg base J x (qG st) f Q A O s H E) (zN st) (g G a U)
def bQ (Q:Em)(Y:Aa As)(sc:Em)(bn:Aa Ag):Ar:=decide ((xN sc).length=bn.length)&&(bn.zip (xN sc)).all λp=>Y[p.1]? == Ab p.2&&(Q.names.lookup p.2 == Ab .cell||Q.names.lookup p.2 == Ab .free)
section
variable {X:Cx}{ai:aa}{σ: _L.St}{H P:Hp}{α: Aa Af}{s:Ai}{S:ao}{y x:As}{c T:Af}{bf:Ro}{bo:Bx}{ak:Em}{ik p ap:Fb}{es:Aa Bx}{fa:DA}{nx cm:Ar}{k kl m n N:Ag}{bn:Aa Ag}{G:Aa D->DF}{g:(Aa D->DF)->Af->Aa V->DS}
theorem R0 {R:aw D}{Ok:D->ao->Prop}(h:qK X P α (ym nx R) Ok):R≠.bad/\qK X P α R Ok/\((∃ c x Q,R=.ex c x Q)->nx=false):=by
 cases R with
 |ok d Q=>exact⟨nofun,by cases nx <;> exact h,λ⟨_,_,_,z⟩=>nomatch z⟩
 |bad=>cases nx <;> exact Au h
 |ex c x Q =>
  cases nx with
  |true=>exact Au h
  |false=>exact⟨nofun,h,λ_=>rfl⟩
theorem a_.know {K:Ak}(r:a_ K H P α S)(h:H c'=Ab (.frz oc (.frz oc (.own 0)))):a_ K H (bv P c' (.frz oc (.frz oc (.own 0)))) α S/\qE P (bv P c' (.frz oc (.frz oc (.own 0)))):=by
 have B:qE P (bv P c' (.frz oc (.frz oc (.own 0)))):=λb u q=>by
  by_cases Q:b=c'
  .have z:=r.sub b u q
   rw[Q,h] at z;cases z;rw[Q];exact qQ
  .rw[qJ Q];exact q
 refine⟨⟨λx I d T M=>let ⟨L,e,l,A,ok,w⟩:=r.tb x I d T M;⟨L,e,(qJ λ(z:T=c')=>by rw[z,h] at e;cases e).trans l,A,ok,w⟩,λb u q=>?_,r.len,r.nd,λi a o Y J O=>?_,λi a o Y J=>(r.at' i a o Y J).mono B (Be _),r.own⟩,B⟩
 .by_cases Q:b=c'
  .rw[Q,qQ] at q;cases q;rw[Q];exact h
  .rw[qJ Q] at q;exact r.sub b u q
 .have Q:a≠c':=by
   rintro rfl;have z:=r.at' i a o Y J;cases o with
   |dead=>exact O rfl
   |lst v=>obtain⟨vs,z,_⟩:=z;rw[h] at z;cases z
   |dct U=>obtain⟨vs,z,_⟩:=z;rw[h] at z;cases z
   |dcT U=>obtain⟨vs,z,_⟩:=z;rw[h] at z;cases z
   |ins C fs=>obtain⟨t,vs,z,_⟩:=z;rw[h] at z;cases z
  rw[qJ Q];exact r.sep i a o Y J O
theorem sL {z:As × Ig}(h:z∈sc.names)(Q:z.2=.free):z.1∈xN sc:=Jq.mpr ⟨z,h,by rw[Q];rfl⟩
set_option tactic.hygienic true in
theorem K3 {z:As}(h:z∈xN sc):(z,Gv)∈sc.names:=by
 obtain⟨⟨n,k⟩,Y,Q⟩:=Jq.mp h
 split at Q
 .rename_i e
  have:k=Gv:=by simpa using e
  cases Q;subst this;exact Y
 .cases Q
theorem lV (Q:bQ X.env.scope X.N ak bn=true){j:Ag}{z:As}(h:(xN ak)[j]? = Ab z):∃ i,bn[j]? = Ab i/\X.N[i]? = Ab z/\(X.env.scope.names.lookup z=Ab .cell\/X.env.scope.names.lookup z=Ab .free):=by
 simp only[bQ,AT,Bi] at Q;obtain⟨Y,O⟩:=Q;have U:j<bn.length:=by rw[<- Y];exact(Az.mp h).1
 have e:=An U;have J:(bn[j],z)∈bn.zip (xN ak):=Me.mpr ⟨j,by rw[TW];exact⟨e,h⟩⟩
 have q:=Bt.mp O _ J;simp only[AT,Kc,Zd] at q;exact⟨_,e,q.1,q.2⟩
theorem JK (Q:bQ X.env.scope X.N ak bn=true)(ok:X.Ok):Ve ak X.env=pure (wR X.env.cells ak.names []):=bC λz Y U=>by
 obtain⟨j,J⟩:=Me.mp (sL Y U);obtain⟨i,_,_,q⟩:=lV Q J;exact ok.has z.1 q
theorem jI (Y:bQ X.env.scope X.N ak bn=true)(ok:X.Ok){z:As}{d:Af}(h:(wR X.env.cells ak.names []).lookup z=Ab d):X.env.cells.lookup z=Ab d:=by
 rcases kM _ _ h with h|⟨U,Q⟩
 .cases h
 .obtain⟨j,J⟩:=Me.mp (sL U rfl)
  obtain⟨i,_,_,q⟩:=lV Y J;obtain⟨O,e⟩:=ok.has z q;rw[e,Qm] at Q;rw[e,Q]
theorem DC {a:Af}{L:Ay Ac}{t:Vr}{B:Aa V}(Q:bQ X.env.scope X.N ak bn=true)(I:Inv X ((a,Oh "<lambda>" (y ++ ".<locals>." ++ "<lambda>") bf bo ak (wR X.env.cells ak.names []) o c' J)::ai) σ H' s')
  (hc:H' c'=Ab (.frz oc (.frz oc (.own 0)))) (e:oc.data=.fields L) (hs:L[1]? = Ab (.str (y ++ ".<locals>." ++ "<lambda>") t)) (l:B.length=bn.length) (hv:∀ (j i:Ag) v,bn[j]? = Ab i->B[j]? = Ab v->σ[i]? = Ab (Ab v)) :
  iq s'.heap H' (ir X.stack) ⟨y ++ ".<locals>." ++ "<lambda>",bf,bo,ak⟩ a B:=by
 obtain⟨e1,n1,n2,n3,_⟩:=I.pin _ (Ce _ (.head _));refine⟨_,o,J,c',oc,L,t,e1,hc,e,hs,λz z' d O C=>I.ok.inj z z' d (jI Q I.ok O) (jI Q I.ok C),λz d h=>⟨I.freeC z d (jI Q I.ok h),I.cell z d (jI Q I.ok h)⟩,λz hz=>k8 _ _ (.inl (Fm hz)),?_,λj z v O C=>?_,n1,λz=>?_⟩
 .simp only[bQ,AT,Bi] at Q
  rw[l,<- Q.1]
 .obtain⟨i,b,r,q⟩:=lV Q O
  obtain⟨m,hm,A⟩:=I.loc;obtain⟨u,ru,lk⟩:=A i z v r (hv j i v b C) (q.elim (λk=>.inr (.inl k)) λk=>.inr (.inr k));rcases lk with⟨kl,_⟩|⟨_,d,M,Y⟩
  .have w:X.env.scope.names.lookup z=Ab .local:=kl
   rcases q with k|k <;> (rw[w] at k;cases k)
  .obtain⟨d',U⟩:=k8 (iu:=X.env.cells) ak.names [] (.inl (K3 (Cf O)))
   have:=jI Q I.ok U;rw[M] at this;cases this;exact⟨d,u,U,ru,Y⟩
 .rcases Av.mp (I.stkSub a z) with z|z
  .exact n2 z
  .exact n3 z
theorem UC (D:LN X.prog X.w X.K X.mg X.base cm k kl m x n N g)(LX:lB X.prog X.w X.K X.mg X.base cm kl ⟨y ++ ".<locals>." ++ "<lambda>",bf,bo,ak⟩ m G)(hr:av cm (k+1) X.A)(hF:nx=false->ng X)(hg:Gl X x)(v:(x == ("__debug__" : As))=false)
  (hy:y∈wC) (ht:Dw X.K y=Ab (c,T)) (hc:X.env.code=.ref c) (hq:X.env.qual=y ++ ".<locals>.") (L:defaultsOf bf X.env=([],[])) (hB:bQ X.env.scope X.N ak bn=true) (ha:PA X es (lc X fa))
  (he:Bo (.Lambda bf bo ak ik::es) X.env=(false,eval (.Lambda bf bo ak ik) X.env)::Bo es X.env) (q:(Gr ap (Bo es X.env)).any (·.1)=false) :
  PE X (.Call (.Name x p) (.Lambda bf bo ak ik::es) [] ap) (tD X (gE nx bn n N fa (g G))):=by
 intro ai s σ H Q I h;obtain⟨P,α,aj,S,r,re,U⟩:=h;obtain⟨f,fd,st,Ns,ps,hn,hN,hm,F,hb,hS,J⟩:=D;subst hn;subst hN;have U:qK X P α (match mO bn aj with
  |none=>.bad
  |some caps=>(fa aj S).bind λds S1=>if ds.length+1=ps.length then ym nx (uw λa B=>qL Ns.length (g G a B) (.clo a B caps::ds) S1) else .bad) (ju X P α Q):=U
 cases Y:mO bn aj with
 |none=>rw[Y] at U;exact Au U
 |some caps =>
  rw[Y] at U;obtain⟨B,rc,d,hv⟩:=iL re bn caps Y;refine Ih (fM I hg hm ?_ v);refine Tc (h₀:=X.base) I.ok.mod.kin F.kp ?_ he q;rw[he];show Aq _ _ (spliced ((false,eval (.Lambda bf bo ak ik) X.env)::Gr ap (Bo es X.env))) _ _ s;refine Lh (JL I r hy ht hc hq L (JK hB I.ok) λa H1 s1 pm zx c' oc ws t I1 r1 i hd hs=>?_);obtain⟨rk,e⟩:=a_.know r1 i;refine bj (wJ ha I1 rk (re.mono e (Be _)) (qU.base e (Be _) U) ap) λus o ⟨vs,H2,P2,z0,ds,S2,O,rv,r2,zv,rp,q1,q2,l⟩=>⟨O.kIn,?_⟩;obtain⟨hl,zc⟩:=wK l;obtain⟨nb,M,nf⟩:=R0 zc;have e1:=AX nb a B;rw[<- e1] at M nf;have C:=DC hB O (r2.sub _ _ (q1 _ _ qQ)) hd hs d hv;have I3:Inv X ai σ H2 o:=O.pins_of λp hp=>O.pin p (Ce _ (Ap _ hp));obtain⟨zs,od,kV,zo,z1,an,zl,ct,zy,rfl,lk,b⟩:=F.ex;have hz:(Cw a::us).length=ps.length:=by rw[<- hl,rp.length,rv.length];rfl
  have w:=hb o (.ref a::us) O.kIn (by rw[Gm];exact hz)
  rw[Gm] at w;have zb:=qB.mono (e.trans q1) q2 _ _ rc;have A:=qU.base q1 q2 M;have u:qI (V.ref a::vs) (Cw a::us):=.cons rfl rv;exact mN (λz=>hF (nf z)) I3 A (WR lk b hS (by rw[<- hz];exact u.length) hr I3.env0 w u (rY (J _ G a B LX zl X.A X.stack o H2 _ C (hr.deeper _)).1 r2 (.cons (by simp only[aq];exact⟨trivial,zb⟩) rp) (aH A)))
end
section
variable {X:Cx}{ai:aa}{σ: _L.St}{H P:Hp}{α: Aa Af}{s:Ai}{S:ao}
def qCd:DF:=λQ S=>match Q with
 |[d,.tup [.ty b,.ty c]]=>if pP b=true/\pP c=true then match ml d S with
   |some a=>.ok (.bl (uT a b||uT a c)) S
   |none=>.bad
  else .bad
 |_=>.bad
noncomputable def fJ:DF:=λQ S=>match Q with
 |[.int a,.int b]=>if 0<b/\b<1073741824/\0<=a/\a<2 ^ 62 then .ok (.tup [.int (a/b),.int (a % b)]) S else .bad
 |_=>.bad
theorem W1:wA X (.builtin "divmod") fJ:=by
 intro ai σ H s P α S vs us Y Q I r L z J;cases GP Y with
 |no h=>exact(rW (X:=X) (r:=fJ Y S) (h λa b=>if 0<b/\b<1073741824/\0<=a/\a<2 ^ 62 then .ok (.tup [.int (a/b),.int (a % b)]) S else .bad) J).elim
 |of a b C =>
  subst C;obtain⟨y,ok⟩:=wK (show qK X P α (if 0<b/\b<1073741824/\0<=a/\a<2 ^ 62 then .ok (.tup [.int (a/b),.int (a % b)]) S else .bad) (ju X P α Q) from J)
  obtain⟨v,w,u,x,rfl,rfl,p,B,q,N⟩:=kI z L;cases zF p;cases zF B;obtain⟨t,rfl⟩:=q;obtain⟨t',rfl⟩:=N;have U:H s.heap.objs.size=none:=I.hok.fresh (Aw _);refine divmod_int om ?_ (.inl (Lm om));have M:a.fdiv b=a/b:=Nc _ om;have O:a.fmod b=a % b:=Tg _ om;rw[M,O];have G:=I.laid (a:=s.heap.objs.size) (o:=.tup [.int (a/b),.int (a % b)]) (t':=s.toks+1+1) (λb u e=>Aj _ e) (Aw _) (show zJ X.prog X.w _ (s.heap.push { cls:=.type "tuple",data:=.seq #[.int (a/b) s.toks,.int (a % b) (s.toks+1)] }) _ (.tup [.int (a/b),.int (a % b)]) from
   ⟨by show 2<=sizeLine;decide,[.int (a/b) s.toks,.int (a % b) (s.toks+1)],.cons ⟨_,rfl⟩ (.cons ⟨_,rfl⟩ .nil),⟨_,Bb _ rfl,rfl,_,rfl⟩⟩)
  obtain⟨T,A⟩:=r.pure (o:=.tup [.int (a/b),.int (a % b)]) U;exact⟨.ref _,_,G,rfl,ok _ _ _ _ T A (Be _) (by simp only[aq];exact⟨_,_,rfl,.inl (.inl qQ),.cons (by simp only[aq]) (.cons (by simp only[aq]) .nil)⟩)⟩
end
def zg (X:Cx)(i:Ag)(x:As):Ar:=decide (X.N[i]? = Ab x)&&(zn (X.env.scope.names.lookup x)&&okN x)
def lW (fe:DE):Aa D->DF:=λcaps Q S=>fe ((Q++caps).map Ab) S
def JJ (sc:Em)(ps:Aa As):Ar:=decide (sc.kind=.function)&&(decide (sc.isCoroutine=false)&&(decide (sc.isGenerator=false)&&(decide (∀ y∈sc.names,y.2≠.cell)&&(decide (∀ x∈ps,sc.names.lookup x=Ab .local)&&decide (∀ x∈xN sc,sc.names.lookup x=Ab .free)))))
structure D_ (G:Aa D->DF)(P:Bj)(w:Bz)(K:Ak)(mg:ag)(base:Bv)(cm:Ar)(k:Ag)(L:ku)(n:Ag):Prop where
 get:lB P w K mg base cm k L n G
structure M_ (g:(Aa D->DF)->Af->Aa V->DS)(P:Bj)(w:Bz)(K:Ak)(mg:ag)(base:Bv)(cm:Ar)(k kl m:Ag)(x:As)(n N:Ag):Prop where
 get:LN P w K mg base cm k kl m x n N g
structure wt (X:Cx)(L:ku)(a:Af)(cv:Aa V):Prop where
 get:iq X.s₀.heap X.H₀ X.fs L a cv
structure E_ (X:Cx)(y:As):Prop where
 get:y∈wC/\gT X.K y X.env.code/\X.env.qual=y ++ ".<locals>." /\ ∃ c T,Dw X.K y=Ab (c,T)
section
variable {X:Cx}{cm nx:Ar}{k kl n N i:Ag}{x y:As}{p ap ik:Fb}{e:Bx}{es:Aa Bx}{fA:DA}{fe:DE}{L:ku}{G:Aa D->DF}{a:Af}{cv:Aa V}{g:(Aa D->DF)->Af->Aa V->DS}{bn:Aa Ag}{bf:Ro}{bo:Bx}{ak:Em}
theorem EU (h:Ck (zg X i x)):X.N[i]? = Ab x/\qw X.env.scope x/\(x == ("__debug__" : As))=false/\(x == ("__classdict__" : As))=false:=by
 unfold Ck zg at h;simp only[AT,Bi] at h;exact⟨h.1,o9 h.2.1,(gN h.2.2).1,(gN h.2.2).2.1⟩
theorem aK (Q:D_ G X.prog X.w X.K X.mg X.base cm k L n)(C:wt X L a cv)(Y:av cm k X.A)(F:ng X)(h:Ck (zg X i x))(J:QA X (e::es) fA)(s:wg X e es ap):QE X (.Call (.Name x p) (e::es) [] ap) (mQ i fA a cv n G):=
 have h:=EU h
 ⟨DU Q.1 Y F C.1 h.1 h.2.1 h.2.2.1 h.2.2.2 J.1 s.1 s.2⟩
theorem _W {q:As}(h:Ck (JJ ak ps))(Q:ps.length<=1):sj ⟨q,bf,bo,ak⟩ ps:=by
 unfold Ck at h;simp only[JJ,AT,Bi] at h;obtain⟨a,b,c,d,e,f⟩:=h;exact⟨a,b,c,d,e,Q,f⟩
theorem qBK {z:As}(D:M_ g X.prog X.w X.K X.mg X.base cm k (kl+1) 1 x n N)(M:E_ X y)(hr:av cm (k+1) X.A)(t:nx=false->ng X)(h:Ck (ul X x&&bQ X.env.scope X.N ak bn))(hs:Ck (JJ ak [z]))(O:defaultsOf bf X.env=([],[]))
  (o:∀ (q:As) (b:Bx) (U:Aa (As × Af)) (I J Y u:Ac),Wn (AbH "<lambda>" q bf b ak U I J Y) ⟨[u],[]⟩=pure [(z,u)])
  (Q:∀ (U:Aa (As × Af)) (f:Af) (cd:Ac) (A:Bw) (d:Aa Jf) (s:Ai) (H:Hp) (E:XK),av cm kl (A.deeper (My (y ++ ".<locals>." ++ "<lambda>") ak s.heap.objs.size f cd U)) ->
   QE (JI cm X.prog X.w X.K X.mg X.base ([z]++xN ak) ⟨y ++ ".<locals>." ++ "<lambda>",bf,bo,ak⟩ U f cd A d s H E) bo fe)
  (ha:QA X es fA) (s:wg X (.Lambda bf bo ak ik) es ap):QE X (.Call (.Name x p) (.Lambda bf bo ak ik::es) [] ap) (gE nx bn n N fA (g (lW fe))):=by
 unfold Ck at h;rw[AT] at h;obtain⟨v,l,m3,c,T,B⟩:=M.1;have w:=uG h.1;exact⟨UC D.1 (RV (ps:=[z]) (_W hs cy) (λU I J Y us C=>by cases us with|nil=>cases C|cons u r=>cases r with|nil=>exact o _ _ _ _ _ _ u|cons _ _=>cases C) Q) hr t w.1 w.2.1 v B (l c T B) m3 O h.2 ha.1 s.1 s.2⟩
theorem wt.tr (h:wt X L a cv):wt (Cx.tryIn X E Q) L a cv:=⟨h.1⟩
theorem lmK {Y:Aa As}(h:(Y.all λy=>(Dw X.K y).isSome)=true)(U:gT X.K y X.env.code)(Q:Ck (Y.contains y&&wC.contains y))(J:X.env.qual=y ++ ".<locals>."):E_ X y:=by
 unfold Ck at Q;rw[AT] at Q;obtain⟨⟨c,T⟩,e⟩:=Kq.mp (Bt.mp h y (by simpa using Q.1))
 exact⟨by simpa using Q.2,U,J,c,T,e⟩
theorem GT:f_ X (.builtin "divmod") fJ:=⟨W1⟩
end
section
variable {P:Bj}{w:Bz}{K:Ak}{mg:ag}{base:Bv}{cm:Ar}{tp:Ag->Ge}{tab:Aa (As × Ag × Aa As)}{bl:Aa As}{oo qr:Aa (As × Af)}{cs:ah}{sy:ae}{qu:Aa (As × Ah)}{x:As}{i:Ag}{ps:Aa As}{N:Ag}
theorem dqL {g:(Aa D->DF)->Af->Aa V->DS}(P:Bj)(w:Bz)(base:Bv)(k O m j:Ag)(T:xh K mg tp tab bl oo qr cs sy qu)(z:tab[j]? = Ab (x,i,ps))(h:Ck (xc (kO (qG (tp i))) ps (qG (tp i))&&decide ((kO (qG (tp i))).length=N)))
  (B:∀ (L:ku) (G:Aa D->DF) (a:Af) (Y:Aa V),D_ G P w K mg base cm O L m->∀ (f:Af) (Q:Ac) (A:Bw) (J:Aa Jf) (s:Ai) (H:Hp) (E:XK),wt (ky cm P w K mg base (kO (qG (tp i))) x (qG (tp i)) f Q A J s H E) L a Y->av cm k (A.deeper (Gs x (qG (tp i)) s.heap.objs.size f Q)) ->
   QB (ky cm P w K mg base (kO (qG (tp i))) x (qG (tp i)) f Q A J s H E) (zN (tp i)) (g G a Y)):M_ g P w K mg base cm k O m x ps.length N:=by
 unfold Ck at h;simp only[AT,Bi] at h;obtain⟨h,rfl⟩:=h;obtain⟨f,u,I,F,U⟩:=T.src j z;exact⟨f,u,tp i,_,ps,rfl,rfl,I,F,U,h9 h,λL G a Y M Q A J s H E C y=>B L G a Y ⟨M⟩ f Q A J s H E ⟨C⟩ y⟩
end
section
variable {X:Cx}{ai:aa}{σ: _L.St}{H P:Hp}{α: Aa Af}{s:Ai}{S:ao}
def qCN:D->Aa D->ao->aw D:=λa J S=>match a,J with
 |.loc i,[.lst Y]=>fR S i λQ=>if Q.length+Y.length<=bq then .ok .non (S.set i (.lst (Q++Y))) else .bad
 |_,_=>.bad
def bN:D->Aa D->ao->aw D:=λa Y S=>match a,Y with
 |.loc i,[.int k]=>fR S i λQ=>if 0<=k/\k<1000000 then (match Q[k.toNat]? with|some d=>.ok d (S.set i (.lst (Q.eraseIdx k.toNat)))|none=>.bad) else .bad
 |_,_=>.bad
theorem nW {K:Ak}:∀ {Q:Aa D} {vs:Aa V} (k:Ag),qB K P α Q vs->qB K P α (Q.eraseIdx k) (vs.eraseIdx k)
 |[],vs,k,r=>by rw[r.nil_inv];exact .nil
 |d::Q,vs,0,r=>by
  obtain⟨w,J,rfl,_,Y⟩:=r.cons_inv;exact Y
 |d::Q,vs,k+1,r=>by
  obtain⟨w,J,rfl,U,Y⟩:=r.cons_inv;exact .cons U (nW k Y)
set_option tactic.hygienic true in
theorem JT:vp X "list.pop" bN:=by
 intro ai σ H s P α S v M vs us a n Q I r m p N O Y;unfold bN at Y
 split at Y
 .rename_i i k
  obtain⟨U,C,Y⟩:=jM Y;obtain⟨e,Y⟩:=wK Y;have G:∃ d,U[k.toNat]? = Ab d/\ju X P α Q d (S.set i (.lst (U.eraseIdx k.toNat))):=by
   cases L:U[k.toNat]? with
   |none=>rw[L] at Y;exact Au Y
   |some d=>rw[L] at Y;exact⟨d,rfl,Y⟩
  obtain⟨d,o,ok⟩:=G;obtain⟨w,u,rfl,rfl,g,A⟩:=u9 O N;cases zF g;simp only[aq] at p;obtain⟨l,rfl,q⟩:=p;obtain⟨J,z,t⟩:=r.at' i l _ q C;obtain⟨y,B,c⟩:=t.get o;have T:=(Az.mp B).1;refine JX ai s σ H (.ref l) [.int k] M [u] Q I m (.cons A .nil) ⟨l,J,k,k.toNat,y,rfl,rfl,z,by fin2,by fin2,?_,B,?_⟩
  .unfold Aa4
   show (if (0<=(if k<0 then k+(J.length:Ah) else k)&&(if k<0 then k+(J.length:Ah) else k)<(J.length:Ah))=true then Ab (if k<0 then k+(J.length:Ah) else k).toNat else none)=_
   rw[Bg (show ¬ k<0 by fin2),Bd (by simp;fin2)]
  .exact ok _ _ _ _ (r.put (m':=.lst (U.eraseIdx k.toNat)) q C (by intro z;cases z) ⟨J.eraseIdx k.toNat,qQ,nW _ t⟩) (qE.refl _) (Be _) c
 .exact Au Y
theorem QJ:we X "list.pop" bN:=⟨JT⟩
end
section
variable {X:Cx}
theorem JG {σ:_L.St}{H P:Hp}{α:ae}{S:ao}{vs:Aa V}{Q:VK}(I:Inv X ai σ H s)(r:a_ X.K H P α S)(t:qB X.K P α xs vs)(Y:qI vs am)(hz:xs.length<=bq)
  (ok:ju X P α Q (.loc S.length) (S++[.lst xs])):EP X ai σ Q (.ref s.heap.objs.size) { s with heap:=s.heap.push { cls:=.type "list",data:=.seq am.toArray } }:=by
 refine⟨.ref s.heap.objs.size,_,I.laid (t':=s.toks) (o:=.lst vs) (λb J q=>Aj _ q) (Aw _) ⟨by rw[<- t.length,<- x8];exact hz,am,0,Y,Bb _ rfl⟩,rfl,fP r (I.hok.fresh (Aw _)) t ok⟩
end
noncomputable def tF:D->ao->Al (Aa D)
 |.lst Q,_=>Ab Q
 |.tup Q,_=>Ab Q
 |.loc n,S=>match S[n]? with
  |some (.lst Q)=>Ab Q
  |_=>none
 |_,_=>none
def wY (J:Ar)(f:DE):DE:=λaj S=>(f aj S).bind λd Q=>match (tF d Q).bind jP with
 |some Y=>if J then .ok (.loc Q.length) (Q++[.lst Y]) else .ok (.lst Y) Q
 |none=>.bad
section
variable {X:Cx}{ai:aa}{σ: _L.St}{H P:Hp}{α: Aa Af}{S:ao}{s:Ai}
theorem mE {K:Type}{is:K->Ac->Prop}{e:K->Ah}{lt':K->K->Ar}{d:K}{b:K->Prop}(kd:_S.Kind X.prog X.w is e lt' d b s.heap)(ad:_S.so X.prog X.w is e s.heap)(n:X.calm=true)(hu:X.A.units+64<EQ)(I:Inv X ai σ H s)(r:a_ X.K H P α S){a:Af}{am:ah}
  (ha:s.heap.IsList a am.toArray\/s.heap.IsTuple a am.toArray) (ks:Aa K) (x:ks.length=am.length) (hk:∀ i v,am[i]? = Ab v->is (ks.getD i d) v) (hn:(_S.jq lt' ks).length<=1000) (hf:∀ k∈ks,b k) (cw:K->D)
  (O:∀ k v,is k v->v∈am->∃ z,qH z v/\aq X.K P α (cw k) z) {E:ab} :
  c3 X (call (.type "set") [.ref a]) (λu s1=>c3 X (call (.builtin "sorted") [u]) (se X ai σ H P α ((_S.jq lt' ks).map cw)) E s1) E s:=by
 have G:am.toArray.size=ks.length:=by rw[Bn,x]
 have mem:∀ k,k∈_S.jq lt' ks↔k∈ks:=λk=>_S.vY kd.ord k ks;have B:∀ i,i<ks.length->ks.getD i d∈ks:=λi T=>by simp[Lb,T]
 refine _S.Z8 (U:=_S.jq lt' ks) ad (I.ok.hd n) li ha (λi=>ks.getD i d) (λi v hv=>hk i v (by simpa using hv)) li (λi T=>(mem _).mpr (B i (by rw[<- G];exact T))) λy N Z g=>?_
 have seen:∀ k∈_S.u4 (λi=>ks.getD i d) am.toArray.size,k∈ks:=λk Q=>by
  obtain⟨i,T,rfl⟩:=_S.kG.mp Q;exact B i (by rw[<- G];exact T)
 have t:Inv X ai σ H { s with heap:=y,toks:=N }:=I.kept g
 refine _S.XE (s:={ s with heap:=y,toks:=N }) kd (I.ok.hd n) li g Z (λk Q=>hf k (seen k Q)) (U:=_S.jq lt' ks) li (λk Q=>(mem k).mpr (seen k Q)) λh2 A D c J o m l C hp zb=>?_
 rw[G,GG kd.ord] at C;have z:∀ (J:Aa (K × Ac)),(∀ p∈J,is p.1 p.2/\p.2∈am)->∃ vs,qI vs (J.map (·.2))/\qB X.K P α ((J.map (·.1)).map cw) vs:=by
  intro J
  induction J with
  |nil=>exact λ_=>⟨[],.nil,.nil⟩
  |cons p J ih =>
   intro h;obtain⟨vs,M,w⟩:=ih λq hq=>h q (by simp[hq])
   obtain⟨v,b1,b2⟩:=O p.1 p.2 (h p cy).1 (h p cy).2
   exact⟨v::vs,.cons b1 M,.cons b2 w⟩
 obtain⟨vs,M,w⟩:=z J λp Y=>by simpa using hp p Y
 rw[C] at w;have nd:([(D,HO.lst vs)].map (·.1)).Nodup:=by simp
 have I2:Inv X ai σ (yC H [(D,HO.lst vs)]) { s with heap:=h2,toks:=A }:=Inv.laidL (s:={ s with heap:=y,toks:=N }) (L:=[(D,HO.lst vs)]) (t':=A) t o (λp Y=>by
  have:p=(D,HO.lst vs):=by simpa using Y
  subst this;exact m) λp Y=>by
  have:p=(D,HO.lst vs):=by simpa using Y
  subst this;refine⟨?_,J.map (·.2),c,M,l⟩
  have:=M.length;rw[Ao] at this;rw[this,Fy]
  lia
 exact⟨D,vs,rfl,t.hok.fresh m,I2,w⟩
set_option tactic.hygienic true in
theorem NL (I:Inv X ai σ H s)(r:a_ X.K H P α S)(p:aq X.K P α d v)(q:qH v Q)(h:tF d S=Ab xs) :
  ∃ a vs am,Q=.ref a/\qB X.K P α xs vs/\qI vs am/\(s.heap.IsList a am.toArray\/s.heap.IsTuple a am.toArray)/\xs.length=am.length:=by
 cases d with
 |lst U=>exact aD I r p q h
 |tup U=>exact aD I r p q h
 |loc n =>
  have J:S[n]? = Ab (.lst xs):=by
   have h:(match S[n]? with|some (.lst xs)=>Ab xs|_=>none)=Ab xs:=h
   split at h
   .rename_i e;cases h;exact e
   .cases h
  simp only[aq] at p;obtain⟨a,rfl,G⟩:=p;cases (show Q=Cw a from q)
  obtain⟨vs,z,t⟩:=r.at' n a _ G J;obtain⟨am,Y,p,N⟩:=I.list (kj.of z);exact⟨a,vs,am,rfl,t,Y,.inl p.isList,by rw[t.length,Y.length]⟩
 |_=>cases h
end
section
variable {X:Cx}{e:Bx}{fa:DE}{p1 p2 rn rm:Fb}{mu:Ar}
set_option tactic.hygienic true in
theorem i6 (hc:X.calm=true)(hu:X.A.units+64<EQ)(hg:Gl X "sorted")(hm:X.mg "sorted" = none)(zl:Gl X "set")(zy:X.mg "set" = none)(ha:PE X e (tD X fa))(he:Bo [e] X.env=(false,eval e X.env)::Bo [] X.env:=by rfl) :
  PE X (.Call (.Name "sorted" p1) [.Call (.Name "set" p2) [e] [] rm] [] rn) (tD X (wY mu fa)):=by
 intro ai s σ H Q I h;obtain⟨P,α,aj,S,r,re,af⟩:=h;refine Ih (yN I hg hm XZ ?_);refine Re ?_ rfl rfl;refine Lh ?_;refine Call_ (yN I zl zy VW (Fh ?_ he rfl));rw[he];refine Lh (bj (zS ha I r re af) λvv N ⟨v,H1,P1,B,d,S1,Y,U⟩=>Pr ?_);cases hq:(tF d S1).bind jP with
 |none=>simp only[hq] at U;exact Au U
 |some ys =>
   simp only[hq] at U;obtain⟨xs,M,hs⟩:=Ex.mp hq;obtain⟨a,vs,am,rfl,t1,n,A,l1⟩:=NL Y.inv Y.rel Y.rep Y.val M;have y:c3 X (call (.type "set") [.ref a]) (λu N=>c3 X (call (.builtin "sorted") [u]) (se X ai σ H1 P1 B ys) X.xe N) X.xe N:=by
    unfold jP at hs;cases x:zO xs with
    |some ns =>
     rw[x] at hs;dsimp only at hs
     split at hs
     .rename_i C
      cases hs;have:=yS x;subst this;have:=w8 t1;subst this;refine mE (d:=0) (_S.B3 X.prog X.w N.heap) (_S.LQ N.heap) hc hu Y.inv Y.rel A ns (by simpa using l1) (λi u J=>?_) C (λ_ _=>trivial) D.int λk u c _=>?_
      .have x:Ku am ns:=by simpa using pF n
       obtain⟨t,rfl⟩:=Sw x i u J;exact Zh _ _ _ _
      .obtain⟨t,rfl⟩:=_S.wN c
       exact⟨.int k,⟨t,rfl⟩,by simp only[aq]⟩
     .cases hs
    |none =>
     rw[x] at hs;dsimp only at hs;cases ht:wF xs with
     |none=>rw[ht] at hs;cases hs
     |some G =>
      rw[ht] at hs;dsimp only at hs
      split at hs
      .rename_i C
       cases hs;have O:=Bool.and_eq_true_iff.mp C;have:=tI ht;subst this;have g:∀ (i:Ag) (u:Ac),am[i]? = Ab u->∃ b,u=.ref b/\Sh (Cz X.prog X.w) N.heap (G.getD i []) b/\∃ vv,qH vv u/\aq X.K P1 B (fj (G.getD i [])) vv:=λi u J=>by
        have L:i<am.length:=(Az.mp J).1;have zc:i<G.length:=by rw[Ao] at l1;lia
        obtain⟨v,p,q,_⟩:=wB t1 n (j:=i) (by rw[Bn];exact L)
        have M:(G.map fj).getD i D.non=fj (G.getD i []):=by simp[Lb,zc]
        rw[M] at p;have zb:am.toArray[i]'(by rw[Bn];exact L)=u:=by
         rw[An L] at J;simpa using J
        rw[zb] at q;obtain⟨b,ws,us,rfl,sq,t,rv,⟨o,ho,zs,m,M⟩,_,_⟩:=uI Y.inv Y.rel (show aq X.K P1 B (.tup ((G.getD i []).map D.int)) v from p)
        cases (show u=Cw b from q)
        have:=w8 t;subst this;exact⟨b,rfl,⟨o,us.toArray,m,ho,zs,M,by simpa using lT rv⟩,.ref b,rfl,p⟩
       refine mE (d:=[]) (_S.B4 X.prog X.w N.heap) (_S.LR N.heap) hc hu Y.inv Y.rel A G (by simpa using l1) (λi u J=>?_) (Bs O.1) (λk c=>?_) fj λk u c zx=>?_
       .obtain⟨b,rfl,q,_⟩:=g i u J
        exact⟨b,rfl,q⟩
       .have:=Bt.mp O.2 k c
        intro z;subst z;cases this
       .obtain⟨i,zo,rfl⟩:=Cq.mp zx
        obtain⟨b,eb,q,w,zv,pw⟩:=g i _ (An zo);have:k=G.getD i []:=_S.ig.inj c ⟨b,eb,q⟩;rw[this];exact⟨w,zv,pw⟩
      .cases hs
   refine bj y λu s2 h2=>Pr (bj h2 λu' s3 ⟨D,z0,e,hn,I',l⟩=>?_);subst e;cases mu with
   |true=>exact⟨.ref D,_,I',rfl,fP Y.rel hn l λv' H' P' T r' A e2 rp=>U v' H' P' T r' (Y.same.trans A) (Y.pre.trans e2) rp⟩
   |false=>exact⟨.ref D,_,I',rfl,yT Y.rel hn l λv' H' P' T r' A e2 rp=>U v' H' P' T r' (Y.same.trans A) (Y.pre.trans e2) rp⟩
end
section
variable {X:Cx}{cm:Ar}{k:Ag}{e:Bx}{fa:DE}{p1 p2 rn rm:Fb}{mu:Ar}
theorem iD (J:X.calm=true)(O:av cm k X.A)(G:Gl X "sorted")(hm:X.mg "sorted" = none)(Y:Gl X "set")(Q:X.mg "set" = none)(N:QE X e fa)(U:Bo [e] X.env=(false,eval e X.env)::Bo [] X.env:=by rfl) :
  QE X (.Call (.Name "sorted" p1) [.Call (.Name "set" p2) [e] [] rm] [] rn) (wY mu fa):=⟨i6 J O.units G hm Y Q N.1 U⟩
end
def _i (a:Af)(o:Cp)(vs:Aa (be × V)):It:=
 ⟨λi H=>(∃ u,H a=Ab (.frz o u))/\i<vs.length,λi H v H'=>∃ T q,v=.ref T/\H T=none/\H'=bv H T (.tup [kV q.1,q.2])/\vs[i]? = Ab q,λi H=>(∃ u,H a=Ab (.frz o u))/\vs.length<=i⟩
theorem XG {P:Bj}{K:Ak}{x:Aa Bx}{x1:Ag}{h_:Fb}{a it:Af}{us:Aa (be × Ac)}(l:KV vs us)(U:∀ h:Bv,h.get? a=Ab o->h.DictAt (zI P w) a us ep) :
  kr P w K (.Tuple x x1 h_) (_i a o vs) [it] it (λi h=>∃ ok Y,IsItemIter h it a i us.length ep ok Y) where
 mem:=by simp
 obj:=λi h st b N=>by
  have e:b=it:=by simpa using N
  subst e;obtain⟨ok,Y,e⟩:=st;exact⟨_,e,λv z=>by cases z⟩
 keep:=λi h h' st k=>by
  obtain⟨ok,Y,e⟩:=st;exact⟨ok,Y,k it cy _ e⟩
 item:=by
  intro X O y L Q i ai s σ H E I G st M;subst O y L;obtain⟨⟨u0,C⟩,J⟩:=M;obtain⟨ok,Y,st⟩:=st;have B:s.heap.get? a=Ab o:=(I.hok a _ C).1;obtain⟨u,e1,e2⟩:=c9 l (An J);refine wpAny_pyNext_items_item st (U _ B) e1 λA h' hk a1 a2 a3 a4=>?_;refine⟨_,rfl,wpAny_letOwnedTupleGo_items (s:={ s with heap:=h' }) a1 λg p b2=>?_⟩
  have up:∀ c o,c≠it->h'.get? c=Ab o->g.get? c=Ab o:=λc o n q=>(b2.2 c n).trans q;have T:it<s.heap.objs.size:=Ba st;have T2:=up _ _ (Gy T) a2;refine⟨.ref s.heap.objs.size,bv H s.heap.objs.size (.tup [kV (vs[i]).1,(vs[i]).2]),?_,rfl,⟨_,vs[i],rfl,I.hok.fresh (Aw _),rfl,An J⟩,⟨_,_,p⟩,λc Q=>?_⟩
  .have:=Inv.turnLay (s:=s) (fp:=[it]) (am:=[A,u]) (h':=g) (xs:=[kV (vs[i]).1,(vs[i]).2]) I G (λc o Q q=>by
    have Q:c≠it:=by simpa using Q
    exact up c o Q (a4 c o Q q)) (λc Q=>by
    have:c=it:=by simpa using Q
    subst this;exact⟨_,p⟩) (Aw _) (.cons (B0 hk) (.cons e2 .nil)) ⟨_,T2,rfl,_,rfl⟩ (by show 2<=sizeLine;decide)
   exact this
  .have hn:=(G c Q).1
   rw[qJ ?_]
   .exact hn
   .rintro rfl
    have:s.heap.objs.size=it:=by simpa using Q
    rw[this] at T;exact absurd T (Eg _)
 done:=by
  intro X O y L Q i ai s σ H E I G st M;subst O y L;obtain⟨⟨u0,C⟩,zb⟩:=M;obtain⟨ok,Y,st⟩:=st;have B:s.heap.get? a=Ab o:=(I.hok a _ C).1;obtain⟨f0,t,f2,r,d,m⟩:=G it cy
  have hl:=l.length;exact wpAny_pyNext_items_end (I.ok.hd Q) st (U _ B) (by simp;lia) λh' eb=>⟨rfl,I.turned (t':=s.toks) (λb o N e=>eb b o N e) f0 t r d m⟩
 self:=λ_ _ _ _ _ st h=>by
  obtain⟨ok,Y,st⟩:=st;exact PySem.W.kcp_self st h
def lU (kvs:Aa (be × D)):Aa D:=kvs.map λp=>D.tup [kD p.1,p.2]
def tQ (f:DE):DI:=λaj S=>(f aj S).bind λd Y=>match d with
 |.loc n=>match Y[n]? with
  |some (.dct Q)=>.ok (lU Q) (Y.set n .dead)
  |_=>.bad
 |_=>.bad
theorem oE {K:Ak}{P:Hp}{α:ae}:∀ {kvs:Aa (be × D)} {vs:Aa (be × V)},mr K P α kvs vs->∀ {i:Ag} {q:be × D},kvs[i]? = Ab q->∃ v,vs[i]? = Ab (q.1,v)/\aq K P α q.2 v
 |_,_,.nil,i,q,h=>by simp at h
 |_,_,.cons (a:=x) (b:=y) z t,i,q,h=>by
  cases i with
  |zero =>
   simp at h;subst h;exact⟨y.2,by simp;exact Fc z.1.symm rfl,z.2⟩
  |succ i =>
   obtain⟨v,Y,Q⟩:=oE t (i:=i) (q:=q) (by simpa using h)
   exact⟨v,by simpa using Y,Q⟩
theorem WW {K:Ak}{P:Hp}{α:ae}{a:Af}(q:P a=Ab (.frz o u))(t:mr K P α kvs vs)(I:kvs.length=vs.length):tx K (_i a o vs) P α (lU kvs) where
 go:=λi H G Y S Q r e _=>⟨⟨u,r.sub _ _ (e _ _ q)⟩,by unfold lU at Q;rw[Ao] at Q;lia⟩
 yld:=λi H x H' G Y S Q r e B y=>by
  obtain⟨T,p,rfl,N,rfl,O⟩:=y;unfold lU at Q;rw[Ao] at Q;obtain⟨v,J,C⟩:=oE t (An Q);rw[O] at J;cases J;obtain⟨L,U⟩:=r.pure (o:=.tup [kV (kvs[i]).1,v]) N;refine⟨_,.tup [kD (kvs[i]).1,(kvs[i]).2],?_,L,U,?_⟩
  .unfold lU;rw[Dp,An Q];rfl
  .exact fV (.of qQ) (.cons (WX _) (.cons (aq.mono (e.trans U) B _ _ C) .nil))
 stop:=λi H G Y S Q r e _=>⟨⟨u,r.sub _ _ (e _ _ q)⟩,by unfold lU at Q;rw[Ao] at Q;lia⟩
section
variable {X:Cx}{o:Bx}{fo:DE}{dw eh:Fb}{ii:Aa Bx}{x1:Ag}{h_:Fb}
set_option tactic.hygienic true in
theorem UH (ho:PE X o (tD X fo))(N:Kj o "items" X.env (eval o X.env)=eval o X.env:=by rfl)(J:(dw.endLine == eh.line)=true:=by rfl):PI X (.Tuple ii x1 h_) (.Call (.Attribute o "items" dw) [] [] eh) (su X (tQ fo)):=by
 intro ai s σ H R I h;obtain⟨P,α,aj,S,r,re,af⟩:=h;refine Ph N J (bj (zS ho I r re af) λvv Y ⟨v,m,P1,A,d,S1,U,Q⟩=>?_);cases d with
 |loc n =>
  simp only at Q
  split at Q
  .rename_i kvs T
   have k:=U.rep;have w:=U.inv;have y:=U.rel;have ht:ml (.loc n) S1=Ab "dict":=aR T;obtain⟨i,h2⟩:=l4 w U.val (l5 y k ht cy)
   simp only[aq] at k;obtain⟨a,rfl,c⟩:=k;cases (show vv=Cw a from U.val)
   obtain⟨vs,z,t⟩:=y.at' n a _ c T;obtain⟨hz,g,us,B,L⟩:=rG w.hok z;refine⟨"dict","dict.items",Lc,Ld,Vw,i,h2,Ls rfl (Se ?_)⟩;refine Rz Ld L.typeIs Uu (Uc _) (meets_dict_items (zI X.prog X.w) a g) ⟨⟨us,L⟩,?_⟩;obtain⟨ep,C,es,G,qD⟩:=L.dictAt;have O:∀ h:Bv,h.get? a=Ab C->h.DictAt (zI X.prog X.w) a us ep:=λh e=>⟨C,es,e,qD⟩;obtain⟨r2,l⟩:=y.still (o:=.frz C (.dK vs)) c T (by intro q;cases q)
   have I2:Inv X ai σ (bv m a (.frz C (.dK vs))) { Y with heap:=Y.heap,toks:=Y.toks }:=w.write (x:=a) (e:=a) (by rw[z];exact Jx) (.inl rfl) (λb q p e=>e) ⟨C,G⟩ ⟨G,hz,g,us,B,L⟩
   have M:=I2.kept (t':=Y.toks) (h':=Y.heap.push { cls:=.type "dict_items",data:=.fields #[.ref a] }) λb u e=>Aj _ e;refine wpAny_pyIter_items (s:={ Y with heap:=Y.heap.push { cls:=.type "dict_items",data:=.fields #[.ref a] } }) (knd:=zI X.prog X.w) (d:=a) (kvs:=us) (ep:=ep) ⟨_,Bb _ rfl,rfl,rfl⟩ (O _ (Aj _ G)) ?_
   have I4:=M.kept (t':=Y.toks) (h':=(Y.heap.push { cls:=.type "dict_items",data:=.fields #[.ref a] }).push { cls:=.type "dict_itemiterator",data:=.fields #[.none,.bool false,.ref a,.int 0 0,.int us.length 0,.int ep 0,.none,.none] }) λb u e=>Aj _ e;refine⟨_,[_],_,_,_,rfl,I4,XG B O,⟨_,_,Bb _ rfl⟩,λb p=>?_,Q _ _ _ A r2 (U.same.trans l) U.pre (WW (u:=.dK vs) qQ (mr.mono l (Be _) t) (by have:=oH t;have:=this.length;simpa using this))⟩
   have e:b=(Y.heap.push { cls:=.type "dict_items",data:=.fields #[.ref a] }).objs.size:=by simpa using p
   subst e;exact M.fpOk (Aw _) (M.hok.fresh (Aw _))
  .exact Au Q
 |_=>exact Au Q
theorem KL (J:QE X o fo)(Q:Kj o "items" X.env (eval o X.env)=eval o X.env:=by rfl)(Y:(dw.endLine == eh.line)=true:=by rfl):QI X (.Tuple ii x1 h_) (.Call (.Attribute o "items" dw) [] [] eh) (tQ fo):=⟨UH J.1 Q Y⟩
end
end _D
section
namespace _D
open _L
mutual
def PL:D->Aa Ah
 |.int n=>[1,n]
 |.tup Q=>2::W4 Q
 |_=>[]
def W4:Aa D->Aa Ah
 |[]=>[0]
 |x::Q=>PL x++W4 Q
end
mutual
def U4:D->D->Ar
 |.int _,.int _=>true
 |.tup Y,.tup Q=>PF Y Q
 |_,_=>false
def PF:Aa D->Aa D->Ar
 |x::Q,y::Y=>U4 x y&&PF Q Y
 |_,_=>true
end
noncomputable def yg:Ag->D->Ar
 |_,.int _=>true
 |n+1,.tup Q=>Q.all (yg n)
 |_,_=>false
inductive Tr:Ag->D->Prop
 |int (n:Ag) (i:Ah):Tr n (.int i)
 |tup (n:Ag) (xs:Aa D) (h:∀ x∈xs,Tr n x):Tr (n+1) (.tup xs)
theorem qAs:∀ {n:Ag} {d:D},yg n d=true->Tr n d:=by
 intro n
 induction n with
 |zero=>intro d h;cases d <;> first|exact .int _ _|exact Jk h
 |succ n J =>
  intro d h;cases d with
  |int i=>exact .int _ i
  |tup Q=>exact .tup n Q λx Y=>J (Bt.mp (show Q.all (yg n)=true from h) x Y)
  |_=>exact Jk h
end _D
end
namespace _D
open _L PySem.SeqAt
inductive td (h:Bv):Ag->D->Ac->Prop
 |int (n:Ag) (i:Ah) (t:Vr):td h n (.int i) (.int i t)
 |tup (n:Ag) (a:Af) (xs:Aa D) (its:ah) (ht:h.IsTuple a its.toArray) (hl:xs.length=its.length) (hs:∀ (j:Ag) (x:D) (v:Ac),xs[j]? = Ab x->its[j]? = Ab v->td h n x v):td h (n+1) (.tup xs) (.ref a)
theorem td.tr (t:td h n d v):Tr n d:=by
 induction t with
 |int n i t=>exact .int n i
 |tup n a J G N O hs U =>
  refine .tup n J λx Q=>?_;obtain⟨j,Y,e⟩:=Cq.mp Q;exact U j x (G[j]' li) (by rw[An Y,e]) (An li)
def neT:D->Ar
 |.tup (_::_)=>true
 |_=>false
def V_ (xs:Aa D):Ar:=xs.all λa=>neT a&&yg 6 a&&xs.all λb=>U4 a b
theorem A9 (h:V_ xs=true){x:D}(Y:x∈xs):neT x=true/\Tr 6 x/\∀ y∈xs,U4 x y=true:=by
 have:=Bt.mp h x Y;simp only[AT] at this;exact⟨this.1.1,qAs this.1.2,λy Q=>Bt.mp this.2 y Q⟩
end _D
namespace _D
open _L
noncomputable def tS (d:D)(S:ao):Al (Aa (be × D)):=match d with
 |.loc n=>match S[n]? with
  |some (.dct Q)=>Ab Q
  |_=>none
 |_=>none
def mV:G2:=λa b S=>match tS a S,xI b with
 |some Q,Ab k=>match zM Q k with
  |some d=>.ok d S
  |none=>.bad
 |_,_=>.bad
section
variable {X:Cx}{ai:aa}{σ: _L.St}{H P:Hp}{α: Aa Af}{S:ao}{s:Ai}
set_option tactic.hygienic true in
theorem WC (r:a_ X.K H P α S){d:D}{kvs:Aa (be × D)}{v:V}(h:tS d S=Ab kvs)(p:aq X.K P α d v):∃ a Q,v=.ref a/\H a=Ab (.dK Q)/\mr X.K P α kvs Q:=by
 unfold tS at h
 split at h
 .split at h
  .rename_i Y
   cases h;simp only[aq] at p;obtain⟨b,rfl,q⟩:=p;obtain⟨Q,z,t⟩:=r.at' _ b _ q Y;exact⟨b,Q,rfl,z,t⟩
  .cases h
 .cases h
set_option tactic.hygienic true in
theorem DY (j:X.A.units+1<EQ)(l:PE X o (tD X C))(hi:PE X i (tD X A))(hs:VS i:=by intro _ _;rfl):PE X (.Subscript o i ap) (tD X (d2 mV C A)):=by
 intro ai s σ H Q I h;obtain⟨P,α,aj,S,r,m,af⟩:=h;refine NW PySem.F.slot_dict_getitem.lookup hs (bj (zS l I r m af) λx s1 ⟨v,H1,L,U,a,S1,J,O⟩=>?_);refine bj (zS hi J.inv J.rel J.env (P:=L) (α:=U) (Ok:=ju X L U Q) (g:=λy M=>mV a y M) (qU.base J.same J.pre O)) λuu s2 ⟨u,E,P2,zb,b,M,G2,G⟩=>?_;have c:=aq.mono G2.same G2.pre _ _ J.rep;have pb:=G2.rep;have B:=G2.inv;have T:=G2.rel;have Y:=qU.base G2.same G2.pre G;unfold mV at Y
 split at Y
 .rename_i f k hd e
  split at Y
  .rename_i d hv
   obtain⟨p,ws,rfl,z,t⟩:=WC T hd c;have ei:=bP e pb;subst ei;cases (show x=Cw p from J.val)
   obtain⟨w,q,n⟩:=(gG t).1 d hv;have g:j7 E p (kV k) (Ab w):=.inl ⟨_,k,.inl z,rfl,q.symm⟩;exact⟨i7 B g,W8 j B g G2.val λw' s3 I3 N=>⟨w,E,I3,N,xr Y T n⟩⟩
  .exact Au Y
 .exact Au Y
end
end _D
section
end
section
end
namespace _D
open _L
inductive mv {K:Type}(w:Bz)(hash:K->Ah)(enc:K->D)(Kf:Ak)(P:Hp)(α : Aa Af)(ds:Aa D)(o:Cp):Prop
 |mk (es:Ay (Ah × Ac)) (ep:Ag) (t:Fw) (ks:Aa K) (kv:Aa (K × Ac)) (ho:o=_S.kn es ep t) (T:_S.jj t es) (led:t.led=_S.vC w) (hds:ds=ks.map enc) (hes:es.toList=kv.map λp=>(hash p.1,p.2)) (nd:(kv.map (·.1)).Nodup) (mem:∀ k,k∈kv.map (·.1)↔k∈ks) (rp:∀ p∈kv,∃ v,qH v p.2/\aq Kf P α (enc p.1) v):mv w hash enc Kf P α ds o
section
variable {K:Type}{w:Bz}{au:K->Ah}{cw:K->D}{Kf:Ak}{P P1:Hp}{α α1:ae}{ds:Aa D}{o:Cp}
theorem mv.mono (e:qE P P1)(h:α<+:α1)(a:mv w au cw Kf P α ds o):mv w au cw Kf P1 α1 ds o:=by
 obtain⟨B,I,t,N,G,Q,T,E,O,C,U,J,Y⟩:=a;exact⟨B,I,t,N,G,Q,T,E,O,C,U,J,λp L=>let ⟨v,a,b⟩:=Y p L;⟨v,a,aq.mono e h _ _ b⟩⟩
theorem mv.cell (a:mv w au cw Kf P α ds o):∀ v,o.data≠.cell v:=by
 obtain⟨U,J,t,Y,Q,rfl,_⟩:=a;intro v z;cases z
end
@[reducible] def zt {K:Type}(w:Bz)(Q:K->Ah)(cw:K->D):Acc:=⟨true,mv w Q cw,mv.mono,mv.cell⟩
def eD (Y:Aa D):Ar:=match wF Y with
 |some Q=>decide ((_S.jq _H.lexLt Q).length<=1000)&&Q.all λk=>!k.isEmpty
 |none=>false
section
variable {X:Cx}{K:Type}{au:K->Ah}{cw:K->D}{ak:Em}{N':Aa As}
inductive sd (X:Cx){K:Type}(hash:K->Ah)(enc:K->D)(pins:aa)(σ : _L.St)(P1:Hp)(α1:ae)(ds:Aa D)(SF:ao)(acc:Af)(s:Ai):Prop
 |mk (H' P':Hp) (α' : Aa Af) (o:Cp) (I:Inv X pins σ H' s) (r:a_ X.K H' P' α' SF) (e1:qE P1 P') (e2:α1<+:α') (ho:s.heap.get? acc=Ab o) (a:mv X.w hash enc X.K P' α' ds o):sd X hash enc pins σ P1 α1 ds SF acc s
theorem j3 {σ E:_L.St}{J s':Ai}{fp:ae}{ar C:Af}{P1:Hp}{N:ae}{L z:Hp}{B : Aa Af}{i:qC}{M:ao}{w:Aa D}{o:Cp}{f:Aa (As × Af)}(k:Inv X ai σ T J)
  (m:∀ b∈fp,x9 X ai T b) (y:J.heap.objs.size<=C) (I:ar≠C) (st:fv (zt X.w au cw) (qY X N' ak f C fp J T) [] P1 N fp ar i M w s' E L z B o)
  {h':Bv} (l:Ew C s'.heap h'):sd X au cw ai σ P1 N w M ar { s' with heap:=h' }:=by
 have U:∀ b o,b≠C->s'.heap.get? b=Ab o->h'.get? b=Ab o:=λb o Y e=>(l.2 b Y).trans e;have H:∀ b o,J.heap.get? b=Ab o->b≠C:=λb o e=>Ch (Bh (Ba e) y);have base:Un (ir X.stack) fp T L J.heap s'.heap:=st.inv.base;have p:Un (ir X.stack) fp T L J.heap h':=by
  refine⟨λb Q q A Y G=>U b Q (H b Q q) (base.keep b Q q A Y G),λb Q q A Y G=>?_,base.free,λb Q q G=>?_,base.tups,base.frzs,base.tbls⟩
  .obtain⟨v,e⟩:=base.slot b Q q A Y G
   exact⟨v,U b _ (H b Q q) e⟩
  .obtain⟨j,e⟩:=base.there b Q q G
   exact⟨j,U b j (H b Q q) e⟩
 have O:gz X.prog X.w L h':=sC st.inv.hok st.inv.free U;refine⟨L,z,B,o,?_,st.rel,st.same,st.pre,U ar o I st.at',st.acc⟩;exact k.call' (s':={ s' with heap:=h' }) (ch:=fp) (st.inv.os) p O st.inv.bare λb Y=>by
  obtain⟨_,r,s,c,n,u⟩:=m b Y;exact⟨c,r,n,u⟩
end
end _D
namespace _D
open _L
variable {X:Cx}
def aA:DS:=λ_ _=>.bad
theorem SL {st:Ge}:PS X st (i_ X aA):=λ_ _ _ _ _ _ ⟨_,_,_,_,_,_,h⟩=>Au h
theorem CQ {st:Ge}:QS X st aA:=⟨SL⟩
end _D
namespace _D
open _L
variable {es:Aa Bx}
def QQ (lo c:Ah)(n:Ag):It:=⟨λi _=>i<n,λi H x Q=>Q=H/\x=.int (lo+i*c),λi _=>n<=i⟩
theorem iF {P:Bj}{K:Ak}(it:Af)(lo c:Ah)(n:Ag):kr P w K q (QQ lo c n) [it] it (λi h=>Xf h it (lo+(i:Ag)*c) ((n:Ah)-(i:Ag)) c) where
 mem:=by simp
 obj:=λi h st b Q=>by
  have e:b=it:=by simpa using Q
  subst e;exact⟨_,st,λv z=>by
   have d:Data.fields _=Data.cell v:=z;cases d⟩
 keep:=λi h U st k=>k it cy _ st
 item:=by
  intro X L C O M i u s σ H E I J st j;subst L C O;obtain⟨B,A,f,T,G,N⟩:=J it cy
  have W:=Walks.range (prog:=X.prog) (w:=X.w) (I.ok.hd M) it lo c n;refine W.item i s _ _ j st λv U y hv Y g=>?_;obtain⟨t,rfl⟩:=hv;have l:Inv X u σ H { s with heap:=U,toks:=y }:=I.turned (λb o Q e=>g b o (by simpa using Q) e) B A T G N
  exact⟨_,rfl,rK (s:={ s with heap:=U,toks:=y }) (n:="range_iterator") Y rfl rfl cz ⟨.int (lo+i*c),H,l,⟨t,rfl⟩,⟨rfl,rfl⟩,Y,λb Q=>(J b Q).1⟩⟩
 done:=by
  intro X L C O M i u s σ H E I J st j;subst L C O;obtain⟨B,A,f,T,G,N⟩:=J it cy
  exact Wl (I.ok.hd M) st (by have:n<=i:=j;fin2) λU p=>⟨rfl,I.turned (t':=s.toks) (λb o Q e=>p b o Q e) B A T G N⟩
 self:=λ_ _ _ _ _ st h=>Wm st h
noncomputable def jv (a b c:Ah):Ag:=if a<b then ((b-a-1)/c+1).toNat else 0
def vE (lo c:Ah)(n:Ag):Aa D:=(Cd n).map λ(i:Ag)=>D.int (lo+(i:Ah)*c)
theorem ZO {K:Ak}{P:Hp}{α:ae}{lo c:Ah}:tx K (QQ lo c n) P α (vE lo c n) where
 go:=λi H J Y S Q r e _=>show i<n by simpa [vE] using Q
 yld:=λi H x G J Y S Q r e U y=>by
  obtain⟨rfl,rfl⟩:=y;have Q:i<n:=by simpa [vE] using Q
  exact⟨J,.int (lo+i*c),by simp[vE,Q],r,qE.refl _,by simp only[aq]⟩
 stop:=λi H J Y S Q r e _=>show n<=i by simpa [vE] using Q
def a8 (Q:Aa D):Al (Aa D):=match Q with
 |[.int a,.int b,.int c]=>if (-(2 ^ 40)<=a/\a<2 ^ 40)/\(-(2 ^ 40)<=b/\b<2 ^ 40)/\0<c/\c<1073741824 then Ab (vE a c (jv a b c)) else none
 |_=>none
def kA (f:DA):DI:=λU S=>(f U S).bind λQ J=>match a8 Q with
 |some Y=>.ok Y J
 |none=>.bad
inductive RsV (ds:Aa D):Prop
 |none (e:a8 ds=none)
 |some (a b c:Ah) (ed:ds=[.int a,.int b,.int c]) (h:(-(2 ^ 40)<=a/\a<2 ^ 40)/\(-(2 ^ 40)<=b/\b<2 ^ 40)/\0<c/\c<1073741824) (e:a8 ds=Ab (vE a c (jv a b c)))
set_option tactic.hygienic true in
theorem _s (Q:Aa D):RsV Q:=by
 cases e:a8 Q with
 |none=>exact .none e
 |some J =>
  have Y:=e;unfold a8 at e
  split at e
  .rename_i a b c
   split at e
   .rename_i h
    exact .some a b c rfl h (Y.trans e.symm)
   .cases e
  .cases e
section
variable {X:Cx}{tg:Bx}{f:DA}{p ap:Fb}
theorem V3 {σ:_L.St}{R:It->Hp->Prop}{E:ab}{lo hi c:Ah}{t u v:Vr}{tk:Ag}(I:Inv X ai σ H s)(h:(-(2 ^ 40)<=lo/\lo<2 ^ 40)/\(-(2 ^ 40)<=hi/\hi<2 ^ 40)/\0<c/\c<1073741824)
  (q:R (QQ lo c (jv lo hi c)) H):c3 X (Qi (.ref s.heap.objs.size)) (vo X ai σ tg R) E { s with heap:=s.heap.push { cls:=.type "range",data:=.fields #[.int lo t,.int hi u,.int c v] },toks:=tk }:=by
 have Q:((jv lo hi c:Ag):Ah)=Ir lo hi c:=by
  unfold jv Ir;rw[Bd h.2.2.1]
  split
  .have:0<=(hi-lo-1)/c:=Lz om om
   fin2
  .rfl
 have G:(jv lo hi c:Ah)<=2 ^ 41:=by
  unfold jv
  split
  .have O:(hi-lo-1)/c<=hi-lo-1:=AaT _ om
   fin2
  .omega
 have sm:Zo lo hi c=true:=by
  unfold Zo;rw[<- Q];have U:0<=((jv lo hi c:Ag):Ah):=by fin2
  generalize ((jv lo hi c:Ag):Ah)=n at G U;simp only[Builtin.Range.rangeFitsLong,AT,Kc,Bi,Zd,show c>0 from h.2.2.1,Dq]
  fin2
 refine Zt (AbW ..) sm ?_;have Y:Inv X ai σ H { s with heap:=s.heap.push { cls:=.type "range",data:=.fields #[.int lo t,.int hi u,.int c v] },toks:=tk }:=I.kept λb o e=>Aj _ e
 refine⟨(s.heap.push { cls:=.type "range",data:=.fields #[.int lo t,.int hi u,.int c v] }).objs.size,[(s.heap.push { cls:=.type "range",data:=.fields #[.int lo t,.int hi u,.int c v] }).objs.size],_,_,H,rfl,
  Y.kept (t':=tk) λb o e=>Aj _ e,iF _ lo c (jv lo hi c),?_,λb J=>?_,q⟩
 .have N:lo+((0:Ag):Ah)*c=lo:=by simp
  show Xf _ _ (lo+((0:Ag):Ah)*c) (((jv lo hi c:Ag):Ah)-((0:Ag):Ah)) c;rw[N,Q,show Ir lo hi c-((0:Ag):Ah)=Ir lo hi c by simp]
  exact Bb _ rfl
 .have e:b=(s.heap.push { cls:=.type "range",data:=.fields #[.int lo t,.int hi u,.int c v] }).objs.size:=by simpa using J
  subst e;exact Y.fpOk (Aw _) (Y.hok.fresh (Aw _))
theorem WH {e:Bx}(v:Gl X "range")(hm:X.mg "range" = none)(A:PA X (e::es) (lc X f))(hs:Bo (e::es) X.env=(false,eval e X.env)::Bo es X.env:=by rfl)(J:(Gr ap (Bo es X.env)).any (·.1)=false:=by rfl) :
  PI X tg (.Call (.Name "range" p) (e::es) [] ap) (su X (kA f)):=by
 intro ai s σ H R I h;obtain⟨P,α,m,S,r,l,t⟩:=h;refine Call_ (yN I v hm boot_range (Fh (bj (wJ A I r l t ap) λi s1 ⟨x,N,B,U,u,S1,E,Y,z,O,y,j,L,Q⟩=>?_) hs J));cases _s u with
 |none e=>simp only[e] at Q;exact Au Q
 |some a b c T G e =>
  simp only[e] at Q;subst T;obtain⟨ws,rfl,o⟩:=uZ y;obtain⟨d,rfl,k⟩:=uZ o;obtain⟨g,rfl,M⟩:=uZ k;cases M.nil_inv;cases Y with
  |cons q Y =>
   cases Y with
   |cons w Y =>
    cases Y with
    |cons C Y =>
     cases Y;obtain⟨n,rfl⟩:=q;obtain⟨k2,rfl⟩:=w;obtain⟨k3,rfl⟩:=C;exact call_range_3 om (V3 E G (Q (QQ a c (jv a b c)) N B U z j L ZO)) (.inl (Lm om))
theorem V0 {e:Bx}(Y:Gl X "range")(hm:X.mg "range" = none)(J:QA X (e::es) f)(hs:Bo (e::es) X.env=(false,eval e X.env)::Bo es X.env:=by rfl)(Q:(Gr ap (Bo es X.env)).any (·.1)=false:=by rfl) :
  QI X tg (.Call (.Name "range" p) (e::es) [] ap) (kA f):=⟨WH Y hm J.1 hs Q⟩
end
def n6:G2:=λa b S=>match a,b with
 |.lst Q,.int k=>if 0<=k/\k<2 ^ 62/\Q.length*k.toNat<=bq then .ok (.loc S.length) (S++[.lst (Dx k.toNat Q).flatten]) else .bad
 |_,_=>.bad
section
variable {X:Cx}
set_option tactic.hygienic true in
theorem T7:gy X (En .Mult) n6:=by
 intro h σ H s P α S v u y uu a b Q I r d o w pb G;unfold n6 at G
 split at G
 .rename_i xs k
  obtain⟨j,G⟩:=wK (X:=X) G;obtain⟨i,x,M⟩:=j;obtain⟨l,g,Y,n,rfl,q1,z,B,e,q,_⟩:=gI I r w;cases (show y=Cw l from d)
  have:=zF pb;subst this;obtain⟨t,rfl⟩:=o;have f:Y.length=g.length:=B.length.symm;have N:Y.toArray.size*k.toNat<=sizeLine:=by rw[Bn,<- q,<- x8];exact M
  have C:¬ Y.toArray.size*k.toNat>(2 ^ 63-1)/8:=by
   have:(sizeLine:Ag)<=(2 ^ 63-1)/8:=by decide
   fin2
  have L:¬ (!Builtin.List.listFitsIndex k)=true:=by
   rw[fitsIndex_both om om];exact Fx
  have J:¬ Oo (Y.toArray.size*k.toNat)=true:=by
   rw[JZ N];exact Fx
  have O:Ab8 (λE A=>E++A) #[] (Dx (if Y.toArray.isEmpty=true then 0 else k.toNat) Y.toArray)=(Dx k.toNat Y).flatten.toArray:=by
   have c:∀ m:Ag,Ab8 (λE A=>E++A) #[] (Dx m Y.toArray)=(Dx m Y).flatten.toArray:=λm=>by
    have:=s9 Y m [];rw[Ke] at this;exact this
   rw[c];cases Y with
   |nil=>simp
   |cons a r'=>rw[Bg cy]
  refine wpAny_binaryOp_repeat_ref (T:="list") (U:="int") cz ⟨_,e,rfl⟩ (λp=>typeIs_int p k t) noFill_list_mul F.fills_int_mul F.slot_int_rmul repeat_list F.slot_int_index.lookup
   (Vd F.slot_int_rmul (typeIs_int s k t) F.entry_int_rmul (F.args_int_rmul_2 _ _) (int___rmul___int_list k t l Y.toArray n)
    ⟨e,rfl,⟨_,e,rfl⟩,Vd F.slot_list_mul ⟨_,e,rfl⟩ F.entry_list_mul (F.args_list_mul_2 _ _) (AutoListH.list___mul___list_int_3 l Y.toArray n k t L C J) ⟨e,?_⟩⟩)
  rw[O];exact JG I r (cY z k.toNat) (B.rep k.toNat) (by rw[MN,Hd];exact M) G
 .exact Au G
theorem IF:ki X (En .Mult) n6:=⟨T7⟩
end
end _D
section
namespace _D
open _L
mutual
def n8:D->Ah
 |.int i=>hashInt i
 |.tup Q=>Zc (Ia (vB Q))
 |_=>0
def vB:Aa D->Aa Ah
 |[]=>[]
 |d::Q=>n8 d::vB Q
end
theorem n9:∀ (xs Q:Aa D),vB (xs++Q)=vB xs++vB Q
 |[],_=>rfl
 |x::xs,Q=>congrArg (n8 x::·) (n9 xs Q)
theorem AM {xs:Aa D}{am:ah}(Y:xs.length=am.length):∀ v∈am,∃ (j:Ag) (x:D),xs[j]? = Ab x/\am[j]? = Ab v:=λv hv=>by
 obtain⟨j,Q,e⟩:=Cq.mp hv;exact⟨j,_,An li,by rw[An Q,e]⟩
section
variable {prog:Bj}{w:Bz}{h:Bv}
theorem IsTuple.at {h:Bv}{a:Af}(t:h.IsTuple a xs):∃ o m,h.get? a=Ab o/\o.cls=.type "tuple" /\ o.data=.seq xs m:=by
 obtain⟨o,e,c,m,d⟩:=t;exact⟨o,m,e,c,d⟩
theorem td.hash (t:td h n d v):∀ {A:Bw} {E:ab} {s:Ai} {Q:Ah->Ai->Prop},s.heap=h->A.units+n<EQ->(∀ tk,s.toks<=tk->Q (n8 d) { s with toks:=tk }) -> Aq (Ax prog w) A (pyHash v) Q E s:=by
 induction t with
 |int n i t =>
  intro A E s Q hs y k;exact(Cz prog w).pyHash (k:=i) (v:=.int i t) (by simp[Cz,AaD]) (k _ (Hm _ _))
 |tup n a J C B g hs u =>
  intro A E s Q q y k;subst q;obtain⟨o,m,I,l,p⟩:=IsTuple.at B;have O:s.TypeIs (.ref a) "tuple":=⟨o,I,l⟩;unfold pyHash;unfold pyHashByItsType;refine Ad (wpAny_cRoomFor_or (.inr li) ?_);refine Ad (Oc O Lg.lookup ?_);show Aq _ _ (if (Ab (Value.builtin "tuple.__hash__") == Ab Dr)=true then _ else _) Q E s
  rw[Bg (by rw[beq_builtin_none];exact Fx)]
  refine Ad (Oc O Lg.lookup ?_);show Aq _ _ (callSpecialIfBoundUnlessNone? (.ref a) "__hash__" _ >>= _) Q E s;refine Ad (wpAny_callSpecialIfBoundUnlessNone?_slot O Lg (Eh Lg O PySem.F.entry_tuple_hash ?_ (PySem.F.args_tuple_hash_1 _)));show Aq _ _ (Ng (.ref a) >>= _) _ _ s;refine Ad (wpAny_tupleItemsOf I p ?_);refine Ad ?_;rw[<- Ou];refine Kw _ (λqD (b:Ay Ah) T=>∃ i,qD=C.drop i/\b.toList=vB (J.take i)/\∃ tk,s.toks<=tk/\T={ s with toks:=tk }) _ ?_ ?_ _ _ ⟨0,rfl,rfl,_,Aw _,rfl⟩
  .rintro x qD b T ⟨i,Y,N,tk,U,rfl⟩
   have L:i<C.length:=Nat.lt_of_not_le λz=>by rw[Lq z] at Y;cases Y
   rw[Fz L] at Y;cases Y;have M:i<J.length:=by lia
   refine Ad (u i J[i] C[i] (An M) (An L) (s:={ s with toks:=tk }) rfl ?_ λG j=>?_)
   .show A.units+1+n<EQ
    lia
   .have e:(b.push (n8 J[i])).toList=vB (J.take (i+1)):=by
     rw[Ej,N,List.take_succ_eq_append_getElem M,n9];rfl
    first
     |exact Am ⟨i+1,rfl,e,G,Ci U j,rfl⟩
     |exact Ad (Am (Am ⟨i+1,rfl,e,G,Ci U j,rfl⟩))
  .rintro b T ⟨i,Y,N,tk,U,rfl⟩
   have L:C.length<=i:=Ql λz=>by rw[Fz z] at Y;cases Y
   rw[Hw li] at N;show Aq _ _ (retInt (Ia b.toList)) _ _ _;rw[N];refine wpAny_ret_mkInt ?_;have k:=λt B=>k t B;rw[show n8 (.tup J)=Zc (Ia (vB J)) from rfl] at k
   generalize Ia (vB J)=H at k ⊢;show Aq _ _ (if (decide (-(2:Ah) ^ 63<=H)&&decide (H<2 ^ 63))=true then _ else _) Q E _
   unfold Zc at k;by_cases Y:(decide (-(2:Ah) ^ 63<=H)&&decide (H<2 ^ 63))=true
   .rw[Bd Y]
    rw[Bd Y] at k;exact Am (k _ (by show s.toks<=tk+1;lia))
   .rw[Bg Y]
    rw[Bg Y] at k;exact Ad (Gu (Am (k _ (by show s.toks<=tk+1;lia))))
theorem td.cls (t:td h n d v):∀ {f:Ag} {A:Bw} {E:ab} {s:Ai} {Q:Ar->Ai->Prop},s.heap=h->n<=f->Q false s->Aq (Ax prog w) A (Hr f v) Q E s:=by
 induction t with
 |int n i t =>
  intro f A E s Q hs C k;rw[show Hr f (.int i t)=pure false from by cases f <;> rfl]
  exact Am k
 |tup n a p O z B hs I =>
  intro f A E s Q H C k;subst H;obtain⟨g,rfl⟩:∃ g,f=g+1:=⟨f-1,by lia⟩
  obtain⟨o,m,N,q,y⟩:=IsTuple.at z;have T:s.TypeIs (.ref a) "tuple":=⟨o,N,q⟩;unfold Hr;refine Ad (Mx T ?_);dsimp only;refine Ad (Am ?_);simp only[Jh,Bp,Dv];refine Ad (Hb N y ?_);refine Ad ?_;show Aq _ _ (forIn O.toArray _ _) _ _ s;rw[<- Ou];refine Kw _ (λqD r U=>r.1=none/\U=s/\∀ v∈qD,∃ (j:Ag) (x:D),p[j]? = Ab x/\O[j]? = Ab v) _ ?_ ?_ _ _ ⟨rfl,rfl,AM B⟩
  .rintro v qD r U ⟨J,rfl,Y⟩
   obtain⟨j,x,L,M⟩:=Y v Bc;refine Ad (I j x v L M rfl li ?_);simp only[Bp,Dv];exact Am ⟨rfl,rfl,λu G=>Y u (Ap _ G)⟩
  .rintro⟨c,l⟩ U ⟨J,rfl,_⟩
   simp only at J;subst J;exact Am k
def X_ (xs:Aa D)(h:Bv)(k:Aa Ah)(v:Ac):Prop:=∃ d,d∈xs/\td h 6 d v/\PL d=k
variable {xs:Aa D}
theorem X_.ref (ok:V_ xs=true){k:Aa Ah}{v:Ac}(t:X_ xs h k v):∃ a,v=.ref a:=by
 obtain⟨d,Q,t,_⟩:=t;have Y:=(A9 ok Q).1;cases t with
 |int _ _ _=>cases Y
 |tup _ a _ _ _ _ _=>exact⟨a,rfl⟩
end
end _D
end
namespace _D
open _L
def lM:G2:=λa b S=>match tS b S,xI a with
 |some Q,Ab k=>.ok (.bl (zM Q k).isSome) S
 |_,_=>.bad
section
variable {X:Cx}
set_option tactic.hygienic true in
theorem EK (U:X.A.units+1<EQ):gy X (Di .In) lM:=by
 intro l σ H s P α S v u o T a b Q I r j A N pb Y;unfold lM at Y
 split at Y
 .rename_i J k L B
  obtain⟨p,G,rfl,z,t⟩:=WC r L pb;have E:=bP B N;subst E;cases (show T=Cw p from A)
  obtain⟨O,C⟩:=gG (k:=k) t;have g:j7 H p (kV k) (yL G k):=.inl ⟨_,k,.inl z,rfl,rfl⟩;refine qBW U I g j λc M=>⟨.bl _,H,M,rfl,?_⟩;cases hv:zM J k with
  |none=>rw[hv] at Y;rw[C hv];exact xr Y r (by simp only[aq];rfl)
  |some d =>
   obtain⟨y,w,q⟩:=O d hv;rw[hv] at Y;rw[w];exact xr Y r (by simp only[aq];rfl)
 .exact Au Y
end
section
variable {X:Cx}{cm:Ar}{k:Ag}{o i:Bx}{fo fi:DE}{ap:Fb}
theorem CA (Q:av cm k X.A)(Y:QE X o fo)(hi:QE X i fi)(hs:VS i:=by intro _ _;rfl):QE X (.Subscript o i ap) (d2 mV fo fi):=⟨DY (wd Q) Y.1 hi.1 hs⟩
end
section
variable {X:Cx}{cm:Ar}{k:Ag}
theorem qA1 (Q:av cm k X.A):ki X (Di .In) lM:=⟨EK (wd Q)⟩
end
end _D
namespace _D
variable {kvs:Aa (_L.be × D)}{ds:Aa D}{n p:Ag}{lo hi:Al Ah}{F:DF}{S1 S':ao}
def Nx (o:jo)(Q:qC->ao->Prop):Prop:=∃ Y S,o=.nx Y S/\Q Y S
def Rt (o:jo)(Q:D->ao->Prop):Prop:=∃ d S,o=.rt d S/\Q d S
def Ok {β:Type}(r:aw β)(Q:β->ao->Prop):Prop:=∃ d S,r=.ok d S/\Q d S
theorem fQ {o:jo}{Q:qC->ao->Prop}{S:ao}(h:o=.nx aj S)(q:Q aj S):Nx o Q:=⟨aj,S,h,q⟩
theorem qT {β:Type}{r:aw β}{Q:β->ao->Prop}{d:β}{S:ao}(h:r=.ok d S)(q:Q d S):Ok r Q:=⟨d,S,h,q⟩
theorem E2 {f g:DS}{S:ao}{Q:qC->ao->Prop}(h:Nx (f aj S) λY S1=>Nx (g Y S1) Q):Nx (qM f g aj S) Q:=by
 obtain⟨Y,S1,e,J,G,U,q⟩:=h;exact⟨J,G,by unfold qM;rw[e];exact U,q⟩
theorem gO {f g:DS}{S:ao}{Q:D->ao->Prop}(h:Nx (f aj S) λY S1=>Rt (g Y S1) Q):Rt (qM f g aj S) Q:=by
 obtain⟨Y,S1,e,J,G,U,q⟩:=h;exact⟨J,G,by unfold qM;rw[e];exact U,q⟩
theorem ZW {t:DT}{S:ao}{b:Ar}{Q:qC->ao->Prop}(h:t aj S=.ok b S1)(k:Nx ((if b then f else g) aj S1) Q):Nx (e_ t f g aj S) Q:=by
 obtain⟨Y,J,U,q⟩:=k;refine⟨Y,J,?_,q⟩;unfold e_;rw[h];cases b <;> exact U
theorem cI {f:DE}{S:ao}{Q:qC->ao->Prop}(h:Ok (f aj S) λd S1=>Q (aj.set i (Ab d)) S1):Nx (qR f (bi i) aj S) Q:=by
 obtain⟨d,S1,e,q⟩:=h;exact⟨_,S1,by unfold qR bi;rw[e];rfl,q⟩
theorem V7 {f:DE}{S:ao}{Q:D->ao->Prop}(h:Ok (f aj S) Q):Rt (qS f aj S) Q:=by
 obtain⟨d,S1,e,q⟩:=h;exact⟨_,S1,by unfold qS;rw[e];rfl,q⟩
theorem K0 {t:DT}{f:DS}{Q:qC->ao->Prop}(I:Ag->qC->ao->Prop)(turn:∀ n aj S,I n aj S->∃ b S1,t aj S=.ok b S1/\(if b then Nx (f aj S1) (λY C=>∃ m,m<n/\I m Y C) else Q aj S1)) :
  ∀ {n:Ag} {aj:qC} {S:ao},n<big->I n aj S->Nx (vG t f aj S) Q:=by
 have O:∀ N n aj S,n<N->I n aj S->Nx (yD t f N aj S) Q:=by
  intro N
  induction N with
  |zero=>intro n aj S h;fin2
  |succ N E =>
   intro n aj S h U;obtain⟨b,S1,B,k⟩:=turn n aj S U;cases b with
   |false =>
    refine⟨aj,S1,?_,by simpa using k⟩
    unfold yD;rw[B];rfl
   |true =>
    simp only[Dq] at k;obtain⟨Y,C,L,m,A,G⟩:=k;obtain⟨J,H,T,q⟩:=E m Y C om G;refine⟨J,H,?_,q⟩;unfold yD;rw[B];simp only[aw.toS,Dq,L];exact T
 exact λ{n aj S} h U=>O big n aj S h U
theorem c7 {fe:DE}{S:ao}{ar:Aa D}(h:fe aj S=.ok x S1)(Q:ar.length<bq):zT fe aj S ar=.ok (aj,ar++[x]) S1:=by
 unfold zT;rw[h];simp[aw.bind,Q]
theorem dW {Y:rf}{t:DT}{k:DK}{aj Q:qC}{S:ao}{o:Al (Ag × MO)}{items:Aa D}(h:Y aj S=.ok (o,items) S1)(e:ko o g t k items (w5 bn aj) S1 [] = .ok (Q,ds) S'):zK false bn Y g t k aj S=.ok (.lst ds) S':=by
 unfold zK;rw[h];simp only[aw.bind,e,wc];rfl
theorem A7 {g:DS}{S:ao}{aj:qC}(hs:yO n ds=aj)(h:g aj S=.rt d S'):qL n g ds S=.ok d S':=by
 subst hs;unfold qL;rw[h];rfl
theorem NV {S:ao}(h:oj o S)(e:S<+:S'):oj o S':=by
 cases o with
 |none=>trivial
 |some p =>
  obtain⟨r,rfl⟩:=e;have Q:S[p.1]? = Ab p.2:=h;show (S++r)[p.1]? = Ab p.2;rw[Bk (Az.mp Q).1];exact Q
theorem lR {S:ao}{i:Ag}(h:S[i]? = Ab m)(e:S<+:S'):S'[i]? = Ab m:=by
 obtain⟨r,rfl⟩:=e;rw[Bk (Az.mp h).1];exact h
theorem iY {α β:Type}(Q:α->Ar)(val:α->β)(l:Aa α) : (l.flatMap λd=>if Q d then [val d] else []) = (l.filter Q).map val:=by
 induction l with
 |nil=>rfl
 |cons d l Y =>
  rw[Mp,Y];cases h:Q d <;> simp[h]
theorem yk {α:Type}{cw:α->D}{g:DG}{t:DT}{k:DK}(J:α->Aa D)(C:qC->ao->Prop)(O:∀ aj S,C aj S->oj o S) :
  ∀ (xs:Aa α) (aj:qC) (S:ao) (ar:Aa D),C aj S->ar.length+(xs.flatMap J).length<=bq ->
  (∀ x∈xs,∀ aj S ar,C aj S->ar.length+(J x).length<=bq->∃ Q S1 b N,g (cw x) aj S=.ok Q S1/\t Q S1=.ok b N/\((b=false/\J x=[]/\C Q N)\/(b=true/\∃ U B,k Q N ar=.ok (U,ar++J x) B/\C U B))) ->
  ∃ Y S',ko o g t k (xs.map cw) aj S ar=.ok (Y,ar++xs.flatMap J) S'/\C Y S'
 |[],aj,S,ar,h,T,_=>⟨aj,S,by simp[ko,jQ.mpr (O _ _ h)],h⟩
 |x::xs,aj,S,ar,h,T,step=>by
  rw[Mp,Cu] at T;obtain⟨Q,S1,b,N,I,E,r⟩:=step x (Bc ..) aj S ar h om;have G:=jQ.mpr (O _ _ h);rcases r with⟨rfl,H,A⟩|⟨rfl,U,B,w,M⟩
  .obtain⟨Y,S',e,q⟩:=yk J C O xs Q N ar A om λd L=>step d (Ap _ L)
   refine⟨Y,S',?_,q⟩;simp only[De,ko,G,Dq,I,E,aw.bind,Bp,Dv,Mp,H,Ke];exact e
  .obtain⟨Y,S',e,q⟩:=yk J C O xs U B (ar++J x) M (by rw[Cu];fin2) λd L=>step d (Ap _ L)
   refine⟨Y,S',?_,q⟩;simp only[De,ko,G,Dq,I,E,aw.bind,w,Mp];rw[e,Cy]
section
variable {α:Type}{cw:α->D}{bn:Aa (Al Ag)}{fi:rf}{g:DG}{t:DT}{fe:DE}{aj:qC}{S S0:ao}{o:Al (Ag × MO)}{xs:Aa α}
theorem qBf (O:oj o S)(Y:α->Ar)(val:α->D)(C:qC->Prop)(h0:C aj)(N:xs.length<=bq)
  (step:∀ x∈xs,∀ aj S',C aj->S<+:S'->∃ Q S1,g (cw x) aj S'=.ok Q S'/\C Q/\t Q S'=.ok (Y x) S1/\S'<+:S1/\(Y x=true->∃ G,fe Q S1=.ok (val x) G/\S1<+:G)) :
  ∃ J S',ko o g t (zT fe) (xs.map cw) aj S [] = .ok (J,(xs.filter Y).map val) S'/\S<+:S':=by
 have A:(xs.flatMap λd=>if Y d then [val d] else []).length<=bq:=by
  rw[iY,Ao];exact Ci (Qw _ _) N
 obtain⟨J,S',e,_,q⟩:=yk (cw:=cw) (o:=o) (g:=g) (t:=t) (k:=zT fe) (λd=>if Y d then [val d] else []) (λaj S'=>C aj/\S<+:S') (λ_ _ h=>NV O h.2) xs aj S [] ⟨h0,Be _⟩ (by simpa using A) (λd E aj S' w U N=>by
  obtain⟨Q,S1,M,L,T,B,k⟩:=step d E aj S' U.1 U.2;refine⟨Q,S',Y d,S1,M,T,?_⟩;cases hs:Y d with
  |false=>exact .inl ⟨rfl,by simp,L,U.2.trans B⟩
  |true =>
   obtain⟨G,H,I⟩:=k hs;refine .inr ⟨rfl,Q,G,?_,L,(U.2.trans B).trans I⟩;simp only[Dq];exact c7 H (by simp only[hs,Dq,Mc] at N;fin2))
 refine⟨J,S',?_,q⟩;rw[e,Ke,iY]
theorem DM (h:fi aj S0=.ok (o,xs.map cw) S)(J:oj o S)(Y:α->Ar)(val:α->D)(C:qC->Prop)(h0:C (w5 bn aj))(N:xs.length<=bq)
  (step:∀ x∈xs,∀ aj S',C aj->S<+:S'->∃ Q S1,g (cw x) aj S'=.ok Q S'/\C Q/\t Q S'=.ok (Y x) S1/\S'<+:S1/\(Y x=true->∃ G,fe Q S1=.ok (val x) G/\S1<+:G)) :
  ∃ S',zK false bn fi g t (zT fe) aj S0=.ok (.lst ((xs.filter Y).map val)) S'/\S<+:S':=by
 obtain⟨U,S',e,q⟩:=qBf J Y val C h0 N step;exact⟨S',dW h e,q⟩
end
theorem IS {f g:DE}{S Q:ao}{a b:D}(h1:f aj S=.ok a S1)(h2:g aj S1=.ok b Q):d2 o f g aj S=o a b Q:=by
 unfold d2;rw[h1];simp only[aw.bind];rw[h2]
theorem PC {f1:DE}{S:ao}{a:D}(h1:f1 aj S=.ok a S1):qF 1 F (q8 f1 qA) aj S=F [a] S1:=by
 simp only[qF,q8,qA,h1,aw.bind,By,Hs,Dq]
theorem WA {f1:DE}{S:ao}{a:D}(h1:f1 aj S=.ok a S1):q8 f1 qA aj S=.ok [a] S1:=by
 simp only[q8,qA,h1,aw.bind]
theorem aW {aj:qC}{i:Ag}{S:ao}(h:aj[i]? = Ab (Ab d)):q9 i aj S=.ok d S:=by simp only[q9,h]
theorem XX {α:Type}(p:α->Ar)(l:Aa α) : wX (l.map λx=>D.bl (p x))=Ab (l.map p):=by
 induction l with
 |nil=>rfl
 |cons x l Q =>
  show (wX (l.map λx=>D.bl (p x))).map (p x::·)=_
  rw[Q];rfl
section
variable {β γ:Type}{aj:qC}{S:ao}
theorem qX {k:β->ao->aw γ}{Q:γ->ao->Prop}(h:Ok r λd S1=>Ok (k d S1) Q):Ok (r.bind k) Q:=by
 obtain⟨d,S1,rfl,h⟩:=h;exact h
theorem xQ {d:β}(h:Ok r λd' S'=>d'=d/\S'=S):r=.ok d S:=by
 obtain⟨_,_,e,rfl,rfl⟩:=h;exact e
theorem zG {Q Y:β->ao->Prop}(h:Ok r Q)(k:∀ d S,Q d S->Y d S):Ok r Y:=by
 obtain⟨d,S,e,q⟩:=h;exact⟨d,S,e,k d S q⟩
variable {Q:D->ao->Prop}{f g:DE}{fa:DA}{o:G2}{i j:Ag}
theorem o_c (h:Q d S):Ok (dC d aj S) Q:=⟨_,_,rfl,h⟩
theorem o_v (e:aj[i]? = Ab (Ab d))(h:Q d S):Ok (q9 i aj S) Q:=⟨_,_,aW e,h⟩
theorem o_2 (h:Ok (f aj S) λa S1=>Ok (g aj S1) λb Y=>Ok (o a b Y) Q):Ok (d2 o f g aj S) Q:=qX (zG h λ_ _=>qX)
theorem o_1 {u:D->ao->aw D}(h:Ok (f aj S) λa S1=>Ok (u a S1) Q):Ok (d1 u f aj S) Q:=qX h
theorem rO {Q:Aa D->ao->Prop}(h:Q [] S):Ok (qA aj S) Q:=⟨_,_,rfl,h⟩
theorem gM {Q:Aa D->ao->Prop}(h:Ok (f aj S) λa S1=>Ok (fa aj S1) λas Y=>Q (a::as) Y):Ok (q8 f fa aj S) Q:=qX (zG h λ_ _ k=>qX (zG k λ_ _ q=>⟨_,_,rfl,q⟩))
theorem qCm (h:Ok (fa aj S) λas S1=>as.length<=bq/\Q (.tup as) S1):Ok (zV fa aj S) Q:=qX (zG h λ_ _ k=>⟨_,_,Bd k.1,k.2⟩)
theorem BB (h:Ok (fa aj S) λas S1=>as.length<=bq/\Q (.lst as) S1):Ok (yJ fa aj S) Q:=qX (zG h λ_ _ k=>⟨_,_,Bd k.1,k.2⟩)
theorem qCW (h:Ok (fa aj S) λas S1=>as.length<=bq/\Q (.loc S1.length) (S1++[.lst as])):Ok (k9 fa aj S) Q:=qX (zG h λ_ _ k=>⟨_,_,Bd k.1,k.2⟩)
theorem qCe (h:Q (.loc S.length) (S++[.dct []])) : Ok (mR aj S) Q:=⟨_,_,rfl,h⟩
theorem E7 (h:Ok (fa aj S) λas S1=>as.length=n/\Ok (F as S1) Q):Ok (qF n F fa aj S) Q:=qX (zG h λ_ _ k=>by rw[Bd k.1];exact k.2)
theorem qCi (h:Ok (F as S) Q):Ok (ou F as S) Q:=by
 obtain⟨d,S1,e,q⟩:=h;exact⟨d,S1,ET e,q⟩
theorem qCq (h:Ok (fa aj S) λas S1=>Ok (F as S1) Q):Ok (qW F fa aj S) Q:=qX h
theorem OT {a b:Ah}(h:Q (.int (a+b)) S):Ok (zB (.int a) (.int b) S) Q:=⟨_,_,rfl,h⟩
theorem E5 {a b:Aa D}(l:a.length+b.length<=bq)(h:Q (.tup (a++b)) S):Ok (zB (.tup a) (.tup b) S) Q:=⟨_,_,Bd l,h⟩
theorem bT {a b:Aa D}(l:a.length+b.length<=bq)(h:Q (.lst (a++b)) S):Ok (zB (.lst a) (.lst b) S) Q:=⟨_,_,Bd l,h⟩
theorem qCl {a b:Ah}(h:Q (.int (a-b)) S):Ok (x5 (.int a) (.int b) S) Q:=⟨_,_,rfl,h⟩
theorem qCh {a:Ah}(h:Q (.int (-a)) S):Ok (lP (.int a) S) Q:=⟨_,_,rfl,h⟩
theorem qAA {a b:Ah}(l : -(2 ^ 64)<a/\a<2 ^ 64)(h:Q (.int (a*b)) S):Ok (z9 (.int a) (.int b) S) Q:=by
 refine⟨_,_,?_,h⟩;unfold z9 i2;rw[gV];unfold mM;simp only[l,and_self,Ju,v4,Dq]
theorem qCg {a b:Ah}(l:0<b)(h:Q (.int (a % b)) S):Ok (xV (.int a) (.int b) S) Q:=by
 refine⟨_,_,?_,h⟩;unfold xV i2;simp[l]
theorem qCf {a b:Ah}(l:0<b/\b<1073741824)(h:Q (.int (a/b)) S):Ok (wO (.int a) (.int b) S) Q:=by
 refine⟨_,_,?_,h⟩;unfold wO i2 VX;simp[l]
theorem qCz {a b:Ah}(h:Q (.bl (decide (a<b))) S):Ok (mz (.int a) (.int b) S) Q:=⟨_,_,rfl,h⟩
theorem qCy {a b:Ah}(h:Q (.bl (decide (a<=b))) S):Ok (js (.int a) (.int b) S) Q:=⟨_,_,rfl,h⟩
theorem qCx {a b:Ah}(h:Q (.bl (decide (b<a))) S):Ok (mf (.int a) (.int b) S) Q:=⟨_,_,rfl,h⟩
theorem qCv {a b:Ah}(h:Q (.bl (decide (b<=a))) S):Ok (oh (.int a) (.int b) S) Q:=⟨_,_,rfl,h⟩
theorem qCt {a b:Ah}(h:Q (.bl (decide (a=b))) S):Ok (lh (.int a) (.int b) S) Q:=⟨_,_,by kernel_rfl!,h⟩
theorem qC0 {a b:Ah}(h:Q (.bl (!decide (a=b))) S):Ok (sx (.int a) (.int b) S) Q:=⟨_,_,by kernel_rfl!,h⟩
theorem X0 {a:Aa D}{k:Ah}(e:_L.mi a k=Ab d)(h:Q d S):Ok (il (.tup a) (.int k) S) Q:=⟨d,S,by show _D.vU (_L.mi a k) S=_;rw[e];rfl,h⟩
theorem BA {a:Aa D}{k:Ah}(e:_L.mi a k=Ab d)(h:Q d S):Ok (il (.lst a) (.int k) S) Q:=⟨d,S,by show _D.vU (_L.mi a k) S=_;rw[e];rfl,h⟩
theorem qCV {a:Aa D}(h:Q (.int a.length) S):Ok (xW [.tup a] S) Q:=⟨_,_,rfl,h⟩
theorem qCU {a:Aa D}(h:Q (.int a.length) S):Ok (xW [.lst a] S) Q:=⟨_,_,rfl,h⟩
theorem qCZ {a:Aa D}(h:Q (.tup a) S):Ok (jD [.lst a] S) Q:=⟨_,_,rfl,h⟩
theorem ZX (h:Ok (f aj S) λd S1=>∃ b,d=.bl b/\(b=true->Ok (g aj S1) Q)/\(b=false->Q (.bl false) S1)):Ok (mP f g aj S) Q:=qX (zG h λd S1 ⟨b,e,Y,J⟩=>by
 subst e;cases b with
 |true=>exact Y rfl
 |false=>exact⟨_,_,rfl,J rfl⟩)
theorem qC4 {fl Y:DO}(h:Ok (f aj S) λd S1=>Ok (fl aj S1) λlo U=>Ok (Y aj U) λhi J=>Ok (vh d lo hi J) Q):Ok (mw f fl Y aj S) Q:=qX (zG h λ_ _ k=>qX (zG k λ_ _=>qX))
theorem qCk {a:Aa D}(h:Q (.tup (xH a lo hi)) S):Ok (vh (.tup a) lo hi S) Q:=⟨_,_,rfl,h⟩
theorem qCj {a:Aa D}(h:Q (.lst (xH a lo hi)) S):Ok (vh (.lst a) lo hi S) Q:=⟨_,_,rfl,h⟩
theorem qCr {Q:Al Ah->ao->Prop}(h:Q none S):Ok (v9 aj S) Q:=⟨_,_,rfl,h⟩
theorem qCs {Q:Al Ah->ao->Prop}(h:Ok (f aj S) λd S1=>∃ k,d=.int k/\Q (Ab k) S1):Ok (xX f aj S) Q:=qX (zG h λ_ _ ⟨_,e,q⟩=>by subst e;exact⟨_,_,rfl,q⟩)
theorem qCp {m:D->Aa D->ao->aw D}(h:Ok (f aj S) λa S1=>ml a S1=Ab T/\Ok (fa aj S1) λas Y=>Ok (m a as Y) Q):Ok (mh T m f fa aj S) Q:=qX (zG h λ_ _ k=>by rw[k.1,Bd cy];exact qX k.2)
theorem ZY {d:D}(e:S[i]? = Ab (.lst xs))(l:xs.length<bq)(h:Q .non (S.set i (.lst (xs++[d])))):Ok (xY (.loc i) [d] S) Q:=by
 refine⟨_,_,?_,h⟩;show (match S[i]? with|some (.lst xs)=>(if xs.length<bq then aw.ok D.non (S.set i (.lst (xs++[d]))) else .bad)|_=>.bad)=_
 rw[e];exact Bd l
theorem _T {t:DT}(h:Ok (t aj S) λb S1=>(b=true->Ok (f aj S1) Q)/\(b=false->Ok (g aj S1) Q)):Ok (ox t f g aj S) Q:=qX (zG h λb S1 k=>by
 cases b with
 |true=>exact k.1 rfl
 |false=>exact k.2 rfl)
variable {Q:Ar->ao->Prop}{t u:DT}
theorem qBu (h:Ok (f aj S) λd S1=>∃ b,xC d S1=Ab b/\Q b S1):Ok (bx f aj S) Q:=qX (zG h λd S1 ⟨b,e,k⟩=>by
 rw[e];exact⟨_,_,rfl,k⟩)
theorem qCX (h:Ok (t aj S) λb S1=>Q (!b) S1):Ok (wU t aj S) Q:=qX (zG h λ_ _ k=>⟨_,_,rfl,k⟩)
theorem qAH (h:Q true S):Ok (xU aj S) Q:=⟨_,_,rfl,h⟩
theorem pO (h:Ok (t aj S) λb S1=>(b=true->Q true S1)/\(b=false->Ok (u aj S1) Q)):Ok (gY t u aj S) Q:=qX (zG h λb S1 k=>by
 cases b with
 |true=>exact⟨_,_,rfl,k.1 rfl⟩
 |false=>exact k.2 rfl)
theorem cJ (h:Ok (t aj S) λb S1=>(b=true->Ok (u aj S1) Q)/\(b=false->Q false S1)):Ok (yF t u aj S) Q:=qX (zG h λb S1 k=>by
 cases b with
 |true=>exact k.1 rfl
 |false=>exact⟨_,_,rfl,k.2 rfl⟩)
theorem Z4 {xs:Aa D}{a:Ag}(h:a<xs.length):_L.mi xs (a:Ah)=Ab xs[a]:=by
 have e:_L.og xs.length (a:Ah)=Ab a:=by simp[_L.og];lia
 simp[_L.mi,e,h]
theorem vM (S:ao)(m:MO):(S++[m])[S.length]? = Ab m:=by simp
theorem GA (S:ao)(m m':MO):(S++[m]).set S.length m'=S++[m']:=by simp
theorem l6 (h:S[j]? = Ab (.lst xs)):ml (.loc j) S=Ab "list":=by
 show (match S[j]? with|some (.lst _)=>Ab "list" | some (.dct _)=>Ab "dict" | _=>none)=_
 rw[h]
theorem ZZ {Q:D->ao->Prop}{a:Aa D}{k:Ag}(h:k<a.length)(q:∀ d∈a,Q d S):Ok (il (.lst a) (.int (k:Ah)) S) Q:=BA (Z4 h) (q _ (Vf h))
theorem qCT {Q:Aa D->ao->Prop}(h:Ok (f aj S) λd S1=>∃ xs,d=.tup xs/\Q (yP xs) S1):Ok (rF (q8 f qA) aj S) Q:=qX (gM (zG h λ_ _ ⟨xs,e,q⟩=>rO ⟨_,_,by rw[e];rfl,q⟩))
theorem T1 {Q:Aa D->ao->Prop}(h:Ok (f aj S) λd S1=>∃ ds,zU d=Ab ds/\Q ds S1):Ok (wI f aj S) Q:=qX (zG h λd S1 ⟨ds,e,k⟩=>⟨ds,S1,by rw[e];rfl,k⟩)
theorem BC {Q:Aa D->ao->Prop}(h:Ok (fa aj S) λas S1=>∃ ds,bY as=Ab ds/\Q ds S1):Ok (vN fa aj S) Q:=qX (zG h λd S1 ⟨ds,e,k⟩=>⟨ds,S1,by rw[e];rfl,k⟩)
theorem BJ (n:Ag)(h:n<=1000000):bY [.int (n:Ah)]=Ab ((Cd n).map λ(i:Ag)=>D.int (i:Ah)):=by
 unfold bY;have : -(2 ^ 62)<=(n:Ah)/\(n:Ah)<2 ^ 62:=⟨by lia,by lia⟩
 refine(Bd this).trans ?_;unfold yA;rw[Gh]
 congr 2
 funext i
 rw[Int.zero_add]
theorem qCY {Q:Aa D->ao->Prop}(h:Ok (f aj S) λd S1=>∃ k:Ah,d=.int k/\0<=k/\k<=1000000/\Q ((Cd k.toNat).map λ(i:Ag)=>D.int (i:Ah)) S1):Ok (vN (q8 f qA) aj S) Q:=BC (gM (zG h λ_ _ ⟨k,e,Y,J,q⟩=>rO ⟨_,by
 have:=BJ k.toNat li;rw[Ny Y] at this;rw[e,this],q⟩))
theorem uV {Q:D->ao->Prop}{k:Ah}(e:S[i]? = Ab (.lst xs))(Y:_L.mi xs k=Ab d)(h:Q d S):Ok (il (.loc i) (.int k) S) Q:=by
 refine⟨d,S,?_,h⟩;show (match S[i]? with|some (.lst xs)=>_D.vU (_L.mi xs k) S|_=>.bad)=_
 rw[e];show _D.vU (_L.mi xs k) S=_;rw[Y];rfl
theorem cK {Q:D->ao->Prop}(e:S[i]? = Ab (.lst xs))(h:Q (.int xs.length) S):Ok (xW [.loc i] S) Q:=by
 refine⟨_,_,?_,h⟩;have Y:ZR (.loc i) S=Ab xs.length:=by
  show (match S[i]? with|some (.lst xs)=>Ab xs.length|_=>none)=_
  rw[e]
 show (match ZR (.loc i) S with|some n=>aw.ok (D.int n) S|none=>.bad)=_
 rw[Y]
theorem qAC {Q:D->ao->Prop}{k:Ag}(e:S[i]? = Ab (.lst xs))(Y:k<xs.length)(J:k<1000000)(h:Q xs[k] (S.set i (.lst (xs.eraseIdx k)))):Ok (bN (.loc i) [.int (k:Ah)] S) Q:=by
 refine⟨_,_,?_,h⟩;show fR S i (λxs=>if 0<=(k:Ah)/\(k:Ah)<1000000 then (match xs[(k:Ah).toNat]? with|some d=>aw.ok d (S.set i (.lst (xs.eraseIdx (k:Ah).toNat)))|none=>.bad) else .bad)=_
 unfold fR;rw[e];show (if 0<=(k:Ah)/\(k:Ah)<1000000 then _ else _)=_
 rw[Bd ⟨by lia,by lia⟩,Gh,An Y]
theorem YN {Q:Wk->ao->Prop}{n:Ah}(e:S[i]? = Ab (.dct kvs))(Y:kvs.length<bq)(h:Q () (S.set i (.dct (xD kvs (.inl n) d)))):Ok (zZ (.loc i) (.int n) d S) Q:=by
 refine⟨_,_,?_,h⟩;show (match S[i]? with|some (.dct kvs)=>(match xI (.int n) with|some k=>(if kvs.length<bq then aw.ok () (S.set i (.dct (xD kvs k d))) else .bad)|none=>.bad)|_=>mW (.loc i) (.int n) d S)=_
 rw[e];exact Bd Y
theorem cN {Q:Wk->ao->Prop}{n:Ah}(e:S[i]? = Ab (.lst xs))(Y:_L.og xs.length n=Ab j)(h:Q () (S.set i (.lst (xs.set j d)))):Ok (zZ (.loc i) (.int n) d S) Q:=by
 refine⟨_,_,?_,h⟩;simp[zZ,mW,e,Y]
theorem WD (h:S[i]? = Ab (.dct kvs)):tS (.loc i) S=Ab kvs:=by
 show (match S[i]? with|some (.dct kvs)=>Ab kvs|_=>none)=_
 rw[h]
theorem OW {Q:D->ao->Prop}{n:Ah}(e:S[i]? = Ab (.dct kvs))(h:Q (.bl (zM kvs (.inl n)).isSome) S):Ok (lM (.int n) (.loc i) S) Q:=⟨_,_,by unfold lM;rw[WD e];rfl,h⟩
theorem OX {Q:D->ao->Prop}{n:Ah}(e:S[i]? = Ab (.dct kvs))(Y:zM kvs (.inl n)=Ab d)(h:Q d S):Ok (mV (.loc i) (.int n) S) Q:=by
 refine⟨d,S,?_,h⟩;unfold mV;rw[WD e];show (match zM kvs (.inl n) with|some d=>aw.ok d S|none=>.bad)=_
 rw[Y]
theorem ZN (h:aj[i]? = Ab (Ab (.tup xs))):nj (q9 i) aj S=.ok (none,xs) S:=by
 unfold nj;rw[aW h];rfl
theorem qBj (h:aj[i]? = Ab (Ab (.loc j)))(e:S[j]? = Ab (.lst xs)):nj (q9 i) aj S=.ok (Ab (j,.lst xs),xs) S:=by
 unfold nj;rw[aW h];show (match S[j]? with|some (.lst xs)=>aw.ok (Ab (j,MO.lst xs),xs) S|_=>.bad)=_
 rw[e]
theorem qBk (h:n<=1000000):xO (vN (q8 (dC (.int (n:Ah))) qA)) aj S=.ok (none,(Cd n).map λ(i:Ag)=>D.int (i:Ah)) S:=xQ (qX (BC (gM (o_c (rO ⟨_,BJ n h,_,_,rfl,rfl,rfl⟩)))))
theorem eZ {α:Type}(f:α->β):∀ l:Aa α,l.flatMap (λx=>[f x])=l.map f
 |[]=>rfl
 |x::l=>by rw[Mp,eZ f l];rfl
theorem y9 {α:Type}{cw:α->D}{o:Al (Ag × MO)}{T:rf}{G:DG}{fe:DE}{Q:D->ao->Prop}(xs:Aa α)(val:α->D)(C:qC->ao->Prop)(hi:T aj S=.ok (o,xs.map cw) S1)(h0:C (w5 bn aj) S1)(U:xs.length<=bq)(O:∀ aj S,C aj S->oj o S)
  (step:∀ x∈xs,∀ aj S,C aj S->Ok (G (cw x) aj S) λY S1=>Ok (t Y S1) λb B=>b=true/\Ok (fe Y B) λd N=>d=val x/\C Y N) (q:∀ J S',C J S'->Q (.lst (xs.map val)) S'):Ok (zK false bn T G t (zT fe) aj S) Q:=by
 have L:=eZ val xs;obtain⟨J,S',e,c⟩:=yk (cw:=cw) (o:=o) (g:=G) (t:=t) (k:=zT fe) (λx=>[val x]) C O xs (w5 bn aj) S1 [] h0 (by rw[L,Ao];simpa using U) (λx E aj S z I U=>by
  obtain⟨Y,S1,w,b,B,H,rfl,d,N,A,rfl,M⟩:=step x E aj S I;exact⟨Y,S1,true,B,w,H,.inr ⟨rfl,Y,N,c7 A (by simp at U;lia),M⟩⟩)
 rw[L,Ke] at e;exact⟨_,_,dW hi e,q J S' c⟩
theorem nO {α:Type}{Q:D->ao->Prop}{l:Aa α}{p:α->Ar}(h:Q (.bl (l.all p)) S):Ok (bL false [.lst (l.map λx=>.bl (p x))] S) Q:=by
 refine⟨_,_,?_,h⟩;show (match (zU (.lst (l.map λx=>D.bl (p x)))).bind wX with|some bs=>aw.ok (D.bl (bs.all id)) S|none=>.bad)=_
 rw[show (zU (.lst (l.map λx=>D.bl (p x)))).bind wX=Ab (l.map p) from XX p l]
 simp only[Ix];rfl
theorem E8 {Q:D->ao->Prop}{Y:G2}{a b x y:D}{z:D}(e1:vT mS S a=Ab x)(e2:vT mS S b=Ab y)(e3:Y x y (uS S)=.ok z (uS S))(J:Z5 z=true)(h:Q z S):Ok (fN Y a b S) Q:=by
 refine⟨z,S,?_,h⟩;unfold fN;rw[e1,e2];show ZS (Y x y (uS S)) S=_;rw[e3];exact Bd J
theorem MU {f:D->Al D}{xs:Aa D}(h:∀ x∈xs,f x=Ab x):mapO f xs=Ab xs:=by
 induction xs with
 |nil=>rfl
 |cons x xs J=>simp[mapO,h x (Bc ..),J λy Y=>h y (Ap _ Y)]
theorem cZ (e:S[i]? = Ab (.lst xs))(h:∀ x∈xs,vT 19 S x=Ab x):vT mS S (.loc i)=Ab (.lst xs):=by
 show (match S[i]? with|some (.lst xs)=>(mapO (vT 19 S) xs).map D.lst|_=>none)=_
 rw[e];show (mapO (vT 19 S) xs).map D.lst=_;rw[MU h];rfl
theorem qC3 {Q:qC->ao->Prop}{h:G3}(k:Ok (f aj S) λa S1=>Ok (g aj S1) λb J=>Ok (h a b d J) λ_ Y=>Q aj Y):Ok (kw f g h d aj S) Q:=qX (zG k λ_ _ k=>qX (zG k λ_ _ k=>qX (zG k λ_ _ q=>⟨_,_,rfl,q⟩)))
variable {Q:qC->ao->Prop}
theorem qBs (h:Q (aj.set i (Ab d)) S):Ok (bi i d aj S) Q:=⟨_,_,rfl,h⟩
theorem X2 {Y:rg}{xs:Aa D}(h:xs.length=n/\Ok (Y xs aj S) Q):Ok (lg n Y (.tup xs) aj S) Q:=by
 obtain⟨d,S1,e,q⟩:=h.2;exact⟨d,S1,by show (if xs.length=n then Y xs aj S else .bad)=_;rw[Bd h.1];exact e,q⟩
theorem qCw (h:Q aj S):Ok (yH [] aj S) Q:=⟨_,_,rfl,h⟩
theorem qCu {t:DG}{J:rg}(h:Ok (t x aj S) λY S1=>Ok (J xs Y S1) Q):Ok (zP t J (x::xs) aj S) Q:=qX h
def Wo (P:jo->Prop)(o:jo):Prop:=P o
def X9 (g:DS)(P:jo->Prop):jo->Prop
 |.nx aj S=>P (g aj S)
 |o=>P o
def cD (b:Ar)(f g:DS):DS:=match b with
 |true=>f
 |false=>g
def ZE (Q:D->ao->Prop):jo->Prop
 |.rt d S=>Q d S
 |.nx _ S=>Q .non S
 |_=>Fk
def rM {α:Type}(I:Aa α -> qC->ao->Prop)(xs:Aa α)(P:jo->Prop):jo->Prop
 |.nx aj S=>I xs aj S
 |.ct aj S=>I xs aj S
 |.bk aj S=>P (.nx aj S)
 |o=>P o
variable {P:jo->Prop}{sf sg:DS}{fi:DI}{tg:DG}{d:D}
theorem XM (h:Wo (X9 sg P) (sf aj S)):Wo P (qM sf sg aj S):=by
 unfold qM;unfold Wo at h ⊢;cases e:sf aj S <;> rw[e] at h <;> exact h
theorem qAw (R:qC->ao->Prop)(h:∀ Y:jo->Prop,(∀ aj S,R aj S->Wo Y (.nx aj S))->Wo Y (sf aj S))(k:∀ aj S,R aj S->Wo P (sg aj S)):Wo P (qM sf sg aj S):=XM (h _ k)
theorem kS (h:Wo P (sg aj S)):Wo (X9 sg P) (.nx aj S):=h
theorem qC7 (h:Wo P (.rt d S)):Wo (X9 sg P) (.rt d S):=h
theorem qC5 (h:Wo P (.bk aj S)):Wo (X9 sg P) (.bk aj S):=h
theorem qC8 (h:Wo P (.bk aj S)):Wo P (nX aj S):=h
theorem I8 (h:Wo P (.nx aj S)):Wo P (zL aj S):=h
theorem uX {k:β->ao->jo}(h:Ok r λd S1=>Wo P (k d S1)):Wo P (r.toS aj k):=by
 obtain⟨d,S1,rfl,h⟩:=h;exact h
theorem qAv (h:Ok (f aj S) λd S1=>Ok (tg d aj S1) λY J=>Wo P (.nx Y J)):Wo P (qR f tg aj S):=uX (zG h λ_ _=>uX)
theorem qCa (h:Ok (f aj S) λ_ S1=>Wo P (.nx aj S1)):Wo P (yI f aj S):=uX h
theorem rR (h:Ok (f aj S) λd S1=>Wo P (.rt d S1)):Wo P (qS f aj S):=uX h
theorem qCo (h:Ok (fa aj S) λds S1=>∃ a b,ds=[a,b]/\Wo P (.nx ((aj.set i (Ab a)).set j (Ab b)) S1)):Wo P (bZ i j fa aj S):=uX (zG h λ_ _ ⟨_,_,e,q⟩=>by subst e;exact q)
theorem qC6 (h:Ok (t aj S) λb S1=>Wo P (cD b sf sg aj S1)):Wo P (e_ t sf sg aj S):=uX (zG h λb S1 q=>by cases b <;> exact q)
theorem w_t (h:Wo P (sf aj S)):Wo P (cD true sf sg aj S):=h
theorem w_f (h:Wo P (sg aj S)):Wo P (cD false sf sg aj S):=h
theorem qCn {b:Ar}(h:Wo P (cD b sg sf aj S)):Wo P (cD (!b) sf sg aj S):=by cases b <;> exact h
theorem wV {p:Prop}[Io p](h1:p->Wo P (sf aj S))(h2:¬ p->Wo P (sg aj S)):Wo P (cD (decide p) sf sg aj S):=by
 by_cases h:p
 .rw[Co h];exact h1 h
 .rw[Cs h];exact h2 h
theorem BP (h:Ok (fi aj S) λds S1=>Wo P (xF tg sf ds aj S1)):Wo P (wD fi tg sf aj S):=uX h
theorem w6 {α:Type}{cw:α->D}(I:Aa α -> qC->ao->Prop)(turn:∀ x xs aj S,I (x::xs) aj S->Ok (tg (cw x) aj S) λU S1=>Wo (rM I xs P) (sf U S1))(G:∀ aj S,I [] aj S->Wo P (.nx aj S)) :
  ∀ {xs:Aa α} {aj:qC} {S:ao},I xs aj S->Wo P (xF tg sf (xs.map cw) aj S)
 |[],aj,S,h=>G aj S h
 |x::xs,aj,S,h=>by
  obtain⟨U,S1,C,Y⟩:=turn x xs aj S h;rw[De,xF];unfold Wo at Y ⊢;simp only[C,aw.toS];cases N:sf U S1 with
  |nx J O=>rw[N] at Y;exact w6 I turn G Y
  |ct J O=>rw[N] at Y;exact w6 I turn G Y
  |bk J O=>rw[N] at Y;exact Y
  |rt d2 O=>rw[N] at Y;exact Y
  |ex L B J O=>rw[N] at Y;exact Y
  |bad=>rw[N] at Y;exact Y
theorem L5 (I:Aa D->qC->ao->Prop)(turn:∀ x xs aj S,I (x::xs) aj S->Ok (tg x aj S) λJ S1=>Wo (rM I xs P) (sf J S1))(Y:∀ aj S,I [] aj S->Wo P (.nx aj S)){xs:Aa D}{aj:qC}{S:ao}(h:I xs aj S):Wo P (xF tg sf xs aj S):=by
 have:=w6 (cw:=id) I turn Y h
 rwa [Ol] at this
def zd (I:Ag->qC->ao->Prop)(n:Ag)(P:jo->Prop):jo->Prop
 |.nx aj S=>∃ m,m<n/\I m aj S
 |.ct aj S=>∃ m,m<n/\I m aj S
 |.bk aj S=>P (.nx aj S)
 |o=>P o
theorem fY (I:Ag->qC->ao->Prop)(turn:∀ n aj S,I n aj S->Ok (t aj S) λb S1=>(b=true->Wo (zd I n P) (sf aj S1))/\(b=false->Wo P (.nx aj S1))){n:Ag}(B:n<big)(h:I n aj S):Wo P (vG t sf aj S):=by
 have O:∀ N n aj S,n<N->I n aj S->Wo P (yD t sf N aj S):=by
  intro N
  induction N with
  |zero=>intro n aj S h;lia
  |succ N C =>
   intro n aj S h H;obtain⟨b,S1,A,T,E⟩:=turn n aj S H;unfold yD;rw[A];cases b with
   |false=>exact E rfl
   |true =>
    have k:=T rfl;unfold Wo at k ⊢;simp only[aw.toS,Dq];cases U:sf aj S1 with
    |nx Y G=>rw[U] at k;obtain⟨m,L,J⟩:=k;exact C m Y G li J
    |ct Y G=>rw[U] at k;obtain⟨m,L,J⟩:=k;exact C m Y G li J
    |bk Y G=>rw[U] at k;exact k
    |rt d2 G=>rw[U] at k;exact k
    |ex w M Y G=>rw[U] at k;exact k
    |bad=>rw[U] at k;exact k
 exact O big n aj S B h
theorem fB {I:Ag->qC->ao->Prop}(m:Ag)(hm:m<n)(h:I m aj S):Wo (zd I n P) (.nx aj S):=⟨m,hm,h⟩
theorem wG {α:Type}{I:Aa α -> qC->ao->Prop}{xs:Aa α}(h:I xs aj S):Wo (rM I xs P) (.nx aj S):=h
theorem AZ {α:Type}{I:Aa α -> qC->ao->Prop}{xs:Aa α}(h:Wo P (.nx aj S)):Wo (rM I xs P) (.bk aj S):=h
theorem l8 {Q:D->ao->Prop}(h:Q d S):Wo (ZE Q) (.rt d S):=h
theorem qV {Q:D->ao->Prop}(hs:yO n ds=aj)(h:Wo (ZE Q) (sf aj S)):Ok (qL n sf ds S) Q:=by
 subst hs;unfold qL;unfold Wo at h;cases e:sf (yO n ds) S <;> rw[e] at h <;> first|exact⟨_,_,rfl,h⟩|exact Au h
end
abbrev Pt:=Ah × Ah
variable {ps:Aa Pt}
noncomputable def cb (p:Pt):D:=.tup [.int p.1,.int p.2]
def xJ (l:Aa Pt):D:=.tup (l.map cb)
def kP (p:Pt):Aa Ah:=[p.1,p.2]
def pK (k:Aa Ah):Pt:=(k.getD 0 0,k.getD 1 0)
theorem gJ (ps:Aa Pt):ps.map cb=(ps.map kP).map fj:=by
 rw[Ea];rfl
def zj (p q:Pt):Ar:=_H.lexLt [p.1,p.2] [q.1,q.2]
abbrev Up (l:Aa Pt):Prop:=l.Pairwise λp q=>zj p q=true
def w4 (ps:Aa Pt):Aa Pt:=(_S.jq _H.lexLt (ps.map kP)).map pK
theorem fE {ks:Aa (Aa Ah)}(h:∀ k∈ks,k∈ps.map kP):ks.map fj=(ks.map pK).map cb/\(ks.map pK).map kP=ks:=by
 have e:∀ k∈ks,kP (pK k)=k:=λk Y=>by
  obtain⟨p,_,rfl⟩:=Bl.mp (h k Y);rfl
 have Q:(ks.map pK).map kP=ks:=by
  rw[Ea]
  conv=>rhs;rw[<- Ol ks]
  exact Jj e
 exact⟨by rw[gJ,Q],Q⟩
theorem RN {p q:Pt}(h:kP p=kP q):p=q:=by
 injection h with Y Q
 injection Q with Q _
 exact Fc Y Q
theorem aI (ps:Aa Pt):∀ k∈_S.jq _H.lexLt (ps.map kP),k∈ps.map kP:=λk Q=>(_S.vY _S.pQ k _).mp Q
theorem vX (ps:Aa Pt)(p:Pt):p∈w4 ps↔p∈ps:=by
 unfold w4;constructor
 .intro h
  obtain⟨k,Y,rfl⟩:=Bl.mp h;obtain⟨q,Q,rfl⟩:=Bl.mp (aI ps k Y);exact Q
 .intro h
  exact Bl.mpr ⟨kP p,(_S.vY _S.pQ _ _).mpr (Bl.mpr ⟨p,h,rfl⟩),rfl⟩
theorem Q8 (ps:Aa Pt):Up (w4 ps):=by
 have h:=_S.f7 _S.pQ (ps.map kP);rw[<- (fE (aI ps)).2,Ei] at h;exact h
theorem hZ {K:Type}(lt':K->K->Ar)(x:K):∀ l:Aa K,(_S.jH lt' x l).length<=l.length+1
 |[]=>by simp[_S.jH]
 |y::l=>by
  have:=hZ lt' x l;unfold _S.jH
  split
  .simp
  .split <;> simp <;> fin2
theorem dG {K:Type}(lt':K->K->Ar):∀ l:Aa K,(_S.jq lt' l).length<=l.length
 |[]=>by simp[_S.jq]
 |x::l=>by
  have Q:=hZ lt' x (_S.jq lt' l);have Y:=dG lt' l;rw[_S.jq,By];fin2
theorem tG (ps:Aa Pt):(w4 ps).length<=ps.length:=by
 unfold w4;rw[Ao];exact Ci (dG _ _) cy
theorem mF (ps:Aa Pt)(Y:ps.length<=1000):jP (ps.map cb)=Ab ((w4 ps).map cb):=by
 unfold jP w4;rw[<- (fE (aI ps)).1];cases ps with
 |nil=>rfl
 |cons p ps =>
  have Q:zO ((p::ps).map cb)=none:=rfl;rw[Q,gJ,uJ];have U:(((p::ps).map kP).all λk=>!k.isEmpty)=true:=by
   rw[Ix,Bt];intro q _;rfl
  have J:(_S.jq _H.lexLt ((p::ps).map kP)).length<=1000:=Ci (dG _ _) (by rw[Ao];exact Y)
  exact Bd (by rw[U,Co J];rfl)
def f6 (ps:Aa Pt):Aa Pt:=(_S.wQ _H.lexLt (ps.map kP)).map pK
theorem Q7 (ps:Aa Pt):∀ k∈_S.wQ _H.lexLt (ps.map kP),k∈ps.map kP:=λk Q=>(_S.v3 _).mem_iff.mp Q
theorem AG (ps:Aa Pt):(f6 ps).map kP=_S.wQ _H.lexLt (ps.map kP):=(fE (Q7 ps)).2
theorem sW (ps:Aa Pt):(f6 ps).Perm ps:=by
 have h:=(_S.v3 (lt':=_H.lexLt) (ps.map kP)).map pK;rw[Ea] at h;have e:ps.map (pK∘kP)=ps:=by
  conv=>rhs;rw[<- Ol ps]
  exact Jj λq _=>rfl
 rw[e] at h;exact h
theorem NT (nd:ps.Nodup):Up (f6 ps):=by
 have h:=_S.dF _S.pQ (ps.map kP);unfold _S.Nf at h;rw[<- AG,Ei] at h;have Q:(f6 ps).Nodup:=(sW ps).nodup_iff.mpr nd;refine(Xr.mpr ⟨h,Q⟩).imp λ{a b} ⟨Y,J⟩=>?_;rcases _S.pQ.tri Y with z|z
 .exact absurd (RN z).symm J
 .exact z
theorem GD (ps:Aa Pt)(J:ps.length<=100000):uA (ps.map cb)=Ab ((f6 ps).map cb):=by
 unfold f6;rw[<- (fE (Q7 ps)).1];unfold uA;cases ps with
 |nil =>
  have U:_S.wQ _S.qf [] = []:=Ox;have Q:_S.wQ _H.lexLt [] = []:=Ox;show (if ([] : Aa Ah).length<=100000 then Ab ((_S.wQ _S.qf []).map D.int) else none)=_
  rw[U];show Ab [] = Ab ((_S.wQ _H.lexLt []).map fj);rw[Q];rfl
 |cons p ps =>
  have Y:zO ((p::ps).map cb)=none:=rfl;rw[Y,gJ,uJ];have G:(((p::ps).map kP).all λk=>!k.isEmpty)=true:=by
   rw[Ix,Bt];intro q _;rfl
  exact Bd (by rw[G,Co (by rw[Ao];exact J)];rfl)
theorem qC1 {Q:D->ao->Prop}{p:Pt}{S:ao}(h:Q (.int p.1) S):Ok (il (cb p) (.int 0) S) Q:=⟨_,_,rfl,h⟩
theorem qC2 {Q:D->ao->Prop}{p:Pt}{S:ao}(h:Q (.int p.2) S):Ok (il (cb p) (.int 1) S) Q:=⟨_,_,rfl,h⟩
theorem qAE {Q:D->ao->Prop}{S:ao}(l:ps.length<=100000)(h:Q (.lst ((f6 ps).map cb)) S):Ok (vO [.lst (ps.map cb)] S) Q:=by
 refine⟨_,_,?_,h⟩;show (match (Ab (ps.map cb)).bind uA with|some Y=>aw.ok (D.lst Y) S|none=>.bad)=_
 rw[Qx,GD ps l]
theorem HK (ps:Aa Pt):pl wZ (.lst (ps.map cb))=true:=by
 show ((ps.map cb).all (pl 29))=true;rw[Ix];exact Bt.mpr λp _=>rfl
theorem EG {Q:D->ao->Prop}{f:DE}{S:ao}(h:Ok (f aj S) λd S1=>∃ ps:Aa Pt,tF d S1=Ab (ps.map cb)/\ps.length<=1000/\Q (.lst ((w4 ps).map cb)) S1):Ok (wY false f aj S) Q:=qX (zG h λd S1 ⟨ps,e,l,q⟩=>⟨_,_,by rw[e,Qx,mF ps l];rfl,q⟩)
theorem qAF {Q:D->ao->Prop}{f:DE}{S:ao}(h:Ok (f aj S) λd S1=>∃ ps:Aa Pt,tF d S1=Ab (ps.map cb)/\ps.length<=1000/\Q (.loc S1.length) (S1++[.lst ((w4 ps).map cb)])):Ok (wY true f aj S) Q:=qX (zG h λd S1 ⟨ps,e,l,q⟩=>⟨_,_,by rw[e,Qx,mF ps l];rfl,q⟩)
theorem NM {S:ao}{a:Ag}(h:S[a]? = Ab (.lst xs)):tF (.loc a) S=Ab xs:=by
 show (match S[a]? with|some (.lst xs)=>Ab xs|_=>none)=_
 rw[h]
def k_ (B:Ah)(q:Pt):Prop:=-B<=q.1/\q.1<=B /\ -B<=q.2/\q.2<=B
instance (B:Ah)(q:Pt):Io (k_ B q):=by unfold k_;exact inferInstance
structure oi (M:Ag)(l:Aa Pt):Prop where
 ne:l≠[]
 len:l.length<=M
 up:Up l
 box:∀ q∈l,k_ 1000 q
theorem pV {l:Aa Pt}(h:Up l):l.Nodup:=h.imp λ{a b} h e=>by
 subst e;rw[show zj a a=false from _S.pQ.irr _] at h
 cases h
theorem OM {M:Ag}(G:ps≠[])(J:ps.length<=M)(Q:∀ q∈ps,k_ 1000 q):oi M (w4 ps):=by
 refine⟨λz=>?_,Ci (tG ps) J,Q8 ps,λq U=>Q q ((vX ps q).mp U)⟩;cases ps with
 |nil=>exact G rfl
 |cons q Y =>
  have:q∈w4 (q::Y):=(vX _ q).mpr cy
  rw[z] at this;cases this
theorem ON {M:Ag}(U:ps≠[])(Y:ps.length<=M)(nd:ps.Nodup)(Q:∀ q∈ps,k_ 1000 q):oi M (f6 ps):=by
 have p:=sW ps;refine⟨λz=>?_,by rw[p.length_eq];exact Y,NT nd,λq J=>Q q (p.mem_iff.mp J)⟩
 rw[z] at p;exact U p.symm.eq_nil
def u3 (S:ao)(p:Ag):Prop:=∃ v f:Ah,S[p]? = Ab (.lst [.int v,.int f])
theorem TK {S:ao}(h:u3 S p)(e:S<+:S'):u3 S' p:=by
 obtain⟨Y,J,Q⟩:=h;obtain⟨r,rfl⟩:=e;exact⟨Y,J,by rw[Bk (Az.mp Q).1];exact Q⟩
structure Kp (p:Ag)(S S':ao):Prop where
 pen:u3 S' p
 len:S.length<=S'.length
 same:∀ m,m<S.length->m≠p->S'[m]? = S[m]?
theorem Kp.trans {S J:ao}(a:Kp p S S1)(b:Kp p S1 J):Kp p S J:=⟨b.pen,Ci a.len b.len,λm Q Y=>(b.same m (Bh Q a.len) Y).trans (a.same m Q Y)⟩
theorem YR {S:ao}(h:u3 S p):p<S.length:=by
 obtain⟨v,f,e⟩:=h;exact(Az.mp e).1
theorem Kp.pre {S:ao}(h:u3 S p)(e:S<+:S'):Kp p S S':=⟨TK h e,e.length_le,λm Q _=>(Oq.mp e m Q).trans (An Q).symm⟩
theorem Kp.set {j:Ag}{S:ao}(h:Kp p S S')(Y:S.length<=j)(m:MO)(hp:p≠j):Kp p S (S'.set j m):=by
 obtain⟨v,f,e⟩:=h.pen;exact⟨⟨v,f,by rw[Cj (Gd hp)];exact e⟩,by rw[Rp];exact h.len,λi hi Q=>by rw[Cj om];exact h.same i hi Q⟩
end _D
local macro_rules|`(tactic|array_get_dec)=>`(tactic| first | (with_reducible first | apply _D.XM | apply _D.kS | apply _D.qAv | apply _D.o_2 | apply _D.o_c | apply _D.gM | apply _D.rO | apply _D.OT | apply _D.qCl | apply _D.qCm | apply _D.BB | apply _D.E7 | apply _D.qCq | apply _D.qCi | apply _D.qBu | apply _D.qCX | apply _D.qC6 | apply _D.w_t | apply _D.w_f | apply _D.qCn | apply _D.I8 | apply _D.qCa | apply _D.rR | apply _D.qC7 | apply _D.qCo | apply _D.BP | apply _D.qCz | apply _D.qCy | apply _D.qCx | apply _D.qCv | apply _D.qCt | apply _D.qC0 | apply _D.o_1 | apply _D.qCh | apply _D.qCV | apply _D.qCU | apply _D.qCZ | apply _D.qCW | apply _D.qC4 | apply _D.qCk | apply _D.qCj | apply _D.qCr | apply _D.qCs | apply _D.qCp | apply _D.qCe | apply _D.X2 | apply _D.qCu | apply _D.qCw | apply _D.qC8 | apply _D.qC5 | apply _D.qAH | apply _D.qC1 | apply _D.qC2 | apply _D.qC3 | apply _D.qCT | apply _D.T1 | apply _D.qCY) | ((with_reducible apply _D.o_v); exact rfl) | ((with_reducible apply _D.qBs); dsimp only [List.set_cons_succ, List.set_cons_zero]) | ((with_reducible (first | apply _D.qAA | apply _D.qCg | apply _D.qCf)); fin2) | ((with_reducible apply And.intro); (first | exact rfl | exact Nat.le_of_ble_eq_true rfl)) | ((with_reducible apply Exists.intro); (with_reducible apply And.intro); exact rfl) | ((with_reducible apply Exists.intro); (with_reducible apply Exists.intro); (with_reducible apply And.intro); exact rfl; dsimp only [List.set_cons_succ, List.set_cons_zero]) | ((with_reducible apply Exists.intro); (with_reducible apply Exists.intro); (with_reducible apply Exists.intro); (with_reducible apply And.intro); exact rfl; dsimp only [List.set_cons_succ, List.set_cons_zero]))
local macro_rules|`(tactic|rfl')=>`(tactic| repeat array_get_dec)
namespace _D
variable {kvs:Aa (_L.be × D)}{ks:Aa Ah}{xs:Aa D}{n:Ag}{i:D}{S:ao}
def Pn (d:D):Prop:=∃ p,vz d=Ab p
theorem pns:∀ {ps:Aa PyData},tB xs=Ab ps->∀ x∈xs,Pn x:=by
 induction xs with
 |nil=>intro ps _ x hx;cases hx
 |cons d N U =>
  intro ps h x hx;simp only[tB] at h;obtain⟨p,Y,G⟩:=Ex.mp h;obtain⟨J,Q,_⟩:=Dl.mp G;rcases Av.mp hx with rfl|hx
  .exact⟨p,Y⟩
  .exact U Q x hx
theorem cS (h:Pn (.tup xs)):∀ x∈xs,Pn x:=by
 obtain⟨p,h⟩:=h;simp only[vz] at h;obtain⟨Y,Q,_⟩:=Dl.mp h;exact pns Q
theorem YT:∀ {xs:Aa D},(∀ x∈xs,Pn x)->∃ l,tB xs=Ab l
 |[],_=>⟨[],rfl⟩
 |x::xs,h=>by
  obtain⟨l,e⟩:=YT (xs:=xs) λy Q=>h y (Ap _ Q);obtain⟨q,Y⟩:=h x (Bc ..);refine⟨q::l,?_⟩;show (vz x).bind (λx=>(tB xs).map (x::·))=_
  rw[e,Y];rfl
theorem HM (h:∀ x∈xs,Pn x):Pn (.tup xs):=by
 obtain⟨l,e⟩:=YT h;exact⟨.tuple l,by simp only[vz,e,Ww]⟩
theorem qAV (q:Pt):Pn (cb q):=⟨.tuple [.int q.1,.int q.2],rfl⟩
theorem HL (l:Aa Pt):Pn (xJ l):=HM λx Q=>by
 obtain⟨q,_,rfl⟩:=Bl.mp Q;exact qAV q
noncomputable def inR (a b:Ah):D->Ar
 |.int i=>decide (a<=i/\i<=b)
 |_=>false
def isW:D->Ar
 |.int _=>true
 |_=>false
def ig:D->Ar
 |.tup _=>true
 |_=>false
theorem ZM (h:Pn d)(S:ao):uL [d,.ty "tuple"] S=.ok (.bl (ig d)) S:=by
 obtain⟨p,h⟩:=h;cases d <;> first|kernel_rfl!|simp[vz] at h
theorem d3 {Q:D->ao->Prop}{U J Y:DE}{a b c:Ah}(h1:U aj S=.ok (.int a) S)(h2:J aj S=.ok (.int b) S)(h3:Y aj S=.ok (.int c) S)(q:Q (.bl (decide (a<=b/\b<=c))) S):Ok (wH js js U J Y aj S) Q:=by
 refine⟨_,_,?_,q⟩;unfold wH;rw[h1,aw.bind_ok,h2,aw.bind_ok];show (match xC (.bl (decide (a<=b))) S with|some true=>(Y aj S).bind λw G=>js (.int b) w G|some false=>aw.ok (.bl (decide (a<=b))) S|none=>.bad)=_
 by_cases h:a<=b
 .rw[Co h]
  show (Y aj S).bind _=_;rw[h3];simp only[h,true_and];rfl
 .rw[Cs h,Cs λz=>h z.1]
  rfl
abbrev ow:D->Ar:=inR (-1000) 1000
def yK:D->Ar
 |.tup [a,b]=>ow a&&ow b
 |_=>false
theorem M7 (q:Pt):yK (cb q)=decide (k_ 1000 q):=by
 show (decide (-1000<=q.1/\q.1<=1000)&&decide (-1000<=q.2/\q.2<=1000))=_;rw[<- Bool.decide_and];exact decide_eq_decide.mpr ⟨λh=>⟨h.1.1,h.1.2,h.2.1,h.2.2⟩,λh=>⟨⟨h.1,h.2.1⟩,h.2.2.1,h.2.2.2⟩⟩
theorem RG (h:xs.length=2):yK (.tup xs)=xs.all ow:=by
 match xs,h with
 |[a,b],_=>simp[yK]
theorem RH (h:xs.length≠2):yK (.tup xs)=false:=by
 match xs,h with
 |[],_=>rfl
 |[_],_=>rfl
 |[_,_],h=>exact absurd rfl h
 |_::_::_::_,_=>rfl
theorem RI (h:ig d=false):yK d=false:=by
 cases d <;> first|rfl|cases h
def pr (ks:Aa (Aa Ah)):Ar:=(ks.zip (ks.drop 1)).all λp=>_H.lexLt p.1 p.2
def rL:D->Ar
 |.tup xs=>decide (1<=xs.length/\xs.length<=40)&&xs.all yK&&(match wF xs with|some ks=>pr ks|none=>false)
 |_=>false
theorem lS {a b:Ah}(h:inR a b d=true):∃ i,d=.int i/\a<=i/\i<=b:=by
 cases d <;> first|exact⟨_,rfl,Bs h⟩|cases h
theorem JA (h:yK d=true):∃ q,d=cb q/\k_ 1000 q:=by
 unfold yK at h
 split at h
 .rw[AT] at h
  obtain⟨x,rfl,Y⟩:=lS h.1;obtain⟨y,rfl,Q⟩:=lS h.2;exact⟨(x,y),rfl,Y.1,Y.2,Q.1,Q.2⟩
 .cases h
theorem YW:∀ {xs:Aa D},xs.all yK=true->∃ Q:Aa Pt,xs=Q.map cb/\∀ q∈Q,k_ 1000 q
 |[],_=>⟨[],rfl,λ_ h=>by cases h⟩
 |d::U,h=>by
  rw[Qo,AT] at h;obtain⟨Q,rfl,J⟩:=YW h.2;obtain⟨q,rfl,Y⟩:=JA h.1;refine⟨q::Q,rfl,λz hz=>?_⟩;rcases Av.mp hz with rfl|hz
  .exact Y
  .exact J z hz
theorem OO (a b:Aa Ah)(S:ao):lN (fj a) (fj b) S=.ok (.bl (_H.lexLt a b)) S:=by
 unfold lN fj;simp only[uC]
theorem VG:∀ (ks:Aa (Aa Ah)),pr ks=true↔ks.Pairwise (λa b=>_H.lexLt a b=true)
 |[]=>by simp[pr]
 |[a]=>by simp[pr]
 |a::b::r=>by
  have J:=VG (b::r);have e:pr (a::b::r)=(_H.lexLt a b&&pr (b::r)):=by simp[pr]
  rw[e,AT,J,Do (a:=a)];constructor
  .rintro⟨Q,Y⟩
   refine⟨λx hx=>?_,Y⟩;rcases Av.mp hx with rfl|hx
   .exact Q
   .exact _S.pQ.tr Q ((Do.mp Y).1 x hx)
  .rintro⟨Q,Y⟩
   exact⟨Q b cy,Y⟩
theorem IH (ks Q:Aa (Aa Ah)):yM (ks.map fj) (Q.map fj)=(ks.zip Q).map λp=>D.tup [fj p.1,fj p.2]:=by
 unfold yM
 induction ks generalizing Q with
 |nil=>rfl
 |cons k ks Y =>
  cases Q with
  |nil=>rfl
  |cons m Q=>exact congrArg (_::·) (Y Q)
theorem M6 (h:ig d=false):rL d=false:=by
 cases d <;> first|rfl|cases h
theorem J9 {M:Ag}(G:M<=40){l:Aa Pt}(h:oi M l):rL (xJ l)=true:=by
 show (decide (1<=(l.map cb).length/\(l.map cb).length<=40)&&(l.map cb).all yK&&(match wF (l.map cb) with|some ks=>pr ks|none=>false))=true
 have Y:1<=(l.map cb).length/\(l.map cb).length<=40:=by
  rw[Ao];exact⟨Gf.mpr h.ne,by have:=h.len;lia⟩
 have U:(l.map cb).all yK=true:=by
  rw[Ix];exact Bt.mpr λq J=>(M7 q).trans (Co (h.box q J))
 have Q:pr (l.map kP)=true:=by
  rw[VG,Ei];exact h.up
 rw[Co Y,U,gJ,uJ];exact Q
theorem PM (xs:Aa D):xH xs (Ab 1) none=xs.drop 1:=by
 unfold xH;have Q:_H.cc xs.length 0 (Ab 1)=min 1 xs.length:=rfl;have Y:_H.cc xs.length xs.length none=xs.length:=rfl;rw[Q,Y];cases xs with
 |nil=>rfl
 |cons x r=>simp
theorem U6 (xs:Aa D)(i:Ag):xH xs (Ab ((i:Ah)+1)) none=xs.drop (i+1):=by
 unfold xH;have Q:_H.cc xs.length 0 (Ab ((i:Ah)+1))=min (i+1) xs.length:=by
  have:((i:Ah)+1)=((i+1:Ag):Ah):=by lia
  rw[this,_H.t_]
 rw[Q,_H.rj];by_cases h:i+1<=xs.length
 .rw[Ry h,Hw cy]
 .have:xs.drop (i+1)=[]:=Lq li
  rw[this,Vn li];simp
def eL:Ag->Aa D->Aa D
 |_,[]=>[]
 |k,x::xs=>D.tup [.int (k:Ah),x]::eL (k+1) xs
theorem US (xs:Aa D):yP xs=eL 0 xs:=by
 have Q:∀ (xs:Aa D) (k:Ag),(xs.mapIdx λi x=>D.tup [.int ((i+k:Ag):Ah),x])=eL k xs:=by
  intro xs
  induction xs with
  |nil=>intro k;rfl
  |cons x xs Y =>
   intro k;rw[List.mapIdx_cons];show _::_=D.tup [.int (k:Ah),x]::eL (k+1) xs
   congr 1
   .simp
   .rw[<- Y (k+1)]
    congr 1
    funext i y
    congr 4
    lia
 have:=Q xs 0;simpa [yP] using this
noncomputable def ff (p q:Pt):Ah:=(p.1-q.1)*(p.1-q.1)+(p.2-q.2)*(p.2-q.2)
def xG:Aa Pt->Aa (Pt × Pt)
 |[]=>[]
 |p::Q=>Q.map (λq=>(p,q))++xG Q
def bM (x:Pt × Pt):Ah:=ff x.1 x.2
def ay (l:Aa Pt):Aa Ah:=(xG l).map bM
def w_ (x:Pt × Pt):D:=.tup [cb x.1,cb x.2]
structure GI {β : Type}(key:β->Ah)(enc:β->D)(n:Ag)(prs:Aa β)(kvs:Aa (_L.be × D))(S:ao):Prop where
 dict:S[n]? = Ab (.dct kvs)
 lists:∀ kv∈kvs,∃ (f:Ah) (j:Ag),kv=(.inl f,.loc j)/\n<j/\S[j]? = Ab (.lst ((prs.filter λx=>key x == f).map enc))
 nd:(kvs.map (·.2)).Nodup
 keys:kvs.map (·.1)=((prs.map key).foldl Ca []).map Fj
set_option tactic.hygienic true in
theorem GJ {l:Aa Ah}{k x:Ah}:x∈Ca l k↔x∈l\/x=k:=by
 unfold Ca
 split
 .rename_i h
  simp at h;constructor
  .exact λz=>.inl z
  .rintro (z|rfl)
   .exact z
   .exact h
 .simp
theorem NU {l:Aa Ah}{k:Ah}(h:k∈l):Ca l k=l:=by
 unfold Ca;rw[Bd (by simpa using h)]
theorem GK {l:Aa Ah}{k:Ah}(h:k ∉ l):Ca l k=l++[k]:=by
 unfold Ca;rw[Bg (by simpa using h)]
theorem mU:∀ {l:Aa Ah} {x:Ah},x∈ks.foldl Ca l↔x∈l\/x∈ks:=by
 induction ks with
 |nil=>intro l x;simp
 |cons k ks Q =>
  intro l x;rw[Lo,Q,GJ,Av];constructor
  .rintro ((h|h)|h)
   .exact .inl h
   .exact .inr (.inl h)
   .exact .inr (.inr h)
  .rintro (h|h|h)
   .exact .inl (.inl h)
   .exact .inl (.inr h)
   .exact .inr h
theorem pB:∀ {l:Aa Ah},(ks.foldl Ca l).length<=l.length+ks.length:=by
 induction ks with
 |nil=>intro l;simp
 |cons k ks Q =>
  intro l;rw[Lo];have Y:=Q (l:=Ca l k);have J:(Ca l k).length<=l.length+1:=by
   unfold Ca
   split <;> simp
  rw[By]
  lia
theorem GR {k:_L.be}(h:zM kvs k=Ab d):(k,d)∈kvs:=by
 unfold zM at h;obtain⟨Y,Q,rfl⟩:=Dl.mp h;have G:=Ab3 Q;have J:=Ul Q;have U:Y.1=k:=by simpa using G
 subst U;exact J
theorem GQ {k:_L.be}(h:zM kvs k=none):∀ Q∈kvs,Q.1≠k:=by
 unfold zM at h;have Y:=Option.map_eq_none_iff.mp h;intro Q J e;have:=f8.mp Y Q J;simp[e] at this
theorem BK {x:D}{k:_L.be}(Q:S[n]? = Ab (.dct kvs))(Y:xI i=Ab k):wM (.loc n) [i,x] S=(match zM kvs k with|some d=>.ok d S|none=>if kvs.length<bq then .ok x (S.set n (.dct (xD kvs k x))) else .bad):=by
 show (match S[n]? with|some (.dct kvs)=>(match xI i with|some k=>(match zM kvs k with|some d=>aw.ok d S|none=>if kvs.length<bq then .ok x (S.set n (.dct (xD kvs k x))) else .bad)|none=>.bad)|_=>.bad)=_
 rw[Q,Y]
theorem NK {x d:D}{k:_L.be}(Q:S[n]? = Ab (.dct kvs))(Y:xI i=Ab k)(hv:zM kvs k=Ab d):wM (.loc n) [i,x] S=.ok d S:=by
 rw[BK Q Y,hv]
theorem NJ {x:D}{k:_L.be}(Q:S[n]? = Ab (.dct kvs))(J:xI i=Ab k)(hv:zM kvs k=none)(Y:kvs.length<bq):wM (.loc n) [i,x] S=.ok x (S.set n (.dct (xD kvs k x))):=by
 rw[BK Q J,hv];exact Bd Y
theorem YD {β γ:Type}{l:Aa β}{f:β->γ}(nd:(l.map f).Nodup){x y:β}(J:x∈l)(Y:y∈l)(e:f x=f y):x=y:=by
 obtain⟨a,U,rfl⟩:=Cq.mp J;obtain⟨b,Q,rfl⟩:=Cq.mp Y;have:a=b:=(Vb nd (h₀:=by simpa using U) (h₁:=by simpa using Q)).mp (by simpa using e)
 subst this;rfl
set_option tactic.hygienic true in
theorem iZ:∀ (ks l:Aa Ah),l.Nodup->(ks.foldl Ca l).Nodup:=by
 intro ks
 induction ks with
 |nil=>exact λl h=>h
 |cons k ks G =>
  intro l h;rw[Lo];apply G;unfold Ca
  split
  .exact h
  .rename_i J
   rw[Ki];refine⟨h,by simp,?_⟩
   intro a U b Y Q;simp at Y J;subst Y;subst Q;exact J U
theorem MC (h:kvs.map (·.1)=(ks.foldl Ca []).map Fj):(kvs.map (·.1)).Nodup:=by
 rw[h,Vi,Ei];exact(iZ ks [] Mt).imp λQ e=>Q (Xe e)
theorem LY {j:Ag}(h:S[j]? = Ab (.lst xs))(Q:xs.length<bq)(d:D):xY (.loc j) [d] S=.ok .non (S.set j (.lst (xs++[d]))):=xQ (ZY h Q ⟨rfl,rfl⟩)
theorem FS {β:Type}{Q:β->Ah}{cw:β->D}{Y:Aa β}(I:GI Q cw n Y kvs S)(x:β)(hl:Y.length<bq) :
  ∃ (j:Ag) (S1 S2:ao) (M:Aa (_L.be × D)),wM (.loc n) [.int (Q x),.loc S.length] (S++[.lst []]) = .ok (.loc j) S1/\ml (.loc j) S1=Ab "list" /\ xY (.loc j) [cw x] S1=.ok .non S2/\GI Q cw n (Y++[x]) M S2/\∀ m,m<n->S2[m]? = S[m]?:=by
 have z:n<S.length:=(Az.mp I.dict).1;have g:(S++[MO.lst []])[n]? = Ab (.dct kvs):=by rw[Bk z];exact I.dict
 have zc:kvs.length<=Y.length:=by
  have p:kvs.length=(kvs.map (·.1)).length:=by simp
  rw[p,I.keys,Ao];have:=pB (ks:=Y.map Q) (l:=[]);simpa using this
 have w:kvs.length<bq:=by lia
 have zb:∀ {f:Ah} {j:Ag},((Fj f:_L.be),D.loc j)∈kvs->n<j/\j<S.length/\S[j]? = Ab (.lst ((Y.filter λx=>Q x == f).map cw)):=by
  intro f j O;obtain⟨N,E,e,p,A⟩:=I.lists _ O;cases e;exact⟨p,(Az.mp A).1,A⟩
 cases hv:zM kvs (.inl (Q x)) with
 |some d =>
  have O:=GR hv;obtain⟨f,j,e,p,A⟩:=I.lists _ O;have e1:f=Q x:=by
   have:=congrArg AbU e;exact(Xe this).symm
  have e2:d=.loc j:=congrArg AbV e;subst e1;subst e2;have v:=(Az.mp A).1;have u:(S++[MO.lst []])[j]? = Ab (.lst ((Y.filter λy=>Q y == Q x).map cw)):=by rw[Bk v];exact A
  have r:((Y.filter λy=>Q y == Q x).map cw).length<bq:=by
   rw[Ao];have:=Qw (λy=>Q y == Q x) Y
   lia
  refine⟨j,S++[MO.lst []],(S++[MO.lst []]).set j (.lst ((Y.filter λy=>Q y == Q x).map cw++[cw x])),kvs,?_,?_,?_,⟨?_,?_,I.nd,?_⟩,?_⟩
  .exact NK g rfl hv
  .exact l6 u
  .exact LY u r _
  .rw[Cj li];exact g
  .intro U hk
   obtain⟨N,E,rfl,o,T⟩:=I.lists U hk;refine⟨N,E,rfl,o,?_⟩;have G:=(Az.mp T).1;by_cases C:j=E
   .subst C
    have c:N=Q x:=Xe (congrArg AbU (YD (f:=(·.2)) I.nd hk O rfl))
    subst c;rw[Dy (by simp;lia)]
    rw[Oy];simp
   .rw[Cj C,Bk G,T]
    have B:(Q x == N)=false:=by
     rw[Ks];rintro rfl;exact C (D.loc.inj (congrArg AbV (YD (f:=(·.1)) (MC I.keys) O hk rfl)))
    rw[Oy];simp[B]
  .rw[Ga,AaC]
   show _=(Ca ((Y.map Q).foldl Ca []) (Q x)).map Fj;have J:Q x∈(Y.map Q).foldl Ca []:=by
    have:(Fj (Q x):_L.be)∈kvs.map (·.1):=Bl.mpr ⟨_,O,rfl⟩
    rw[I.keys] at this;obtain⟨y,t,e⟩:=Bl.mp this;cases e;exact t
   rw[NU J];exact I.keys
  .intro m O
   rw[Cj li,Bk li]
 |none =>
  have L:=GQ hv;have k:xD kvs (.inl (Q x)) (.loc S.length)=kvs++[(.inl (Q x),.loc S.length)]:=by
   unfold xD;rw[Bg];rw[Jo];rintro⟨U,hk,e⟩;exact L U hk (by simpa using e)
  have H:Q x ∉ Y.map Q:=by
   intro J;have:(Fj (Q x):_L.be)∈kvs.map (·.1):=by
    rw[I.keys];exact Bl.mpr ⟨_,mU.mpr (.inr J),rfl⟩
   obtain⟨U,hk,e⟩:=Bl.mp this;exact L U hk e
  have q:((S++[MO.lst []]).set n (.dct (kvs++[(Fj (Q x),.loc S.length)])))[S.length]? = Ab (.lst []):=by
   rw[Cj li];simp
  refine⟨S.length,(S++[MO.lst []]).set n (.dct (kvs++[(.inl (Q x),.loc S.length)])),((S++[MO.lst []]).set n (.dct (kvs++[(.inl (Q x),.loc S.length)]))).set S.length (.lst [cw x]),kvs++[(.inl (Q x),.loc S.length)],?_,?_,?_,⟨?_,?_,?_,?_⟩,?_⟩
  .rw[<- k]
   exact NJ g rfl hv w
  .exact l6 q
  .have:(0:Ag)<bq:=by decide
   exact LY q this _
  .rw[Cj li,Dy (by simp;lia)]
  .intro U hk
   rcases Cc.mp hk with hk|hk
   .obtain⟨N,E,rfl,o,T⟩:=I.lists U hk
    have G:=(Az.mp T).1;refine⟨N,E,rfl,o,?_⟩;rw[Cj li,Cj li,Bk G,T];have B:(Q x == N)=false:=by
     rw[Ks];intro e;exact L _ hk (by rw[e])
    rw[Oy];simp[B]
   .have:U=(.inl (Q x),.loc S.length):=by simpa using hk
    subst this;refine⟨Q x,S.length,rfl,z,?_⟩;rw[Dy cy]
    have:(Y.filter λy=>Q y == Q x)=[]:=by
     rw[Qf];intro y t e;exact H (by rw[<- (by simpa using e:Q y=Q x)];exact Bl.mpr ⟨y,t,rfl⟩)
    rw[Oy,this];simp
  .rw[Ga,Ki]
   refine⟨I.nd,by simp,?_⟩
   intro a ha b hb s;simp at hb;subst hb;subst s;obtain⟨U,hk,e⟩:=Bl.mp ha;obtain⟨N,E,rfl,o,T⟩:=I.lists U hk;have G:=(Az.mp T).1;have:E=S.length:=D.loc.inj e
   lia
  .rw[Ga,I.keys,Ga,AaC]
   show _=(Ca ((Y.map Q).foldl Ca []) (Q x)).map Fj;have J:Q x ∉ (Y.map Q).foldl Ca []:=by
    intro h;rcases mU.mp h with h|h
    .simp at h
    .exact H h
   rw[GK J,Ga];rfl
  .intro m O
   rw[Cj li,Cj li,Bk li]
theorem mH (l:Aa Pt):(xG l).length<=l.length*l.length:=by
 induction l with
 |nil=>simp[xG]
 |cons p l Q =>
  have e:(p::l).length*(p::l).length=l.length*l.length+l.length+l.length+1:=by
   simp only[By,Nat.add_mul,Tn]
   lia
  rw[e];simp only[xG,Cu,Ao]
  lia
theorem HQ {Q:ao}(h:∀ m,m<S.length->Q[m]? = S[m]?):S<+:Q:=by
 rw[Oq];intro i Y;rw[h i Y,An Y]
theorem VU {l:Aa Pt}{x:Pt × Pt}(h:x∈xG l):x.1∈l/\x.2∈l:=by
 induction l with
 |nil=>simp[xG] at h
 |cons p l Q =>
  simp only[xG,Cc,Bl] at h;rcases h with⟨q,Y,rfl⟩|h
  .exact⟨Bc ..,Ap _ Y⟩
  .exact⟨Ap _ (Q h).1,Ap _ (Q h).2⟩
theorem OP {l:Aa Pt}(h:l.length<=41):(xG l).length<4000:=by
 have Q:=mH l;have Y:l.length*l.length<=41*41:=Ez h h
 lia
def me (Q:Aa Ah):Aa Ah:=Q.foldl Ca []
def sr (Q:Aa Ah):Aa (Aa Ah):=(me Q).map λf=>[f,(Q.count f:Ah)]
def tbl (Q:Aa Ah):Aa (Aa Ah):=_S.wQ _H.lexLt (sr Q)
theorem vS {x:Ah}:x∈me Q↔x∈Q:=by
 unfold me;rw[mU];simp
theorem Y0 (Q:Aa Ah):(me Q).Nodup:=iZ Q [] Mt
theorem UY (Q:Aa (Pt × Pt))(f:Ah):(Q.filter λx=>bM x == f).length=(Q.map bM).count f:=by
 rw[List.count,List.countP_map,Si];rfl
noncomputable def yn (Q:Aa Ah)(k:_L.be):D:=match k with
 |.inl f=>.tup [.int f,.int (Q.count f:Ah)]
 |.inr _=>.non
theorem NP (ks:Aa (Aa Ah))(U:ks.length<=100000)(O:∀ k∈ks,k≠[]):uA (ks.map fj)=Ab ((_S.wQ _H.lexLt ks).map fj):=by
 unfold uA;cases ks with
 |nil =>
  have G:_S.wQ _S.qf [] = []:=Ox;have Q:_S.wQ _H.lexLt [] = []:=Ox;show (if ([] : Aa Ah).length<=100000 then Ab ((_S.wQ _S.qf []).map D.int) else none)=_
  rw[G,Q,Bd cy]
  rfl
 |cons k r =>
  have Y:zO ((k::r).map fj)=none:=rfl;rw[Y,uJ];have C:((k::r).all λk=>!k.isEmpty)=true:=Bt.mpr λq N=>by
   have:=O q N;cases q with
   |nil=>exact absurd rfl this
   |cons _ _=>rfl
  have J:(decide ((k::r).length<=100000)&&(k::r).all λk=>!k.isEmpty)=true:=by rw[C,Co U];rfl
  show (if (decide ((k::r).length<=100000)&&(k::r).all λk=>!k.isEmpty)=true then _ else _)=_
  rw[Bd J]
theorem iU {p q:Pt}(h:p≠q):0<ff p q:=by
 unfold ff;have s:∀ x:Ah,0<=x*x:=λx=>by rw[<- Na x];exact Es li li
 have z:∀ x:Ah,x≠0->0<x*x:=λx Y=>by
  rcases Int.lt_trichotomy x 0 with y|y|y
  .exact Int.mul_pos_of_neg_of_neg y y
  .exact absurd y Y
  .exact Int.mul_pos y y
 have J:=s (p.1-q.1);have U:=s (p.2-q.2);by_cases Q:p.1=q.1
 .have G:p.2≠q.2:=λe=>h (Fc Q e)
  have:=z (p.2-q.2) li
  lia
 .have:=z (p.1-q.1) li
  lia
theorem iW (p q:Pt):ff p q=ff q p:=by
 have e:∀ a b:Ah,(a-b)*(a-b)=(b-a)*(b-a):=λa b=>by
  rw[<- Int.neg_sub b a,Xa]
 unfold ff;rw[e p.1 q.1,e p.2 q.2]
theorem kB (p:Pt)(l:Aa Pt):ay (p::l)=l.map (ff p)++ay l:=by
 unfold ay;rw[xG,Ga,Ea];rfl
end _D
namespace _K
open _D
theorem VD (b:Ar)(S:ao):xC (.bl b) S=Ab b:=rfl
theorem uf (i:Ah)(S:ao):xC (.int i) S=Ab (i != 0):=rfl
theorem ue (C:Ah->Ah->Ar)(f:Ah->Ah->D)(i j:Ah)(S:ao):i2 C f (.int i) (.int j) S=if C i j=true then .ok (f i j) S else .bad:=rfl
theorem vR (i j:Ah)(S:ao):lh (.int i) (.int j) S=.ok (.bl (decide (i=j))) S:=by kernel_rfl!
theorem o3 (i j:Ah)(S:ao)(h : -(2 ^ 64)<i/\i<2 ^ 64):z9 (.int i) (.int j) S=.ok (.int (i*j)) S:=by
 unfold z9 i2;rw[gV];unfold mM;simp only[h,and_self,Ju,v4,Dq]
theorem hJ (i j:Ah)(S:ao):zB (.int i) (.int j) S=.ok (.int (i+j)) S:=rfl
theorem lO (i j:Ah)(S:ao)(h:0<j):xV (.int i) (.int j) S=.ok (.int (i % j)) S:=by
 unfold xV i2;simp[h]
theorem FR (i j:Ah)(S:ao)(h:0<j/\j<1073741824):wO (.int i) (.int j) S=.ok (.int (i/j)) S:=by
 unfold wO i2 VX;simp[h]
theorem oS (d:D)(S:ao):X5 (.rt d S)=.ok d S:=rfl
theorem oR (e:qC)(S:ao):X5 (.nx e S)=.ok .non S:=rfl
theorem ug (c:Ac)(x:D)(e:qC)(S:ao):X5 (.ex c x e S)=.ex c x S:=rfl
theorem uk (i j:Ag)(aj:qC)(S:ao)(x y:D):cR i j aj S [x,y]=.nx ((aj.set i (Ab x)).set j (Ab y)) S:=rfl
theorem uj (x:Aa D):zU (.lst x)=Ab x:=rfl
theorem uh (x:Aa D):zU (.tup x)=Ab x:=rfl
end _K
open _D _K
namespace _K
open _L _D
noncomputable def top (i:Ag):Ge:=Vo.main.body.getD i (.Pass ⟨0,0,0,0⟩)
structure Cl where
 (FarError NoLot NoNumber NoFars:Af)
def Z9 (c:Cl):Aa Af:=[c.NoLot,c.NoNumber,c.NoFars]
def D3 (c:Cl):Aa Ac:=[.ref c.NoLot,.ref c.NoNumber,.ref c.NoFars]
noncomputable abbrev oo (c:Cl):Aa (As × Af):=[("FarError",c.FarError),("NoLot",c.NoLot),("NoNumber",c.NoNumber),("NoFars",c.NoFars)]
abbrev qr (c:Cl):Aa (As × Af):=[("NoLot",c.NoLot),("NoNumber",c.NoNumber),("NoFars",c.NoFars)]
noncomputable abbrev qu:Aa (As × Ah):=[("LEAST_NUMBER",-1000),("MOST_NUMBER",1000),("MOST_POINTS",40),("MOST_LOT",40),("MOST_FARS",100)]
noncomputable abbrev bl:Aa As:=["ValueError","all","bool","divmod","enumerate","int","isinstance","len","list","max","min","range","set","sorted","sum","tuple","zip"]
noncomputable abbrev tab:Aa (As × Ag × Aa As):=[(("is_whole" : As),(6:Ag),[("thing" : As)]),(("is_within" : As),(7:Ag),[("thing" : As),("least" : As),("most" : As)]),(("is_rising" : As),(8:Ag),[("some" : As)]),(("need_within" : As),(9:Ag),[("thing" : As),("least" : As),("most" : As)]),(("is_point" : As),(14:Ag),[("thing" : As)]),(("is_lot" : As),(15:Ag),[("thing" : As)]),(("need_lot" : As),(16:Ag),[("thing" : As)]),(("far_between" : As),(17:Ag),[("one" : As),("other" : As)]),(("pairs_by_far" : As),(18:Ag),[("points" : As)]),(("far_table" : As),(19:Ag),[("lot" : As)]),(("fars" : As),(20:Ag),[("lot" : As)]),(("many_fars" : As),(22:Ag),[("lot" : As)]),(("most_often" : As),(23:Ag),[("lot" : As)]),(("above_root" : As),(25:Ag),[("number" : As)]),(("primes_in" : As),(26:Ag),[("number" : As)]),(("primes_to" : As),(27:Ag),[("most" : As)]),(("primes_among" : As),(28:Ag),[("number" : As),("primes" : As)]),(("points_by_primes" : As),(29:Ag),[("primes" : As)]),(("circle_points" : As),(30:Ag),[("number" : As)]),(("circles_points" : As),(31:Ag),[("numbers" : As)]),(("on_circle" : As),(32:Ag),[("number" : As)]),(("least_where" : As),(36:Ag),[("holds" : As),("most" : As)]),(("many_pairs" : As),(37:Ag),[("n" : As)]),(("by_hull" : As),(38:Ag),[("n" : As)]),(("pairs_of_shares" : As),(39:Ag),[("whole" : As),("n" : As)]),(("pair_bound" : As),(40:Ag),[("n" : As)]),(("by_pairs" : As),(41:Ag),[("n" : As)]),(("bar" : As),(42:Ag),[("n" : As)]),(("spare" : As),(43:Ag),[("lot" : As)]),(("pairs_by_circles" : As),(44:Ag),[("n" : As),("points" : As)]),(("most_by_circles" : As),(45:Ag),[("n" : As),("number" : As)]),(("are_fars" : As),(46:Ag),[("thing" : As)]),(("can_have" : As),(47:Ag),[("n" : As),("some" : As)]),(("_law_cell" : As),(49:Ag),[("_law_script" : As),("_law_k" : As)]),(("_law_pen" : As),(50:Ag),[("_law_cell_here" : As)]),(("_law_draw" : As),(51:Ag),[("_law_pen_here" : As),("_law_many" : As)]),(("_law_circle" : As),(52:Ag),[("_law_number" : As)]),(("_law_rich" : As),(53:Ag),[("_law_pen_here" : As),("_law_most" : As)]),(("_law_lot" : As),(54:Ag),[("_law_pen_here" : As),("_law_most" : As)]),(("_law_point" : As),(55:Ag),[("_law_pen_here" : As)]),(("_law_right" : As),(56:Ag),[("_law_lot_here" : As)]),(("law" : As),(57:Ag),[("_law_script" : As)])]
abbrev Txt (K:Ak)(mg:ag)(c:Cl):Prop:=xh K mg top tab bl (oo c) (qr c) (D3 c) (Z9 c) qu
abbrev RU:Aa As:=["by_hull","pair_bound"]
abbrev vc (a:DE):=q8 a qA
abbrev vd (a b:DE):=q8 a (vc b)
abbrev vf (a b c:DE):=q8 a (vd b c)
abbrev vg (a b c d:DE):=q8 a (vf b c d)
abbrev ic (i:Int):DE:=dC (.int i)
abbrev lm:DS:=qS (mP (qW uL (vd (q9 0) (dC (.ty "int")))) (UA (qW uL (vd (q9 0) (dC (.ty "bool"))))))
@[irreducible] def gr:DF:=sh (qL 1 lm)
theorem b9:gr=qL 1 lm:=by delta gr;exact zA _
abbrev ka:DS:=qS (mP (qF 1 gr (vc (q9 0))) (wH js js (q9 1) (q9 0) (q9 2)))
@[irreducible] def dc:DF:=sh (qL 3 ka)
theorem kZ:dc=qL 3 ka:=by delta dc;exact zA _
abbrev kb:DS:=qS (qW (bL false) (vc (zK false [none,none] (xO (eR (vd (q9 0) (mw (q9 0) (xX (ic 1)) v9)))) (lg 2 (zP (bi 0) (zP (bi 1) yH))) xU (zT (d2 lN (q9 0) (q9 1))))))
@[irreducible] def de:DF:=sh (qL 1 kb)
theorem vL:de=qL 1 kb:=by delta de;exact zA _
abbrev iw (c:Cl):DS:=e_ (wU (bx (qF 3 dc (vf (q9 0) (q9 1) (q9 2))))) aA zL
@[irreducible] def bh (c:Cl):DF:=sh (qL 3 (iw c))
theorem jA (c:Cl):bh c=qL 3 (iw c):=by delta bh;exact zA _
abbrev ln:DS:=qM (e_ (gY (wU (bx (qW uL (vd (q9 0) (dC (.ty "tuple")))))) (bx (d2 sx (qW xW (vc (q9 0))) (ic 2)))) (qS (dC (.bl false))) zL) (qS (qW (bL false) (vc (zK false [none] (nj (q9 0)) (bi 0) xU (zT (qF 3 (ou dc) (vf (q9 0) (dC (.int (-1000))) (ic 1000))))))))
@[irreducible] def gt:DF:=sh (qL 1 ln)
theorem b8:gt=qL 1 ln:=by delta gt;exact zA _
abbrev nq:DS:=qM (e_ (gY (wU (bx (qW uL (vd (q9 0) (dC (.ty "tuple")))))) (wU (bx (wH js js (ic 1) (qW xW (vc (q9 0))) (ic 40))))) (qS (dC (.bl false))) zL) (qS (mP (qW (bL false) (vc (zK false [none] (nj (q9 0)) (bi 0) xU (zT (qF 1 (ou gt) (vc (q9 0))))))) (qF 1 de (vc (q9 0)))))
@[irreducible] def jm:DF:=sh (qL 1 nq)
theorem m9:jm=qL 1 nq:=by delta jm;exact zA _
abbrev lj (c:Cl):DS:=e_ (wU (bx (qF 1 jm (vc (q9 0))))) aA zL
@[irreducible] def gq (c:Cl):DF:=sh (qL 1 (lj c))
theorem bA (c:Cl):gq c=qL 1 (lj c):=by delta gq;exact zA _
abbrev ix:DS:=qM (qR (d2 x5 (d2 il (q9 0) (ic 0)) (d2 il (q9 1) (ic 0))) (bi 2)) (qM (qR (d2 x5 (d2 il (q9 0) (ic 1)) (d2 il (q9 1) (ic 1))) (bi 3)) (qS (d2 zB (d2 z9 (q9 2) (q9 2)) (d2 z9 (q9 3) (q9 3)))))
@[irreducible] def d_:DF:=sh (qL 4 ix)
theorem j9:d_=qL 4 ix:=by delta d_;exact zA _
abbrev io:DS:=qM (qR mR (bi 1)) (qM (wD (rF (vc (q9 0))) (lg 2 (zP (bi 2) (zP (bi 3) yH))) (wD (wI (mw (q9 0) (xX (d2 zB (q9 2) (ic 1))) v9)) (bi 4) (yI (mh "list" xY (mh "dict" wM (q9 1) (vd (qF 2 d_ (vd (q9 3) (q9 4))) (k9 qA))) (vc (zV (vd (q9 3) (q9 4)))))))) (qS (q9 1)))
@[irreducible] def ce:DF:=sh (qL 5 io)
theorem uQ:ce=qL 5 io:=by delta ce;exact zA _
abbrev ke (c:Cl):DS:=qM (yI (qF 1 (gq c) (vc (q9 0)))) (qS (qW vO (vc (zK false [none,none] (xO (tQ (qF 1 ce (vc (q9 0))))) (lg 2 (zP (bi 0) (zP (bi 1) yH))) xU (zT (zV (vd (q9 0) (qW xW (vc (q9 1))))))))))
@[irreducible] def cf (c:Cl):DF:=sh (qL 1 (ke c))
theorem kY (c:Cl):cf c=qL 1 (ke c):=by delta cf;exact zA _
abbrev r_ (c:Cl):DS:=qS (zK false [none,none] (nj (qF 1 (cf c) (vc (q9 0)))) (lg 2 (zP (bi 0) (zP (bi 1) yH))) xU (zT (q9 0)))
@[irreducible] def lz (c:Cl):DF:=sh (qL 1 (r_ c))
theorem dJ (c:Cl):lz c=qL 1 (r_ c):=by delta lz;exact zA _
abbrev j_ (c:Cl):DS:=qS (qW xW (vc (qF 1 (lz c) (vc (q9 0)))))
@[irreducible] def c_ (c:Cl):DF:=sh (qL 1 (j_ c))
theorem g9 (c:Cl):c_ c=qL 1 (j_ c):=by delta c_;exact zA _
abbrev je (c:Cl):DS:=qM (qR (dC .non) (bi 1)) (qM (wD (wI (qF 1 (cf c) (vc (q9 0)))) (lg 2 (zP (bi 2) (zP (bi 3) yH))) (e_ (gY (bx (d2 yl (q9 1) (dC .non))) (bx (d2 mf (q9 3) (d2 il (q9 1) (ic 1))))) (qR (zV (vd (q9 2) (q9 3))) (bi 1)) zL)) (qS (q9 1)))
@[irreducible] def dj (c:Cl):DF:=sh (qL 4 (je c))
theorem jY (c:Cl):dj c=qL 4 (je c):=by delta dj;exact zA _
abbrev jg:DS:=qS (d2 hW (ic 1) (d2 wO (d2 zB (U9 "int" rJ (q9 0)) (ic 1)) (ic 2)))
@[irreducible] def dk:DF:=sh (qL 1 jg)
theorem jW:dk=qL 1 jg:=by delta dk;exact zA _
abbrev fx:DS:=qM (qR mR (bi 1)) (qM (qR (q9 0) (bi 2)) (qM (qR (ic 2) (bi 3)) (qM (vG (bx (d2 js (d2 z9 (q9 3) (q9 3)) (q9 2))) (e_ (bx (d2 lh (d2 xV (q9 2) (q9 3)) (ic 0))) (qM (qR (d2 zB (mh "dict" jG (q9 1) (vd (q9 3) (ic 0))) (ic 1)) (kw (q9 1) (q9 3) zZ)) (vW 2 wO (q9 3))) (vW 3 fK (ox (bx (d2 lh (q9 3) (ic 2))) (ic 1) (ic 2))))) (qM (e_ (bx (d2 mf (q9 2) (ic 1))) (qR (d2 zB (mh "dict" jG (q9 1) (vd (q9 2) (ic 0))) (ic 1)) (kw (q9 1) (q9 2) zZ)) zL) (qS (wL (q9 1)))))))
@[irreducible] def gc:DF:=sh (qL 4 fx)
theorem gB:gc=qL 4 fx:=by delta gc;exact zA _
abbrev jx:DS:=qM (qR (d2 n6 (yJ (vc (dC (.bl true)))) (d2 zB (q9 0) (ic 1))) (bi 1)) (qM (qR (ic 3) (bi 2)) (qM (vG (bx (d2 js (d2 z9 (q9 2) (q9 2)) (q9 0))) (qM (e_ (bx (d2 il (q9 1) (q9 2))) (wD (kA (vf (d2 z9 (q9 2) (q9 2)) (d2 zB (q9 0) (ic 1)) (d2 z9 (ic 2) (q9 2)))) (bi 3) (qR (dC (.bl false)) (kw (q9 1) (q9 3) zZ))) zL) (vW 2 fK (ic 2)))) (qS (d2 zB (yJ (vc (ic 2))) (zK false [none,Ab 1] (xO (kA (vf (ic 3) (d2 zB (q9 0) (ic 1)) (ic 2)))) (bi 0) (yF (bx (d2 il (q9 1) (q9 0))) xU) (zT (q9 0)))))))
@[irreducible] def gb:DF:=sh (qL 4 jx)
theorem gC:gb=qL 4 jx:=by delta gb;exact zA _
abbrev im:DS:=qM (qR mR (bi 2)) (qM (qR (q9 0) (bi 3)) (qM (wD (wI (q9 1)) (bi 4) (qM (e_ (bx (d2 mf (d2 z9 (q9 4) (q9 4)) (q9 3))) nX zL) (vG (bx (d2 lh (d2 xV (q9 3) (q9 4)) (ic 0))) (qM (qR (d2 zB (mh "dict" jG (q9 2) (vd (q9 4) (ic 0))) (ic 1)) (kw (q9 2) (q9 4) zZ)) (vW 3 wO (q9 4)))))) (qM (e_ (bx (d2 mf (q9 3) (ic 1))) (qR (ic 1) (kw (q9 2) (q9 3) zZ)) zL) (qS (wL (q9 2))))))
@[irreducible] def di:DF:=sh (qL 5 im)
theorem uR:di=qL 5 im:=by delta di;exact zA _
abbrev cx:DS:=qM (qR (ic 4) (bi 1)) (qM (wD (wI (q9 0)) (lg 2 (zP (bi 2) (zP (bi 3) yH))) (e_ (bx (d2 lh (d2 xV (q9 2) (ic 4)) (ic 1))) (vW 1 z9 (d2 zB (q9 3) (ic 1))) (e_ (yF (bx (d2 lh (d2 xV (q9 2) (ic 4)) (ic 3))) (bx (d2 lh (d2 xV (q9 3) (ic 2)) (ic 1)))) (qS (ic 0)) zL))) (qS (q9 1)))
@[irreducible] def bt:DF:=sh (qL 4 cx)
theorem yX:bt=qL 4 cx:=by delta bt;exact zA _
abbrev g_:DS:=qS (qF 1 bt (vc (qF 1 gc (vc (q9 0)))))
@[irreducible] def cp:DF:=sh (qL 1 g_)
theorem uB:cp=qL 1 g_:=by delta cp;exact zA _
abbrev gl:DS:=qM (qR (qF 1 gb (vc (qF 1 dk (vc (d2 il (q9 0) (d1 lP (ic 1))))))) (bi 1)) (qS (zK false [none,Ab 1] (nj (q9 0)) (bi 0) xU (zT (qF 1 (ou bt) (vc (qF 2 (ou di) (vd (q9 0) (q9 1))))))))
@[irreducible] def br:DF:=sh (qL 2 gl)
theorem vJ:br=qL 2 gl:=by delta br;exact zA _
abbrev jy (c:Cl):DS:=qM (yI (qF 3 (bh c) (vf (q9 0) (ic 1) (d2 uN (ic 10) (ic 12))))) (qS (qF 1 cp (vc (q9 0))))
@[irreducible] def gh (c:Cl):DF:=sh (qL 1 (jy c))
theorem gA (c:Cl):gh c=qL 1 (jy c):=by delta gh;exact zA _
abbrev cn (G:Aa D->DF)(a:Af)(Q:Aa V):DS:=qM (qR (ic 0) (bi 2)) (qM (qR (q9 1) (bi 3)) (qM (vG (bx (d2 mz (q9 2) (q9 3))) (qM (qR (d2 wO (d2 zB (q9 2) (q9 3)) (ic 2)) (bi 4)) (e_ (bx (mQ 0 (vc (q9 4)) a Q 1 G)) (qR (q9 4) (bi 3)) (qR (d2 zB (q9 4) (ic 1)) (bi 2))))) (qS (q9 2))))
abbrev jf:DS:=qS (d2 wO (d2 z9 (q9 0) (d2 x5 (q9 0) (ic 1))) (ic 2))
@[irreducible] def ci:DF:=sh (qL 1 jf)
theorem jX:ci=qL 1 jf:=by delta ci;exact zA _
abbrev mx (c:Cl):DS:=qM (yI (qF 3 (bh c) (vf (q9 0) (ic 1) (d2 uN (ic 10) (ic 18))))) (qS (gE false [0] 2 5 (vc (d2 uN (ic 10) (ic 9))) (cn (lW (d2 oh (d2 zB (d2 z9 (q9 0) (q9 0)) (q9 0)) (d2 x5 (q9 1) (ic 1)))))))
@[irreducible] def df (c:Cl):DF:=sh (qL 1 (mx c))
theorem bG (c:Cl):df c=qL 1 (mx c):=by delta df;exact zA _
abbrev fy:DS:=qM (qR (qW fJ (vd (q9 0) (q9 1))) (lg 2 (zP (bi 2) (zP (bi 3) yH)))) (qS (d2 zB (d2 z9 (q9 1) (qF 1 ci (vc (q9 2)))) (d2 z9 (q9 3) (q9 2))))
@[irreducible] def bz:DF:=sh (qL 4 fy)
theorem v8:bz=qL 4 fy:=by delta bz;exact zA _
abbrev jd (c:Cl):DS:=qM (yI (qF 3 (bh c) (vf (q9 0) (ic 1) (d2 uN (ic 10) (ic 6))))) (qS (d2 x5 (gE false [0] 2 5 (vc (d2 z9 (q9 0) (q9 0))) (cn (lW (d2 mf (qF 2 bz (vd (d2 z9 (ic 2) (q9 0)) (q9 1))) (d2 z9 (q9 1) (d2 x5 (q9 1) (ic 1))))))) (ic 1)))
@[irreducible] def bw (c:Cl):DF:=sh (qL 1 (jd c))
theorem jZ (c:Cl):bw c=qL 1 (jd c):=by delta bw;exact zA _
abbrev lr (c:Cl):DS:=qM (qR (qF 1 (bw c) (vc (q9 0))) (bi 1)) (qS (ox (bx (d2 lh (q9 0) (ic 1))) (ic 0) (d2 wO (d2 x5 (d2 zB (qF 1 ci (vc (q9 0))) (q9 1)) (ic 1)) (q9 1))))
@[irreducible] def fw (c:Cl):DF:=sh (qL 2 (lr c))
theorem b0 (c:Cl):fw c=qL 2 (lr c):=by delta fw;exact zA _
abbrev vj (c:Cl):DS:=qM (yI (qF 3 (bh c) (vf (q9 0) (ic 1) (d2 uN (ic 10) (ic 6))))) (qS (qW tY (vd (qF 1 (df c) (vc (q9 0))) (qF 1 (fw c) (vc (q9 0))))))
@[irreducible] def l_ (c:Cl):DF:=sh (qL 1 (vj c))
theorem rV (c:Cl):l_ c=qL 1 (vj c):=by delta l_;exact zA _
abbrev pc (c:Cl):DS:=qS (d2 x5 (qF 1 (c_ c) (vc (q9 0))) (qF 1 (l_ c) (vc (qW xW (vc (q9 0))))))
@[irreducible] def kz (c:Cl):DF:=sh (qL 1 (pc c))
theorem tN (c:Cl):kz c=qL 1 (pc c):=by delta kz;exact zA _
abbrev fu:DS:=qS (d2 wO (d2 z9 (q9 0) (qW tZ (vd (q9 1) (d2 x5 (q9 0) (ic 1))))) (ic 2))
@[irreducible] def bu:DF:=sh (qL 2 fu)
theorem yW:bu=qL 2 fu:=by delta bu;exact zA _
abbrev fz (c:Cl):DS:=qM (yI (qF 3 (bh c) (vf (q9 0) (ic 1) (ic 40)))) (qS (qF 2 bu (vd (q9 0) (qF 1 (gh c) (vc (q9 1))))))
@[irreducible] def b_ (c:Cl):DF:=sh (qL 2 (fz c))
theorem v7 (c:Cl):b_ c=qL 2 (fz c):=by delta b_;exact zA _
abbrev lu:DS:=qM (e_ (gY (wU (bx (qW uL (vd (q9 0) (dC (.ty "tuple")))))) (wU (bx (wH js js (ic 1) (qW xW (vc (q9 0))) (ic 100))))) (qS (dC (.bl false))) zL) (qS (mP (qW (bL false) (vc (zK false [none] (nj (q9 0)) (bi 0) xU (zT (qF 3 (ou dc) (vf (q9 0) (ic 1) (d2 uN (ic 10) (ic 12)))))))) (qF 1 de (vc (q9 0)))))
@[irreducible] def gv:DF:=sh (qL 1 lu)
theorem pZ:gv=qL 1 lu:=by delta gv;exact zA _
abbrev lq (c:Cl):DS:=qM (yI (qF 3 (bh c) (vf (q9 0) (ic 1) (ic 40)))) (qM (e_ (wU (bx (qF 1 gv (vc (q9 1))))) aA zL) (qS (d2 oh (qW eX (vc (zK false [none,Ab 0] (nj (qF 1 br (vc (q9 1)))) (bi 0) xU (zT (qF 2 (ou bu) (vd (q9 1) (q9 0))))))) (qF 1 ci (vc (q9 0))))))
@[irreducible] def gu (c:Cl):DF:=sh (qL 2 (lq c))
theorem b7 (c:Cl):gu c=qL 2 (lq c):=by delta gu;exact zA _
abbrev kh:DS:=qM (e_ (bx (d2 mz (q9 1) (qW xW (vc (q9 0))))) (qS (d2 il (q9 0) (q9 1))) zL) (qS (ic 0))
@[irreducible] def ez:DF:=sh (qL 2 kh)
theorem kU:ez=qL 2 kh:=by delta ez;exact zA _
abbrev lv:DS:=qS (k9 (vd (q9 0) (qW ZI (vc (d2 oh (q9 0) (d2 uN (ic 10) (ic 18)))))))
@[irreducible] def gw:DF:=sh (qL 1 lv)
theorem pY:gw=qL 1 lv:=by delta gw;exact zA _
abbrev kg:DS:=qM (e_ (bx (d2 lh (d2 il (q9 0) (ic 1)) (ic 1))) (qM (qR (d2 xV (d2 il (q9 0) (ic 0)) (q9 1)) (bi 2)) (qM (qR (d2 wO (d2 il (q9 0) (ic 0)) (q9 1)) (kw (q9 0) (ic 0) zZ)) (qS (q9 2)))) zL) (qM (qR (d2 xV (d2 zB (d2 z9 (d2 xV (d2 il (q9 0) (ic 0)) (ic 2147483629)) (ic 48271)) (ic 11)) (ic 2147483629)) (kw (q9 0) (ic 0) zZ)) (qS (d2 xV (d2 wO (d2 xV (d2 zB (d2 z9 (d2 il (q9 0) (ic 0)) (d2 il (q9 0) (ic 0))) (d2 z9 (ic 40692) (d2 il (q9 0) (ic 0)))) (ic 2147483647)) (ic 8)) (q9 1))))
@[irreducible] def az:DF:=sh (qL 3 kg)
theorem kW:az=qL 3 kg:=by delta az;exact zA _
abbrev iy:DS:=qM (bZ 1 2 (vd mR (yJ qA))) (qM (wD (vN (vc (ic 1001))) (bi 3) (qR (q9 3) (kw (q9 1) (d2 z9 (q9 3) (q9 3)) zZ))) (qM (wD (vN (vc (ic 1001))) (bi 4) (e_ (bx (d2 lM (d2 x5 (q9 0) (d2 z9 (q9 4) (q9 4))) (q9 1))) (qM (qR (d2 mV (q9 1) (d2 x5 (q9 0) (d2 z9 (q9 4) (q9 4)))) (bi 5)) (qM (qR (d2 zB (q9 2) (yJ (vf (zV (vd (q9 4) (q9 5))) (zV (vd (d2 x5 (ic 0) (q9 4)) (q9 5))) (zV (vd (q9 4) (d2 x5 (ic 0) (q9 5))))))) (bi 2)) (qR (d2 zB (q9 2) (yJ (vc (zV (vd (d2 x5 (ic 0) (q9 4)) (d2 x5 (ic 0) (q9 5))))))) (bi 2)))) zL)) (qS (wY false (q9 2)))))
@[irreducible] def ef:DF:=sh (qL 6 iy)
theorem j8:ef=qL 6 iy:=by delta ef;exact zA _
abbrev kf:DS:=qM (qR (ic 1) (bi 2)) (qM (wD (vN (vc (d2 zB (ic 1) (qF 2 az (vd (q9 0) (ic 6)))))) (bi 3) (qM (qR (d2 il (yJ (q8 (ic 2) (q8 (ic 5) (q8 (ic 13) (q8 (ic 17) (vg (ic 4) (ic 9) (ic 5) (ic 29))))))) (qF 2 az (vd (q9 0) (ic 8)))) (bi 4)) (e_ (bx (d2 js (d2 z9 (q9 2) (q9 4)) (q9 1))) (qR (d2 z9 (q9 2) (q9 4)) (bi 2)) zL))) (qS (q9 2)))
@[irreducible] def gj:DF:=sh (qL 5 kf)
theorem kX:gj=qL 5 kf:=by delta gj;exact zA _
abbrev lw:DS:=qM (bZ 2 3 (vd (qF 2 az (vd (q9 0) (ic 6))) (d2 zB (ic 1) (qF 2 az (vd (q9 0) (q9 1)))))) (qM (qR (zV (vd (d2 x5 (qF 2 az (vd (q9 0) (ic 21))) (ic 10)) (d2 x5 (qF 2 az (vd (q9 0) (ic 21))) (ic 10)))) (lg 2 (zP (bi 4) (zP (bi 5) yH)))) (qM (qR (d2 il (yJ (vf (ic 3) (ic 6) (ic 900))) (qF 2 az (vd (q9 0) (ic 3)))) (bi 6)) (qM (e_ (bx (d2 mz (q9 2) (ic 2))) (qR (qF 1 ef (vc (qF 2 gj (vd (q9 0) (ic 5000))))) (bi 7)) (e_ (bx (d2 lh (q9 2) (ic 2))) (qR (zK false [none] (xO (vN (vc (ic 25)))) (bi 0) xU (zT (zV (vd (d2 wO (q9 0) (ic 5)) (d2 xV (q9 0) (ic 5)))))) (bi 7)) (e_ (bx (d2 lh (q9 2) (ic 3))) (qM (qR (zK false [none] (xO (vN (vc (ic 20)))) (bi 0) xU (zT (zV (vd (d2 z9 (ic 2) (q9 0)) (d2 z9 (ic 3) (q9 0)))))) (bi 7)) (qR (d2 zB (q9 7) (zK false [none] (xO (vN (vc (ic 5)))) (bi 0) xU (zT (zV (vd (q9 0) (ic 0)))))) (bi 7))) (e_ (bx (d2 lh (q9 2) (ic 4))) (qR (yJ (q8 (zV (vd (ic 0) (ic 0))) (q8 (zV (vd (ic 0) (ic 4))) (q8 (zV (vd (ic 4) (ic 0))) (q8 (zV (vd (ic 4) (ic 4))) (q8 (zV (vd (ic 2) (ic 2))) (q8 (zV (vd (d1 lP (ic 1)) (ic 2))) (q8 (zV (vd (ic 2) (d1 lP (ic 1)))) (vg (zV (vd (ic 5) (ic 2))) (zV (vd (ic 2) (ic 5))) (zV (vd (ic 1) (ic 1))) (zV (vd (ic 6) (ic 6)))))))))))) (bi 7)) (qM (qR (k9 qA) (bi 7)) (wD (vN (vc (q9 1))) (bi 8) (qM (qR (d2 x5 (qF 2 az (vd (q9 0) (d2 zB (d2 z9 (ic 2) (q9 6)) (ic 1)))) (q9 6)) (bi 9)) (yI (mh "list" xY (q9 7) (vc (zV (vd (q9 9) (d2 x5 (qF 2 az (vd (q9 0) (q9 6))) (ic 2)))))))))))))) (qM (qR (wY true (q9 7)) (bi 7)) (qM (qR (k9 qA) (bi 10)) (qM (vG (yF (bx (d2 (fN sx) (q9 7) (k9 qA))) (bx (d2 mz (qW xW (vc (q9 10))) (q9 3)))) (yI (mh "list" xY (q9 10) (vc (mh "list" bN (q9 7) (vc (qF 2 az (vd (q9 0) (qW xW (vc (q9 7))))))))))) (qS (qW jD (vc (qW vO (vc (zK false [none,Ab 4,Ab 5] (nj (q9 10)) (bi 0) xU (zT (zV (vd (d2 zB (d2 il (q9 0) (ic 0)) (q9 1)) (d2 zB (d2 il (q9 0) (ic 1)) (q9 2)))))))))))))))))
@[irreducible] def gx:DF:=sh (qL 11 lw)
theorem pX:gx=qL 11 lw:=by delta gx;exact zA _
abbrev ji:DS:=qM (qR (d2 il (yJ (vf (ic 2) (ic 12) (ic 1000))) (qF 2 az (vd (q9 0) (ic 3)))) (bi 1)) (qS (zV (vd (d2 x5 (qF 2 az (vd (q9 0) (d2 zB (d2 z9 (ic 2) (q9 1)) (ic 1)))) (q9 1)) (d2 x5 (qF 2 az (vd (q9 0) (d2 zB (d2 z9 (ic 2) (q9 1)) (ic 1)))) (q9 1)))))
@[irreducible] def fg:DF:=sh (qL 2 ji)
theorem jU:fg=qL 2 ji:=by delta fg;exact zA _
abbrev jh (c:Cl):DS:=qM (bZ 1 2 (vd (qW xW (vc (q9 0))) (qF 1 (cf c) (vc (q9 0))))) (qM (e_ (bx (d2 mz (qF 1 (c_ c) (vc (q9 0))) (qF 1 (l_ c) (vc (q9 1))))) (qS (dC (.bl false))) zL) (qM (e_ (bx (d2 sx (qF 1 (kz c) (vc (q9 0))) (d2 x5 (qF 1 (c_ c) (vc (q9 0))) (qF 1 (l_ c) (vc (q9 1)))))) (qS (dC (.bl false))) zL) (qM (e_ (bx (d2 sx (qF 1 (l_ c) (vc (q9 1))) (qW tY (vd (qF 1 (df c) (vc (q9 1))) (qF 1 (fw c) (vc (q9 1))))))) (qS (dC (.bl false))) zL) (qM (wD (wI (q9 2)) (lg 2 (zP (bi 3) (zP (bi 4) yH))) (e_ (gY (bx (d2 mf (q9 4) (qF 1 (bw c) (vc (q9 1))))) (bx (d2 mf (q9 4) (qF 2 (b_ c) (vd (q9 1) (q9 3)))))) (qS (dC (.bl false))) zL)) (qM (e_ (bx (d2 lh (q9 2) (yJ qA))) (qS (d2 yl (qF 1 (dj c) (vc (q9 0))) (dC .non))) zL) (qM (e_ (yF (wU (bx (qF 2 (gu c) (vd (q9 1) (qW jD (vc (mw (qF 1 (lz c) (vc (q9 0))) v9 (xX (ic 100))))))))) (bx (d2 mz (qW xW (vc (q9 2))) (ic 101)))) (qS (dC (.bl false))) zL) (qS (d2 js (d2 il (qF 1 (dj c) (vc (q9 0))) (ic 1)) (qF 1 (bw c) (vc (q9 1)))))))))))
@[irreducible] def dn (c:Cl):DF:=sh (qL 5 (jh c))
theorem jV (c:Cl):dn c=qL 5 (jh c):=by delta dn;exact zA _
abbrev rq (c:Cl):DS:=qM (wD (wI (d2 zB (yJ (vc (qF 2 ez (vd (q9 0) (ic 0))))) (mw (q9 0) (xX (ic 1)) (xX (ic 6))))) (bi 1) (qM (qR (qF 1 gw (vc (q9 1))) (bi 2)) (qM (bZ 3 4 (vd (qF 2 gx (vd (q9 2) (ic 12))) (d2 zB (ic 1) (qF 2 az (vd (q9 2) (ic 5000)))))) (qM (qR (qW jD (vc (wY false (d2 zB (mw (q9 3) v9 (xX (ic 8))) (zV (vc (qF 1 fg (vc (q9 2))))))))) (bi 5)) (qM (e_ (gY (wU (bx (qF 1 (dn c) (vc (q9 3))))) (wU (bx (qF 1 (dn c) (vc (q9 5)))))) (qS (dC (.bl false))) zL) (qM (e_ (bx (d2 mf (qF 1 (df c) (vc (q9 4))) (qF 1 (df c) (vc (d2 zB (q9 4) (ic 1)))))) (qS (dC (.bl false))) zL) (qM (e_ (bx (d2 mf (qF 1 (bw c) (vc (q9 4))) (qF 1 (bw c) (vc (d2 zB (q9 4) (ic 1)))))) (qS (dC (.bl false))) zL) (e_ (bx (d2 oh (qF 1 (df c) (vc (q9 4))) (q9 4))) (qS (dC (.bl false))) zL)))))))) (qS (dC (.bl true)))
end _K
namespace _K
open _D
variable {m n:Ag}{d:D}{Q:D->ao->Prop}
theorem ND (h:Pn d)(S:ao):gr [d] S=.ok (.bl (isW d)) S:=by
 rw[b9];obtain⟨p,h⟩:=h;cases d <;> first|kernel_rfl!|simp[vz] at h
theorem tE (h:Pn d)(a b:Ah)(S:ao):dc [d,.int a,.int b] S=.ok (.bl (inR a b d)) S:=by
 rw[kZ];refine xQ (qV (aj:=[Ab d,Ab (.int a),Ab (.int b)]) rfl ?_);rfl';refine ZX ?_;rfl';refine qT (ND h S) ⟨_,rfl,λe=>?_,λe=>?_⟩
 .cases d with
  |int i=>exact d3 rfl rfl rfl ⟨rfl,rfl⟩
  |_=>cases e
 .cases d <;> first|exact⟨rfl,rfl⟩|cases e
theorem X7 (h:Pn d)(S:ao):gt [d] S=.ok (.bl (yK d)) S:=by
 rw[b8];refine xQ (qV (aj:=[Ab d]) rfl ?_);rfl';refine pO ?_;rfl';refine qT (ZM h S) ?_;rfl';refine⟨λe=>?_,λe=>?_⟩
 .rfl'
  exact⟨by rw[RI (by simpa using e)],rfl⟩
 .cases d with
  |tup G =>
   rfl';refine wV (λe=>?_) λe=>?_
   .rfl'
    refine y9 (cw:=id) (o:=none) G (λx=>.bl (ow x)) (λaj Y=>Y=S/\∃ a,aj=[a]) ((ZN rfl).trans (by rw[Ol])) ⟨rfl,none,rfl⟩ (by unfold bq;lia) (λ_ _ _=>trivial) (λx N aj Y ⟨J,a,U⟩=>?_) λaj Y ⟨J,_⟩=>?_
    .subst J U
     rfl';exact qT (tE (cS h x N) _ _ _) ⟨rfl,rfl,_,rfl⟩
    .subst J
     rfl';exact nO ⟨by rw[RG li],rfl⟩
   .rfl'
    exact⟨by rw[RH li],rfl⟩
  |_=>cases e
theorem KW (Y:Aa Pt)(O:Y.length<=1000)(S:ao):de [xJ Y] S=.ok (.bl (pr (Y.map kP))) S:=by
 rw[vL];refine xQ (qV (aj:=[Ab (.tup (Y.map cb))]) rfl ?_);rfl';have N:xO (eR (q8 (q9 0) (q8 (mw (q9 0) (xX (dC (.int 1))) v9) qA))) [Ab (.tup (Y.map cb))] S=.ok (none,(((Y.map kP).zip ((Y.map kP).drop 1)).map λp=>D.tup [fj p.1,fj p.2])) S:=by
  show aw.ok (none,yM (Y.map cb) (xH (Y.map cb) (Ab 1) none)) S=_;rw[PM,gJ,<- Um,IH]
 refine y9 _ (λp=>.bl (_H.lexLt p.1 p.2)) (λaj J=>J=S/\∃ a b,aj=[a,b]) N ⟨rfl,none,none,rfl⟩ ?_ (λ_ _ _=>trivial) (λx C aj J ⟨U,a,b,G⟩=>?_) λaj J ⟨U,_⟩=>?_
 .rw[Rx,Ao]
  unfold bq
  lia
 .subst U G
  rfl';exact qT (OO _ _ _) ⟨rfl,rfl,_,_,rfl⟩
 .subst U
  rfl';exact nO ⟨rfl,rfl⟩
theorem KS (h:Pn d)(S:ao):jm [d] S=.ok (.bl (rL d)) S:=by
 rw[m9];refine xQ (qV (aj:=[Ab d]) rfl ?_);rfl';refine pO ?_;rfl';refine qT (ZM h S) ?_;rfl';refine⟨λe=>?_,λe=>?_⟩
 .rfl'
  exact⟨by rw[M6 (by simpa using e)],rfl⟩
 .cases d with
  |tup Y =>
   rfl';refine d3 (b:=(Y.length:Ah)) rfl rfl rfl ?_;rfl';refine wV (λz=>?_) λz=>?_
   .have C:1<=Y.length/\Y.length<=40:=by lia
    rfl';refine ZX ?_;rfl';refine y9 (cw:=id) (o:=none) Y (λx=>.bl (yK x)) (λaj N=>N=S/\∃ a,aj=[a]) ((ZN rfl).trans (by rw[Ol])) ⟨rfl,none,rfl⟩ (by unfold bq;lia) (λ_ _ _=>trivial) (λx L aj N ⟨O,a,B⟩=>?_) λaj N ⟨O,_⟩=>?_
    .subst O B
     rfl';exact qT (X7 (cS h x L) _) ⟨rfl,rfl,_,rfl⟩
    .subst O
     rfl';refine nO ⟨_,rfl,λG=>?_,λG=>?_⟩
     .obtain⟨J,rfl,_⟩:=YW G
      rw[Ao] at C;rfl';refine qT (KW J li _) ⟨?_,rfl⟩;show _=D.bl (decide (1<=(J.map cb).length/\(J.map cb).length<=40)&&(J.map cb).all yK&&(match wF (J.map cb) with|some U=>pr U|none=>false))
      rw[G,Ao,Co C,gJ,uJ];rfl
     .refine⟨?_,rfl⟩
      show _=D.bl (decide (1<=Y.length/\Y.length<=40)&&Y.all yK&&(match wF Y with|some U=>pr U|none=>false))
      rw[G,So,Jp]
   .rfl'
    refine⟨?_,rfl⟩;show _=D.bl (decide (1<=Y.length/\Y.length<=40)&&Y.all yK&&(match wF Y with|some U=>pr U|none=>false))
    rw[Cs li,Jp,Jp]
  |_=>cases e
theorem iA (c:Cl){d:D}(S:ao)(h:Pn d)(k:rL d=true):gq c [d] S=.ok .non S:=by
 rw[bA];refine xQ (qV (aj:=[Ab d]) rfl ?_);rfl';refine qT (KS h S) ?_;rw[k];rfl';exact⟨rfl,rfl⟩
theorem uY (c:Cl){i a b:Ah}(S:ao)(h:a<=i/\i<=b):bh c [.int i,.int a,.int b] S=.ok .non S:=by
 rw[jA];refine xQ (qV (aj:=[Ab (.int i),Ab (.int a),Ab (.int b)]) rfl ?_);rfl';refine qT (tE (d:=.int i) ⟨_,rfl⟩ a b S) ?_;rw[show inR a b (.int i)=true from Co h]
 rfl';exact⟨rfl,rfl⟩
theorem xP {S:ao}{m:Ah}(h:u3 S p)(hm:0<m/\m<1073741824)(q:∀ (r:Ag) S1,Kp p S S1->(r:Ah)<m->Q (.int r) S1):Ok (az [.loc p,.int m] S) Q:=by
 have J:∀ r v f:Ah,0<=r->r<m->Q (.int r) (S.set p (.lst [.int v,.int f])):=λr v f O N=>by
  obtain⟨r,rfl⟩:=Jb O;obtain⟨T,I,e⟩:=h;have Y:=(Az.mp e).1;exact q r _ ⟨⟨v,f,by simp[Y]⟩,by simp,λi E C=>Cj (Gd C)⟩ N
 obtain⟨v,f,e⟩:=h;have Y:=(Az.mp e).1;rw[kW];refine qV (aj:=[Ab (.loc p),Ab (.int m),none]) rfl ?_;rfl';refine uV e (d:=.int f) rfl ?_;rfl';refine wV (λz=>?_) λz=>?_
 .rfl'
  refine uV e (d:=.int v) rfl ?_;rfl';refine uV e (d:=.int v) rfl ?_;rfl';refine cN e rfl ?_;rfl';exact J _ _ _ (Ip _ om) (Hi _ hm.1)
 .rfl'
  refine uV e (d:=.int v) rfl ?_;have hv:=Ip v (show (2147483629:Ah)≠0 by fin2)
  have L:=Hi v (show (0:Ah)<2147483629 by fin2)
  rfl';have B:=Ip (v % 2147483629*48271+11) (show (2147483629:Ah)≠0 by fin2)
  have G:=Hi (v % 2147483629*48271+11) (show (0:Ah)<2147483629 by fin2)
  generalize (v % 2147483629*48271+11) % 2147483629=w at B G;refine cN e rfl ?_;have U:(S.set p (MO.lst [.int w,.int f]))[p]? = Ab (.lst [.int w,.int f]):=by simp[Y]
  rfl';refine uV U (d:=.int w) rfl ?_;rfl';refine uV U (d:=.int w) rfl ?_;rfl';refine uV U (d:=.int w) rfl ?_;rfl';exact J _ _ _ (Ip _ om) (Hi _ hm.1)
theorem qAB {S:ao}(q:∀ p S1,u3 S1 p->Q (.loc p) S1):Ok (gw [.int x] S) Q:=by
 rw[pY];refine qV (aj:=[Ab (.int x)]) rfl ?_;rfl';refine qT (d:=.int 1000000000000000000) rfl ?_;rfl';refine qT (d:=.int (yp (decide (1000000000000000000<=x)))) rfl ?_;rfl';exact q _ _ ⟨_,_,vM _ _⟩
theorem NC (Y:Aa Ah)(O:Y.length<=63)(k:Ah){Q:Aa D->ao->Prop}{aj:qC}{S:ao}(h0:aj[0]? = Ab (Ab (.lst (Y.map D.int))))(q:∀ N:Aa Ah,Q (N.map D.int) S):Ok (wI (d2 zB (yJ (q8 (qF 2 ez (q8 (q9 0) (q8 (dC (.int 0)) qA))) qA)) (mw (q9 0) (xX (dC (.int 1))) (xX (dC (.int k))))) aj S) Q:=by
 have U:∃ x:Ah,ez [.lst (Y.map D.int),.int 0] S=.ok (.int x) S:=by
  rw[kU];cases Y with
  |nil=>exact⟨0,xQ (qV (aj:=[Ab (.lst []),Ab (.int 0)]) rfl (by rfl';exact⟨rfl,rfl⟩))⟩
  |cons n Y =>
   refine⟨n,xQ (qV (aj:=[Ab (.lst ((n::Y).map D.int)),Ab (.int 0)]) rfl ?_)⟩;rfl';refine wV (λ_=>?_) λe=>absurd (by rw[Ao,By];fin2) e
   rfl';exact BA (Z4 (a:=0) cy) ⟨rfl,rfl⟩
 obtain⟨x,J⟩:=U;refine T1 (o_2 (BB (gM (E7 (gM (o_v h0 ?_))))));rfl';refine qT J ?_;rfl';refine o_v h0 ?_;rfl';have G:xH (Y.map D.int) (Ab 1) (Ab k)=((Y.drop (_H.cc (Y.map D.int).length 0 (Ab 1))).take (_H.cc (Y.map D.int).length (Y.map D.int).length (Ab k)-_H.cc (Y.map D.int).length 0 (Ab 1))).map D.int:=by
  unfold xH;rw[AbQ,Um]
 rw[G];refine bT ?_ ⟨_,rfl,q (x::_)⟩;rw[Ao,Fl,Nd];show 1+_<=bq;unfold bq;fin2
def fq (p:Ag):Prop:=2<=p/\∀ d,d∣p->d=1\/d=p
theorem fq.dvd_mul {p a b:Ag}(hp:fq p)(h:p∣a*b):p∣a\/p∣b:=by
 rcases hp.2 (Nat.gcd p a) (Nat.gcd_dvd_left p a) with h1|h1
 .exact .inr (Nat.Coprime.dvd_of_dvd_mul_left h1 h)
 .exact .inl (h1▸Nat.gcd_dvd_right p a)
theorem fq.dvd_pow (hp:fq p)(Y:fq q):∀ {t:Ag},p∣q ^ t->p=q
 |0,h=>by
  have J:=Gx cy h
  have U:=hp.1;simp only[Wa] at J;fin2
 |t+1,h=>by
  rw[Hz] at h;rcases hp.dvd_mul h with h|h
  .exact hp.dvd_pow Y h
  .rcases Y.2 p h with e|e
   .have:=hp.1
    fin2
   .exact e
abbrev FL:=Aa (Ag × Ag)
variable {L:FL}
def xK:FL->Ag
 |[]=>1
 |x::L=>x.1 ^ x.2*xK L
structure nh (L:FL)(n:Ag):Prop where
 prm:∀ x∈L,fq x.1
 pos:∀ x∈L,1<=x.2
 nd:(L.map (·.1)).Nodup
 eq:xK L=n
theorem nh.tail {x:Ag × Ag}(h:nh (x::L) n):nh L (xK L):=
 ⟨λy Y=>h.prm y (Ap _ Y),λy Y=>h.pos y (Ap _ Y),(Dj.mp h.nd).2,rfl⟩
theorem uD (Y:fq q):∀ {L:FL},(∀ x∈L,fq x.1)->q∣xK L->∃ x∈L,x.1=q
 |[],_,h=>by
  have:=Gx cz h
  have:=Y.1;simp[xK] at *;fin2
 |x::L,J,h=>by
  rcases Y.dvd_mul (show q∣x.1 ^ x.2*xK L from h) with h|h
  .exact⟨x,Bc ..,(Y.dvd_pow (J x (Bc ..)) h).symm⟩
  .obtain⟨y,G,N⟩:=uD Y (λy U=>J y (Ap _ U)) h
   exact⟨y,Ap _ G,N⟩
noncomputable def sg (x:Ag × Ag):Ah:=if x.1 % 4=1 then (x.2:Ah)+1 else if x.1 % 4=3/\x.2 % 2=1 then 0 else 1
def qe:FL->Ah
 |[]=>1
 |x::L=>sg x*qe L
noncomputable def inc (p:Ag):FL->FL
 |[]=>[(p,1)]
 |x::L=>if x.1=p then (p,x.2+1)::L else x::inc p L
def uK (p:Ag):FL->Ag
 |[]=>0
 |x::L=>if x.1=p then x.2 else uK p L
set_option tactic.hygienic true in
theorem cT (p:Ag):∀ L:FL,xK (inc p L)=p*xK L
 |[]=>by simp[inc,xK]
 |x::L=>by
  unfold inc
  split
  .rename_i h
   simp only[xK];rw[h,Hz];rw[Hd (p ^ x.2) p,Uo]
  .simp only[xK,cT p L]
   exact Uq _ _ _
set_option tactic.hygienic true in
theorem c8 (p:Ag):∀ (L:FL) (q:Ag),q∈(inc p L).map (·.1)↔q=p\/q∈L.map (·.1)
 |[],q=>by simp[inc]
 |x::L,q=>by
  unfold inc
  split
  .rename_i h
   simp only[De,Av,h];constructor
   .rintro (h|h)
    .exact .inl h
    .exact .inr (.inr h)
   .rintro (h|h|h)
    .exact .inl h
    .exact .inl h
    .exact .inr h
  .simp only[De,Av,c8 p L q]
   constructor
   .rintro (h|h|h)
    .exact .inr (.inl h)
    .exact .inl h
    .exact .inr (.inr h)
   .rintro (h|h|h)
    .exact .inr (.inl h)
    .exact .inl h
    .exact .inr (.inr h)
set_option tactic.hygienic true in
theorem YE (p:Ag):∀ {L:FL},(L.map (·.1)).Nodup->((inc p L).map (·.1)).Nodup
 |[],_=>by simp[inc]
 |x::L,h=>by
  have Y:=Dj.mp h;unfold inc
  split
  .rename_i e
   simp only[De];rw[<- e];exact h
  .rename_i e
   simp only[De];refine Dj.mpr ⟨λhm=>?_,YE p Y.2⟩;rcases (c8 p L x.1).mp hm with J|hm
   .exact e J
   .exact Y.1 hm
theorem fO:∀ {L:FL} {x:Ag × Ag},x∈inc p L->(x.1=p/\1<=x.2)\/x∈L
 |[],x,h=>by
  have:x=(p,1):=by simpa [inc] using h
  subst this;exact .inl ⟨rfl,Aw _⟩
 |y::L,x,h=>by
  unfold inc at h
  split at h
  .rcases Av.mp h with e|h
   .subst e
    exact .inl ⟨rfl,by simp⟩
   .exact .inr (Ap _ h)
  .rcases Av.mp h with e|h
   .subst e
    exact .inr (Bc ..)
   .rcases fO h with h|h
    .exact .inl h
    .exact .inr (Ap _ h)
theorem nh.inc (h:nh L n)(hp:fq p):nh (_K.inc p L) (p*n) where
 prm:=λx hx=>by
  rcases fO hx with⟨e,_⟩|hx
  .rw[e];exact hp
  .exact h.prm x hx
 pos:=λx hx=>by
  rcases fO hx with⟨_,e⟩|hx
  .exact e
  .exact h.pos x hx
 nd:=YE p h.nd
 eq:=by rw[cT,h.eq]
theorem iT:nh [] 1:=⟨by simp,by simp,by simp,rfl⟩
def cu (L:FL):Aa (_L.be × D):=L.map λx=>(.inl (x.1:Ah),.int (x.2:Ah))
theorem VH (p:Ag):∀ L:FL,(zM (cu L) (.inl (p:Ah))).getD (.int 0)=.int (uK p L:Ah)
 |[]=>rfl
 |x::L=>by
  have J:=VH p L;unfold uK;by_cases h:x.1=p
  .rw[Bd h]
   have:zM (cu (x::L)) (.inl (p:Ah))=Ab (.int (x.2:Ah)):=by simp[zM,cu,h]
   rw[this];rfl
  .rw[Bg h]
   have Y:¬ ((Fj (x.1:Ah):_L.be)=Fj (p:Ah)):=λe=>h (by injection e with e;fin2)
   have:zM (cu (x::L)) (.inl (p:Ah))=zM (cu L) (.inl (p:Ah)):=by simp only[zM,cu,De,Kb,Y,Jy]
   rw[this];exact J
theorem LW (p:Ag)(L:FL):(cu L).any (λU=>decide (U.1=(.inl (p:Ah):_L.be)))=true↔p∈L.map (·.1):=by
 simp only[cu,List.any_map,Jo,Function.comp,Bi,Bl];constructor
 .rintro⟨x,J,Y⟩
  injection Y with Y
  exact⟨x,J,by fin2⟩
 .rintro⟨x,J,Y⟩
  exact⟨x,J,by rw[Y]⟩
theorem Y7 {p:Ag}:∀ {L:FL},p ∉ L.map (·.1)->((cu L).map λY=>if Y.1=(.inl (p:Ah):_L.be) then (Y.1,d) else Y)=cu L
 |[],_=>rfl
 |x::L,h=>by
  simp only[De,Av,Xj] at h;have J:¬ ((Fj (x.1:Ah):_L.be)=Fj (p:Ah)):=λe=>h.1 (by injection e with e;fin2)
  show (if (Fj (x.1:Ah):_L.be)=Fj (p:Ah) then _ else _)::((cu L).map _)=_
  rw[Bg J,Y7 h.2];rfl
theorem cU (p:Ag):∀ {L:FL},(L.map (·.1)).Nodup->xD (cu L) (.inl (p:Ah)) (.int ((uK p L:Ah)+1))=cu (inc p L)
 |[],_=>rfl
 |x::L,h=>by
  have O:=Dj.mp h;have C:=cU p O.2;by_cases e:x.1=p
  .have N:((cu (x::L)).any λY=>decide (Y.1=(.inl (p:Ah):_L.be)))=true:=(LW p _).mpr (by simp[e])
   have G:p ∉ L.map (·.1):=e▸O.1
   unfold xD;rw[Bd N];show (if (Fj (x.1:Ah):_L.be)=Fj (p:Ah) then _ else _)::((cu L).map _)=_
   rw[Y7 G,Bd (by rw[e])]
   simp[uK,inc,e,cu]
  .have J:¬ ((Fj (x.1:Ah):_L.be)=Fj (p:Ah)):=λq=>e (by injection q with q;fin2)
   have T:uK p (x::L)=uK p L:=by simp[uK,e]
   have B:inc p (x::L)=x::inc p L:=by simp[inc,e]
   rw[T,B];have U:((cu (x::L)).any λY=>decide (Y.1=(.inl (p:Ah):_L.be)))=((cu L).any λY=>decide (Y.1=(.inl (p:Ah):_L.be))):=by
    show (decide ((Fj (x.1:Ah):_L.be)=Fj (p:Ah))||_)=_
    rw[Cs J,Za];rfl
   unfold xD at C ⊢;rw[U];show _=(.inl (x.1:Ah),.int (x.2:Ah))::cu (inc p L);rw[<- C]
   split
   .show (if (Fj (x.1:Ah):_L.be)=Fj (p:Ah) then _ else _)::((cu L).map _)=_
    rw[Bg J]
   .rfl
theorem QC:∀ {L:FL},(∀ x∈L,fq x.1)->(∀ x∈L,1<=x.2)->2 ^ L.length<=xK L
 |[],_,_=>by simp[xK]
 |x::L,U,J=>by
  have N:=QC (L:=L) (λy Y=>U y (Ap _ Y)) (λy Y=>J y (Ap _ Y));have C:=(U x (Bc ..)).1;have B:=J x (Bc ..);have G:2<=x.1 ^ x.2:=by
   obtain⟨k,O⟩:∃ k,x.2=k+1:=⟨x.2-1,by fin2⟩
   rw[O,Hz];have:1<=x.1 ^ k:=Nat.pow_pos om
   calc 2<=1*x.1:=by fin2
    _<=x.1 ^ k*x.1:=Nb _ this
  show 2 ^ (L.length+1)<=x.1 ^ x.2*xK L;rw[Hz,Hd];exact Ez G N
theorem nh.short (h:nh L n)(J:n<=1000000000000):L.length<40:=by
 have Y:=QC h.prm h.pos;rw[h.eq] at Y;rcases Ep L.length 40 with g|g
 .exact g
 .have:2 ^ 40<=2 ^ L.length:=Rk om g
  fin2
def jr (x:Ag × Ag):D:=.tup [.int (x.1:Ah),.int (x.2:Ah)]
theorem hX (L:FL)(p:Ag)(S:ao)(aj:qC)(i j n:Ag)(G:aj[j]? = Ab (Ab (.loc n)))(hi:aj[i]? = Ab (Ab (.int (p:Ah))))(J:S[n]? = Ab (.dct (cu L)))(nd:(L.map (·.1)).Nodup)(O:L.length<4000) :
  qR (d2 zB (mh "dict" jG (q9 j) (q8 (q9 i) (q8 (dC (.int 0)) qA))) (dC (.int 1))) (kw (q9 j) (q9 i) zZ) aj S=.nx aj (S.set n (.dct (cu (inc p L)))):=by
 have U:ml (.loc n) S=Ab "dict":=by simp[ml,J]
 have N:jG (.loc n) [.int (p:Ah),.int 0] S=.ok (.int (uK p L:Ah)) S:=by
  simp only[jG,J,xI];rw[VH]
 have Y:(cu L).length<bq:=by
  simp only[cu,Ao];unfold bq;fin2
 have hs:zZ (.loc n) (.int (p:Ah)) (.int ((uK p L:Ah)+1)) S=.ok () (S.set n (.dct (cu (inc p L)))):=by
  simp only[zZ,J,xI,Y,Dq,cU p nd]
 simp only[qR,d2,mh,q9,G,hi,aw.bind,U,Gc,Dq,q8,qA,dC,N,hJ,kw,hs,aw.toS]
theorem OI (a b c:Ag)(S:ao)(aj:qC)(i j:Ag)(hi:aj[i]? = Ab (Ab (.int (a:Ah))))(J:aj[j]? = Ab (Ab (.int (b:Ah))))(U:a<1000000000):bx (d2 js (d2 z9 (q9 i) (q9 i)) (q9 j)) aj S=.ok (decide (a*a<=b)) S:=by
 have Y:=o3 (a:Ah) (a:Ah) S ⟨by fin2,by fin2⟩
 have e:decide ((a:Ah)*(a:Ah)<=(b:Ah))=decide (a*a<=b):=by
  rw[Ab4,Bi,Bi];constructor
  .intro h;exact_mod_cast h
  .intro h;exact_mod_cast h
 simp only[bx,d2,q9,hi,J,aw.bind,Y,js,i2,Dq,VD,_D.uP,e]
theorem YB (a b:Ag)(S:ao)(aj:qC)(i j:Ag)(hi:aj[i]? = Ab (Ab (.int (a:Ah))))(J:aj[j]? = Ab (Ab (.int (b:Ah))))(U:0<b):bx (d2 lh (d2 xV (q9 i) (q9 j)) (dC (.int 0))) aj S=.ok (decide (b∣a)) S:=by
 have Y:=lO (a:Ah) (b:Ah) S om;have e:decide ((a:Ah) % (b:Ah)=0)=decide (b∣a):=by
  rw[Ab4,Bi,Bi];rw[Nat.dvd_iff_mod_eq_zero];fin2
 simp only[bx,d2,q9,hi,J,dC,aw.bind,Y,vR,VD,_D.uP,e]
theorem YV {d:Ag}(U:2<=d)(h:d∣n)(hm:∀ e,2<=e->e<d->¬ e∣n):fq d:=⟨U,λe Y=>by
 have G:=Gx om Y;have J:0<e:=Qy Y om;rcases Ep e 2 with g|g
 .left;fin2
 .rcases Ep e d with g2|g2
  .exact absurd (Ur Y h) (hm e g g2)
  .right;fin2⟩
theorem t9 {d:Ag}(N:2<=n)(h:n<d*d)(hm:∀ e,2<=e->e<d->¬ e∣n):fq n:=⟨N,λe J=>by
 have B:=Gx om J;have U:0<e:=Qy J om;obtain⟨f,Y⟩:=J;by_cases O:e=1
 .exact .inl O
 .by_cases E:f=1
  .right;rw[Y,E,Qz]
  .exfalso
   have G:0<f:=by
    rcases Pa f with g|g
    .rw[g] at Y;fin2
    .exact g
   have T:d<=e:=by
    rcases Ep e d with g|g
    .exact absurd ⟨f,Y⟩ (hm e om g)
    .exact g
   have C:d<=f:=by
    rcases Ep f d with g|g
    .exact absurd ⟨e,by rw[Y,Hd]⟩ (hm f om g)
    .exact g
   have:=Ez T C;fin2⟩
theorem j3 (S:ao)(m m':MO):(S++[m]).set S.length m'=S++[m']:=by simp
theorem wB (L:FL)(S:ao)(aj:qC)(h1:aj[1]? = Ab (Ab (.loc S.length))):wL (q9 1) aj (S++[.dct (cu L)])=.ok (.lst (L.map jr)) (S++[.dct (cu L)]):=by
 have Y:(S++[MO.dct (cu L)])[S.length]? = Ab (.dct (cu L)):=by simp
 have e:((cu L).map λp=>D.tup [kD p.1,p.2])=L.map jr:=by
  unfold cu;rw[Ea];rfl
 simp only[wL,q9,h1,aw.bind,Y,e]
inductive nw (n:Ag)(S:ao)(m:Ag)(env:qC)(S':ao):Prop
 |mk (L:FL) (a qD dv:Ag) (h_0:m=2*(qD+1)-dv) (h_1:env=[Ab (.int (n:Ah)),Ab (.loc S.length),Ab (.int (qD:Ah)),Ab (.int (dv:Ah))]) (h_2:S'=S++[.dct (cu L)]) (h_3:nh L a) (h_4:a*qD=n) (h_5:1<=qD) (h_6:2<=dv) (h_7:dv<=1000002) (h_8:(dv=2\/dv % 2=1)) (h_9:∀ d,2<=d->d<dv->¬ d∣qD):nw n S m env S'
theorem KU (n:Ag)(S:ao)(v:1<=n/\n<=1000000000000):∃ (L:FL) (T:ao),gc [.int (n:Ah)] S=.ok (.lst (L.map jr)) T/\nh L n/\S<+:T:=by
 have k:Rt (fx [Ab (.int (n:Ah)),none,none,none] S) λd T=>∃ L:FL,d=.lst (L.map jr)/\nh L n/\S<+:T:=by
  unfold fx;refine gO (cI (qT (d:=.loc S.length) (S:=S++[.dct []]) rfl ?_));refine gO (cI (qT (d:=.int (n:Ah)) (S:=S++[.dct []]) rfl ?_));refine gO (cI (qT (d:=.int 2) (S:=S++[.dct []]) rfl ?_));simp only[Pb,Lj];refine gO ?_;have l:2*(n+1)<big:=by rw[bH];fin2
  refine K0 (nw n S) ?_ (n:=2*(n+1)-2) om ?_
  .rintro m aj T ⟨L,a,qD,dv,rfl,rfl,rfl,B,Y,c,I,u,w,J⟩
   have s:qD<=n:=by
    have:qD∣n:=⟨a,by rw[Hd];exact Y.symm⟩
    exact Gx om this
   have r:a<=n:=Gx om ⟨qD,Y.symm⟩;have hs:=B.short om;refine⟨decide (dv*dv<=qD),S++[.dct (cu L)],OI dv qD 0 _ _ 3 2 rfl rfl om,?_⟩;by_cases o:dv*dv<=qD
   .rw[Co o]
    simp only[Dq];have h:dv<=qD:=Ci (Ma dv om) o;have i:dv<=1000000:=by
     rcases Ep 1000000 dv with g|g
     .have:1000001*1000001<=dv*dv:=Ez g g
      fin2
     .exact g
    refine ZW (b:=decide (dv∣qD)) (S1:=S++[.dct (cu L)]) (YB qD dv _ _ 2 3 rfl rfl om) ?_;by_cases G:dv∣qD
    .rw[Co G]
     simp only[Dq];have E:(S++[MO.dct (cu L)])[S.length]? = Ab (.dct (cu L)):=by simp
     have A:=hX L dv (S++[.dct (cu L)]) [Ab (.int (n:Ah)),Ab (.loc S.length),Ab (.int (qD:Ah)),Ab (.int (dv:Ah))] 3 1 S.length rfl rfl E B.nd om;rw[j3] at A;refine E2 (fQ A ?_);obtain⟨O,U⟩:=G;have p:0<O:=by
      rcases Pa O with g|g
      .rw[g] at U;fin2
      .exact g
     have C:=FR (qD:Ah) (dv:Ah) (S++[.dct (cu (inc dv L))]) ⟨by fin2,by fin2⟩
     have t:(qD:Ah)/(dv:Ah)=(O:Ah):=by
      have:qD/dv=O:=by rw[U];exact Wb _ om
      fin2
     rw[t] at C;refine fQ (aj:=[Ab (.int (n:Ah)),Ab (.loc S.length),Ab (.int (O:Ah)),Ab (.int (dv:Ah))]) (S:=S++[.dct (cu (inc dv L))]) (by simp[qL,yO,oS,oR,ug,qM,e_,qS,zL,yI,qR,bi,kw,lg,zP,yH,bZ,uk,vW,dC,q9,d1,d2,q8,qA,qW,qF,bx,wU,gY,yF,xU,ox,mP,UA,wH,zV,yJ,k9,mh,mw,xX,v9,wI,vN,aw.bind,aw.toS,_D.uP,_D.vU,VD,uf,uh,uj,ue,mz,js,mf,oh,_D.x5,fK,C]) ?_
     have y:=YV I ⟨O,U⟩ J;refine⟨2*(O+1)-dv,?_,inc dv L,dv*a,O,dv,rfl,rfl,rfl,B.inc y,?_,p,I,u,w,λd N H q=>J d N H (U▸Pk q _)⟩
     .have:2*O<=qD:=by
       rw[U];exact Nb _ I
      fin2
     .rw[<- Y,U]
      rw[Hd dv a,Uo]
    .rw[Cs G]
     simp only[Bp,Dv];by_cases H:dv=2
     .subst H
      refine fQ (aj:=[Ab (.int (n:Ah)),Ab (.loc S.length),Ab (.int (qD:Ah)),Ab (.int ((3:Ag):Ah))]) (S:=S++[.dct (cu L)]) (by simp[qL,yO,oS,oR,ug,qM,e_,qS,zL,yI,qR,bi,kw,lg,zP,yH,bZ,uk,vW,dC,q9,d1,d2,q8,qA,qW,qF,bx,wU,gY,yF,xU,ox,mP,UA,wH,zV,yJ,k9,mh,mw,xX,v9,wI,vN,aw.bind,aw.toS,_D.uP,_D.vU,VD,uf,uh,uj,ue,mz,js,mf,oh,_D.x5,fK,vR]) ?_
      refine⟨2*(qD+1)-3,by fin2,L,a,qD,3,rfl,rfl,rfl,B,Y,c,by fin2,by fin2,by fin2,λd N q M=>?_⟩
      have:d=2:=by fin2
      subst this;exact G M
     .have z:¬ ((dv:Ah)=2):=by fin2
      refine fQ (aj:=[Ab (.int (n:Ah)),Ab (.loc S.length),Ab (.int (qD:Ah)),Ab (.int ((dv+2:Ag):Ah))]) (S:=S++[.dct (cu L)]) (by simp[qL,yO,oS,oR,ug,qM,e_,qS,zL,yI,qR,bi,kw,lg,zP,yH,bZ,uk,vW,dC,q9,d1,d2,q8,qA,qW,qF,bx,wU,gY,yF,xU,ox,mP,UA,wH,zV,yJ,k9,mh,mw,xX,v9,wI,vN,aw.bind,aw.toS,_D.uP,_D.vU,VD,uf,uh,uj,ue,mz,js,mf,oh,_D.x5,fK,vR,z]) ?_
      refine⟨2*(qD+1)-(dv+2),by fin2,L,a,qD,dv+2,rfl,rfl,rfl,B,Y,c,by fin2,by fin2,by fin2,λd N q M=>?_⟩
      rcases Ep d dv with g|g
      .exact J d N g M
      .by_cases x:d=dv
       .subst x;exact G M
       .have g3:d=dv+1:=by fin2
        have f:2∣d:=by fin2
        exact J 2 om om (Ur f M)
   .rw[Cs o]
    simp only[Bp,Dv];by_cases N:qD=1
    .subst N
     refine gO (ZW (b:=false) (S1:=S++[.dct (cu L)]) (by simp[qL,yO,oS,oR,ug,qM,e_,qS,zL,yI,qR,bi,kw,lg,zP,yH,bZ,uk,vW,dC,q9,d1,d2,q8,qA,qW,qF,bx,wU,gY,yF,xU,ox,mP,UA,wH,zV,yJ,k9,mh,mw,xX,v9,wI,vN,aw.bind,aw.toS,_D.uP,_D.vU,VD,uf,uh,uj,ue,mz,js,mf,oh,_D.x5,fK,aw.bind]) (fQ (aj:=[Ab (.int (n:Ah)),Ab (.loc S.length),Ab (.int ((1:Ag):Ah)),Ab (.int (dv:Ah))]) (S:=S++[.dct (cu L)]) rfl ?_))
     refine V7 (qT (d:=.lst (L.map jr)) (S:=S++[.dct (cu L)]) ?_ ⟨L,rfl,?_,Ek _ _⟩)
     .exact wB L S _ rfl
     .rw[Qz] at Y
      exact Y▸B
    .have y:=t9 (by fin2:2<=qD) om J
     have j:(1:Ah)<(qD:Ah):=by fin2
     have E:(S++[MO.dct (cu L)])[S.length]? = Ab (.dct (cu L)):=by simp
     have A:=hX L qD (S++[.dct (cu L)]) [Ab (.int (n:Ah)),Ab (.loc S.length),Ab (.int (qD:Ah)),Ab (.int (dv:Ah))] 2 1 S.length rfl rfl E B.nd om;rw[j3] at A;refine gO (ZW (b:=true) (S1:=S++[.dct (cu L)]) (by simp[qL,yO,oS,oR,ug,qM,e_,qS,zL,yI,qR,bi,kw,lg,zP,yH,bZ,uk,vW,dC,q9,d1,d2,q8,qA,qW,qF,bx,wU,gY,yF,xU,ox,mP,UA,wH,zV,yJ,k9,mh,mw,xX,v9,wI,vN,aw.bind,aw.toS,_D.uP,_D.vU,VD,uf,uh,uj,ue,mz,js,mf,oh,_D.x5,fK,j]) ?_)
     simp only[Dq];refine fQ A ?_;refine V7 (qT (d:=.lst ((inc qD L).map jr)) (S:=S++[.dct (cu (inc qD L))]) ?_ ⟨inc qD L,rfl,?_,Ek _ _⟩)
     .exact wB (inc qD L) S _ rfl
     .have:=B.inc y
      rw[Hd,Y] at this;exact this
  .exact⟨[],1,n,2,rfl,rfl,rfl,iT,by fin2,v.1,by fin2,by fin2,.inl rfl,λd N H=>by fin2⟩
 obtain⟨d,T,e,L,rfl,N,H⟩:=k;exact⟨L,T,by rw[gB];exact A7 rfl e,N,H⟩
theorem d9 (hp:fq p){u v:Ah}(h:(p:Ah)∣u*v):(p:Ah)∣u\/(p:Ah)∣v:=by
 rw[<- Ra,Int.natAbs_mul] at h;rw[<- Ra,<- Ra];exact hp.dvd_mul h
theorem HR (hp:fq p){u:Ah}(h:(p:Ah)∣u*u):(p:Ah)∣u:=(d9 hp h).elim id id
theorem yo (x m:Ah)(hm:0<m):∃ k c,x=m*k+c /\ -m<=2*c/\2*c<=m:=by
 have Y:=Int.mul_ediv_add_emod x m;have U:=Ip x (Int.ne_of_gt hm);have J:=Hi x hm;rcases Sb m (2*(x % m)) with g|g
 .exact⟨x/m+1,x % m-m,by grind,by fin2,by fin2⟩
 .exact⟨x/m,x % m,Y.symm,by fin2,by fin2⟩
theorem yh {c m:Ah}(h1 : -m<=2*c)(h2:2*c<=m):4*(c*c)<=m*m:=by
 have:=Es (a:=m-2*c) (b:=m+2*c) om om
 grind
theorem sv (a:Ah):0<=a*a:=by
 rw[<- Na];exact Es (sB _) (sB _)
theorem T_ {c d:Ah}(h:c*c+d*d=0):c=0/\d=0:=by
 have Y:=sv c;have J:=sv d;exact⟨(Hx.mp (show c*c=0 by fin2)).elim id id,(Hx.mp (show d*d=0 by fin2)).elim id id⟩
theorem qBY (hp:fq p):∀ m:Ag,0<m->m<p->∀ x y:Ah,x*x+y*y=m*p->∃ a b:Ah,a*a+b*b=p:=λm=>by
 induction m using Xb with
 |_ m G =>
  intro I E x y e;rcases Ep 1 m with g|g
  .have Y:(0:Ah)<m:=by fin2
   obtain⟨k,c,f,U,T⟩:=yo x m Y;obtain⟨l,d,o,d1,d2⟩:=yo y m Y;have H:=yh U T;have j:=yh d1 d2;have J:c*c+d*d=m*(p-(m*k*k+2*k*c+m*l*l+2*l*d)):=by grind
   generalize u:(p:Ah)-(m*k*k+2*k*c+m*l*l+2*l*d)=r at J;have v:r<m:=by
    have:(m:Ah)*(4*r)<=m*(2*m):=by grind
    have:=Km this Y;fin2
   have O:0<=r:=by
    have A:=sv c;have M:=sv d;have:(m:Ah)*0<=m*r:=by fin2
    exact Km this Y
   rcases Sb 0 r with z|z
   .obtain⟨q,rfl⟩:=Jb O
    refine G q om om om (k*c+l*d+q) (k*d-l*c) ?_;have:(m:Ah)*m*((k*c+l*d+q)*(k*c+l*d+q)+(k*d-l*c)*(k*d-l*c))=m*m*(q*p):=by
     have B:(m:Ah)*(k*c+l*d+q)=x*c+y*d:=by grind
     have N:(m:Ah)*(k*d-l*c)=x*d-y*c:=by grind
     have C:(x*c+y*d)*(x*c+y*d)+(x*d-y*c)*(x*d-y*c)=(x*x+y*y)*(c*c+d*d):=by grind
     rw[e,J,<- B,<- N] at C
     grind
    exact Cg (by have:=Int.mul_pos Y Y;fin2) this
   .have:r=0:=by fin2
    subst this;obtain⟨rfl,rfl⟩:=T_ (by rw[J];fin2)
    have:(m:Ah)*(m*(k*k+l*l))=m*p:=by grind
    have:=Cg om this;have:(m:Ah)∣p:=⟨_,this.symm⟩;rcases hp.2 m (Jc.mp this) with w|w <;> fin2
  .have:m=1:=by fin2
   subst this;exact⟨x,y,by rw[e];fin2⟩
theorem AS (hp:fq p){x y:Ah}(h:(p:Ah)∣x*x+y*y)(N:¬ (p:Ah)∣x):∃ a b:Ah,a*a+b*b=p:=by
 have j:=hp.1;have Y:(0:Ah)<p:=by fin2
 obtain⟨k,c,O,G,C⟩:=yo x p Y;obtain⟨l,d,A,d1,d2⟩:=yo y p Y;have H:=yh G C;have T:=yh d1 d2;obtain⟨t,B⟩:=h;have J:c*c+d*d=p*(t-(p*k*k+2*k*c+p*l*l+2*l*d)):=by grind
 generalize E:t-((p:Ah)*k*k+2*k*c+p*l*l+2*l*d)=r at J;have w:r<p:=by
  have:(p:Ah)*(4*r)<=p*(2*p):=by grind
  have:=Km this Y;fin2
 have I:=sv c;have M:=sv d;have U:0<=r:=by
  have:(p:Ah)*0<=p*r:=by fin2
  exact Km this Y
 obtain⟨q,rfl⟩:=Jb U;refine qBY hp q ?_ om c d (by rw[J,Wc])
 rcases Pa q with z|z
 .subst z
  obtain⟨rfl,rfl⟩:=T_ (by rw[J];fin2)
  exact absurd ⟨k,by rw[O];fin2⟩ N
 .exact z
theorem Q4 (a:Ah):a*a % 4=0\/a*a % 4=1:=by
 have h:a % 4=0\/a % 4=1\/a % 4=2\/a % 4=3:=by fin2
 rw[Wd];rcases h with h|h|h|h <;> rw[h] <;> decide
theorem no3 {p:Ag}(h3:p % 4=3){a b:Ah}(h:a*a+b*b=p):Fk:=by
 have J:=Q4 a;have Y:=Q4 b;fin2
theorem PV (hp:fq p)(h3:p % 4=3){x y:Ah}(h:(p:Ah)∣x*x+y*y):(p:Ah)∣x/\(p:Ah)∣y:=by
 have Y:∀ {x y:Ah},(p:Ah)∣x*x+y*y->(p:Ah)∣x:=λ{x y} h=>by
  rcases Decidable.em ((p:Ah)∣x) with g|g
  .exact g
  .obtain⟨a,b,e⟩:=AS hp h g
   exact(no3 h3 e).elim
 exact⟨Y h,Y (by rw[Int.add_comm];exact h)⟩
theorem o8 {α:Type}[NE α](f:α->α):∀ (n:Ag) (l:Aa α),l.length=n->l.Nodup->(∀ x∈l,f x∈l)->(∀ x∈l,f (f x)=x)->(l.filter λx=>decide (f x=x)).length % 2=l.length % 2:=λn=>by
 induction n using Xb with
 |_ n E =>
  intro l T H st N;cases l with
  |nil=>rfl
  |cons a t =>
   have J:=Dj.mp H;by_cases C:f a=a
   .have q:=E t.length (by rw[<- T];simp) t rfl J.2 (λx Y=>by
     rcases Av.mp (st x (Ap _ Y)) with e|e
     .have:=N x (Ap _ Y)
      rw[e,C] at this;exact absurd (this▸Y) J.1
     .exact e) λx Y=>N x (Ap _ Y)
    rw[List.filter_cons_of_pos (by simpa using C),By,By]
    fin2
   .have A:f a∈t:=(Av.mp (st a (Bc ..))).resolve_left C
    have z:f (f a)≠f a:=by
     rw[N a (Bc ..)];exact λe=>C e.symm
    have B:t.Perm (f a::t.erase (f a)):=Ym A;have M:(t.erase (f a)).length+1=t.length:=by rw[B.length_eq];rfl
    have O:(f a::t.erase (f a)).Nodup:=B.nodup_iff.mp J.2;have q:=E (t.erase (f a)).length (by rw[<- T];simp;fin2) (t.erase (f a)) rfl (Dj.mp O).2 (λx Y=>by
     have U:x∈t:=Mq Y;have G:=N x (Ap _ U);rcases Av.mp (st x (Ap _ U)) with e|e
     .rw[e] at G
      exact absurd (G▸Y:f a∈t.erase (f a)) (Dj.mp O).1
     .rcases Av.mp (B.mem_iff.mp e) with w|w
      .have:x=a:=by rw[<- G,w,N a (Bc ..)]
       exact absurd (this▸U) J.1
      .exact w) λx Y=>N x (Ap _ (Mq Y))
    have I:((a::t).filter λx=>decide (f x=x)).length=((t.erase (f a)).filter λx=>decide (f x=x)).length:=by
     rw[We (by simpa using C),(B.filter _).length_eq,We (by simpa using z)]
    rw[I,q,By,<- M];fin2
abbrev Z3:=Ah × Ah × Ah
noncomputable def up (n:Ag):Aa Ah:=(Cd n).map λi:Ag=>(i:Ah)+1
theorem gL {x:Ah}:x∈up n↔1<=x/\x<=n:=by
 unfold up;rw[Bl];refine⟨λ⟨i,h,e⟩=>?_,λh=>⟨(x-1).toNat,?_,?_⟩⟩
 .have:=Dc.mp h
  fin2
 .exact Dc.mpr om
 .omega
theorem jK {α β:Type}{f:α->β}{l:Aa α}(h:∀ a∈l,∀ b∈l,f a=f b->a=b)(nd:l.Nodup):(l.map f).Nodup:=by
 induction l with
 |nil=>exact Mt
 |cons a t N =>
  have Y:=Dj.mp nd;refine Dj.mpr ⟨λq=>?_,N (λx G y U=>h x (Ap _ G) y (Ap _ U)) Y.2⟩;obtain⟨b,J,e⟩:=Bl.mp q;exact Y.1 (h b (Ap _ J) a (Bc ..) e▸J)
theorem ZV (n:Ag):(up n).Nodup:=jK (λa _ b _ e=>by fin2) Qs
theorem t8 {α β:Type}{l:Aa α}{m:Aa β}(Y:l.Nodup)(hm:m.Nodup):(l.flatMap λx=>m.map λy=>(x,y)).Nodup:=by
 refine List.pairwise_flatMap.mpr ⟨λa _=>jK (λx _ y _ e=>(Jd e).2) hm,Y.imp λ{a b} h x U y J e=>?_⟩;obtain⟨u,_,rfl⟩:=Bl.mp U;obtain⟨v,_,rfl⟩:=Bl.mp J;exact h (Jd e).1
def yR (p:Ag):Aa Z3:=((up p).flatMap λx=>((up p).flatMap λy=>(up p).map λz=>(y,z)).map λq=>(x,q)).filter λt=>decide (t.1*t.1+4*t.2.1*t.2.2=p)
theorem uE {a b:Ah}(J:1<=a)(Y:1<=b):a<=a*b:=by
 have:=Es (a:=a) (b:=b-1) om om
 grind
theorem w9 {x y z:Ah}:(x,y,z)∈yR p↔1<=x/\1<=y/\1<=z/\x*x+4*y*z=p:=by
 unfold yR;rw[Dh,Bi];refine⟨λ⟨h,e⟩=>?_,λ⟨Y,J,U,e⟩=>⟨?_,e⟩⟩
 .obtain⟨a,C,h⟩:=Nj.mp h
  obtain⟨q,G,T⟩:=Bl.mp h;obtain⟨b,N,G⟩:=Nj.mp G;obtain⟨c,B,O⟩:=Bl.mp G;subst O;cases T;exact⟨(gL.mp C).1,(gL.mp N).1,(gL.mp B).1,e⟩
 .have E:=uE Y Y
  have H:=uE J U;have I:=uE U J;have A:x*x+4*(y*z)=p:=by rw[<- e];grind
  have M:z*y=y*z:=Wc _ _;exact Nj.mpr ⟨x,gL.mpr ⟨Y,by fin2⟩,Bl.mpr ⟨(y,z),Nj.mpr ⟨y,gL.mpr ⟨J,by fin2⟩,Bl.mpr ⟨z,gL.mpr ⟨U,by fin2⟩,rfl⟩⟩,rfl⟩⟩
theorem t7 (p:Ag):(yR p).Nodup:=Hn _ (t8 (ZV p) (t8 (ZV p) (ZV p)))
noncomputable def kR (t:Z3):Z3:=if t.1<t.2.1-t.2.2 then (t.1+2*t.2.2,t.2.2,t.2.1-t.1-t.2.2) else if t.1<2*t.2.1 then (2*t.2.1-t.1,t.2.1,t.1-t.2.1+t.2.2) else (t.1-2*t.2.1,t.1-t.2.1+t.2.2,t.2.1)
theorem OR (hp:fq p){a:Ah}(h:a*a=p):Fk:=by
 have Y:=hp.1;have d:a.natAbs∣p:=by
  rw[<- Jc,<- h];exact AbI.mpr ⟨a,rfl⟩
 have e:a.natAbs*a.natAbs=p:=by
  have:=Na a;rw[h] at this;exact Int.ofNat_inj.mp (by rw[Dm];exact this)
 rcases hp.2 _ d with w|w
 .rw[w] at e
  fin2
 .rw[w] at e
  have:=Nz p Y;fin2
theorem oN (hp:fq p)(h1:p % 4=1):∀ t∈yR p,kR t∈yR p/\kR (kR t)=t:=λ⟨x,y,z⟩ h=>by
 obtain⟨a,b,c,e⟩:=w9.mp h;have U:x≠y-z:=λw=>OR hp (a:=y+z) (by rw[<- e,w];grind)
 have G:x≠2*y:=λw=>by
  have:(p:Ah)=4*(y*y+y*z):=by rw[<- e,w];grind
  fin2
 unfold kR;dsimp only;by_cases Y:x<y-z
 .rw[Bd Y,Bg (by dsimp only;fin2),Bg (by dsimp only;fin2)]
  exact⟨w9.mpr ⟨by fin2,by fin2,by fin2,by rw[<- e];grind⟩,by dsimp only;refine Fc (by dsimp only;fin2) (Fc (by dsimp only;try fin2) (by dsimp only;try fin2))⟩
 .by_cases J:x<2*y
  .rw[Bg Y,Bd J,Bg (by dsimp only;fin2),Bd (by dsimp only;fin2)]
   exact⟨w9.mpr ⟨by fin2,by fin2,by fin2,by rw[<- e];grind⟩,by dsimp only;refine Fc (by dsimp only;fin2) (Fc (by dsimp only;try fin2) (by dsimp only;try fin2))⟩
  .rw[Bg Y,Bg J,Bd (by dsimp only;fin2)]
   exact⟨w9.mpr ⟨by fin2,by fin2,by fin2,by rw[<- e];grind⟩,by dsimp only;refine Fc (by dsimp only;fin2) (Fc (by dsimp only;try fin2) (by dsimp only;try fin2))⟩
theorem JW (hp:fq p)(h1:p % 4=1):((yR p).filter λt=>decide (kR t=t))=[((1:Ah),(1:Ah),(((p-1)/4:Ag):Ah))]:=by
 have C:=hp.1;have Y:∀ t:Z3,t∈(yR p).filter (λt=>decide (kR t=t))↔t=(1,1,(((p-1)/4:Ag):Ah)):=λ⟨x,y,z⟩=>by
  rw[Dh,Bi,w9];refine⟨λ⟨⟨a,b,c,e⟩,f⟩=>?_,λq=>?_⟩
  .unfold kR at f
   dsimp only at f;have J:x=y:=by
    split at f
    .have:=(Jd f).1
     fin2
    .split at f
     .have:=(Jd f).1
      fin2
     .have:=(Jd f).1
      fin2
   subst J;have d:(x.natAbs)∣p:=by
    rw[<- Jc,<- e];exact AbI.mpr ⟨x+4*z,by grind⟩
   have N:x=1:=by
    rcases hp.2 _ d with w|w
    .omega
    .have:x=p:=by fin2
     have O:=uE a a;have B:=uE a c;have T:x*x+4*(x*z)=p:=by rw[<- e];grind
     fin2
   subst N;refine Fc rfl (Fc rfl ?_);dsimp only;fin2
  .cases q
   refine⟨⟨by fin2,by fin2,by fin2,by fin2⟩,?_⟩
   unfold kR;dsimp only;rw[Bg om,Bd om];refine Fc (by dsimp only;fin2) (Fc rfl (by dsimp only;fin2))
 have G:((yR p).filter λt=>decide (kR t=t)).Nodup:=Hn _ (t7 p);have U:=(Nh G (l₂:=[((1:Ah),(1:Ah),(((p-1)/4:Ag):Ah))]) (Dj.mpr ⟨Ds,Mt⟩)).mpr λt=>by rw[Y t,Dn]
 exact List.perm_singleton.mp U
theorem VF (hp:fq p)(h1:p % 4=1):∃ a b:Ah,a*a+b*b=p:=by
 have J:=o8 kR _ (yR p) rfl (t7 p) (λt h=>(oN hp h1 t h).1) λt h=>(oN hp h1 t h).2;rw[JW hp h1] at J;have i2:=o8 (λt:Z3=>(t.1,t.2.2,t.2.1)) _ (yR p) rfl (t7 p) (λ⟨x,y,z⟩ h=>by
  obtain⟨a,b,c,e⟩:=w9.mp h;exact w9.mpr ⟨a,c,b,by rw[<- e];grind⟩) λt _=>rfl
 rw[<- J] at i2;cases q:(yR p).filter λt:Z3=>decide ((t.1,t.2.2,t.2.1)=t) with
 |nil=>rw[q] at i2;exact absurd i2 (λz=>by cases z)
 |cons t _ =>
  have Y:t∈(yR p).filter λt:Z3=>decide ((t.1,t.2.2,t.2.1)=t):=by rw[q];exact Bc ..
  obtain⟨x,y,z⟩:=t;rw[Dh,Bi,w9] at Y;obtain⟨⟨a,b,c,e⟩,f⟩:=Y;have g:z=y:=(Jd (Jd f).2).1;exact⟨x,2*z,by rw[<- e,<- g];grind⟩
variable {p:Ag}{a b:Ah}
abbrev Z2:=Ah × Ah
noncomputable def rng (n:Ag):Aa Ah:=(Cd (2*n+1)).map λi:Ag=>(i:Ah)-n
theorem oM {x:Ah}:x∈rng n ↔ -n<=x/\x<=n:=by
 unfold rng;rw[Bl];refine⟨λ⟨i,h,e⟩=>?_,λh=>⟨(x+n).toNat,?_,?_⟩⟩
 .have:=Dc.mp h
  fin2
 .exact Dc.mpr om
 .omega
theorem YF (n:Ag):(rng n).Nodup:=jK (λa _ b _ e=>by fin2) Qs
def qq (n:Ag):Aa Z2:=((rng n).flatMap λx=>(rng n).map λy=>(x,y)).filter λz=>decide (z.1*z.1+z.2*z.2=n)
theorem B5 (x:Ah):x<=x*x /\ -x<=x*x:=by
 rcases Sb 0 x with h|h
 .have:=uE (a:=x) (b:=x) om om
  fin2
 .rcases Sb x 0 with g|g
  .have:=uE (a:=-x) (b:=-x) om om
   have e : -x * -x=x*x:=by grind
   fin2
  .have:x=0:=by fin2
   subst this
   decide
theorem zX {x y:Ah}:(x,y)∈qq n↔x*x+y*y=n:=by
 unfold qq;rw[Dh,Bi];refine⟨λh=>h.2,λe=>⟨?_,e⟩⟩;have Y:=B5 x;have U:=B5 y;have J:=sv x;have G:=sv y;exact Nj.mpr ⟨x,oM.mpr om,Bl.mpr ⟨y,oM.mpr om,rfl⟩⟩
theorem uF (n:Ag):(qq n).Nodup:=Hn _ (t8 (YF n) (YF n))
def R (n:Ag):Ag:=(qq n).length
theorem gH {l m:Aa Z2}(Y:l.Nodup)(hm:m.Nodup)(h:∀ x y,(x,y)∈l↔(x,y)∈m):l.length=m.length:=
 ((Nh Y hm).mpr λ⟨x,y⟩=>h x y).length_eq
theorem D0 {α:Type}(A B:α->Ar):∀ {l:Aa α},(∀ z∈l,A z=true\/B z=true)->(l.filter A).length+(l.filter B).length=l.length+(l.filter λz=>A z&&B z).length
 |[],_=>rfl
 |a::t,h=>by
  have N:=D0 A B (l:=t) λz U=>h z (Ap _ U);have G:=h a (Bc ..);simp only[Kx,By];cases J:A a <;> cases Y:B a <;> simp[J,Y] at G ⊢ <;> fin2
def tu (a b:Ah)(z:Z2):Z2:=(a*z.1-b*z.2,a*z.2+b*z.1)
theorem AO (hp:fq p)(e:a*a+b*b=p){z w:Z2}(h:tu a b z=tu a b w):z=w:=by
 obtain⟨x,y⟩:=z;obtain⟨u,v⟩:=w;obtain⟨U,N⟩:=Jd h;dsimp only at U N;have O:=hp.1;have Y:(p:Ah)≠0:=by fin2
 have G:(p:Ah)*x=p*u:=by rw[<- e];grind
 have J:(p:Ah)*y=p*v:=by rw[<- e];grind
 rw[Cg Y G,Cg Y J]
theorem RD (hp:fq p)(e:a*a+b*b=p)(n:Ag):((qq (p*n)).filter λz=>decide ((p:Ah)∣a*z.1+b*z.2)).length=R n:=by
 have E:=hp.1;have J:(p:Ah)≠0:=by fin2
 rw[R,<- Ao (f:=tu a b) (as:=qq n)];refine gH (Hn _ (uF _)) (jK (λz _ w _ h=>AO hp e h) (uF n)) λx y=>?_;rw[Dh,zX,Bi,Bl];dsimp only;refine⟨λ⟨C,u,U⟩=>?_,λ⟨⟨s,t⟩,G,Y⟩=>?_⟩
 .have B:x*x+y*y=p*(n:Ah):=by rw[C];exact Dm ..
  have hs:(a*x+b*y)*(a*x+b*y)+(a*y-b*x)*(a*y-b*x)=p*(p*n):=by rw[<- B,<- e];grind
  have O:(p:Ah)∣(a*y-b*x)*(a*y-b*x):=⟨p*n-u*(a*x+b*y),by grind⟩
  obtain⟨v,hv⟩:=HR hp O;refine⟨(u,v),zX.mpr ?_,?_⟩
  .have:(p:Ah)*(p*(u*u+v*v))=p*(p*n):=by rw[<- hs,U,hv];grind
   exact Cg J (Cg J this)
  .have T:(p:Ah)*(a*u-b*v)=p*x:=by
    have:(p:Ah)*(a*u-b*v)=a*(p*u)-b*(p*v):=by grind
    rw[this,<- U,<- hv,<- e];grind
   have N:(p:Ah)*(a*v+b*u)=p*y:=by
    have:(p:Ah)*(a*v+b*u)=a*(p*v)+b*(p*u):=by grind
    rw[this,<- U,<- hv,<- e];grind
   exact Fc (Cg J T) (Cg J N)
 .have G:=zX.mp G
  cases Y;refine⟨?_,s,?_⟩
  .rw[Dm,<- G,<- e];grind
  .rw[<- e];grind
theorem YH (hp:fq p)(e:a*a+b*b=p):¬ (p:Ah)∣a:=λ⟨k,Y⟩=>by
 have N:=hp.1;have U:(p:Ah)≠0:=by fin2
 have J:(p:Ah)∣b*b:=⟨1-k*a,by rw[Int.mul_sub,<- e,Y];grind⟩
 obtain⟨j,G⟩:=HR hp J;have:(p:Ah)*(p*(k*k+j*j))=p*1:=by
  have:(p:Ah)*(p*(k*k+j*j))=a*a+b*b:=by rw[Y,G];grind
  rw[this,e];fin2
 have:=Cg U this;have O:=sv k;have C:=sv j;rcases Sb 0 (k*k+j*j) with g|g
 .have:=uE (a:=p) (b:=k*k+j*j) om om
  fin2
 .have z:k*k+j*j=0:=by fin2
  rw[z] at this;fin2
theorem W_ (hp:fq p)(h1:p % 4=1)(e:a*a+b*b=p){n:Ag}{x y:Ah}(hz:x*x+y*y=((p*n:Ag):Ah))(G:(p:Ah)∣a*x+b*y)(Y:(p:Ah)∣a*x + -b*y):∃ u v,x=p*u/\y=p*v/\(n:Ah)=p*(u*u+v*v):=by
 have T:=hp.1;have B:(p:Ah)≠0:=by fin2
 have U:¬ (p:Ah)∣2:=λh=>by
  have:=Int.le_of_dvd cz h
  have:p=2:=by fin2
  subst this;fin2
 have O:(p:Ah)∣2*(a*x):=by
  have:=Int.dvd_add G Y
  rwa [show a*x+b*y+(a*x + -b*y)=2*(a*x) by grind] at this
 have C:(p:Ah)∣2*(b*y):=by
  have:=Int.dvd_sub G Y
  rwa [show a*x+b*y-(a*x + -b*y)=2*(b*y) by grind] at this
 have N:¬ (p:Ah)∣b:=YH hp (a:=b) (b:=a) (by rw[Int.add_comm];exact e)
 obtain⟨u,J⟩:=((d9 hp (((d9 hp O).resolve_left U))).resolve_left (YH hp e));obtain⟨v,hv⟩:=((d9 hp (((d9 hp C).resolve_left U))).resolve_left N);refine⟨u,v,J,hv,?_⟩;have:(p:Ah)*n=p*(p*(u*u+v*v)):=by
  rw[<- Dm,<- hz,J,hv];grind
 exact Cg B this
theorem LK (hp:fq p)(e:a*a+b*b=p){n:Ag}{x y:Ah}(hz:x*x+y*y=((p*n:Ag):Ah)):(p:Ah)∣a*x+b*y\/(p:Ah)∣a*x + -b*y:=
 d9 hp ⟨a*a*n-y*y,by
  have:x*x+y*y=p*(n:Ah):=by rw[hz];exact Dm ..
  have:(p:Ah)*(a*a*n-y*y)=a*a*(p*n)-p*(y*y):=by grind
  rw[this,<- ‹x*x+y*y=p*(n:Ah)›,<- e];grind⟩
theorem VA (hp:fq p)(e:a*a+b*b=p):R (p*n)+((qq (p*n)).filter λz=>decide ((p:Ah)∣a*z.1+b*z.2)&&decide ((p:Ah)∣a*z.1 + -b*z.2)).length=2*R n:=by
 have Y:=RD hp e n;have U:=RD hp (a:=a) (b:=-b) (by rw[<- e];grind) n
 have:=D0 (λz:Z2=>decide ((p:Ah)∣a*z.1+b*z.2)) (λz=>decide ((p:Ah)∣a*z.1 + -b*z.2)) (l:=qq (p*n)) λ⟨x,y⟩ J=>by
  rw[Bi,Bi];exact LK hp e (zX.mp J)
 rw[Y,U] at this;unfold R at *;fin2
theorem R1a (hp:fq p)(h1:p % 4=1)(Y:¬ p∣n):R (p*n)=2*R n:=by
 obtain⟨a,b,e⟩:=VF hp h1;rw[<- VA hp e,Iy.mpr]
 .rfl
 .refine Qf.mpr λ⟨x,y⟩ J q=>?_
  rw[AT,Bi,Bi] at q;obtain⟨u,v,_,_,q⟩:=W_ hp h1 e (zX.mp J) q.1 q.2;exact Y (Jc.mp ⟨_,q⟩)
theorem R1b (hp:fq p)(h1:p % 4=1):R (p*(p*m))+R m=2*R (p*m):=by
 obtain⟨a,b,e⟩:=VF hp h1;have T:=hp.1;have J:(p:Ah)≠0:=by fin2
 rw[<- VA hp e (n:=p*m)]
 congr 1
 rw[R,<- Ao (f:=λz:Z2=>((p:Ah)*z.1,(p:Ah)*z.2)) (as:=qq m)];refine gH (jK (λz _ w _ h=>?_) (uF m)) (Hn _ (uF _)) λx y=>?_
 .obtain⟨B,C⟩:=Jd h
  exact Fc (Cg J B) (Cg J C)
 .rw[Dh,zX,AT,Bi,Bi,Bl]
  refine⟨λ⟨⟨s,t⟩,U,Y⟩=>?_,λ⟨O,N,G⟩=>?_⟩
  .have U:=zX.mp U
   cases Y;refine⟨?_,⟨a*s+b*t,by grind⟩,⟨a*s + -b*t,by grind⟩⟩
   rw[Dm,Dm,<- U];grind
  .obtain⟨u,v,rfl,rfl,q⟩:=W_ hp h1 e O N G
   refine⟨(u,v),zX.mpr ?_,rfl⟩;rw[Dm] at q;exact(Cg J q).symm
theorem R1 (hp:fq p)(h1:p % 4=1)(hm:¬ p∣m):∀ t:Ag,R (p ^ t*m)=(t+1)*R m/\R (p ^ (t+1)*m)=(t+2)*R m
 |0=>by
  rw[Wa,To,To,Hc,Nat.pow_one];exact⟨rfl,R1a hp h1 hm⟩
 |t+1=>by
  obtain⟨J,i2⟩:=R1 hp h1 hm t;refine⟨i2,?_⟩;have U:p ^ (t+1+1)*m=p*(p*(p ^ t*m)):=by rw[Hz,Hz];grind
  have Y:p ^ (t+1)*m=p*(p ^ t*m):=by rw[Hz];grind
  have:=R1b hp h1 (m:=p ^ t*m);rw[<- U,<- Y,J,i2] at this
  grind
theorem R3a (hp:fq p)(h3:p % 4=3)(J:¬ p∣n):R (p*n)=0:=by
 refine Iy.mpr (List.eq_nil_iff_forall_not_mem.mpr λ⟨x,y⟩ Y=>?_);have G:=hp.1;have U:(p:Ah)≠0:=by fin2
 have Y:=zX.mp Y;obtain⟨⟨u,rfl⟩,⟨v,rfl⟩⟩:=PV hp h3 (x:=x) (y:=y) ⟨n,by rw[Y];exact Dm ..⟩
 have:(p:Ah)*n=p*(p*(u*u+v*v)):=by rw[<- Dm,<- Y];grind
 exact J (Jc.mp ⟨_,Cg U this⟩)
theorem R3b (hp:fq p)(h3:p % 4=3):R (p*(p*m))=R m:=by
 have C:=hp.1;have J:(p:Ah)≠0:=by fin2
 rw[R,R,<- Ao (f:=λz:Z2=>((p:Ah)*z.1,(p:Ah)*z.2)) (as:=qq m)];refine(gH (jK (λz _ w _ h=>?_) (uF m)) (uF _) λx y=>?_).symm
 .obtain⟨O,N⟩:=Jd h
  exact Fc (Cg J O) (Cg J N)
 .rw[zX,Bl]
  refine⟨λ⟨⟨s,t⟩,U,Y⟩=>?_,λG=>?_⟩
  .have U:=zX.mp U
   cases Y;rw[Dm,Dm,<- U];grind
  .obtain⟨⟨u,rfl⟩,⟨v,rfl⟩⟩:=PV hp h3 (x:=x) (y:=y) ⟨((p*m:Ag):Ah),by rw[G];exact Dm ..⟩
   refine⟨(u,v),zX.mpr ?_,rfl⟩;have:(p:Ah)*(p*(u*u+v*v))=p*(p*m):=by rw[<- Dm,<- Dm,<- G];grind
   exact Cg J (Cg J this)
theorem R3 (hp:fq p)(h3:p % 4=3)(hm:¬ p∣m):∀ t:Ag,R (p ^ t*m)=if t % 2=1 then 0 else R m
 |0=>by rw[Wa,To];rfl
 |1=>by rw[Nat.pow_one,R3a hp h3 hm];rfl
 |t+2=>by
  have Y:p ^ (t+2)*m=p*(p*(p ^ t*m)):=by rw[Hz,Hz];grind
  rw[Y,R3b hp h3,R3 hp h3 hm t,Nat.add_mod_right]
theorem R2a (n:Ag):R (2*n)=R n:=by
 rw[R,R,<- Ao (f:=λz:Z2=>(z.1-z.2,z.1+z.2)) (as:=qq n)];refine(gH (jK (λz _ w _ h=>?_) (uF n)) (uF _) λx y=>?_).symm
 .obtain⟨T,B⟩:=Jd h
  exact Fc om om
 .rw[zX,Bl]
  refine⟨λ⟨⟨s,t⟩,U,Y⟩=>?_,λJ=>?_⟩
  .have U:=zX.mp U
   cases Y;rw[Dm,<- U];grind
  .have N:(x+y) % 2=0:=by
    have O:(x*x+y*y) % 2=0:=by rw[J];fin2
    have G:(x+y)*(x+y) % 2=0:=by
     have:(x+y)*(x+y)=x*x+y*y+2*(x*y):=by grind
     fin2
    rcases Ab5 (x+y) with g|g
    .exact g
    .rw[Wd,g] at G
     exact absurd G cz
   refine⟨((x+y)/2,(y-x)/2),zX.mpr ?_,Fc (by dsimp only;fin2) (by dsimp only;fin2)⟩
   generalize hs:(x+y)/2=s;generalize C:(y-x)/2=t;have:x=s-t:=by fin2
   have:y=s+t:=by fin2
   subst x y;rw[Dm] at J;have:(2:Ah)*(s*s+t*t)=2*n:=by rw[show (2:Ah)*n=((2:Ag):Ah)*n from rfl,<- J];grind
   fin2
theorem R2 (n:Ag):∀ t:Ag,R (2 ^ t*n)=R n
 |0=>by rw[Wa,To]
 |t+1=>by
  have:2 ^ (t+1)*n=2*(2 ^ t*n):=by rw[Hz];grind
  rw[this,R2a,R2 n t]
theorem II:R 1=4:=kd
theorem LP {t:Ag}(hp:fq p)(hm:¬ p∣m):(R (p ^ t*m):Ah)=(if p % 4=1 then (t:Ah)+1 else if p % 4=3/\t % 2=1 then 0 else 1)*R m:=by
 have h:p % 4=0\/p % 4=1\/p % 4=2\/p % 4=3:=by fin2
 have J:=hp.1;have Y:p % 2=0->p=2:=λh=>by
  rcases hp.2 2 (Xc h) with w|w <;> fin2
 rcases h with h|h|h|h
 .have:=Y om
  subst this;exact absurd h cz
 .rw[Bd h,(R1 hp h hm t).1]
  exact Dm ..
 .have:=Y om
  subst this;rw[R2,Bg cz,Bg (λq=>absurd q.1 cz),AaU]
 .rw[Bg om,R3 hp h hm t]
  by_cases g:t % 2=1
  .rw[Bd g,Bd ⟨h,g⟩,Int.zero_mul];rfl
  .rw[Bg g,Bg (λq=>g q.2),AaU]
end _K
namespace _K
open _D
variable {xs ns:Aa Ag}{caps:Aa D}{i m r:Ag}{M w v:Ah}{d:D}{fe:DE}{Q:D->ao->Prop}{L:FL}{P:jo->Prop}{S:ao}{aj:qC}
def uM:DS:=e_ (bx (d2 lh (d2 xV (q9 2) (dC (.int 4))) (dC (.int 1)))) (vW 1 z9 (d2 zB (q9 3) (dC (.int 1)))) (e_ (yF (bx (d2 lh (d2 xV (q9 2) (dC (.int 4))) (dC (.int 3)))) (bx (d2 lh (d2 xV (q9 3) (dC (.int 2))) (dC (.int 1))))) (qS (dC (.int 0))) zL)
def pC:DG:=lg 2 (zP (bi 2) (zP (bi 3) yH))
theorem IK:cx=qM (qR (dC (.int 4)) (bi 1)) (qM (wD (wI (q9 0)) pC uM) (qS (q9 1))):=rfl
theorem FQ (a:Al D)(m p t:Ah)(S:ao)(hm:0<=m/\m<=4000000000000)(hp:0<=p)(C:0<=t) :
  uM [a,Ab (.int m),Ab (.int p),Ab (.int t)] S=(if p % 4=1 then .nx [a,Ab (.int (m*(t+1))),Ab (.int p),Ab (.int t)] S else if p % 4=3/\t % 2=1 then .rt (.int 0) S else .nx [a,Ab (.int m),Ab (.int p),Ab (.int t)] S):=by
 have Y:=lO p 4 S om;have N:=lO t 2 S om;have O:=o3 m (t+1) S ⟨by fin2,by fin2⟩
 unfold uM;by_cases G:p % 4=1
 .simp[qL,yO,oS,oR,ug,qM,e_,qS,zL,yI,qR,bi,kw,lg,zP,yH,bZ,uk,vW,dC,q9,d1,d2,q8,qA,qW,qF,bx,wU,gY,yF,xU,ox,mP,UA,wH,zV,yJ,k9,mh,mw,xX,v9,wI,vN,aw.bind,aw.toS,_D.uP,_D.vU,VD,uf,uh,uj,ue,mz,js,mf,oh,_D.x5,fK,Y,vR,G,O,hJ]
 .by_cases J:p % 4=3
  .by_cases U:t % 2=1
   .simp[qL,yO,oS,oR,ug,qM,e_,qS,zL,yI,qR,bi,kw,lg,zP,yH,bZ,uk,vW,dC,q9,d1,d2,q8,qA,qW,qF,bx,wU,gY,yF,xU,ox,mP,UA,wH,zV,yJ,k9,mh,mw,xX,v9,wI,vN,aw.bind,aw.toS,_D.uP,_D.vU,VD,uf,uh,uj,ue,mz,js,mf,oh,_D.x5,fK,Y,N,vR,J,U]
   .simp[qL,yO,oS,oR,ug,qM,e_,qS,zL,yI,qR,bi,kw,lg,zP,yH,bZ,uk,vW,dC,q9,d1,d2,q8,qA,qW,qF,bx,wU,gY,yF,xU,ox,mP,UA,wH,zV,yJ,k9,mh,mw,xX,v9,wI,vN,aw.bind,aw.toS,_D.uP,_D.vU,VD,uf,uh,uj,ue,mz,js,mf,oh,_D.x5,fK,Y,N,vR,J,U]
  .simp[qL,yO,oS,oR,ug,qM,e_,qS,zL,yI,qR,bi,kw,lg,zP,yH,bZ,uk,vW,dC,q9,d1,d2,q8,qA,qW,qF,bx,wU,gY,yF,xU,ox,mP,UA,wH,zV,yJ,k9,mh,mw,xX,v9,wI,vN,aw.bind,aw.toS,_D.uP,_D.vU,VD,uf,uh,uj,ue,mz,js,mf,oh,_D.x5,fK,Y,vR,G,J]
theorem HP (p t:Ag)(hp:2<=p):t+1<=p ^ t:=by
 induction t with
 |zero=>simp
 |succ t Y =>
  rw[Hz];have:=Ez Y hp;fin2
theorem t6 (a:Al D)(S:ao):∀ (L:FL) (m:Ag) (e2 e3:Al D),(∀ x∈L,fq x.1)->m*xK L<=4000000000000 ->
  (∃ J j,xF pC uM (L.map jr) [a,Ab (.int (m:Ah)),e2,e3] S=.nx [a,Ab (.int ((m:Ah)*qe L)),J,j] S)\/(xF pC uM (L.map jr) [a,Ab (.int (m:Ah)),e2,e3] S=.rt (.int 0) S/\qe L=0)
 |[],m,e2,e3,_,_=>.inl ⟨e2,e3,by simp[xF,qe]⟩
 |x::L,m,e2,e3,q,p=>by
  have f:=(q x (Bc ..)).1;have G:∀ y∈L,fq y.1:=λy l=>q y (Ap _ l);have E:1<=xK L:=by
   have:∀ M:FL,(∀ y∈M,fq y.1)->1<=xK M:=by
    intro M
    induction M with
    |nil=>intro _;exact Aw _
    |cons y M t =>
     intro h;have g:=t λz e=>h z (Ap _ e);have n:1<=y.1 ^ y.2:=Nat.pow_pos (by have:=(h y (Bc ..)).1;fin2)
     exact Ez n g
   exact this L G
  have A:=HP x.1 x.2 f;have B:m*(x.1 ^ x.2*xK L)<=4000000000000:=p;have s:1<=x.1 ^ x.2*xK L:=Ez (show 1<=x.1 ^ x.2 by fin2) E
  have hm:m<=4000000000000:=Ci (Nat.le_mul_of_pos_right m s) B;have b:pC (jr x) [a,Ab (.int (m:Ah)),e2,e3] S=.ok [a,Ab (.int (m:Ah)),Ab (.int (x.1:Ah)),Ab (.int (x.2:Ah))] S:=rfl;have c:=FQ a (m:Ah) (x.1:Ah) (x.2:Ah) S ⟨by fin2,by fin2⟩ om om
  have N:xF pC uM ((x::L).map jr) [a,Ab (.int (m:Ah)),e2,e3] S=(match uM [a,Ab (.int (m:Ah)),Ab (.int (x.1:Ah)),Ab (.int (x.2:Ah))] S with
   |.nx Y I=>xF pC uM (L.map jr) Y I
   |.ct Y I=>xF pC uM (L.map jr) Y I
   |.bk Y I=>.nx Y I
   |o=>o):=by
   rw[De]
   conv=>lhs;unfold xF
   simp only[b,aw.toS] <;> cases uM [a,Ab (.int (m:Ah)),Ab (.int (x.1:Ah)),Ab (.int (x.2:Ah))] S <;> rfl
  rw[N,c];by_cases k:x.1 % 4=1
  .have T:(x.1:Ah) % 4=1:=by fin2
   rw[Bd T];have O:sg x=(x.2:Ah)+1:=by unfold sg;rw[Bd k]
   have U:((m:Ah)*((x.2:Ah)+1))=((m*(x.2+1):Ag):Ah):=by simp
   rw[U];have C:m*(x.2+1)*xK L<=4000000000000:=by
    refine Ci ?_ B;rw[Uo];exact Nz _ (Nb _ A)
   rcases t6 a S L (m*(x.2+1)) (Ab (.int (x.1:Ah))) (Ab (.int (x.2:Ah))) G C with⟨u,v,h⟩|⟨h,H⟩
   .refine .inl ⟨u,v,?_⟩
    simp only[h,qe,O];rw[<- U,Int.mul_assoc]
   .refine .inr ⟨h,?_⟩
    simp only[qe,H,Int.mul_zero]
  .have T:¬ (x.1:Ah) % 4=1:=by fin2
   rw[Bg T];by_cases e2:x.1 % 4=3/\x.2 % 2=1
   .have J:(x.1:Ah) % 4=3/\(x.2:Ah) % 2=1:=by fin2
    rw[Bd J];refine .inr ⟨rfl,?_⟩;have:sg x=0:=by unfold sg;rw[Bg k,Bd e2]
    simp only[qe,this,Int.zero_mul]
   .have J:¬ ((x.1:Ah) % 4=3/\(x.2:Ah) % 2=1):=by fin2
    rw[Bg J];have O:sg x=1:=by unfold sg;rw[Bg k,Bg e2]
    have C:m*xK L<=4000000000000:=by
     refine Ci (Nz _ ?_) B;exact Ma _ (show 0<x.1 ^ x.2 by fin2)
    rcases t6 a S L m (Ab (.int (x.1:Ah))) (Ab (.int (x.2:Ah))) G C with⟨u,v,h⟩|⟨h,H⟩
    .refine .inl ⟨u,v,?_⟩
     simp only[h,qe,O,AaU]
    .refine .inr ⟨h,?_⟩
     simp only[qe,H,Int.mul_zero]
theorem BH (L:FL)(n:Ag)(S:ao)(h:nh L n)(G:n<=1000000000000):bt [.lst (L.map jr)] S=.ok (.int (4*qe L)) S:=by
 rw[yX,IK];have hs:yO 4 [.lst (L.map jr)]=[Ab (.lst (L.map jr)),none,none,none]:=rfl;have J:wI (q9 0) [Ab (.lst (L.map jr)),Ab (.int 4),none,none] S=.ok (L.map jr) S:=rfl;rcases t6 (Ab (.lst (L.map jr))) S L 4 none none h.prm (by rw[h.eq];fin2) with⟨u,v,e⟩|⟨e,U⟩
 .have Y:xF pC uM (L.map jr) [Ab (.lst (L.map jr)),Ab (.int 4),none,none] S=_:=e
  unfold qL;rw[hs];simp only[qM,qR,dC,bi,aw.toS,wD,Pb,Lj,J,Y,qS,q9,List.getElem?_cons_zero,Pi,oS,oR];rfl
 .have Y:xF pC uM (L.map jr) [Ab (.lst (L.map jr)),Ab (.int 4),none,none] S=_:=e
  unfold qL;rw[hs];simp only[qM,qR,dC,bi,aw.toS,wD,Pb,Lj,J,Y,qS,q9,oS,oR,U];rfl
theorem HN (S:ao):uN (.int 10) (.int 12) S=.ok (.int 1000000000000) S:=rfl
theorem zk:∀ {L:FL} {n:Ag},nh L n->(R n:Ah)=4*qe L
 |[],n,h=>by
  have:n=1:=h.eq.symm;subst this;rw[II];rfl
 |x::L,n,h=>by
  have e:x.1 ^ x.2*xK L=n:=h.eq;have Y:=h.prm x (Bc ..);have N:=Dj.mp h.nd;rw[<- e,LP Y (λJ=>by
   obtain⟨y,G,O⟩:=uD Y (λy U=>h.prm y (Ap _ U)) J;exact N.1 (Bl.mpr ⟨y,G,O⟩)),zk h.tail]
  show sg x*_=4*(sg x*qe L);exact Int.mul_left_comm _ _ _
theorem _U {n:Ag}(J:1<=n/\n<=1000000000000)(h:∀ S1,S<+:S1->Q (.int (R n:Ag)) S1):Ok (cp [.int (n:Ah)] S) Q:=by
 obtain⟨L,U,e,Y,G⟩:=KU n S J;rw[uB];refine qV (aj:=[Ab (.int (n:Ah))]) rfl ?_;rfl';refine qT e ?_;rfl';refine qT (BH L n U Y J.2) ?_;have:=h U G;rw[zk Y] at this;rfl';exact this
theorem _R {n:Ag}(c:Cl)(Y:1<=n/\n<=1000000000000)(h:∀ S1,S<+:S1->Q (.int (R n:Ag)) S1):Ok (gh c [.int (n:Ah)] S) Q:=by
 rw[gA];refine qV (aj:=[Ab (.int (n:Ah))]) rfl ?_;rfl';refine qT (HN _) ?_;rfl';refine qT (uY c S li) ?_;rfl';refine _U Y λS1 J=>?_;rfl';exact h S1 J
theorem BO {g:G2}(e:aj[i]? = Ab (Ab x))(h:Ok (fe aj S) λy S1=>Ok (g x y S1) λz Y=>Wo P (.nx (aj.set i (Ab z)) Y)):Wo P (vW i g fe aj S):=by
 unfold vW;rw[e];exact uX (zG h λ_ _=>uX)
theorem E4 {a b:Ah}(h:Q (.int (a+b)) S):Ok (fK (.int a) (.int b) S) Q:=⟨_,_,rfl,h⟩
theorem _Y {n k:Ag}(h:k<n):_L.og n (k:Ah)=Ab k:=by
 unfold _L.og;rw[Bd om,Bd om];rfl
def Sv (m:Ag)(bs:Aa Ar):Prop:=bs.length=m+1/\∀ p,fq p->p<=m->bs[p]? = Ab true
theorem YM {Q:Aa D->ao->Prop}{Y:DA}(h:Ok (Y aj S) λas S1=>∃ a b c:Ah,as=[.int a,.int b,.int c]/\(-(2 ^ 40)<=a/\a<2 ^ 40)/\(-(2 ^ 40)<=b/\b<2 ^ 40)/\(0<c/\c<1073741824)/\Q (vE a c (jv a b c)) S1):Ok (kA Y aj S) Q:=qX (zG h λd S1 ⟨a,b,c,e,U,G,J,k⟩=>⟨_,S1,by
 subst e;show (match (if (-(2 ^ 40)<=a/\a<2 ^ 40)/\(-(2 ^ 40)<=b/\b<2 ^ 40)/\0<c/\c<1073741824 then Ab (vE a c (jv a b c)) else none) with|some xs=>aw.ok xs S1|none=>.bad)=_
 rw[Bd ⟨U,G,J⟩],k⟩)
theorem a9 {a b c:Ah}(Y:0<c){i:Ag}(h:i<jv a b c):a+(i:Ah)*c<b:=by
 unfold jv at h
 split at h
 .have G:0<=(b-a-1)/c:=Lz om om
  have J:(i:Ah)<=(b-a-1)/c:=by fin2
  have U:=Int.mul_le_mul_of_nonneg_right J (Go Y);have N:=Int.ediv_mul_le (b-a-1) (Int.ne_of_gt Y);fin2
 .omega
theorem MY {d:Ag}(J:3<=d):¬ fq (d*d+i*(2*d)):=λh=>by
 have e:d*d+i*(2*d)=d*(d+2*i):=by rw[Tn];rw[Uq d 2 i,Hd d i,Uq 2 i d]
 have Y:d*3<=d*(d+2*i):=Nz d om;rcases h.2 d ⟨d+2*i,e⟩ with g|g <;> fin2
theorem AH {bs:Aa Ar}(h:Sv m bs){k:Ag}(G:¬ fq k):Sv m (bs.set k false):=⟨by rw[Rp];exact h.1,λp J U=>by
 have Y:k≠p:=λe=>G (e▸J);rw[Cj Y];exact h.2 p J U⟩
def qv (bs:Aa Ar):MO:=.lst (bs.map D.bl)
theorem tW (S:ao)(x:MO):(S++[x])[S.length]? = Ab x:=vM _ _
theorem GS {d:Ag}{bs:Aa Ar}{e3:Al D}(A:M=(m:Ah))(hv:Sv m bs)(H:3<=d)(hm:m<=2000000)(G:d*d<=m)(q:∀ Y J,Sv m Y->Wo P (.nx [Ab (.int M),Ab (.loc S.length),Ab (.int (d:Ah)),J] (S++[qv Y]))) :
  Wo P (wD (kA (q8 (d2 z9 (q9 2) (q9 2)) (q8 (d2 zB (q9 0) (dC (.int 1))) (q8 (d2 z9 (dC (.int 2)) (q9 2)) qA)))) (bi 3) (qR (dC (.bl false)) (kw (q9 1) (q9 3) zZ)) [Ab (.int M),Ab (.loc S.length),Ab (.int (d:Ah)),e3] (S++[qv bs])):=by
 subst A;have I:d<=m:=Ci (Ma d om) G;have O:((d:Ah)*(d:Ah))=((d*d:Ag):Ah):=by simp
 refine BP (YM ?_);rfl';refine⟨_,_,_,rfl,?_,?_,?_,?_⟩
 .rw[O];fin2
 .omega
 .omega
 refine w6 (cw:=λi:Ag=>D.int ((d:Ah)*d+(i:Ah)*(2*(d:Ah)))) (λxs aj T=>(∀ i∈xs,i<jv ((d:Ah)*d) ((m:Ah)+1) (2*(d:Ah)))/\∃ Y J,Sv m Y/\aj=[Ab (.int (m:Ah)),Ab (.loc S.length),Ab (.int (d:Ah)),J]/\T=S++[qv Y]) (λi xs aj T ⟨E,Y,J,U,C,N⟩=>?_) (λaj T ⟨_,Y,J,U,C,N⟩=>?_) ⟨λi O=>Dc.mp O,bs,e3,hv,rfl,rfl⟩
 .subst C N
  have B:=a9 om (E i (Bc ..));have y:(d:Ah)*d+(i:Ah)*(2*(d:Ah))=((d*d+i*(2*d):Ag):Ah):=by push_cast;rfl
  rw[y] at B ⊢;rfl';refine cN (tW _ _) (j:=d*d+i*(2*d)) (_Y ?_) ?_
  .rw[Ao,U.1];fin2
  .rfl'
   refine wG ⟨λj z=>E j (Ap _ z),Y.set (d*d+i*(2*d)) false,_,AH U (MY H),rfl,?_⟩;rw[j3];unfold qv;rw[List.map_set]
 .subst C N
  exact q Y J U
def odd (i:Ag):Ag:=3+2*i
def kQ (m:Ag)(bs:Aa Ar):Aa Ag:=2::(((Cd (jv 3 ((m:Ah)+1) 2)).filter λi=>bs.getD (odd i) false).map odd)
theorem TU (h:fq p):p=2\/∃ i,p=odd i:=by
 by_cases Y:p=2
 .exact .inl Y
 .refine .inr ⟨(p-3)/2,?_⟩
  have J:=h.1;have U:¬ p % 2=0:=λe=>by
   rcases h.2 2 (Xc e) with g|g <;> fin2
  unfold odd;fin2
theorem JS {bs:Aa Ar}(h:Sv m bs){p:Ag}(hp:fq p)(hm:p<=m):p∈kQ m bs:=by
 rcases TU hp with rfl|⟨i,rfl⟩
 .exact Bc ..
 .refine Ap _ (Bl.mpr ⟨i,Dh.mpr ⟨Dc.mpr ?_,?_⟩,rfl⟩)
  .unfold odd at hm
   unfold jv;rw[Bd om];fin2
  .rw[Jv,h.2 _ hp hm]
   rfl
theorem MT (m:Ag)(bs:Aa Ar):(kQ m bs).Pairwise (· < ·):=by
 refine Do.mpr ⟨λp Y=>?_,?_⟩
 .obtain⟨i,_,rfl⟩:=Bl.mp Y
  unfold odd;fin2
 .refine Ei.mpr ((Hn _ Wv).imp λh=>?_)
  unfold odd;fin2
theorem MS {bs:Aa Ar}(hm:2<=m){p:Ag}(h:p∈kQ m bs):2<=p/\p<=m:=by
 rcases Av.mp h with rfl|h
 .exact⟨Aw _,hm⟩
 .obtain⟨i,Y,rfl⟩:=Bl.mp h
  have J:=a9 om (Dc.mp (Dh.mp Y).1);unfold odd;fin2
theorem JR {bs:Aa Ar}(hm:2<=m):(kQ m bs).length<=m:=by
 unfold kQ;rw[By,Ao];have Y:=Qw (λi=>bs.getD (odd i) false) (Cd (jv 3 ((m:Ah)+1) 2));rw[Kl] at Y;have J:jv 3 ((m:Ah)+1) 2+1<=m:=by
  unfold jv
  split
  .omega
  .omega
 fin2
def nD (n:Ag):D:=.int (n:Ah)
theorem ED {xs:Aa D}{k:Ah}(h:0<=k/\k<2 ^ 62/\xs.length*k.toNat<=bq)(q:Q (.loc S.length) (S++[.lst (Dx k.toNat xs).flatten])):Ok (n6 (.lst xs) (.int k) S) Q:=⟨_,_,Bd h,q⟩
theorem qB5 (m:Ag):Sv m (Dx (m+1) true):=⟨Xg,λp _ h=>by rw[Pc,Bd om]⟩
theorem EH {bs:Aa Ar}{e2 e3:Al D}(B:M=(m:Ah))(hm:2<=m/\m<=2000000)(hv:Sv m bs)(q:∀ S1,S<+:S1->Q (.lst ((kQ m bs).map nD)) S1) :
  Ok (d2 zB (yJ (q8 (dC (.int 2)) qA)) (zK false [none,Ab 1] (xO (kA (q8 (dC (.int 3)) (q8 (d2 zB (q9 0) (dC (.int 1))) (q8 (dC (.int 2)) qA))))) (bi 0) (yF (bx (d2 il (q9 1) (q9 0))) xU) (zT (q9 0))) [Ab (.int M),Ab (.loc S.length),e2,e3] (S++[qv bs])) Q:=by
 have j:(Cd (jv 3 (M+1) 2)).length<=2000000:=by
  rw[Kl];unfold jv
  split <;> fin2
 have I:xO (kA (q8 (dC (.int 3)) (q8 (d2 zB (q9 0) (dC (.int 1))) (q8 (dC (.int 2)) qA)))) [Ab (.int M),Ab (.loc S.length),e2,e3] (S++[qv bs])=.ok (none,(Cd (jv 3 (M+1) 2)).map λ(i:Ag)=>D.int (3+(i:Ah)*2)) (S++[qv bs]):=by
  refine xQ (qX (YM ?_));rfl';exact⟨_,_,_,rfl,by fin2,by fin2,by fin2,_,_,rfl,rfl,rfl⟩
 rfl';obtain⟨Y,e,O⟩:=DM (bn:=[none,Ab 1]) (g:=bi 0) (t:=yF (bx (d2 il (q9 1) (q9 0))) xU) (fe:=q9 0) I trivial (λi=>bs.getD (odd i) false) (λi:Ag=>D.int (3+(i:Ah)*2)) (λaj=>∃ a,aj=[a,Ab (.loc S.length)]) ⟨none,rfl⟩ (by unfold bq;fin2) (λi E aj Y ⟨a,H⟩ O=>by
  subst H;have A:(3:Ah)+(i:Ah)*2=(odd i:Ah):=by unfold odd;push_cast;fin2
  have J:odd i<bs.length:=by
   have:=a9 om (Dc.mp E);rw[hv.1];unfold odd;fin2
  have G:Y[S.length]? = Ab (qv bs):=(Oq.mp O S.length cy).trans cy
  have z:bs.getD (odd i) false=bs[odd i]:=by rw[Jv,An J];rfl
  have C:yF (bx (d2 il (q9 1) (q9 0))) xU [Ab (D.int (3+(i:Ah)*2)),Ab (.loc S.length)] Y=.ok (bs.getD (odd i) false) Y:=by
   rw[A,z];refine xQ (cJ (qBu (o_2 (o_v rfl (o_v rfl (uV G (Z4 (by rw[Ao];exact J)) ?_))))))
   rw[Vp];refine⟨_,rfl,λU=>?_,λU=>⟨U.symm,rfl⟩⟩;rw[U];exact qAH ⟨rfl,rfl⟩
  exact⟨_,Y,rfl,⟨_,rfl⟩,C,Be _,λ_=>⟨Y,rfl,Be _⟩⟩)
 refine qT e ?_;have e2:[D.int 2]++(((Cd (jv 3 (M+1) 2)).filter λi=>bs.getD (odd i) false).map λ(i:Ag)=>D.int (3+(i:Ah)*2))=(kQ m bs).map nD:=by
  unfold kQ;rw[<- B,De,Ea];refine congrArg (D.int 2::·) (Jj λi _=>?_)
  show D.int _=D.int (odd i:Ah);unfold odd
  congr 1
  push_cast
  fin2
 have T:=JR (bs:=bs) hm.1;have N:=congrArg Qk e2;rw[Cu,Ao (f:=nD)] at N;refine bT (by unfold bq;fin2) ?_
 rw[e2];exact q Y ((Ek _ _).trans O)
def _f (m:Ag)(M:Ah)(S:ao)(k:Ag)(aj:qC)(J:ao):Prop:=∃ bs d Y,k=2000005-d/\Sv m bs/\3<=d/\d<=2000002/\aj=[Ab (.int M),Ab (.loc S.length),Ab (.int (d:Ah)),Y]/\J=S++[qv bs]
theorem iC (hm:2<=m/\m<=2000000)(q:∀ bs S1,Sv m bs->S<+:S1->Q (.lst ((kQ m bs).map nD)) S1):Ok (gb [.int (m:Ah)] S) Q:=by
 rw[gC];obtain⟨M,C⟩:∃ M:Ah,M=(m:Ah):=⟨_,rfl⟩;rw[<- C];refine qV (aj:=[Ab (.int M),none,none,none]) rfl ?_;refine XM (qAv (o_2 ?_));refine BB (gM (o_c (rO ?_)));refine⟨Rb rfl,?_⟩;refine o_2 (o_v rfl (o_c (OT ?_)));obtain⟨k,T⟩:∃ k:Ah,k=M+1:=⟨_,rfl⟩;rw[<- T];have B:([D.bl true]:Aa D).length*k.toNat<=bq:=by
  show 1*k.toNat<=bq;unfold bq;fin2
 refine ED ⟨by fin2,by fin2,B⟩ ?_
 have g:MO.lst (Dx k.toNat [D.bl true]).flatten=qv (Dx (m+1) true):=by
  rw[show k.toNat=m+1 by fin2,List.flatten_replicate_singleton]
  unfold qv;rw[List.map_replicate]
 rw[g];refine qBs ?_;refine kS ?_;dsimp only[Pb,Lj];rfl';have I:2000006<big:=by rw[bH];fin2
 refine fY (_f m M S) (λk aj H ⟨bs,d,l,T,hv,j,p,o,z⟩=>?_) (n:=2000002) om ⟨_,3,none,rfl,qB5 m,by fin2,by fin2,rfl,rfl⟩
 subst o z T;have u:((d:Ah)*(d:Ah))=((d*d:Ag):Ah):=by simp
 rfl';refine⟨λE=>?_,λE=>?_⟩
 .have N:d*d<=m:=by have:=Bs E;rw[u] at this;fin2
  have A:d<=m:=Ci (Ma d om) N;have U:d<(bs.map D.bl).length:=by rw[Ao,hv.1];fin2
  have O:∀ {P:jo->Prop} Y J,Sv m Y->Wo (zd (_f m M S) (2000005-d) P) (vW 2 fK (dC (.int 2)) [Ab (.int M),Ab (.loc S.length),Ab (.int (d:Ah)),J] (S++[qv Y])):=λ{P} Y J G=>by
   refine BO rfl (o_c (E4 ?_));exact fB (2000005-(d+2)) om ⟨Y,d+2,J,rfl,G,by fin2,by fin2,by push_cast;rfl,rfl⟩
  rfl';refine uV (tW _ _) (Z4 U) ?_;rw[Vp];rfl';cases bs[d]'(by rw[Ao] at U;exact U) with
  |false =>
   rfl';exact O bs l hv
  |true =>
   exact w_t (GS C hv j hm.2 N λY J G=>kS (O Y J G))
 .exact kS (rR (EH C hm hv λH y=>l8 (q bs H hv y)))
theorem HS:∀ e:Ag,2<=e->∃ p,fq p/\p∣e:=λe=>by
 induction e using Xb with
 |_ e O =>
  intro h;by_cases J:fq e
  .exact⟨e,J,Nat.dvd_refl _⟩
  .have:¬ ∀ d,d∣e->d=1\/d=e:=λk=>J ⟨h,k⟩
   obtain⟨d,U⟩:=Classical.not_forall.mp this;have Y:d∣e:=Fa λk=>U λz=>absurd z k;have N:¬ (d=1\/d=e):=λk=>U λ_=>k;have B:=Gx om Y;have J:=Qy Y om;obtain⟨p,G,C⟩:=O d om om;exact⟨p,G,Ur C Y⟩
theorem cG {d:Ag}(h:∀ p,fq p->p∣r->d<=p):∀ e,2<=e->e<d->¬ e∣r:=λe G C J=>by
 obtain⟨p,U,Y⟩:=HS e G;have N:=h p U (Ur Y J);have O:=Gx om Y;fin2
theorem _F {J:DS}(e:J aj S=.nx Y U)(h:Wo P (.nx Y U)):Wo P (J aj S):=by
 rw[e];exact h
theorem JD (h1:aj[i]? = Ab (Ab (.loc S.length))):wL (q9 i) aj (S++[.dct (cu L)])=.ok (.lst (L.map jr)) (S++[.dct (cu L)]):=by
 have Y:(S++[MO.dct (cu L)])[S.length]? = Ab (.dct (cu L)):=by simp
 have e:((cu L).map λp=>D.tup [kD p.1,p.2])=L.map jr:=by
  unfold cu;rw[Ea];rfl
 simp only[wL,q9,h1,aw.bind,Y,e]
theorem PH {p:Ag}:∀ {L:FL},p ∉ L.map (·.1)->uK p L=0
 |[],_=>rfl
 |x::L,h=>by
  rw[De,Av,Xj] at h;unfold uK;rw[Bg (Gd h.1)];exact PH h.2
structure Lf (n m:Ag)(xs:Aa Ag)(L:FL)(a r:Ag):Prop where
 fac:nh L a
 eq:a*r=n
 pos:1<=r
 prm:∀ p,fq p->p∣r->p∈xs\/m<p
theorem Lf.small {a:Ag}(h:Lf n m xs L a r)(Y:1<=n/\n<=1000000000000):r<=1000000000000/\L.length<40:=by
 have J:r<=n:=Gx om ⟨a,by rw[Hd];exact h.eq.symm⟩
 have U:a<=n:=Gx om ⟨r,h.eq.symm⟩;exact⟨by fin2,h.fac.short om⟩
theorem Lf.low {n x:Ag}{a:Ag}(h:Lf n m (x::xs) L a r)(up:(x::xs).Pairwise (· < ·))(U:x<=m):∀ e,2<=e->e<x->¬ e∣r:=cG λp J Y=>by
 rcases h.prm p J Y with g|g
 .rcases Av.mp g with g|g
  .omega
  .have:=(Do.mp up).1 p g
   fin2
 .omega
theorem Lf.step {n x:Ag}{a:Ag}(h:Lf n m (x::xs) L a (x*r))(up:(x::xs).Pairwise (· < ·))(Y:2<=x/\x<=m):Lf n m (x::xs) (inc x L) (x*a) r where
 fac:=h.fac.inc (YV Y.1 ⟨r,rfl⟩ (h.low up Y.2))
 eq:=by rw[<- h.eq,Hd x a,Uo]
 pos:=by
  rcases Pa r with g|g
  .have:=h.pos
   rw[g] at this;fin2
  .exact g
 prm:=λp U J=>h.prm p U (Pk J _)
theorem Lf.next {n x:Ag}{a:Ag}(h:Lf n m (x::xs) L a r)(J:¬ x∣r):Lf n m xs L a r:=⟨h.fac,h.eq,h.pos,λp U Y=>by
 rcases h.prm p U Y with g|g
 .rcases Av.mp g with g|g
  .exact absurd (g▸Y) J
  .exact .inl g
 .exact .inr g⟩
theorem MZ {n:Ag}{ps:Aa Ag}(hn:1<=n/\n<=1000000000000)(hm:m<=2000000/\n<(m+1)*(m+1))(up:ps.Pairwise (· < ·))(zb:∀ p∈ps,2<=p/\p<=m)(u:∀ p,fq p->p<=m->p∈ps)
  (q:∀ L S1,nh L n->S<+:S1->Q (.lst (L.map jr)) S1):Ok (di [.int (n:Ah),.lst (ps.map nD)] S) Q:=by
 have E:∀ {L:FL} {a r:Ag} {B:Al D},nh L a->a*r=n->1<=r->(∀ y∈L,¬ y.1∣r)->(2<=r->fq r)->Wo (ZE Q) (qM (e_ (bx (d2 mf (q9 3) (dC (.int 1)))) (qR (dC (.int 1)) (kw (q9 2) (q9 3) zZ)) zL) (qS (wL (q9 2))) [Ab (.int (n:Ah)),Ab (.lst (ps.map nD)),Ab (.loc S.length),Ab (.int (r:Ah)),B] (S++[.dct (cu L)])):=by
  intro L a r B c t f Y O;have zl:a<=n:=Gx om ⟨r,t.symm⟩;have hs:=c.short om;have G:∀ {M:FL},nh M n->Wo (ZE Q) (qS (wL (q9 2)) [Ab (.int (n:Ah)),Ab (.lst (ps.map nD)),Ab (.loc S.length),Ab (.int (r:Ah)),B] (S++[.dct (cu M)])):=λhM=>rR (qT (JD rfl) (l8 (q _ _ hM (Ek _ _))));rfl';refine wV (λh1=>?_) λh1=>?_
  .have s:2<=r:=by fin2
   have z:r ∉ L.map (·.1):=λhx=>by
    obtain⟨y,hy,e⟩:=Bl.mp hx;exact Y y hy ⟨1,by rw[Qz];exact e.symm⟩
   have o:xD (cu L) (.inl (r:Ah)) (.int 1)=cu (inc r L):=by
    have:=cU r c.nd;rw[PH z] at this;exact this
   rfl';refine YN (tW _ _) (by simp only[cu,Ao];unfold bq;fin2) ?_
   rw[j3,o];refine kS (G ?_);have:=c.inc (O s);rw[Hd,t] at this;exact this
  .have:r=1:=by fin2
   subst this;refine I8 (kS (G ?_));rw[Qz] at t;exact t▸c
 rw[uR];refine qV (aj:=[Ab (.int (n:Ah)),Ab (.lst (ps.map nD)),none,none,none]) rfl ?_;rfl';refine w6 (cw:=λk:Ag=>D.int (k:Ah)) (λxs aj T=>∃ L a r B,Lf n m xs L a r/\(∀ y∈L,¬ y.1∣r)/\xs.Pairwise (· < ·) /\ (∀ p∈xs,2<=p/\p<=m)/\aj=[Ab (.int (n:Ah)),Ab (.lst (ps.map nD)),Ab (.loc S.length),Ab (.int (r:Ah)),B]/\T=S++[.dct (cu L)]) (λx xs aj T ⟨L,a,r,B,h,Y,J,C,A,I⟩=>?_) (λaj T ⟨L,a,r,B,h,Y,J,C,A,I⟩=>?_) ⟨[],1,n,none,⟨iT,by fin2,hn.1,λp O _=>?_⟩,cy,up,zb,rfl,rfl⟩
 .subst A I
  obtain⟨H,l⟩:=C x (Bc ..);have hi:((x:Ah)*(x:Ah))=((x*x:Ag):Ah):=by simp
  rfl';refine wV (λU=>?_) λU=>?_
  .rw[hi] at U
   rfl';refine AZ (kS (E h.fac h.eq h.pos Y λf=>t9 f (show r<x*x by fin2) (h.low J l)))
  .rfl'
   have b:=h.small hn;have zc:1000000000001<big:=by rw[bH];fin2
   refine fY (λk aj T=>∃ L a r,r=k/\Lf n m (x::xs) L a r/\(∀ y∈L,y.1=x\/¬ y.1∣r)/\aj=[Ab (.int (n:Ah)),Ab (.lst (ps.map nD)),Ab (.loc S.length),Ab (.int (r:Ah)),Ab (.int (x:Ah))]/\T=S++[.dct (cu L)]) (λk aj T ⟨L,a,r,hk,h,Y,A,I⟩=>?_) (n:=r) om ⟨L,a,r,rfl,h,λy hy=>.inr (Y y hy),rfl,rfl⟩;subst A I hk;have b:=h.small hn;refine qT (YB r x _ _ 3 4 rfl rfl om) ⟨λU=>?_,λU=>?_⟩
   .obtain⟨N,rfl⟩:=Bs U
    have j:=h.step J ⟨H,l⟩;have i1:=hX L x (S++[.dct (cu L)]) [Ab (.int (n:Ah)),Ab (.lst (ps.map nD)),Ab (.loc S.length),Ab (.int ((x*N:Ag):Ah)),Ab (.int (x:Ah))] 4 2 S.length rfl rfl (tW _ _) h.fac.nd om;rw[j3] at i1;refine XM (_F i1 (kS ?_));refine BO rfl ?_;rfl';have hq:((x*N:Ag):Ah)/(x:Ah)=(N:Ah):=by
     have:x*N/x=N:=Wb _ om;fin2
    rw[hq];refine fB N ?_ ⟨inc x L,x*a,N,rfl,j,λy hy=>?_,rfl,rfl⟩
    .have:=Nb N H
     have:=j.pos;fin2
    .rcases fO hy with⟨e,_⟩|hy
     .exact .inl e
     .rcases Y y hy with e|e
      .exact .inl e
      .exact .inr λhd=>e (Pk hd _)
   .have U:¬ x∣r:=Il U
    refine wG ⟨L,a,r,_,h.next U,λy hy=>?_,(Do.mp J).2,λp O=>C p (Ap _ O),rfl,rfl⟩;rcases Y y hy with e|e
    .rw[e];exact U
    .exact e
 .subst A I
  refine kS (E h.fac h.eq h.pos Y λf=>t9 (d:=m+1) f ?_ (cG λp O hd=>?_))
  .have:r<=n:=Gx om ⟨a,by rw[Hd];exact h.eq.symm⟩
   fin2
  .rcases h.prm p O hd with g|g
   .cases g
   .omega
 .rcases Ep m p with g|g
  .exact .inr g
  .exact .inl (u p O g)
theorem qAm (i:Ah)(S:ao)(h:0<=i/\i<=1000000):hW (.int 1) (.int i) S=.ok (.int (2 ^ i.toNat)) S:=by
 unfold hW i2 VY;have:(Int.natAbs 1)<2 ^ 64:=by decide
 simp[h,this]
theorem BU (n:Ah)(h:0<=n/\n<=1000000000000):Kz n<=40/\n<2 ^ (Kz n):=by
 unfold Kz;by_cases z:n=0
 .subst z;simp
 .have J:(n == 0)=false:=by simp[z]
  rw[J];obtain⟨m,rfl⟩:∃ m:Ag,n=m:=⟨n.toNat,by fin2⟩
  have Y:m≠0:=by fin2
  simp only[Bp,Dv,Int.natAbs_natCast];refine⟨?_,?_⟩
  .have:m.log2<40:=(Nat.log2_lt Y).mpr om
   fin2
  .have:=@Nat.lt_log2_self m
   exact_mod_cast this
theorem FU (B:Ag)(n:Ah)(Y:B<=40/\n<2 ^ B):∃ q T:Ag,((B:Ah)+1)/2=q/\q<=20/\(2:Ah) ^ q=T/\T<=1048576/\n<(T:Ah)*T:=by
 refine⟨(B+1)/2,2 ^ ((B+1)/2),by fin2,by fin2,by push_cast;rfl,?_,?_⟩
 .have:(2:Ag) ^ ((B+1)/2)<=2 ^ 20:=Rk cz om
  exact this
 .have:(2:Ag) ^ B<=2 ^ ((B+1)/2)*2 ^ ((B+1)/2):=by rw[<- Nat.pow_add];exact Rk cz om
  have J:(2:Ah) ^ B<=((2 ^ ((B+1)/2):Ag):Ah)*((2 ^ ((B+1)/2):Ag):Ah):=by exact_mod_cast this
  fin2
theorem EF {n:Ah}(h:0<=n/\n<=1000000000000)(q:∀ T:Ag,T<=1048576->n<(T:Ah)*T->Q (.int T) S):Ok (dk [.int n] S) Q:=by
 obtain⟨k,T,J,N,Y,U,G⟩:=FU _ n (BU n h);rw[jW];refine qV (aj:=[Ab (.int n)]) rfl ?_;rfl';refine qT (d:=.int (Kz n)) (S:=S) rfl ?_;rfl';rw[J];refine qT (qAm (k:Ah) S ⟨by lia,by lia⟩) ?_
 rw[Gh,Y];rfl';exact q T U G
def rr (n:Ag):Ah:=(R n:Ah)
theorem qAh (h:nh L n)(Y:1<=n):4*qe L=rr n:=(zk h).symm
theorem EA {a b:Ah}(h:Q (.int (if b<a then b else a)) S):Ok (tZ [.int a,.int b] S) Q:=⟨_,_,rfl,h⟩
theorem qAG {α:Type}{f:α->Ah}{l:Aa α}(h:Q (.int (l.map f).sum) S):Ok (eX [.lst (l.map λx=>D.int (f x))] S) Q:=by
 refine⟨_,_,?_,h⟩;have e:(zU (.lst (l.map λx=>D.int (f x)))).bind zO=Ab (l.map f):=by
  rw[show (l.map λx=>D.int (f x))=(l.map f).map D.int by rw[Ea];rfl]
  exact uC _
 show (match (zU (.lst (l.map λx=>D.int (f x)))).bind zO with|some ns=>aw.ok (D.int ns.sum) S|none=>.bad)=_
 rw[e]
noncomputable def jJ (n r:Ah):Ah:=n*(if n-1<r then n-1 else r)/2
theorem YL {n r:Ah}(Y:1<=n/\n<=40)(h:Q (.int (jJ n r)) S):Ok (bu [.int n,.int r] S) Q:=by
 rw[yW];refine qV (aj:=[Ab (.int n),Ab (.int r)]) rfl ?_;rfl';refine EA ?_;rfl';exact h
theorem EC {n:Ah}{k:Ag}(c:Cl)(Y:1<=n/\n<=40)(U:1<=k/\k<=1000000000000)(h:∀ S1,S<+:S1->Q (.int (jJ n (rr k))) S1):Ok (b_ c [.int n,.int (k:Ah)] S) Q:=by
 rw[v7];refine qV (aj:=[Ab (.int n),Ab (.int (k:Ah))]) rfl ?_;rfl';refine qT (uY c S Y) ?_;rfl';refine _R c U λS1 J=>?_;rfl';refine YL Y ?_;exact l8 (h S1 J)
noncomputable def vF:Aa Ag:=[1,2,4,5,8,9,10,13,16,17,18,20,25,26,29,32,34,36,40,45,50,52,58,64,65,68,72,80,81,85,90,100,104,116,117,125,128,130,136,144,145,153,160,162,169,170,180,200,208,221,225,232,234,250,256,260,261,272,288,289,290,306,320,324,325,338,340,360,377,400,405,416,425,442,450,464,468,493,500,512,520,522,544,576,578,580,585,612,625,640,648,650,676,680,720,725,729,754,765,800,810,832,841,845,850,884,900,928,936,986,1000,1024,1040,1044,1053,1088,1105,1125,1152,1156,1160,1170,1224,1250,1280,1296,1300,1305,1352,1360,1377,1440,1445,1450,1458,1508,1521,1530,1600,1620,1625,1664,1682,1690,1700,1768,1800,1856,1872,1885,1972,1989,2000,2025,2048,2080,2088,2106,2125,2176,2197,2210,2250,2304,2312,2320,2340,2349,2448,2465,2500,2560,2592,2600,2601,2610,2704,2720,2754,2873,2880,2890,2900,2916,2925,3016,3042,3060,3125,3200,3240,3250,3328,3364,3380,3393,3400,3536,3600,3625,3645,3712,3744,3757,3770,3825,3944,3978,4000,4050,4096,4160,4176,4205,4212,4225,4250,4352,4394,4420,4437,4500,4608,4624,4640,4680,4698,4896,4901,4913,4930,5000]
noncomputable def zp:Aa Ag:=[2,5,13,17,4,9,5,29]
theorem G7 {n f:Ag}(Y:n∈vF)(J:f∈zp)(h:n*f<=5000):n*f∈vF:=by
 have k:vF.all (λn=>zp.all λf=>!Nat.ble (n*f) 5000||vF.contains (n*f))=true:=kd
 have:=Bt.mp (Bt.mp k n Y) f J;rw[Xs h] at this;simpa using this
def hs (n j:Ag):Ar:=(Cd 71).any λy=>Nat.beq (j*j+y*y) n
def cnt (n i:Ag):Ag:=(Cd i).countP (hs n)
noncomputable def msk:Ag:=(Cd 71).foldl (λm y=>m ||| 1 <<< (y*y)) 0
def ch (n j:Ag):Ar:=Nat.ble (j*j) n&&msk.testBit (n-j*j)
theorem IL (h:hs n j=true):ch n j=true:=by
 have k:(Cd 71).all (λy=>msk.testBit (y*y))=true:=kd;obtain⟨y,Y,e⟩:=Jo.mp h;have e:=Xt e;unfold ch;rw[show n-j*j=y*y by lia,Bt.mp k y Y,Xs li]
 rfl
theorem G6 {n:Ag}(Y:n∈vF):1<=cnt n 71/\cnt n 71<=15:=by
 have k:vF.all (λn=>Nat.ble ((Cd 71).countP (ch n)) 15&&(Cd 71).any λj=>ch n j&&hs n j)=true:=kd;have:=Bt.mp k n Y;rw[AT] at this;refine⟨?_,Ci (Qu λ_ _=>IL) (Rb this.1)⟩;obtain⟨j,J,e⟩:=Jo.mp this.2;rw[AT] at e;exact List.countP_pos_iff.mpr ⟨j,J,e.2⟩
theorem oY {n:Ag}(Y:n∈vF):n<=5000:=by
 have k:vF.all (λn=>Nat.ble n 5000)=true:=kd;exact Rb (Bt.mp k n Y)
theorem EE (h:u3 S p)(q:∀ (n:Ag) S1,Kp p S S1->n∈vF->Q (.int n) S1):Ok (gj [.loc p,.int 5000] S) Q:=by
 rw[kX];refine qV (aj:=[Ab (.loc p),Ab (.int 5000),none,none,none]) rfl ?_;rfl';refine xP h li λr S1 C T=>?_;rfl';refine⟨by lia,by lia,?_⟩
 refine w6 (λ_ aj J=>∃ (n:Ag) (U G:Al D),aj=[Ab (.loc p),Ab (.int 5000),Ab (.int n),U,G]/\Kp p S J/\n∈vF) ?_ ?_ ⟨1,_,_,rfl,C,by decide⟩
 .rintro x xs _ J ⟨n,U,G,rfl,K,Y⟩
  rfl';refine xP K.pen li λr I N E=>?_;rfl';refine ZZ (show r<8 by lia) λd B=>?_
  obtain⟨f,O,rfl⟩:=Bl.mp (show d∈zp.map λ(f:Ag)=>D.int f from B)
  have:=oY Y;have e:(n:Ah)*(f:Ah)=((n*f:Ag):Ah):=by push_cast;rfl
  rfl';refine wV (λz=>?_) λz=>?_
  .rfl'
   exact wG ⟨n*f,_,_,by rw[e],K.trans N,G7 Y O li⟩
  .rfl'
   exact wG ⟨n,_,_,rfl,K.trans N,Y⟩
 .rintro _ J ⟨n,U,G,rfl,K,Y⟩
  rfl';exact q n J K Y
def rh (n:Ag):Aa (_L.be × D):=(Cd n).map λ(i:Ag)=>(.inl ((i:Ah)*(i:Ah)),.int (i:Ah))
theorem AD {a b:Ag}(h:(a:Ah)*(a:Ah)=(b:Ah)*(b:Ah)):a=b:=by
 have Y:a*a=b*b:=by exact_mod_cast h
 rcases Mk a b with z|z|z
 .exact absurd Y (Ch (Tp z (Ef z) li))
 .exact z
 .exact absurd Y.symm (Ch (Tp z (Ef z) li))
theorem NS (n:Ag):xD (rh n) (.inl ((n:Ah)*(n:Ah))) (.int (n:Ah))=rh (n+1):=by
 unfold xD;rw[Bg]
 .unfold rh
  rw[Ab6,Ga];rfl
 .intro h
  obtain⟨U,J,e⟩:=Jo.mp h;obtain⟨i,Y,rfl⟩:=Bl.mp J;have e:=Bs e;injection e with e
  have:=AD e;have:=Dc.mp Y
  lia
theorem GE (h:zM (rh n) (.inl f)=Ab d):∃ i:Ag,i<n/\d=.int (i:Ah)/\f=(i:Ah)*(i:Ah):=by
 unfold zM at h;obtain⟨G,J,rfl⟩:=Dl.mp h;have Y:=Ab3 J;obtain⟨i,U,rfl⟩:=Bl.mp (Ul J);have Y:=Bs Y;injection Y with Y
 exact⟨i,Dc.mp U,rfl,Y.symm⟩
theorem NR {n:Ag}(hi:i<n):(zM (rh n) (.inl ((i:Ah)*(i:Ah)))).isSome=true:=by
 unfold zM;rw[Tz,List.find?_isSome];exact⟨_,Bl.mpr ⟨i,Dc.mpr hi,rfl⟩,by simp⟩
theorem JO {c n:Ag}(h:c*c<=n)(Y:n<=5000):c<=70:=by
 rcases Ep 70 c with z|z
 .have:=Ez (show 71<=c by lia) (show 71<=c by lia)
  lia
 .exact z
theorem OG {n j y:Ag}(h:j*j+y*y=n)(Y:n<=5000):hs n j=true:=Jo.mpr ⟨y,Dc.mpr (by have:=JO (show y*y<=n by lia) Y;lia),by subst h;exact Nat.beq_refl _⟩
theorem PJ (n i:Ag):cnt n (i+1)=cnt n i+if hs n i=true then 1 else 0:=by
 unfold cnt;rw[Ab6,List.countP_append,List.countP_singleton]
def RA (x y:Ah):Aa Pt:=[(x,y),(0-x,y),(x,0-y)]++[(0-x,0-y)]
theorem K1 {n:Ag}(p:n∈vF)(q:∀ (ps:Aa Pt) G,S<+:G->ps≠[]->(∀ z∈ps,k_ 990 z)->ps.length<=60->Q (.lst (ps.map cb)) G):Ok (ef [.int n] S) Q:=by
 have H:=oY p;rw[j8];refine qV (aj:=[Ab (.int n),none,none,none,none,none]) rfl ?_;rfl';refine⟨by lia,by lia,?_⟩
 refine w6 (xs:=Cd 1001) (λxs aj G=>∃ (i:Ag) (I:Al D),i+xs.length=1001/\xs=List.range' i (1001-i)/\aj=[Ab (.int n),Ab (.loc S.length),Ab (.lst []),I,none,none]/\G=S++[.dct (rh i)]) ?_ ?_ ⟨0,_,by simp,by rw[Yn],rfl,rfl⟩
 .rintro x xs _ _ ⟨i,I,J,U,rfl,rfl⟩
  have C:i<1001:=by simp at J;lia
  rw[show 1001-i=(1001-(i+1))+1 by lia,AaV] at U
  injection U with j E
  subst j;rfl';refine YN (vM _ _) (by unfold rh;rw[Ao,Kl];unfold bq;lia) ?_
  rw[GA,NS];rfl';exact wG ⟨x+1,_,by simp at J;lia,E,rfl,rfl⟩
 .rintro _ _ ⟨i,I,J,U,rfl,rfl⟩
  have C:i=1001:=by simpa using J
  subst C;have A:=vM S (.dct (rh 1001));have l:S<+:S++[.dct (rh 1001)]:=Ek _ _;generalize S++[.dct (rh 1001)]=T at A l;rfl';refine⟨by lia,by lia,?_⟩
  refine w6 (xs:=Cd 1001) (λxs aj G=>∃ (i:Ag) (Y:Aa Pt) (u k:Al D),i+xs.length=1001/\xs=List.range' i (1001-i)/\aj=[Ab (.int n),Ab (.loc S.length),Ab (.lst (Y.map cb)),I,u,k]/\G=T/\Y.length=4*cnt n (min i 71)/\∀ z∈Y,k_ 990 z) ?_ ?_ ⟨0,[],_,_,by simp,by rw[Yn],rfl,rfl,rfl,λ_ h=>by cases h⟩
  .rintro x xs _ _ ⟨i,Y,u,k,J,U,rfl,rfl,N,B⟩
   have C:i<1001:=by simp at J;lia
   rw[show 1001-i=(1001-(i+1))+1 by lia,AaV] at U
   injection U with j E
   subst j;have a:cnt n (min x 71)<=71:=Ci (List.countP_le_length) (by rw[Kl];lia)
   rfl';refine OW A ?_;rfl';cases hv:zM (rh 1001) (.inl ((n:Ah)-(x:Ah)*(x:Ah))) with
   |none =>
    rfl';refine wG ⟨x+1,Y,_,_,by simp at J;lia,E,rfl,rfl,?_,B⟩
    rcases Ep x 71 with z|z
    .rw[Ry li] at N ⊢
     rw[PJ,Bg,N]
     .rfl
     .intro w
      obtain⟨y,o,e⟩:=Jo.mp w;have e:=Xt e;have g:=NR (n:=1001) (i:=y) (by have:=Dc.mp o;lia)
      rw[show (n:Ah)-(x:Ah)*(x:Ah)=(y:Ah)*(y:Ah) by rw[<- e];push_cast;lia] at hv
      rw[hv] at g;cases g
    .rw[N,Vn z,Vn li]
   |some d =>
    obtain⟨y,o,rfl,e⟩:=GE hv;have b:x*x+y*y=n:=by
     have:((x*x+y*y:Ag):Ah)=(n:Ah):=by push_cast;lia
     exact_mod_cast this
    have t:=JO (show x*x<=n by lia) H
    have s:=JO (show y*y<=n by lia) H
    refine w_t ?_;rfl';refine OX A hv ?_;rfl';refine bT (by rw[Ao];show _+3<=bq;unfold bq;lia) ?_
    rfl';refine bT (by rw[Cu,Ao];show _+3+1<=bq;unfold bq;lia) ?_
    rfl';refine wG ⟨x+1,Y++RA (x:Ah) (y:Ah),_,_,by simp at J;lia,E,by rw[Ga,Cy];rfl,rfl,?_,λz hz=>?_⟩
    .rw[Cu,N,Ry li,Ry li,PJ,Bd (OG b H)]
     show _+4=_
     lia
    .rcases Cc.mp hz with hz|hz
     .exact B z hz
     .simp only[RA,Vm,Ke,Av,Ds,Ik] at hz
      unfold k_;rcases hz with rfl|rfl|rfl|rfl <;> dsimp only <;> lia
  .rintro _ _ ⟨i,Y,u,k,J,U,rfl,rfl,N,B⟩
   have C:i=1001:=by simpa using J
   subst C;have f:=G6 p;have O:Y.length=4*cnt n 71:=N;rfl';refine EG ?_;rfl';refine⟨by lia,q (w4 Y) _ l (λz=>?_) (λz hz=>B z ((vX Y z).mp hz)) (Ci (tG Y) li)⟩
   cases Y with
   |nil=>simp at O;lia
   |cons w c =>
    have:w∈w4 (w::c):=(vX _ w).mpr cy
    rw[z] at this;cases this
def P7:Aa Pt:=(Cd 25).map λ(i:Ag)=>((i:Ah)/5,(i:Ah) % 5)
def OK:Aa Pt:=(Cd 20).map λ(i:Ag)=>(2*(i:Ah),3*(i:Ah))
def OL:Aa Pt:=(Cd 5).map λ(i:Ag)=>((i:Ah),0)
noncomputable def IQ:Aa Pt:=[(0,0),(0,4),(4,0),(4,4),(2,2),(-1,2),(2,-1),(5,2),(2,5),(1,1),(6,6)]
theorem X1 (n:Ag)(C:n<=1000)(g:Ag->Pt)(step:∀ i:Ag,Ok (fe [Ab (.int i)] S) λd U=>d=cb (g i)/\U=S)(q:Q (.lst (((Cd n).map g).map cb)) S):Ok (zK false [none] (xO (vN (q8 (dC (.int (n:Ah))) qA))) (bi 0) xU (zT fe) aj S) Q:=by
 refine y9 (Cd n) (λi=>cb (g i)) (λaj Y=>Y=S/\∃ a,aj=[a]) (qBk li) ⟨rfl,none,rfl⟩ (by rw[Kl];unfold bq;lia) (λ_ _ _=>trivial) (λx B aj Y ⟨J,a,G⟩=>?_) λaj Y ⟨J,_⟩=>?_
 .subst J G
  rfl';exact zG (step x) λd U ⟨N,O⟩=>⟨N,O,_,rfl⟩
 .subst J
  rw[Ea] at q;exact q
structure z_ (p:Ag)(S:ao)(d:D)(S':ao)(ps:Aa Pt):Prop where
 seq:tF d S'=Ab (ps.map cb)
 ne:ps≠[]
 len:ps.length<=60
 box:∀ q∈ps,k_ 990 q
 kp:Kp p S S'
theorem vA {α:Type}:∀ (l:Aa α) (i:Ag) (h:i<l.length),(l[i]::l.eraseIdx i).Perm l
 |[],i,h=>by simp at h
 |x::l,0,_=>Mu _
 |x::l,i+1,h=>(AbE x _ _).trans ((vA l i (by simpa using h)).cons x)
theorem sJ {α β:Type}(f:α->β):∀ (l:Aa α) (i:Ag),(l.map f).eraseIdx i=(l.eraseIdx i).map f
 |[],_=>rfl
 |_::_,0=>rfl
 |x::l,i+1=>congrArg (f x::·) (sJ f l i)
structure WI (p a many:Ag)(all:Aa Pt)(S S':ao)(done qD:Aa Pt):Prop where
 ra:S'[a]? = Ab (.lst (qD.map cb))
 rb:S'[a+1]? = Ab (.lst (done.map cb))
 perm:(done++qD).Perm all
 le:done.length<=many
 kp:Kp p S S'
theorem OY (p M:Ag)(hM:1<=M/\M<=40){S:ao}(h:u3 S p)(q:∀ (l:Aa Pt) U,Kp p S U->oi M l->Q (xJ l) U):Ok (gx [.loc p,.int (M:Ah)] S) Q:=by
 rw[pX];refine qV (aj:=[Ab (.loc p),Ab (.int (M:Ah)),none,none,none,none,none,none,none,none,none]) rfl ?_;rfl';refine xP h li λB S1 k1 h1=>?_;rfl';refine xP k1.pen li λm S2 k2 h2=>?_;obtain⟨Y,em,hm⟩:∃ Y:Ag,1+(m:Ah)=(Y:Ah)/\1<=Y/\Y<=M:=⟨1+m,by lia,by lia,by lia⟩
 rfl';rw[em];refine xP k2.pen li λx S3 k3 h3=>?_;rfl';refine xP k3.pen li λy S4 k4 h4=>?_;rfl';refine xP k4.pen li λr S5 k5 h5=>?_;have hx : -10<=(x:Ah)-10/\(x:Ah)-10<=10:=by lia
 have hy : -10<=(y:Ah)-10/\(y:Ah)-10<=10:=by lia
 generalize (x:Ah)-10=x at hx;generalize (y:Ah)-10=y at hy;refine ZZ (show r<3 by lia) λd u=>?_
 obtain⟨wide,rfl,hw⟩:∃ w:Ah,d=.int w/\3<=w/\w<=900:=by
  simp only[Av,Ds,Ik] at u;rcases u with rfl|rfl|rfl <;> exact⟨_,rfl,by lia⟩
 have E:Kp p S S5:=(((k1.trans k2).trans k3).trans k4).trans k5;clear k1 k2 k3 k4 k5 h1 h2 h3 h4 h5 u em;array_get_dec;array_get_dec;refine qAw (λaj U=>∃ d I H J,aj=[Ab (.loc p),Ab (.int (M:Ah)),Ab (.int B),Ab (.int (Y:Ah)),Ab (.int x),Ab (.int y),Ab (.int wide),Ab d,I,H,none]/\z_ p S d U J) (λP' hP=>?_) ?_
 .rfl'
  refine wV (λz=>?_) λz=>?_
  .rfl'
   refine EE E.pen λn C o hn=>?_;rfl';refine K1 hn λJ S7 T ne c A=>?_;rfl';exact hP _ _ ⟨_,_,_,J,rfl,rfl,ne,A,c,(E.trans o).trans (Kp.pre o.pen T)⟩
  rfl';refine wV (λz=>?_) λz=>?_
  .rfl'
   refine X1 25 li (λ(i:Ag)=>((i:Ah)/5,(i:Ah) % 5)) (λi=>?_) ?_
   .rfl'
    exact rfl
   .rfl'
    exact hP _ _ ⟨_,_,_,P7,rfl,rfl,by decide,by decide,kd,E⟩
  rfl';refine wV (λz=>?_) λz=>?_
  .rfl'
   refine X1 20 li (λ(i:Ag)=>(2*(i:Ah),3*(i:Ah))) (λi=>?_) ?_
   .rfl'
    exact rfl
   .rfl'
    refine X1 5 li (λ(i:Ag)=>((i:Ah),0)) (λi=>?_) ?_
    .rfl'
     exact rfl
    .refine bT (by rw[Ao,Ao];decide) ?_
     rw[<- Ga];rfl';exact hP _ _ ⟨_,_,_,OK++OL,rfl,rfl,by decide,by decide,kd,E⟩
  rfl';refine wV (λz=>?_) λz=>?_
  .rfl'
   exact hP _ _ ⟨_,_,_,IQ,rfl,rfl,by decide,by decide,kd,E⟩
  rfl';refine⟨by lia,by lia,?_⟩
  have zs:p<S5.length:=YR E.pen;refine w6 (λxs aj U=>∃ (J:Aa Pt) (I H:Al D),J.length+xs.length=M/\(∀ q∈J,k_ 990 q)/\aj=[Ab (.loc p),Ab (.int (M:Ah)),Ab (.int B),Ab (.int (Y:Ah)),Ab (.int x),Ab (.int y),Ab (.int wide),Ab (.loc S5.length),I,H,none]/\Kp p S5 U/\U[S5.length]? = Ab (.lst (J.map cb))) ?_ ?_ ⟨[],_,_,by simp,λ_ h=>(by cases h),rfl,Kp.pre E.pen (Ek _ _),vM _ _⟩
  .rintro t xs _ U ⟨J,I,H,A,c,rfl,K,hS⟩
   have la:=(Az.mp hS).1;rfl';refine xP K.pen li λr1 C o h6=>?_;have j:=(o.same _ la li).trans hS;rfl';refine⟨l6 j,?_⟩;rfl';refine xP o.pen li λr2 S7 T h7=>?_;have f:=(T.same _ (Az.mp j).1 li).trans j;rfl';refine ZY f (by rw[Ao];unfold bq;simp at A;lia) ?_
   rfl';refine wG ⟨J++[((r1:Ah)-wide,(r2:Ah)-2)],_,_,by simp at A ⊢;lia,λz hz=>?_,rfl,((K.trans o).trans T).set (Aw _) _ li,by rw[Dy (Az.mp f).1,Ga];rfl⟩
   rcases Cc.mp hz with hz|hz
   .exact c z hz
   .rw[Dn.mp hz]
    unfold k_;dsimp only
    lia
  .rintro _ U ⟨J,I,H,A,c,rfl,K,hS⟩
   refine hP _ _ ⟨_,_,_,J,rfl,NM hS,λz=>?_,by simp at A;lia,c,E.trans K⟩
   subst z;simp at A
   lia
 .rintro _ C ⟨d,I,H,J,rfl,sm⟩
  have zv:p<C.length:=YR sm.kp.pen;rfl';refine qAF ?_;rfl';refine⟨J,sm.seq,by have:=sm.len;lia,?_⟩
  rfl';have zy:=Ci (tG J) sm.len;have zc:w4 J≠[]:=λz=>by
   obtain⟨w,hw⟩:=List.exists_mem_of_ne_nil _ sm.ne;have:=(vX J w).mpr hw;rw[z] at this;cases this
  rw[Cu,Mc];refine fY (λn aj U=>aj=[Ab (.loc p),Ab (.int (M:Ah)),Ab (.int B),Ab (.int (Y:Ah)),Ab (.int x),Ab (.int y),Ab (.int wide),Ab (.loc C.length),I,H,Ab (.loc (C.length+1))]/\∃ done qD,qD.length=n/\WI p C.length Y (w4 J) S U done qD) ?_ (n:=(w4 J).length) (by rw[bH];lia) ⟨rfl,[],w4 J,rfl,by simp,by simp,by simp,by simp,sm.kp.trans (Kp.pre sm.kp.pen ((Ek _ _).trans (Ek _ _)))⟩
  rintro n _ U ⟨rfl,done,qD,rfl,W⟩;have O:=W.perm.length_eq;rw[Cu] at O;have la:=(Az.mp W.rb).1;refine cJ ?_;rfl';have G:U<+:U++[MO.lst []]:=Ek _ _;refine E8 (z:=.bl (!qD.isEmpty)) (cZ (lR W.ra G) λx hx=>?_) (cZ (xs:=[]) (vM _ _) λ_ h=>by cases h) ?_ rfl ?_
  .obtain⟨z,_,rfl⟩:=Bl.mp hx
   rfl
  .unfold sx
   rw[HK,show pl wZ (.lst []) = true from rfl]
   cases qD <;> rfl
  have N:WI p C.length Y (w4 J) S (U++[MO.lst []]) done qD:=⟨lR W.ra G,lR W.rb G,W.perm,W.le,W.kp.trans (Kp.pre W.kp.pen G)⟩;have zb:C.length+1<(U++[MO.lst []]).length:=by rw[Cu];lia
  generalize U++[MO.lst []] = U at N zb;clear W G la;have s:¬ (qD≠[]/\done.length<Y)->Ok (qW jD (q8 (qW vO (q8 (zK false [none,Ab 4,Ab 5] (nj (q9 10)) (bi 0) xU (zT (zV (q8 (d2 zB (d2 il (q9 0) (dC (.int 0))) (q9 1)) (q8 (d2 zB (d2 il (q9 0) (dC (.int 1))) (q9 2)) qA))))) qA)) qA) [Ab (.loc p),Ab (.int (M:Ah)),Ab (.int B),Ab (.int (Y:Ah)),Ab (.int x),Ab (.int y),Ab (.int wide),Ab (.loc C.length),I,H,Ab (.loc (C.length+1))] U) Q:=λhc=>by
   rfl';refine y9 done (λz=>cb (z.1+x,z.2+y)) (λaj S1=>S1=U/\∃ a,aj=[a,Ab (.int x),Ab (.int y)]) (qBj rfl N.rb) ⟨rfl,none,rfl⟩ (by unfold bq;lia) (λ_ _ ⟨e,_⟩=>by subst e;exact N.rb) (λz hz aj S1 ⟨e1,a,e2⟩=>?_) λaj S1 ⟨e1,_⟩=>?_
   .subst e1 e2
    rfl';exact⟨_,rfl⟩
   .subst e1
    rfl';have zl:done.Nodup:=(Ki.mp (N.perm.nodup_iff.mpr (pV (Q8 J)))).1;have z0:=N.le;rw[show (done.map λz=>cb (z.1+x,z.2+y))=(done.map λz=>(z.1+x,z.2+y)).map cb by rw[Ea];rfl]
    refine qAE (by rw[Ao];lia) ?_
    rfl';refine q _ S1 N.kp (ON (λz=>?_) (by rw[Ao];lia) ?_ λz hz=>?_)
    .have z:=List.map_eq_nil_iff.mp z
     subst z;by_cases g:qD=[]
     .subst g
      simp at O;exact zc (Iy.mp O.symm)
     .exact hc ⟨g,by simp;lia⟩
    .rw[Vi,Ei]
     exact zl.imp λ{a b} zo z=>zo (Fc (by have:=congrArg AbU z;dsimp only at this;lia) (by have:=congrArg AbV z;dsimp only at this;lia))
    .obtain⟨w,hw,rfl⟩:=Bl.mp hz
     have:=sm.box w ((vX J w).mp (N.perm.mem_iff.mp (Du _ hw)));unfold k_ at this ⊢;dsimp only
     lia
  rfl';refine⟨λe=>?_,λe=>?_⟩
  .have g:qD≠[]:=λz=>by subst z;cases e
   have zx:=Gf.mpr g;rfl';refine cK N.rb ?_;rw[Ao];rfl';refine⟨λe=>?_,λe=>?_⟩
   .have u:done.length<Y:=by have:=Bs e;lia
    rfl';refine⟨l6 N.rb,?_⟩;rfl';refine⟨l6 N.ra,?_⟩;rfl';refine cK N.ra ?_;rw[Ao];rfl';refine xP N.kp.pen li λr S7 T h7=>?_;have ra:=(T.same _ li li).trans N.ra;have rb:=(T.same _ zb li).trans N.rb;have k:r<qD.length:=by lia
    rfl';refine qAC ra (by rw[Ao];exact k) li ?_
    rw[Vp,sJ];rfl';have l7:=T.len;refine ZY (i:=C.length+1) (by rw[Cj li];exact rb) (by rw[Ao];unfold bq;lia) ?_
    rfl';refine fB (qD.eraseIdx r).length (by rw[Yh,Bd k];lia) ⟨rfl,done++[qD[r]],qD.eraseIdx r,rfl,?_,?_,?_,by simp;lia,((N.kp.trans T).set sm.kp.len _ li).set (by have:=sm.kp.len;lia) _ li⟩
    .rw[Cj li,Dy li]
    .rw[Dy (by rw[Rp];lia),Ga]
     rfl
    .rw[Cy]
     exact(Ic done (vA qD r k)).trans N.perm
   .have u:¬ done.length<Y:=λz=>by have:=Il e;lia
    exact kS (rR (s λz=>u z.2))
  .have g:qD=[]:=by cases qD with|nil=>rfl|cons _ _=>cases e
   exact⟨(λz=>by cases z),λ_=>kS (rR (s λz=>z.1 g))⟩
theorem OZ (h:u3 S p)(q:∀ (z:Pt) Y,Kp p S Y->k_ 1000 z->Q (cb z) Y):Ok (fg [.loc p] S) Q:=by
 rw[jU];refine qV (aj:=[Ab (.loc p),none]) rfl ?_;rfl';refine xP h li λr I J C=>?_;refine ZZ (show r<3 by lia) λd G=>?_
 obtain⟨wide,rfl,E⟩:∃ w:Ah,d=.int w/\2<=w/\w<=1000:=by
  simp only[Av,Ds,Ik] at G;rcases G with rfl|rfl|rfl <;> exact⟨_,rfl,by lia⟩
 rfl';refine xP J.pen li λx H U B=>?_;rfl';refine xP U.pen li λy N O T=>?_;rfl';refine q ((x:Ah)-wide,(y:Ah)-wide) N ((J.trans U).trans O) ?_;unfold k_;dsimp only
 lia
theorem OV (hp:k_ 1000 p)(Y:k_ 1000 q)(h:Q (.int (ff p q)) S):Ok (d_ [cb p,cb q] S) Q:=by
 unfold k_ at hp Y;rw[j9];refine qV (aj:=[Ab (cb p),Ab (cb q),none,none]) rfl ?_;rfl';exact h
theorem T3 {l:Aa Pt}(c:∀ p∈l,k_ 1000 p)(t:l.length<=41)(q:∀ kvs C,GI bM w_ S.length (xG l) kvs C->(∀ m,m<S.length->C[m]? = S[m]?)->Q (.loc S.length) C):Ok (ce [xJ l] S) Q:=by
 rw[uQ];refine qV (aj:=[Ab (.tup (l.map cb)),none,none,none,none]) rfl ?_;rfl';refine L5 (λf aj C=>∃ i H A T done kvs,aj=[Ab (.tup (l.map cb)),Ab (.loc S.length),H,A,T]/\f=eL i ((l.drop i).map cb)/\GI bM w_ S.length done kvs C/\done++xG (l.drop i)=xG l/\∀ m,m<S.length->C[m]? = S[m]?) ?_ ?_ ⟨0,_,_,_,[],[],rfl,US _,⟨vM _ _,λ_ h=>(by cases h),Mt,rfl⟩,rfl,λm I=>Bk I⟩
 .rintro d f _ C ⟨i,H,A,T,done,kvs,rfl,U,G,Y,J⟩
  cases N:l.drop i with
  |nil=>rw[N] at U;cases U
  |cons p qD =>
   rw[N] at U Y;injection U with s n
   subst s n;have O:l.drop (i+1)=qD:=by
    have:=congrArg List.tail N;simpa [List.tail_drop] using this
   have B:∀ z∈p::qD,z∈l:=λz u=>Yi (N▸u);rfl';rw[U6,<- Um,O];refine w6 (λr aj C=>∃ T done kvs,aj=[Ab (.tup (l.map cb)),Ab (.loc S.length),Ab (.int (i:Ah)),Ab (cb p),T]/\(∀ z∈r,z∈l)/\GI bM w_ S.length done kvs C/\done++(r.map (λz=>(p,z))++xG qD)=xG l/\∀ m,m<S.length->C[m]? = S[m]?) ?_ ?_ ⟨_,done,kvs,rfl,λz u=>B z (Ap _ u),G,Y,J⟩
   .rintro z r _ C ⟨T,done,kvs,rfl,o,G,Y,J⟩
    have g:done.length<bq:=by
     have:=congrArg Qk Y;have h3:=OP t;simp only[Cu] at this;unfold bq
     lia
    obtain⟨j,S1,S2,E,a,f2,e,x,k⟩:=FS G (p,z) g;rfl';refine⟨aR G.dict,?_⟩;rfl';refine OV (c p (B p (Bc ..))) (c z (o z (Bc ..))) ?_;rfl';refine qT a ⟨f2,?_⟩;rfl';refine qT e ?_;exact wG ⟨_,done++[(p,z)],E,rfl,λy b=>o y (Ap _ b),x,by rw[<- Y];simp,λm I=>(k m I).trans (J m I)⟩
   .rintro _ C ⟨T,done,kvs,rfl,o,G,Y,J⟩
    exact wG ⟨i+1,_,_,_,done,kvs,rfl,by rw[O],G,by rw[O];simpa using Y,J⟩
 .rintro _ C ⟨i,H,A,T,done,kvs,rfl,U,G,Y,J⟩
  rfl';refine q kvs C ?_ J;cases N:l.drop i with
  |cons _ _=>rw[N] at U;cases U
  |nil =>
   rw[N] at Y;have:done=xG l:=by simpa [xG] using Y
   rw[<- this];exact G
theorem d7 (c:Cl){l:Aa Pt}{M:Ag}(e:M<=40)(h:oi M l){S:ao}(q:∀ J,S<+:J->Q (.lst ((tbl (ay l)).map fj)) J):Ok (cf c [xJ l] S) Q:=by
 have I:=h.len;have o:(xG l).length<=1600:=Ci (mH l) (Ez (show l.length<=40 by lia) (show l.length<=40 by lia))
 obtain⟨_,N,A,rfl,Y,G,C⟩:=T3 (S:=S) (Q:=λd J=>d=.loc S.length/\∃ Y,GI bM w_ S.length (xG l) Y J/\∀ m,m<S.length->J[m]? = S[m]?) h.box li λY J G C=>⟨rfl,Y,G,C⟩;have n:xO (tQ (qF 1 ce (q8 (q9 0) qA))) [Ab (xJ l)] S=.ok (none,Y.map λp=>D.tup [kD p.1,p.2]) (N.set S.length .dead):=by
  unfold xO tQ;rw[(PC (f1:=q9 0) (aj:=[Ab (xJ l)]) (S:=S) rfl).trans A];simp only[aw.bind,G.dict];rfl
 have U:Y.map (·.1)=(me (ay l)).map Fj:=G.keys
 have y:(me (ay l)).length<=1600:=by
  have:=pB (ks:=ay l) (l:=[]);have s:(ay l).length=(xG l).length:=Ao _;unfold me;simp only[Hs] at this
  lia
 have u:Y.length<=1600:=by
  have:=congrArg Qk U;rw[Ao,Ao] at this
  lia
 have g:(Y.map λp=>yn (ay l) p.1)=(sr (ay l)).map fj:=by
  rw[show (Y.map λp=>yn (ay l) p.1)=(Y.map (·.1)).map (yn (ay l)) by rw[Ea];rfl,U]
  unfold sr;rw[Ea,Ea];rfl
 have hs:vO [.lst ((sr (ay l)).map fj)] (N.set S.length .dead)=.ok (.lst ((tbl (ay l)).map fj)) (N.set S.length .dead):=by
  show (match (Ab ((sr (ay l)).map fj)).bind uA with|some T=>aw.ok (D.lst T) (N.set S.length .dead)|none=>.bad)=_
  rw[Qx,NP (sr (ay l)) (by unfold sr;rw[Ao];lia) λk B=>by
   obtain⟨f,_,rfl⟩:=Bl.mp B;intro z;cases z]
  rfl
 rw[kY];refine qV (aj:=[Ab (xJ l)]) rfl ?_;rfl';refine qT (iA c S (HL l) (J9 li h)) ?_;rfl';refine y9 Y (λp=>yn (ay l) p.1) (λaj J=>J=N.set S.length .dead/\∃ a b,aj=[a,b]) n ⟨rfl,none,none,rfl⟩ (by unfold bq;lia) (λ_ _ _=>trivial) (λp B aj J ⟨O,a,b,H⟩=>?_) λaj J ⟨O,_⟩=>?_
 .subst O H
  obtain⟨f,j,rfl,h1,E⟩:=G.lists p B;rfl';refine cK (xs:=((xG l).filter λx=>bM x == f).map w_) (by rw[Cj li];exact E) ?_
  rw[Ao,UY];rfl';exact⟨_,_,rfl⟩
 .subst O
  rw[g];rfl';exact qT hs (q _ (HQ λm t=>by rw[Cj li];exact C m t))
theorem yV (Y:Aa Ah):((tbl Y).map λk=>k.headD 0).Perm (me Y):=by
 have p:=(_S.v3 (lt':=_H.lexLt) (sr Y)).map λk=>k.headD 0;unfold tbl;refine p.trans ?_;unfold sr;rw[Ea];have e:((λk:Aa Ah=>k.headD 0)∘λf=>[f,(Y.count f:Ah)])=id:=rfl;rw[e,Ol]
theorem YK (c:Cl){l:Aa Pt}{M:Ag}(B:M<=40)(h:oi M l){S:ao}(q:∀ Y,S<+:Y->Q (.lst (((tbl (ay l)).map λk=>k.headD 0).map D.int)) Y):Ok (lz c [xJ l] S) Q:=by
 obtain⟨_,O,H,rfl,C⟩:=d7 (S:=S) (Q:=λd Y=>d=.lst ((tbl (ay l)).map fj)/\S<+:Y) c B h λY p=>⟨rfl,p⟩;have U:∀ k∈tbl (ay l),∃ a b,k=[a,b]:=λk G=>by
  obtain⟨f,_,rfl⟩:=Bl.mp ((_S.v3 _).mem_iff.mp G);exact⟨_,_,rfl⟩
 have A:(tbl (ay l)).length<=1600:=by
  have N:=(yV (ay l)).length_eq;rw[Ao] at N;have T:=pB (ks:=ay l) (l:=[]);have y:(ay l).length=(xG l).length:=Ao _;have z:=mH l;have j:=Ez (show l.length<=40 by have:=h.len;lia) (show l.length<=40 by have:=h.len;lia)
  rw[N];unfold me;simp only[Hs] at T
  lia
 have E:nj (qF 1 (cf c) (q8 (q9 0) qA)) [Ab (xJ l)] S=.ok (none,(tbl (ay l)).map fj) O:=by
  unfold nj;rw[(PC (f1:=q9 0) (aj:=[Ab (xJ l)]) (S:=S) rfl).trans H];rfl
 rw[dJ];refine qV (aj:=[Ab (xJ l)]) rfl ?_;rfl';refine y9 (tbl (ay l)) (λk=>.int (k.headD 0)) (λaj Y=>Y=O/\∃ a b,aj=[a,b]) E ⟨rfl,none,none,rfl⟩ (by unfold bq;lia) (λ_ _ _=>trivial) (λk G aj Y ⟨J,a,b,I⟩=>?_) λaj Y ⟨J,_⟩=>?_
 .subst J I
  obtain⟨f,m,rfl⟩:=U k G;refine X2 (xs:=[.int f,.int m]) ?_;rfl';exact⟨_,_,rfl⟩
 .subst J
  refine l8 ?_;rw[show ((tbl (ay l)).map λk=>D.int (k.headD 0))=((tbl (ay l)).map λk=>k.headD 0).map D.int by rw[Ea];rfl]
  exact q _ C
theorem cL (c:Cl){l:Aa Pt}{M:Ag}(U:M<=40)(h:oi M l){S:ao}(q:∀ Y,S<+:Y->Q (.int ((me (ay l)).length:Ag)) Y):Ok (c_ c [xJ l] S) Q:=by
 rw[g9];refine qV (aj:=[Ab (xJ l)]) rfl ?_;rfl';refine YK c U h λG J=>?_;rfl';rw[Ao,(yV (ay l)).length_eq];exact q _ J
noncomputable def bs (p:Ah->Ar):Ag->Ah->Ah->Ah
 |0,lo,_=>lo
 |n+1,lo,Y=>if lo<Y then (if p ((lo+Y)/2) then bs p n lo ((lo+Y)/2) else bs p n ((lo+Y)/2+1) Y) else lo
theorem D2 (p:Ah->Ar)(n:Ag)(lo hi:Ah):bs p (n+1) lo hi=if lo<hi then (if p ((lo+hi)/2) then bs p n lo ((lo+hi)/2) else bs p n ((lo+hi)/2+1) hi) else lo:=rfl
theorem D1 (p:Ah->Ar)(k:Ag)(lo hi:Ah)(h:hi<=lo):bs p k lo hi=lo:=by
 cases k with
 |zero=>rfl
 |succ k=>unfold bs;rw[Bg li]
theorem qBV {f:DE}{a:Af}{G:Aa D->DF}(h:aj[i]? = Ab (Ab (.clo a Y caps)))(k:f aj S=.ok d S1):mQ i (q8 f qA) a Y 1 G aj S=G caps [d] S1:=by
 unfold mQ;rw[h];show (if a=a/\Y=Y then _ else _)=_
 rw[Bd ⟨rfl,rfl⟩,WA k];rfl
theorem E9 {f:DE}(p:Ah->Ar)(M:Ah){S:ao}(I:0<=M/\M<1000000000000000000)(T:mO bn aj=Ab caps)(C:f aj S=.ok (.int M) S)(B:∀ t,0<=t->t<M->Ok (fe (Ab (.int t)::caps.map Ab) S) λd G=>d=.bl (p t)/\G=S)(q:Q (.int (bs p M.toNat 0 M)) S):Ok (gE false bn 2 5 (q8 f qA) (cn (lW fe)) aj S) Q:=by
 refine⟨_,_,?_,q⟩;unfold gE;rw[T];show (q8 f qA aj S).bind _=_;rw[WA C];show (if 1+1=2 then ym false (uw λa U=>qL 5 (cn (lW fe) a U) [.clo a U caps,.int M] S) else .bad)=_
 rw[Bd rfl,AY (R:=.ok (.int (bs p M.toNat 0 M)) S) λa U=>?_]
 .rfl
 .refine xQ (qV (aj:=[Ab (.clo a U caps),Ab (.int M),none,none,none]) rfl ?_)
  rfl';refine fY (λn aj G=>∃ (lo Y:Ah) (e:Al D) (k:Ag),aj=[Ab (.clo a U caps),Ab (.int M),Ab (.int lo),Ab (.int Y),e]/\G=S/\n=(Y-lo).toNat/\0<=lo/\lo<=Y/\Y<=M/\(Y-lo).toNat<=k/\bs p k lo Y=bs p M.toNat 0 M) ?_ (n:=M.toNat) (by rw[bH];lia) ⟨0,M,none,M.toNat,rfl,rfl,by lia,by lia,by lia,by lia,by lia,rfl⟩
  rintro n _ _ ⟨lo,Y,e,k,rfl,rfl,rfl,H,E,A,j,J⟩;rfl';refine⟨λz=>?_,λz=>?_⟩
  .have N:=Bs z
   cases k with
   |zero=>lia
   |succ k =>
    rw[D2,Bd N] at J;rfl';refine qT ((qBV rfl rfl).trans (show lW fe caps [.int ((lo+Y)/2)] _=_ from xQ (B ((lo+Y)/2) li li))) ?_
    rfl';cases O:p ((lo+Y)/2) with
    |true =>
     rw[O,Bd rfl] at J;rfl';exact fB _ li ⟨lo,(lo+Y)/2,_,k,rfl,rfl,rfl,by lia,by lia,by lia,by lia,J⟩
    |false =>
     rw[O,Bg Fx] at J;rfl';exact fB _ li ⟨(lo+Y)/2+1,Y,_,k,rfl,rfl,rfl,by lia,by lia,by lia,by lia,J⟩
  .have N:=Il z
   rw[D1 p k lo Y li] at J;rfl';exact⟨by rw[J],rfl⟩
def nB (n:Ah):Ah->Ar:=λt=>decide (n-1<=t*t+t)
def uO (n:Ah):Ah:=bs (nB n) (1000000000:Ah).toNat 0 1000000000
theorem bU (c:Cl){n:Ah}{S:ao}(h:1<=n/\n<=10000)(q:Q (.int (uO n)) S):Ok (df c [.int n] S) Q:=by
 rw[bG];refine qV (aj:=[Ab (.int n)]) rfl ?_;rfl';refine qT (d:=.int 1000000000000000000) rfl ?_;rfl';refine qT (uY c S ⟨h.1,by lia⟩) ?_
 rfl';refine E9 (nB n) 1000000000 li (caps:=[.int n]) rfl ((IS rfl rfl).trans (show uN (.int 10) (.int 9) S=.ok (.int 1000000000) S from rfl)) (λt J Y=>?_) ?_
 .rfl'
  exact rfl
 .rfl'
  exact q
noncomputable def mp (s:Ah):Ah:=s*(s-1)/2
theorem K2 {s:Ah}(h:0<=s/\s<1000000000000000)(q:Q (.int (mp s)) S):Ok (ci [.int s] S) Q:=by
 rw[jX];refine qV (aj:=[Ab (.int s)]) rfl ?_;rfl';exact q
def ot (w n:Ah):Ah:=n*mp (w/n)+w % n*(w/n)
theorem qAD {n:Ah}(hw:0<=w/\w<=4000000000000)(U:1<=n/\n<=1000000)(q:Q (.int (ot w n)) S):Ok (bz [.int w,.int n] S) Q:=by
 have Y:0<=w/n:=Lz hw.1 li;have J:w/n<=w:=AaT _ hw.1;have G:0<=w % n:=Ip _ li;have N:w % n<n:=Hi _ li;rw[v8];refine qV (aj:=[Ab (.int w),Ab (.int n),none,none]) rfl ?_;rfl';refine qT (d:=.tup [.int (w/n),.int (w % n)]) (S:=S) (Bd ⟨by lia,by lia,by lia,by lia⟩) ?_
 rfl';refine K2 ⟨Y,by lia⟩ ?_
 rfl';exact q
def nU (n:Ah):Ah->Ar:=λe=>decide (n*(n-1)<ot (2*e) n)
def pb (n:Ah):Ah:=bs (nU n) (n*n).toNat 0 (n*n)-1
theorem cM (c:Cl){n:Ah}{S:ao}(h:1<=n/\n<=10000)(q:Q (.int (pb n)) S):Ok (bw c [.int n] S) Q:=by
 have Y:0<=n*n/\n*n<=100000000:=⟨Es li li,Ey (Iq h.2 li) li⟩;rw[jZ];refine qV (aj:=[Ab (.int n)]) rfl ?_;rfl';refine qT (d:=.int 1000000) rfl ?_;rfl';refine qT (uY c S ⟨h.1,by lia⟩) ?_
 rfl';refine E9 (nU n) (n*n) ⟨Y.1,by lia⟩ (caps:=[.int n]) rfl (xQ (o_2 (o_v rfl (o_v rfl (qAA li ⟨rfl,rfl⟩))))) (λt U J=>?_) ?_
 .rfl'
  refine qAD ⟨by lia,by lia⟩ ⟨h.1,by lia⟩ ?_
  rfl';exact rfl
 .rfl'
  exact q
def bp (n:Ah):Ah:=if n=1 then 0 else (mp n+pb n-1)/pb n
def o_ (n:Ah):Ah:=if uO n<bp n then bp n else uO n
def okN (n:Ag):Ar:=(n == 1||decide (1<=pb n/\pb n<=1600))&&(Cd 60).all (λt=>decide ((t:Ah)<o_ n->(t:Ah)*t+t<n-1\/t*pb n<mp n))&&decide (0<=o_ n/\o_ n<=50)&&(Cd 800).all λe=>decide (ot (2*(e:Ah)) n<=(n:Ah)*(n-1)->(e:Ah)<=pb n)
theorem EV:(Cd 41).all (λn=>n == 0||okN n)=true:=kd
theorem ES {n:Ag}(h:1<=n/\n<=40):okN n=true:=by
 have:=Bt.mp EV n (Dc.mpr li);have Y:(n == 0)=false:=by rw[Ks];lia
 rwa [Y,Za] at this
structure B_ (n:Ag):Prop where
 pb:n=1\/(1<=pb n/\pb n<=1600)
 low:∀ t:Ag,(t:Ah)<o_ n->(t:Ah)*t+t<n-1\/t*_K.pb n<mp n
 nn:0<=o_ n/\o_ n<=50
 most:∀ e:Ag,e<800->ot (2*(e:Ah)) n<=(n:Ah)*(n-1)->(e:Ah)<=_K.pb n
theorem K4 {n:Ag}(h:1<=n/\n<=40):B_ n:=by
 have k:=ES h;unfold okN at k;rw[AT,AT,AT,Kc,Bt,Bt] at k;obtain⟨⟨⟨U,G⟩,J⟩,O⟩:=k;have nn:=Bs J;refine⟨?_,λt Y=>Bs (G t (Dc.mpr li)) Y,nn,λe N=>Bs (O e (Dc.mpr N))⟩;rcases U with z|z
 .exact .inl (by simpa using z)
 .exact .inr (Bs z)
theorem E6 (c:Cl){n:Ag}{S:ao}(h:1<=n/\n<=40)(q:Q (.int (bp n)) S):Ok (fw c [.int (n:Ah)] S) Q:=by
 have k:=(K4 h).pb;rw[b0];refine qV (aj:=[Ab (.int n),none]) rfl ?_;rfl';refine cM c ⟨by lia,by lia⟩ ?_
 rfl';refine _T ?_;rfl';unfold bp at q;refine⟨λz=>?_,λz=>?_⟩
 .have z:=Bs z
  rw[Bd z] at q;rfl';exact q
 .have z:=Il z
  rw[Bg z] at q;rfl';refine K2 ⟨by lia,by lia⟩ ?_
  rfl';exact q
theorem rN (c:Cl){n:Ag}{S:ao}(h:1<=n/\n<=40)(q:Q (.int (o_ n)) S):Ok (l_ c [.int (n:Ah)] S) Q:=by
 rw[rV];refine qV (aj:=[Ab (.int n)]) rfl ?_;rfl';refine qT (d:=.int 1000000) rfl ?_;rfl';refine qT (uY c S ⟨by lia,by lia⟩) ?_
 rfl';refine bU c ⟨by lia,by lia⟩ ?_
 rfl';refine E6 c h ?_;rfl';refine qT (d:=.int (o_ n)) (S:=S) ?_ ?_
 .unfold o_
  show aw.ok (D.int (if bp (n:Ah)>uO (n:Ah) then bp (n:Ah) else uO (n:Ah))) S=_
  rfl
 .exact q
theorem T4 (c:Cl){l:Aa Pt}(h:oi 40 l){S:ao}(q:∀ Y,S<+:Y->Q (.int (((me (ay l)).length:Ag)-o_ l.length)) Y):Ok (kz c [xJ l] S) Q:=by
 have U:=Gf.mpr h.ne;have G:=h.len;rw[tN];refine qV (aj:=[Ab (.tup (l.map cb))]) rfl ?_;rfl';refine cL c li h λN J=>?_;rfl';rw[Ao];refine rN c ⟨U,G⟩ ?_;rfl';exact q N J
theorem sI {α:Type}(p:α->Ar):∀ R:Aa α,R.length=(R.filter p).length+(R.filter λz=>!p z).length
 |[]=>rfl
 |z::R=>by
  have:=sI p R;cases h:p z <;> simp only[Kx,h,Dq,Jh,Sr,Bp,Dv,By] <;> lia
theorem tP {α:Type}(Y:α->Ah)(M:Ag):∀ (K:Aa Ah) (R:Aa α),(∀ z∈R,Y z∈K)->(∀ f∈K,(R.filter λz=>Y z == f).length<=M)->R.length<=K.length*M
 |[],[],_,_=>by simp
 |[],z::R,h,_=>absurd (h z (Bc ..)) cy
 |f::K,R,h,J=>by
  have C:=J f (Bc ..);have B:=tP Y M K (R.filter λz=>!(Y z == f)) (λz N=>by
   obtain⟨G,U⟩:=Dh.mp N;rcases Av.mp (h z G) with e|e
   .rw[e,Gc] at U
    cases U
   .exact e) (λg O=>Ci (List.Sublist.length_le ((List.filter_sublist).filter _)) (J g (Ap _ O)))
  have e:=sI (λz=>Y z == f) R;rw[By,u8]
  lia
theorem EY {α:Type}{R:Aa α}(nd:R.Nodup)(h:∀ x∈R,∀ y∈R,x=y):R.length<=1:=by
 match R,nd,h with
 |[],_,_=>simp
 |[_],_,_=>simp
 |x::y::R,nd,h =>
  have:=h x cy y cy
  subst this;simp at nd
theorem l3 {a b:Ah}(Y:0<=a)(J:0<=b)(h:a*a<=b*b):a<=b:=by
 by_cases z:a<=b
 .exact z
 .have G:=Mw (show b+1<=a by lia) (show b+1<=a by lia) li Y
  have U:(b+1)*(b+1)=b*b+2*b+1:=by grind
  lia
theorem eK {x y u:Ah}(U:0<=x)(J:0<=u)(N:y<=v)(h:x*x+y*y=u*u+v*v):y*u<=x*v:=by
 by_cases B:0<=y
 .have O:=Mw N N B li
  have Y:=l3 J U li;have G:=Mw N Y J li;rw[Wc x v];exact G
 .by_cases C:0<=v
  .have O:=Es U C
   have Y:=Es (show 0 <= -y by lia) J
   rw[AaW] at Y
   lia
  .have O:=Mw (show -v <= -y by lia) (show -v <= -y by lia) li li
   rw[Xa,Xa] at O;have Y:=l3 U J li;have G:=Mw (show -v <= -y by lia) Y U li
   rw[AaW,AaW] at G;rw[Wc x v]
   lia
theorem Q5 {a:Ah}(h:a*a=0):a=0:=by rcases Hx.mp h with h|h <;> exact h
theorem NI {x y u s t f:Ah}(G:0<f)(h0:x*x+y*y=f)(h1:u*u+v*v=f)(h2:s*s+t*t=f)(C:x*u+y*v=x*s+y*t)(N:y*u<=x*v)(T:y*s<=x*t):u=s/\v=t:=by
 have e:(x*v-y*u)*(x*v-y*u)=(x*t-y*s)*(x*t-y*s):=by grind
 have B:=l3 (show 0<=x*v-y*u by lia) (show 0<=x*t-y*s by lia) li
 have O:=l3 (show 0<=x*t-y*s by lia) (show 0<=x*v-y*u by lia) li
 have U:x*v-y*u=x*t-y*s:=by lia
 have Y:f*(u-s)=0:=by grind
 have J:f*(v-t)=0:=by grind
 refine⟨?_,?_⟩
 .rcases Hx.mp Y with z|z <;> lia
 .rcases Hx.mp J with z|z <;> lia
theorem B6:∀ G:Aa Pt,G≠[]->∃ B∈G,∀ z∈G,B.2<=z.2
 |[],h=>absurd rfl h
 |[b],_=>⟨b,by simp,λz J=>by rw[Dn.mp J];exact Ja _⟩
 |b::c::G,_=>by
  obtain⟨B,Y,h⟩:=B6 (c::G) cy
  by_cases z:b.2<=B.2
  .refine⟨b,by simp,λy hy=>?_⟩
   rcases Av.mp hy with rfl|hy
   .exact Ja _
   .exact Ey z (h y hy)
  .refine⟨B,Ap _ Y,λy hy=>?_⟩
   rcases Av.mp hy with rfl|hy
   .lia
   .exact h y hy
theorem iV (A B z:Pt):ff B z=ff A B+ff A z-2*((B.1-A.1)*(z.1-A.1)+(B.2-A.2)*(z.2-A.2)):=by
 unfold ff
 grind
theorem rH (A z:Pt):ff A z=(z.1-A.1)*(z.1-A.1)+(z.2-A.2)*(z.2-A.2):=by
 unfold ff
 grind
theorem RC {A:Pt}{f:Ah}(q:0<f){G:Aa Pt}(nd:G.Nodup)(C:∀ z∈G,A.1<=z.1)(J:∀ z∈G,ff A z=f){T:Aa Ah}(hT:∀ B∈G,∀ z∈G,B≠z->ff B z∈T):G.length<=T.length+1:=by
 by_cases e:G=[]
 .rw[e];simp
 obtain⟨B,Y,k⟩:=B6 G e;have I:=nd.erase B;have a:=tP (ff B) 1 T (G.erase B) (λz H=>by
  have O:=(List.Nodup.mem_erase_iff nd).mp H;exact hT B Y z O.2 (Gd O.1)) (λg c=>EY (I.filter _) λy u z H=>by
   obtain⟨N,E⟩:=Dh.mp u;obtain⟨U,j⟩:=Dh.mp H;have N:=Mq N;have U:=Mq U;have E:=eq_of_beq E;have j:=eq_of_beq j;rw[iV A B y,J B Y,J y N] at E;rw[iV A B z,J B Y,J z U] at j;have p:=(rH A B).symm.trans (J B Y);have o:=(rH A y).symm.trans (J y N);have t:=(rH A z).symm.trans (J z U);have n:=eK (show 0<=B.1-A.1 by have:=C B Y;lia) (show 0<=y.1-A.1 by have:=C y N;lia) (show B.2-A.2<=y.2-A.2 by have:=k y N;lia) li
   have l:=eK (show 0<=B.1-A.1 by have:=C B Y;lia) (show 0<=z.1-A.1 by have:=C z U;lia) (show B.2-A.2<=z.2-A.2 by have:=k z U;lia) li
   obtain⟨s,b⟩:=NI q p o t li n l;exact Fc li li)
 have:=Op Y
 lia
theorem eY {l:Aa Pt}{a b:Pt}(ha:a∈l)(hb:b∈l)(J:a≠b):ff a b∈ay l:=by
 induction l with
 |nil=>simp at ha
 |cons p l U =>
  rw[kB,Cc];rcases Av.mp ha with e|ha
  .rcases Av.mp hb with Y|hb
   .exact absurd (e.trans Y.symm) J
   .rw[e];exact .inl (Nw hb)
  .rcases Av.mp hb with e|hb
   .rw[e,iW];exact .inl (Nw ha)
   .exact .inr (U ha hb)
theorem FV {l:Aa Pt}(G:Up l):l.length-1<=(me (ay l)).length*((me (ay l)).length+1):=by
 cases l with
 |nil=>simp
 |cons A qD =>
  have I:=pV G;obtain⟨C,U⟩:=Dj.mp I;have T:=(Do.mp G).1;have J:∀ z∈qD,A≠z:=λz Y e=>C (e▸Y);have:=tP (ff A) ((me (ay (A::qD))).length+1) (me (ay (A::qD))) qD (λz Y=>vS.mpr (eY (Bc ..) (Ap _ Y) (J z Y))) (λf H=>by
   by_cases E:0<f
   .refine RC (A:=A) E (U.filter _) (λz Y=>?_) (λz Y=>eq_of_beq (Dh.mp Y).2) (λB O z Y N=>vS.mpr (eY (Ap _ (Dh.mp O).1) (Ap _ (Dh.mp Y).1) N))
    have:=T z (Dh.mp Y).1;unfold zj at this;rw[_H.cq] at this;by_cases e:A.1=z.1
    .lia
    .rw[Bg e] at this
     have:=Bs this
     lia
   .have:(qD.filter λz=>ff A z == f)=[]:=by
     rw[Qf];intro z Y e;have:=iU (J z Y);have:=eq_of_beq e
     lia
    rw[this];simp)
  simpa using this
theorem nN (s:Ah):2*mp s=s*(s-1):=by
 unfold mp;have h:s*(s-1) % 2=0:=by
  rcases Ab5 s with h|h
  .rw[Wd,h];simp
  .have Y:(s-1) % 2=0:=by lia
   rw[Wd,Y];simp
 lia
def sm {α:Type}(l:Aa α)(g:α->Ag):Ag:=(l.map g).sum
theorem zR {α:Type}(x:α)(l:Aa α)(g:α->Ag):sm (x::l) g=g x+sm l g:=by simp[sm]
theorem gP {α:Type}(g h:α->Ag):∀ l:Aa α,sm l (λx=>g x+h x)=sm l g+sm l h
 |[]=>rfl
 |x::l=>by rw[zR,zR,zR,gP g h l];lia
theorem l0 {α:Type}(k:Ag)(g:α->Ag):∀ l:Aa α,sm l (λx=>k*g x)=k*sm l g
 |[]=>rfl
 |x::l=>by rw[zR,zR,l0 k g l,Tn]
theorem nZ {α:Type}{g h:α->Ag}:∀ {l:Aa α},(∀ x∈l,g x<=h x)->sm l g<=sm l h
 |[],_=>Aw _
 |x::l,k=>by
  rw[zR,zR];exact Yd (k x (Bc ..)) (nZ λy Y=>k y (Ap _ Y))
theorem vH {α:Type}{g h:α->Ag}{l:Aa α}(k:∀ x∈l,g x=h x):sm l g=sm l h:=by
 unfold sm;rw[Jj k]
theorem dE {α β:Type}(g:α->β->Ag)(m:Aa β) : ∀ l:Aa α,sm l (λx=>sm m λy=>g x y)=sm m λy=>sm l λx=>g x y
 |[]=>by
  show 0=sm m λ_=>0
  induction m with
  |nil=>rfl
  |cons y m Y=>rw[zR,<- Y]
 |x::l=>by
  rw[zR,dE g m l,<- gP];exact vH λy _=>(zR x l λx=>g x y).symm
theorem gQ {α:Type}(k:Ag):∀ l:Aa α,sm l (λ_=>k)=l.length*k
 |[]=>by simp[sm]
 |x::l=>by rw[zR,gQ k l,By,u8];lia
def nr (f:Ah)(u v:Pt):Ag:=if ff u v=f then 1 else 0
theorem YI (f:Ah)(u v:Pt):nr f u v=nr f v u:=by unfold nr;rw[iW]
theorem OS (f:Ah)(u v:Pt):nr f u v*nr f u v=nr f u v:=by unfold nr;split <;> rfl
theorem qAr (f:Ah){u w a b c:Pt}(I:u≠w)(j:ff u a=f)(o:ff w a=f)(E:ff u b=f)(t:ff w b=f)(T:ff u c=f)(c2:ff w c=f):a=b\/a=c\/b=c:=by
 have H:∀ (O N Y G U J B C:Ah),O*O+N*N=f->(O+Y)*(O+Y)+(N+G)*(N+G)=f->(O+U)*(O+U)+(N+J)*(N+J)=f->Y*B+G*C=0->U*B+J*C=0->(B≠0\/C≠0)->(Y=0/\G=0)\/(U=0/\J=0)\/(Y=U/\G=J):=by
  intro O N Y G U J B C h0 h1 h2 h3 h4 h5;have cr:Y*J-G*U=0:=by
   have e:B*(Y*J-G*U)=0:=by grind
   have l:C*(Y*J-G*U)=0:=by grind
   rcases h5 with h5|h5
   .rcases Hx.mp e with z|z
    .exact absurd z h5
    .exact z
   .rcases Hx.mp l with z|z
    .exact absurd z h5
    .exact z
  have p:(Y*Y+G*G)*(U*U+J*J-(Y*U+G*J))=0:=by grind
  have q:(U*U+J*J)*(Y*Y+G*G-(Y*U+G*J))=0:=by grind
  have A:∀ x y:Ah,x*x+y*y=0->x=0/\y=0:=λx y h=>by
   have s:∀ x:Ah,0<=x*x:=λx=>by rw[<- Na x];exact Es li li
   have s1:=s x;have s2:=s y;exact⟨Q5 om,Q5 om⟩
  rcases Hx.mp p with z|z
  .exact .inl (A _ _ z)
  .rcases Hx.mp q with y|y
   .exact .inr (.inl (A _ _ y))
   .have:(Y-U)*(Y-U)+(G-J)*(G-J)=0:=by grind
    obtain⟨k1,k2⟩:=A _ _ this;exact .inr (.inr ⟨by lia,by lia⟩)
 rw[rH] at j o E t T c2;have n:w.1-u.1≠0\/w.2-u.2≠0:=by
  by_cases z:w.1-u.1=0
  .right
   intro y;exact I (Fc li li)
  .exact .inl z
 have k:(b.1-a.1)*(w.1-u.1)+(b.2-a.2)*(w.2-u.2)=0:=by
  have:2*((b.1-a.1)*(w.1-u.1)+(b.2-a.2)*(w.2-u.2))=0:=by grind
  lia
 have g:(c.1-a.1)*(w.1-u.1)+(c.2-a.2)*(w.2-u.2)=0:=by
  have:2*((c.1-a.1)*(w.1-u.1)+(c.2-a.2)*(w.2-u.2))=0:=by grind
  lia
 rw[show b.1-u.1=a.1-u.1+(b.1-a.1) by lia,show b.2-u.2=a.2-u.2+(b.2-a.2) by lia] at E
 rw[show c.1-u.1=a.1-u.1+(c.1-a.1) by lia,show c.2-u.2=a.2-u.2+(c.2-a.2) by lia] at T
 rcases H _ _ _ _ _ _ _ _ j E T k g n with z|z|z
 .exact .inl (Fc li li)
 .exact .inr (.inl (Fc li li))
 .exact .inr (.inr (Fc li li))
theorem AR {α:Type}{R:Aa α}(nd:R.Nodup)(h:∀ x∈R,∀ y∈R,∀ z∈R,x=y\/x=z\/y=z):R.length<=2:=by
 match R,nd,h with
 |[],_,_=>simp
 |[_],_,_=>simp
 |[_,_],_,_=>simp
 |x::y::z::R,nd,h =>
  rcases h x cy y cy z cy with e|e|e <;> subst e <;> simp at nd
theorem kJ {α:Type}(p:α->Ar):∀ l:Aa α,sm l (λx=>if p x=true then 1 else 0)=(l.filter p).length
 |[]=>rfl
 |x::l=>by
  rw[zR,kJ p l,Kx];cases p x <;> simp <;> lia
def cm (f:Ah)(l:Aa Pt)(u w:Pt):Ag:=sm l λv=>nr f u v*nr f w v
theorem IP {l:Aa Pt}(nd:l.Nodup){u w:Pt}(h:u≠w):cm f l u w<=2:=by
 have e:cm f l u w=(l.filter λv=>decide (ff u v=f)&&decide (ff w v=f)).length:=by
  rw[<- kJ];refine vH λv _=>?_;unfold nr;by_cases a:ff u v=f <;> by_cases b:ff w v=f <;> simp[a,b]
 rw[e];refine AR (nd.filter _) λx U y Y z J=>?_;have U:=(Dh.mp U).2;have Y:=(Dh.mp Y).2;have J:=(Dh.mp J).2;simp only[AT,Bi] at U Y J;exact qAr f h U.1 U.2 Y.1 Y.2 J.1 J.2
def dg (f:Ah)(l:Aa Pt)(v:Pt):Ag:=sm l λu=>nr f u v
theorem F1 (f:Ah)(l:Aa Pt)(u:Pt):cm f l u u=dg f l u:=vH λv _=>by rw[OS,YI]
theorem W3 {l:Aa Pt}(nd:l.Nodup)(u:Pt):∀ m:Aa Pt,m.Nodup->sm m (λw=>cm f l u w)<=dg f l u+m.length*2/\(u∈m->sm m (λw=>cm f l u w)<=dg f l u+(m.length-1)*2)/\(u ∉ m->sm m (λw=>cm f l u w)<=m.length*2)
 |[],_=>⟨by simp[sm],(λh=>by cases h),λ_=>by simp[sm]⟩
 |w::m,G=>by
  obtain⟨N,U⟩:=Dj.mp G;obtain⟨_,J,Y⟩:=W3 (f:=f) nd u m U;rw[zR,By];by_cases e:u=w
  .subst e
   have:=Y N;rw[F1];exact⟨by lia,λ_=>by lia,λh=>absurd (Bc ..) h⟩
  .have O:=IP nd (f:=f) e
   refine⟨?_,λh=>?_,λh=>?_⟩
   .by_cases z:u∈m
    .have:=J z
     lia
    .have:=Y z
     lia
   .rcases Av.mp h with h|h
    .exact absurd h e
    .have:=J h
     have:=Lv h
     lia
   .have:=Y λz=>h (Ap _ z)
    lia
theorem AE {l:Aa Pt}(nd:l.Nodup):sm l (λv=>dg f l v*dg f l v)<=sm l (dg f l)+l.length*((l.length-1)*2):=by
 have e:sm l (λv=>dg f l v*dg f l v)=sm l λu=>sm l λw=>cm f l u w:=by
  have J:∀ v∈l,dg f l v*dg f l v=sm l λu=>sm l λw=>nr f u v*nr f w v:=λv _=>by
   have:∀ u∈l,(sm l λw=>nr f u v*nr f w v)=dg f l v*nr f u v:=λu _=>by
    rw[l0,Hd];rfl
   rw[vH this,l0];rfl
  rw[vH J,dE];exact vH λu _=>dE _ _ _
 rw[e];have h:∀ u∈l,sm l (λw=>cm f l u w)<=dg f l u+(l.length-1)*2:=λu Y=>(W3 nd u l nd).2.1 Y;refine Ci (nZ h) ?_;rw[gP,gQ];exact Aw _
theorem UQ {f:Ah}(G:0<f):∀ l:Aa Pt,sm l (dg f l)=2*(ay l).count f
 |[]=>rfl
 |p::l=>by
  have J:nr f p p=0:=by
   unfold nr;rw[Bg];intro e;have:ff p p=0:=by unfold ff;rw[Wf,Wf];rfl
   lia
  have U:∀ v∈l,dg f (p::l) v=nr f p v+dg f l v:=λv _=>zR _ _ _;have Y:(l.map (ff p)).count f=sm l λv=>nr f p v:=by
   have:∀ m:Aa Pt,(m.map (ff p)).count f=sm m λv=>nr f p v:=by
    intro m
    induction m with
    |nil=>rfl
    |cons v m N =>
     rw[De,Ab7,N,zR];unfold nr;by_cases z:ff p v=f <;> simp[z] <;> lia
   exact this l
  rw[zR,vH U,gP,UQ G l,kB,List.count_append,Y];have:dg f (p::l) p=sm l λv=>nr f p v:=by
   unfold dg;rw[zR,J,Hc];exact vH λv _=>YI f v p
  have O:(sm l λv=>nr f p v)=sm l (nr f p):=rfl
  lia
theorem GM (d s:Ah):(2*s+1)*d<=d*d+s*(s+1):=by
 have e:d*d+s*(s+1)-(2*s+1)*d=(d-s)*(d-s-1):=by grind
 have:0<=(d-s)*(d-s-1):=by
  by_cases z:1<=d-s
  .exact Es li li
  .exact Int.mul_nonneg_of_nonpos_of_nonpos li li
 lia
theorem V9 {f:Ah}(E:0<f){l:Aa Pt}(nd:l.Nodup)(h1:1<=l.length):ot (2*((ay l).count f:Ah)) l.length<=(l.length:Ah)*(l.length-1):=by
 have hs:=AE (f:=f) nd;have U:=UQ E l;obtain⟨e,I⟩:∃ e,e=(ay l).count f:=⟨_,rfl⟩;rw[<- I] at U ⊢;have z:(0:Ah)<l.length:=by lia
 have Y:=Rc (2*(e:Ah)) l.length;have N:0<=2*(e:Ah)/l.length:=Lz li li;obtain⟨s,G⟩:=Jb N;have C:sm l (λv=>(2*s+1)*dg f l v)<=sm l λv=>dg f l v*dg f l v+s*(s+1):=nZ λv _=>by
  have:=GM (dg f l v:Ah) (s:Ah)
  exact_mod_cast this
 rw[l0,gP,gQ,U] at C;rw[U] at hs;have B:(2*s+1)*(2*e)<=2*e+l.length*((l.length-1)*2)+l.length*(s*(s+1)):=Ci C (Rj hs _);have J:(2*(s:Ah)+1)*(2*(e:Ah))<=2*(e:Ah)+(l.length:Ah)*(((l.length:Ah)-1)*2)+(l.length:Ah)*((s:Ah)*((s:Ah)+1)):=by
  have:=(Wg.mpr B)
  push_cast at this
  rw[Us h1] at this;exact this
 unfold ot;rw[G] at Y ⊢;have O:=nN (s:Ah);generalize 2*(e:Ah) % l.length=r at *;generalize (l.length:Ah)=n at *;generalize (s:Ah)=s at *;generalize mp s=m at *;have:2*(n*m+r*s)<=2*(n*(n-1)):=by
  have H:2*(n*m+r*s)=n*(2*m)+2*(r*s):=by grind
  rw[H,O];rw[<- Y] at J;have T:n*(s*(s-1))+2*(r*s)=(2*s+1)*(r+n*s)-(r+n*s)-n*(s*(s+1)):=by grind
  rw[T];have A:n*((n-1)*2)=2*(n*(n-1)):=by grind
  lia
 lia
theorem jE:∀ l:Aa Pt,2*(ay l).length=l.length*(l.length-1)
 |[]=>rfl
 |p::l=>by
  rw[kB,Cu,Ao,By,Tn,jE l];cases l.length with
  |zero=>rfl
  |succ n =>
   show 2*(n+1)+(n+1)*n=(n+1+1)*(n+1);rw[Nat.add_mul (n+1) 1 (n+1),To,Tn (n+1) n 1,Qz]
   lia
theorem vP {l:Aa Pt}(nd:l.Nodup):∀ f∈ay l,0<f:=by
 induction l with
 |nil=>intro f h;cases h
 |cons p l J =>
  intro f h;obtain⟨Y,G⟩:=Dj.mp nd;rw[kB] at h;rcases Cc.mp h with h|h
  .obtain⟨q,U,rfl⟩:=Bl.mp h
   exact iU λe=>Y (e▸U)
  .exact J G f h
theorem LZ {l:Aa Pt}(h:oi 40 l):o_ l.length<=((me (ay l)).length:Ah):=by
 have Y:=Gf.mpr h.ne;have O:=h.len;have N:=pV h.up;have K:=K4 ⟨Y,O⟩;have fl:=jE l;have B:l.length*(l.length-1)<=40*39:=Ez O li;by_cases z:((me (ay l)).length:Ah)<o_ l.length
 .exfalso
  rcases K.low _ z with y|y
  .have C:=FV h.up
   have G:((l.length-1:Ag):Ah)<=(((me (ay l)).length*((me (ay l)).length+1):Ag):Ah):=Wg.mpr C
   push_cast at G
   rw[Us Y,Int.mul_add,Int.mul_one] at G
   lia
  .have I:=tP id (pb l.length).toNat (me (ay l)) (ay l) (λf J=>vS.mpr J) (λf J=>by
    have U:=vS.mp J;have e:((ay l).filter λz=>id z == f).length=(ay l).count f:=by
     rw[List.count,Si];rfl
    rw[e];have E:(ay l).count f<=(ay l).length:=Yo;have:=K.most ((ay l).count f) li (V9 (vP N f U) N Y)
    lia)
   have T:0<=pb l.length:=by
    rcases K.pb with e|e
    .rw[e]
     decide +kernel
    .lia
   have G:((ay l).length:Ah)<=((me (ay l)).length:Ah)*pb l.length:=by
    have:=Wg.mpr I;rw[Dm,Ny T] at this;exact this
   have A:=nN (l.length:Ah);have H:2*((ay l).length:Ah)=(l.length:Ah)*((l.length:Ah)-1):=by
    have:=congrArg (Nat.cast (R:=Ah)) fl
    push_cast at this
    rw[Us Y] at this;exact this
   lia
 .lia
def mkD (Y:Aa Ah):D:=.tup (Y.map D.int)
def qo (ns:Aa Ah):Ar:=(ns.zip (ns.drop 1)).all λp=>decide (p.1<p.2)
theorem QD:∀ (ks:Aa Ah),qo ks=true↔ks.Pairwise (· < ·)
 |[]=>by simp[qo]
 |[a]=>by simp[qo]
 |a::b::r=>by
  have U:=QD (b::r);have e:qo (a::b::r)=(decide (a<b)&&qo (b::r)):=by simp[qo]
  rw[e,AT,U,Do (a:=a),Bi];constructor
  .rintro⟨Y,J⟩
   refine⟨λx hx=>?_,J⟩;rcases Av.mp hx with rfl|hx
   .exact Y
   .exact Int.lt_trans Y ((Do.mp J).1 x hx)
  .rintro⟨Y,J⟩
   exact⟨Y b cy,J⟩
theorem LG (ks Y:Aa Ah):yM (ks.map D.int) (Y.map D.int)=(ks.zip Y).map λp=>D.tup [.int p.1,.int p.2]:=by
 unfold yM
 induction ks generalizing Y with
 |nil=>rfl
 |cons k ks J =>
  cases Y with
  |nil=>rfl
  |cons m Y=>exact congrArg (_::·) (J Y)
theorem A5 (ns:Aa Ah)(N:ns.length<=1000)(S:ao):de [mkD ns] S=.ok (.bl (qo ns)) S:=by
 rw[vL];refine xQ (qV (aj:=[Ab (.tup (ns.map D.int))]) rfl ?_);rfl';have G:xO (eR (q8 (q9 0) (q8 (mw (q9 0) (xX (dC (.int 1))) v9) qA))) [Ab (.tup (ns.map D.int))] S=.ok (none,((ns.zip (ns.drop 1)).map λp=>D.tup [.int p.1,.int p.2])) S:=by
  show aw.ok (none,yM (ns.map D.int) (xH (ns.map D.int) (Ab 1) none)) S=_;rw[PM,<- Um,LG]
 refine y9 (ns.zip (ns.drop 1)) (λp:Ah × Ah=>.bl (decide (p.1<p.2))) (λaj Y=>Y=S/\∃ a b,aj=[a,b]) G ⟨rfl,none,none,rfl⟩ ?_ (λ_ _ _=>trivial) (λx O aj Y ⟨J,a,b,U⟩=>?_) λaj Y ⟨J,_⟩=>?_
 .rw[Rx]
  unfold bq
  lia
 .subst J U
  rfl';exact qT (d:=.bl (decide (x.1<x.2))) rfl ⟨rfl,rfl,_,_,rfl⟩
 .subst J
  rfl';exact nO ⟨rfl,rfl⟩
theorem IJ {xs:Aa D}(h:xs≠[]):_L.mi xs (-1)=Ab (xs.getLast h):=by
 have Y:=Gf.mpr h;have e:_L.og xs.length (-1)=Ab (xs.length-1):=by
  unfold _L.og;simp
  lia
 unfold _L.mi;rw[e];show xs[xs.length-1]? = _;rw[List.getLast_eq_getElem,An li]
def J8:D->Ar
 |.tup xs=>decide (1<=xs.length/\xs.length<=100)&&(xs.all (inR 1 1000000000000)&&match zO xs with
  |some ns=>qo ns
  |none=>false)
 |_=>false
theorem RF (h:ig d=false):J8 d=false:=by
 cases d <;> first|rfl|cases h
theorem PX:∀ {xs:Aa D},xs.all (inR 1 1000000000000)=true->∃ ns:Aa Ah,xs=ns.map D.int
 |[],_=>⟨[],rfl⟩
 |d::Y,h=>by
  rw[Qo,AT] at h;obtain⟨ns,rfl⟩:=PX h.2;obtain⟨i,rfl,_⟩:=lS h.1;exact⟨i::ns,rfl⟩
theorem A4 (h:Pn d)(S:ao):gv [d] S=.ok (.bl (J8 d)) S:=by
 rw[pZ];refine xQ (qV (aj:=[Ab d]) rfl ?_);rfl';refine pO ?_;rfl';refine qT (ZM h S) ?_;rfl';refine⟨λe=>?_,λe=>?_⟩
 .rfl'
  exact⟨by rw[RF (by simpa using e)],rfl⟩
 .cases d with
  |tup xs =>
   rfl';refine d3 (b:=(xs.length:Ah)) rfl rfl rfl ?_;rfl';refine wV (λz=>?_) λz=>?_
   .have G:1<=xs.length/\xs.length<=100:=by fin2
    rfl';refine ZX ?_;rfl';refine y9 (cw:=id) (o:=none) xs (λx=>.bl (inR 1 1000000000000 x)) (λaj Y=>Y=S/\∃ a,aj=[a]) ((ZN rfl).trans (by rw[Ol])) ⟨rfl,none,rfl⟩ (by unfold bq;fin2) (λ_ _ _=>trivial) (λx O aj Y ⟨U,a,N⟩=>?_) λaj Y ⟨U,_⟩=>?_
    .subst U N
     rfl';refine qT (show uN (.int 10) (.int 12) Y=.ok (.int 1000000000000) Y from rfl) ?_
     rfl';exact qT (tE (cS h x O) _ _ _) ⟨rfl,rfl,_,rfl⟩
    .subst U
     rfl';refine nO ⟨_,rfl,λJ=>?_,λJ=>?_⟩
     .obtain⟨ns,rfl⟩:=PX J
      rw[Ao] at G;rfl';refine qT (A5 ns om _) ⟨?_,rfl⟩;show _=D.bl (decide (1<=(ns.map D.int).length/\(ns.map D.int).length<=100)&&((ns.map D.int).all (inR 1 1000000000000)&&match zO (ns.map D.int) with|some ns=>qo ns|none=>false))
      rw[J,Ao,Co G,uC];rfl
     .refine⟨?_,rfl⟩
      show _=D.bl (decide (1<=xs.length/\xs.length<=100)&&(xs.all (inR 1 1000000000000)&&match zO xs with|some ns=>qo ns|none=>false))
      rw[J,Jp,So]
   .rfl'
    refine⟨?_,rfl⟩;show _=D.bl (decide (1<=xs.length/\xs.length<=100)&&(xs.all (inR 1 1000000000000)&&match zO xs with|some ns=>qo ns|none=>false))
    rw[Cs om,Jp]
  |_=>cases e
def v_ (ns:Aa Ag):D:=.tup (ns.map nD)
structure yw (ns:Aa Ag):Prop where
 ne:ns≠[]
 len:ns.length<=100
 up:ns.Pairwise (· < ·)
 b:∀ n∈ns,1<=n/\n<=1000000000000
theorem L4 (Y:ns≠[])(up:ns.Pairwise (· < ·)) : ∀ n∈ns,n<=ns.getLast Y:=λn J=>by
 rcases List.eq_nil_or_concat ns with z|⟨l,z,rfl⟩
 .exact absurd z Y
 .simp only[List.concat_eq_append] at *
  have U:∀ h,(l++[z]).getLast h=z:=λh=>by simp
  rw[U];rcases Cc.mp J with h|h
  .exact Ef ((DL.mp up).2.2 n h z cy)
  .rw[Dn.mp h]
   exact Aw _
theorem YJ (F:yw ns)(q:∀ S1,S<+:S1->Q (.lst (ns.map λn=>D.int (rr n))) S1):Ok (br [v_ ns] S) Q:=by
 rw[vJ];refine qV (aj:=[Ab (.tup (ns.map nD)),none]) rfl ?_;have B:ns.map nD≠[]:=by simpa using F.ne
 have j:=F.b _ (List.getLast_mem F.ne);rfl';refine X0 (IJ B) ?_;rw[List.getLast_map];rfl';show Ok (dk [.int (ns.getLast F.ne:Ah)] S) _;refine EF ⟨by fin2,by fin2⟩ λT k C=>?_
 have C:ns.getLast F.ne<T*T:=by
  have:(T:Ah)*T=((T*T:Ag):Ah):=by simp
  fin2
 have J:2<=T:=by
  rcases Ep T 2 with g|g
  .have:T*T<=1*1:=Ez om om
   fin2
  .exact g
 rfl';refine iC ⟨J,by fin2⟩ λbs S1 hv U=>?_
 rfl';refine y9 (cw:=nD) (o:=none) ns (λn=>D.int (rr n)) (λaj G=>S<+:G/\∃ a,aj=[a,Ab (.lst ((kQ T bs).map nD))]) (ZN rfl) ⟨U,none,rfl⟩ (by have:=F.len;unfold bq;fin2) (λ_ _ _=>trivial) (λn I aj G ⟨Y,a,A⟩=>?_) λaj G ⟨Y,_⟩=>?_
 .subst A
  have N:=F.b n I;have O:n<(T+1)*(T+1):=by
   have y:=L4 F.ne F.up n I;have u:T*T<=(T+1)*(T+1):=Ez om om;fin2
  rfl';refine MZ (n:=n) (m:=T) N ⟨by fin2,O⟩ (MT T bs) (λp U=>MS J U) (λp U O=>JS hv U O) λL z H E=>?_
  rfl';refine qT (BH L n z H N.2) ?_;rw[qAh H N.1];exact⟨rfl,Y.trans E,_,rfl⟩
 .exact l8 (q G Y)
theorem cC (ns:Aa Ag):ns.map nD=(ns.map λ(n:Ag)=>(n:Ah)).map D.int:=by
 rw[Ea];rfl
theorem qAU (ns:Aa Ag):Pn (v_ ns):=HM λx Y=>by
 obtain⟨n,_,rfl⟩:=Bl.mp Y;exact⟨.int (n:Ah),rfl⟩
theorem M3 (F:yw ns):J8 (v_ ns)=true:=by
 have J:=Gf.mpr F.ne;have U:=F.len;show (decide (1<=(ns.map nD).length/\(ns.map nD).length<=100)&&((ns.map nD).all (inR 1 1000000000000)&&match zO (ns.map nD) with|some ns=>qo ns|none=>false))=true
 rw[Ao,Co ⟨by fin2,by fin2⟩,cC,uC,AbO,AT]
 refine⟨?_,(QD _).mpr (Ei.mpr (F.up.imp λh=>by fin2))⟩
 rw[Ea,Ix,Bt];intro n Y;have:=F.b n Y;exact Co (show (1:Ah)<=(n:Ah)/\(n:Ah)<=1000000000000 by fin2)
theorem OU {n:Ah}(c:Cl)(G:1<=n/\n<=40)(F:yw ns)(q:∀ S1,S<+:S1->Q (.bl (decide (n*(n-1)/2<=(ns.map λk=>jJ n (rr k)).sum))) S1):Ok (gu c [.int n,v_ ns] S) Q:=by
 rw[b7];refine qV (aj:=[Ab (.int n),Ab (v_ ns)]) rfl ?_;rfl';refine qT (uY c S G) ?_;rfl';refine qT (A4 (qAU ns) S) ?_;rw[M3 F];rfl';have C:Ok (qF 1 br (q8 (q9 1) qA) [Ab (.int n),Ab (v_ ns)] S) λd S1=>d=.lst (ns.map λk=>D.int (rr k))/\S<+:S1:=by
  rfl';exact YJ F λS1 U=>⟨rfl,U⟩
 obtain⟨d,S1,e,rfl,U⟩:=C;have N:nj (qF 1 br (q8 (q9 1) qA)) [Ab (.int n),Ab (v_ ns)] S=.ok (none,ns.map λk=>D.int (rr k)) S1:=by
  unfold nj;rw[e];rfl
 refine y9 (cw:=λk=>D.int (rr k)) (o:=none) ns (λk=>D.int (jJ n (rr k))) (λaj J=>S<+:J/\∃ a,aj=[a,Ab (.int n)]) N ⟨U,none,rfl⟩ (by have:=F.len;unfold bq;fin2) (λ_ _ _=>trivial) (λk B aj J ⟨Y,a,O⟩=>?_) λaj J ⟨Y,_⟩=>?_
 .subst O
  rfl';refine YL G ?_;exact⟨rfl,Y,_,rfl⟩
 .rfl'
  refine qAG ?_;rfl';refine K2 ⟨by lia,by lia⟩ ?_
  rfl';exact q J Y
theorem cE {α:Type}[NE α] : ∀ {L G:Aa α},L.Nodup->(∀ s∈L,s∈G)->L.length<=G.length
 |[],_,_,_=>Ho _
 |x::L,G,J,h=>by
  have Y:=Dj.mp J;have p:=Ym (h x (.head _));have:=cE (L:=L) (G:=G.erase x) Y.2 λs hs=>(Av.mp (p.mem_iff.mp (h s (.tail _ hs)))).resolve_left λe=>Y.1 (e▸hs);rw[p.length_eq,By,By];exact AaI this
theorem gD (p:Ah->Ar):∀ (k:Ag) (lo hi:Ah),(hi-lo).toNat<=k->lo<=hi->p hi=true->lo<=bs p k lo hi/\p (bs p k lo hi)=true/\(bs p k lo hi=lo\/p (bs p k lo hi-1)=false)
 |0,lo,hi,h,U,Y=>by
  have:lo=hi:=by lia
  subst this;exact⟨Ja _,Y,.inl rfl⟩
 |k+1,lo,hi,h,U,Y=>by
  rw[D2];by_cases z:lo<hi
  .rw[Bd z]
   cases J:p ((lo+hi)/2) with
   |true =>
    rw[Bd rfl];exact gD p k lo _ li li J
   |false =>
    rw[Bg Fx];obtain⟨a,b,c⟩:=gD p k ((lo+hi)/2+1) hi li li Y;refine⟨by lia,b,.inr ?_⟩
    rcases c with c|c
    .rw[c,Int.add_sub_cancel]
     exact J
    .exact c
  .rw[Bg z]
   have:lo=hi:=by lia
   subst this;exact⟨Ja _,Y,.inl rfl⟩
theorem P8 {p q:Ah->Ar}{N:Ah}(J:0<=M)(G:0<=N)(Y:p M=true)(U:q N=true)(h:∀ t s:Ah,0<=t->t<=s->q t=true->p s=true):bs p M.toNat 0 M<=bs q N.toNat 0 N:=by
 obtain⟨T,E,B⟩:=gD p M.toNat 0 M li J Y;obtain⟨O,C,_⟩:=gD q N.toNat 0 N li G U;by_cases z:bs p M.toNat 0 M<=bs q N.toNat 0 N
 .exact z
 .rcases B with e|e
  .lia
  .rw[h _ _ O li C] at e
   cases e
theorem NQ {t s:Ah}(h0:0<=t)(h:t<=s):t*t<=s*s:=Mw h h h0 li
theorem mX {n:Ah}(h:1<=n/\n<=10000):nB n 1000000000=true:=Co li
theorem FX {n:Ah}(h:1<=n/\n<=9999):uO n<=uO (n+1):=P8 li li (mX li) (mX li) λt s Y J k=>by
 have:=NQ Y J;have:=Bs k;exact Co li
theorem FW {n:Ah}(h:1<=n/\n<=10000):uO n<n:=by
 obtain⟨Y,J,a3⟩:=gD (nB n) (1000000000:Ah).toNat 0 1000000000 li li (mX h);have e:uO n=bs (nB n) (1000000000:Ah).toNat 0 1000000000:=rfl;rw[<- e] at Y J a3;generalize uO n=r at *;by_cases z:r<n
 .exact z
 .rcases a3 with a3|a3
  .lia
  .have:=Il a3
   have:0<=(r-1)*(r-1):=Es li li
   lia
theorem Q2 {n:Ah}(C:1<=n)(s:Ah):2*(s*w)-n*(s*(s+1))<=2*ot w n:=by
 have d:=Rc w n;have N:=Ip w (show n≠0 by lia)
 have E:=Hi w (show 0<n by lia)
 have U:=nN (w/n);unfold ot;generalize w/n=q at *;generalize w % n=r at *;generalize mp q=m at *;have Y:=GM q s;have J:=GM (q+1) s;have T:=Iq Y (show 0<=n-r by lia)
 have B:=Iq J N;have G:2*(n*m+r*q)=n*(2*m)+2*(r*q):=by grind
 rw[G,U,<- d];have O:n*(q*(q-1))+2*(r*q)-(2*(s*(r+n*q))-n*(s*(s+1)))=((n-r)*(q*q+s*(s+1))-(n-r)*((2*s+1)*q))+(r*((q+1)*(q+1)+s*(s+1))-r*((2*s+1)*(q+1))):=by grind
 lia
theorem aF {n:Ah}(U:1<=n):2*ot w n=2*(w/n*w)-n*(w/n*(w/n+1)):=by
 have d:=Rc w n;have Y:=nN (w/n);unfold ot;generalize w/n=q at *;generalize w % n=r at *;generalize mp q=m at *;have J:2*(n*m+r*q)=n*(2*m)+2*(r*q):=by grind
 rw[J,Y,<- d]
 grind
theorem AB {n:Ah}(Y:1<=n)(h0:0<=w)(h:w<=v):ot w n<=ot v n:=by
 have a:=aF (w:=w) Y;have b:=Q2 (w:=v) Y (w/n);have:=Iq h (Lz h0 (show 0<=n by lia))
 lia
theorem GC {n:Ah}(Y:1<=n)(h0:0<=w):ot w (n+1)<=ot w n:=by
 have a:=aF (w:=w) (n:=n+1) li;have b:=Q2 (w:=w) Y (w/(n+1));have J:0<=w/(n+1):=Lz h0 li;generalize w/(n+1)=q at *;have:=Es J (show 0<=q+1 by lia)
 rw[Int.add_mul] at a
 lia
theorem cQ {n:Ah}(h:1<=n):nU n (n*n)=true:=by
 have a:=aF (w:=2*(n*n)) h;have e:2*(n*n)/n=2*n:=by
  rw[show 2*(n*n)=2*n*n by grind]
  exact Int.mul_ediv_cancel _ li
 rw[e] at a;have Y:2*(2*n*(2*(n*n)))-n*(2*n*(2*n+1))=2*(n*(n-1))+(2*(n*n*(2*n-2))+2*n):=by grind
 have:=Es (Es (show 0<=n by lia) (show 0<=n by lia)) (show 0<=2*n-2 by lia)
 exact Co li
theorem qAR {n:Ah}(h:1<=n):pb n<=pb (n+1):=by
 have:=P8 (p:=nU n) (q:=nU (n+1)) (M:=n*n) (N:=(n+1)*(n+1)) (Es li li) (Es li li) (cQ h) (cQ li) λt s Y J k=>by
  have k:=Bs k;have a:=GC (w:=2*t) h li;have b:=AB (w:=2*t) (v:=2*s) h li li;have e:(n+1)*(n+1-1)=n*(n-1)+2*n:=by grind
  exact Co li
 unfold pb
 lia
theorem qBZ {f:Ag}{l:Aa Pt}(nd:l.Nodup)(v:Pt):dg (f:Ah) l v<=R f:=by
 have e:dg (f:Ah) l v=(l.filter λu=>decide (ff u v=f)).length:=by
  rw[<- kJ];exact vH λu _=>by unfold nr;by_cases z:ff u v=f <;> simp[z]
 have U:((l.filter λu=>decide (ff u v=f)).map λu=>((u.1-v.1,u.2-v.2):Z2)).Nodup:=by
  refine Ei.mpr ((nd.filter _).imp λ{a b} h e=>h ?_);injection e with O N
  exact Fc li li
 have k:=cE U (G:=qq f) λz J=>by
  obtain⟨u,Y,rfl⟩:=Bl.mp J;exact zX.mpr (Bs (Dh.mp Y).2)
 rw[Ao] at k;rw[e];exact k
theorem qBa {f:Ah}(O:0<f){l:Aa Pt}{v:Pt}(hv:v∈l):dg f l v<=l.length-1:=by
 have U:nr f v v=0:=by
  unfold nr;rw[Bg];intro e;have:ff v v=0:=by unfold ff;rw[Wf,Wf];rfl
  lia
 have:∀ m:Aa Pt,v∈m->dg f m v+1<=m.length:=by
  intro m J
  induction m with
  |nil=>cases J
  |cons u m G =>
   unfold dg;rw[zR,By];have N:nr f u v<=1:=by unfold nr;split <;> lia
   have Y:∀ m:Aa Pt,sm m (λu=>nr f u v)<=m.length:=λm=>by
    have:=nZ (l:=m) (g:=λu=>nr f u v) (h:=λ_=>1) λu _=>by unfold nr;split <;> lia
    rw[gQ,Qz] at this;exact this
   rcases Av.mp J with z|z
   .rw[<- z,U]
    have:=Y m
    lia
   .have:=G z
    unfold dg at this
    lia
 have:=this l hv
 lia
theorem eE {f:Ag}(J:0<f){l:Aa Pt}(nd:l.Nodup)(Y:l≠[]):((ay l).count (f:Ah):Ah)<=jJ l.length (rr f):=by
 have U:=Gf.mpr Y;have k:=nZ (l:=l) (g:=dg (f:Ah) l) (h:=λ_=>min (R f) (l.length-1)) λv hv=>Nat.le_min.mpr ⟨qBZ nd v,qBa li hv⟩;rw[UQ li,gQ] at k;have k:=Wg.mpr k;rw[Dm,Dm] at k;unfold jJ rr;have e:(if (l.length:Ah)-1<(R f:Ah) then (l.length:Ah)-1 else (R f:Ah))=((min (R f) (l.length-1):Ag):Ah):=by
  split <;> lia
 rw[e];generalize (l.length:Ah)*((min (R f) (l.length-1):Ag):Ah)=x at *
 lia
theorem iO {K:Aa Ah}(nd:K.Nodup):∀ Y:Aa Ah,(∀ f∈Y,f∈K)->sm K (λf=>Y.count f)=Y.length
 |[],_=>by
  rw[vH (h:=λ_=>0) λf _=>List.count_nil,gQ];rfl
 |x::Y,h=>by
  have O:=iO nd Y λf N=>h f (.tail _ N);have e:sm K (λf=>(x::Y).count f)=sm K λf=>Y.count f+if decide (f=x)=true then 1 else 0:=vH λf _=>by
   rw[Ab7];by_cases z:f=x
   .subst z;simp
   .have:¬ (x=f):=λe=>z e.symm
    simp[z,this]
  have J:(K.filter λf=>decide (f=x)).length=1:=by
   have U:=cE (L:=K.filter λf=>decide (f=x)) (G:=[x]) (nd.filter _) λs hs=>Dn.mpr (Bs (Dh.mp hs).2);have C:=Lv (Dh.mpr ⟨h x (.head _),Co rfl⟩:x∈K.filter λf=>decide (f=x));rw[Mc] at U
   lia
  rw[e,gP,O,kJ,J,By]
theorem VB {α:Type}{g:α->Ag}{h:α->Ah}:∀ {K:Aa α},(∀ x∈K,(g x:Ah)<=h x)->(sm K g:Ah)<=(K.map h).sum
 |[],_=>Ja _
 |x::K,k=>by
  have:=VB (K:=K) λy Y=>k y (.tail _ Y);have:=k x (.head _);rw[zR,De,List.sum_cons]
  lia
def fl (l:Aa Pt):Aa Ag:=(tbl (ay l)).map λk=>(k.headD 0).toNat
theorem fW {k:Aa Ah}(h:k∈tbl Y):∃ f∈Y,k=[f,(Y.count f:Ah)]:=by
 obtain⟨f,J,e⟩:=Bl.mp ((_S.v3 _).mem_iff.mp h);exact⟨f,vS.mp J,e.symm⟩
theorem OA {l:Aa Pt}(nd:l.Nodup):(tbl (ay l)).map (λk=>k.headD 0)=(fl l).map λ(n:Ag)=>(n:Ah):=by
 unfold fl;rw[Ea];refine Jj λk J=>?_;obtain⟨f,Y,rfl⟩:=fW J;exact(Ny (Go (vP nd f Y))).symm
theorem OB {l:Aa Pt}(nd:l.Nodup):(fl l).Pairwise (· < ·):=by
 have U:=_S.dF _S.pQ (sr (ay l));have Y:((tbl (ay l)).map λk=>k.headD 0).Nodup:=(yV _).nodup_iff.mpr (Y0 _);rw[Vi,Ei] at Y;unfold fl;rw[Ei];refine(Xr.mpr ⟨U,Y⟩).imp_of_mem λ{a b} N J ⟨x,y⟩=>?_;obtain⟨f,G,rfl⟩:=fW N;obtain⟨g,O,rfl⟩:=fW J;have y:f≠g:=y;rw[_H.cq,Bg (λe=>y e.symm)] at x;have x:=Il x;have:=vP nd f G;show f.toNat<g.toNat
 lia
theorem R4 (hp:k_ 1000 p)(Y:k_ 1000 q):ff p q<=8000000:=by
 unfold k_ at hp Y;have e:∀ a:Ah,-2000<=a->a<=2000->a*a<=4000000:=λa J U=>by
  have:0<=(2000-a)*(2000+a):=Es li li
  grind
 have:=e (p.1-q.1) li li;have:=e (p.2-q.2) li li;unfold ff
 lia
theorem iX {M:Ag}{l:Aa Pt}(L:oi M l):∀ f∈ay l,1<=f/\f<=8000000:=λf Y=>by
 refine⟨vP (pV L.up) f Y,?_⟩;obtain⟨x,J,rfl⟩:=Bl.mp Y;obtain⟨a,b⟩:=VU J;exact R4 (L.box _ a) (L.box _ b)
theorem R6 {M:Ag}{l:Aa Pt}(L:oi M l)(C:M<=12)(ne:tbl (ay l)≠[]):yw (fl l) where
 ne:=by simpa [fl] using ne
 len:=by
  have Y:=(yV (ay l)).length_eq;rw[Ao] at Y;have J:=pB (ks:=ay l) (l:=[]);have T:=jE l;have O:=L.len;have B:l.length*(l.length-1)<=12*11:=Ez li li;unfold fl;rw[Ao,Y];unfold me;simp only[Hs] at J
  lia
 up:=OB (pV L.up)
 b:=λn G=>by
  obtain⟨k,N,rfl⟩:=Bl.mp G;obtain⟨f,U,rfl⟩:=fW N;have:=iX L f U;show 1<=f.toNat/\f.toNat<=1000000000000
  lia
theorem BV {M:Ag}{l:Aa Pt}(L:oi M l):(l.length:Ah)*((l.length:Ah)-1)/2<=((fl l).map λk=>jJ l.length (rr k)).sum:=by
 have U:=pV L.up;have G:=Gf.mpr L.ne;have hs:=iO (K:=(tbl (ay l)).map λk=>k.headD 0) ((yV _).nodup_iff.mpr (Y0 _)) (ay l) λf Y=>(yV _).mem_iff.mpr (vS.mpr Y);have J:=VB (K:=(tbl (ay l)).map λk=>k.headD 0) (g:=λf=>(ay l).count f) (h:=λf=>jJ l.length (rr f.toNat)) λf Y=>by
  have N:=vP U f (vS.mp ((yV _).mem_iff.mp Y));have:=eE (f:=f.toNat) li U L.ne;rw[Ny li] at this;exact this
 rw[hs,Ea] at J;have e:(fl l).map (λk=>jJ l.length (rr k))=(tbl (ay l)).map ((λf=>jJ l.length (rr f.toNat))∘λk=>k.headD 0):=by
  unfold fl;rw[Ea];rfl
 rw[e];refine Ey ?_ J;have O:2*((ay l).length:Ah)=(l.length:Ah)*((l.length:Ah)-1):=by
  have:=congrArg (Nat.cast (R:=Ah)) (jE l)
  push_cast at this
  rw[Us G] at this;exact this
 lia
theorem iR:∀ (a b:Aa Ah),zY (a.map D.int) (b.map D.int)=decide (a=b)
 |[],[]=>rfl
 |[],_::_=>by simp[zY]
 |_::_,[]=>by simp[zY]
 |x::a,y::b=>by
  show (x == y&&zY (a.map D.int) (b.map D.int))=_;rw[iR a b];by_cases h:x=y <;> by_cases k:a=b <;> simp[h,k]
theorem WQ:∀ (a b:Aa (Aa Ah)),zY (a.map fj) (b.map fj)=decide (a=b)
 |[],[]=>rfl
 |[],_::_=>by simp[zY]
 |_::_,[]=>by simp[zY]
 |x::a,y::b=>by
  show (zY (x.map D.int) (y.map D.int)&&zY (a.map fj) (b.map fj))=_;rw[WQ a b,iR];by_cases h:x=y <;> by_cases k:a=b <;> simp[h,k]
theorem YS (ks:Aa (Aa Ah)):pl wZ (.lst (ks.map fj))=true:=by
 show ((ks.map fj).all (pl 29))=true;rw[Ix];refine Bt.mpr λk _=>?_;show ((k.map D.int).all (pl 28))=true;rw[Ix];exact Bt.mpr λi _=>rfl
theorem SZ (a b:Aa (Aa Ah))(S:ao):lh (.lst (a.map fj)) (.lst (b.map fj)) S=.ok (.bl (decide (a=b))) S:=by
 unfold lh;rw[YS,YS];show aw.ok (D.bl (zY (a.map fj) (b.map fj))) S=_;rw[WQ]
theorem eO (xs:Aa D)(n:Ag):xH xs none (Ab (n:Ah))=xs.take n:=by
 unfold xH;have J:_H.cc xs.length 0 none=0:=rfl;have Y:_H.cc xs.length xs.length (Ab (n:Ah))=min n xs.length:=by
  show (if (n:Ah)<0 then ((n:Ah)+(xs.length:Ah)).toNat else min (n:Ah).toNat xs.length)=_
  rw[Bg om,Gh]
 rw[J,Y];simp[Nat.min_comm]
theorem EB (c:Cl){M:Ag}(I:M<=40){l:Aa Pt}(L:oi M l){S:ao}(h0:tbl (ay l)=[]->∀ J,S<+:J->Q .non J)(h1:∀ f m J,S<+:J->[f,m]∈tbl (ay l)->Q (.tup [.int f,.int m]) J):Ok (dj c [xJ l] S) Q:=by
 have A:∀ k∈tbl (ay l),∃ a b,k=[a,b]:=λk G=>by
  obtain⟨f,_,e⟩:=fW G;exact⟨_,_,e⟩
 rw[jY];refine qV (aj:=[Ab (xJ l),none,none,none]) rfl ?_;rfl';refine d7 c I L λj E=>?_;generalize tbl (ay l)=T at *;rfl';refine w6 (cw:=fj) (λU aj J=>J=j/\(∀ k∈U,k∈T)/\∃ N O,(aj=[Ab (xJ l),Ab .non,N,O]/\U=T)\/∃ f m,[f,m]∈T/\aj=[Ab (xJ l),Ab (.tup [.int f,.int m]),N,O]) ?_ ?_ ⟨rfl,λ_ h=>h,_,_,.inl ⟨rfl,rfl⟩⟩
 .rintro k U _ _ ⟨rfl,G,N,O,h⟩
  have Y:=G k (.head _);obtain⟨a,b,rfl⟩:=A k Y;have C:∀ x∈U,x∈T:=λx H=>G x (.tail _ H);rcases h with⟨rfl,_⟩|⟨f,m,B,rfl⟩
  .refine X2 (xs:=[.int a,.int b]) ?_
   rfl';refine pO ?_;rfl';refine qT (d:=.bl true) rfl ?_;rfl';refine⟨λ_=>?_,λz=>by cases z⟩
   rfl';exact wG ⟨rfl,C,_,_,.inr ⟨a,b,Y,rfl⟩⟩
  .refine X2 (xs:=[.int a,.int b]) ?_
   rfl';refine pO ?_;rfl';refine qT (d:=.bl false) rfl ?_;rfl';refine⟨(λz=>by cases z),λ_=>?_⟩
   rfl';refine X0 (d:=.int m) rfl ?_;rfl';refine wV (λ_=>?_) λ_=>?_
   .rfl'
    exact wG ⟨rfl,C,_,_,.inr ⟨a,b,Y,rfl⟩⟩
   .rfl'
    exact wG ⟨rfl,C,_,_,.inr ⟨f,m,B,rfl⟩⟩
 .rintro _ _ ⟨rfl,_,N,O,h⟩
  rcases h with⟨rfl,e⟩|⟨f,m,B,rfl⟩
  .rfl'
   exact h0 e.symm _ E
  .rfl'
   exact h1 f m _ E B
theorem oP (c:Cl){M:Ag}(hM:M<=12){l:Aa Pt}(L:oi M l){S:ao}(q:∀ N,S<+:N->Q (.bl true) N):Ok (dn c [xJ l] S) Q:=by
 have J:=Gf.mpr L.ne;have n1:l.length<=12:=by have:=L.len;lia
 have E:=pV L.up;have B:oi 40 l:=⟨L.ne,by lia,L.up,L.box⟩
 have O:=LZ B;have K:=K4 (n:=l.length) ⟨J,by lia⟩
 have y:∀ f∈ay l,((ay l).count f:Ah)<=pb l.length:=λf T=>by
  have h2:=jE l;have h4:l.length*(l.length-1)<=12*11:=Ez n1 li;have zc:(ay l).count f<=(ay l).length:=Yo;exact K.most _ li (V9 (vP E f T) E J)
 have C:=BV L;have zb:=R6 L hM;have a:=OA E;have Y:∀ k∈tbl (ay l),∃ F:Ag,k=[(F:Ah),((ay l).count (F:Ah):Ah)]/\(1<=F/\F<=1000000000000)/\((ay l).count (F:Ah):Ah)<=jJ l.length (rr F)/\((ay l).count (F:Ah):Ah)<=pb l.length:=λk H=>by
  obtain⟨f,T,rfl⟩:=fW H;have b:=iX L f T;obtain⟨F,rfl⟩:=Jb (show 0<=f by lia)
  exact⟨F,rfl,by lia,eE li E L.ne,y _ T⟩
 rw[jV];refine qV (aj:=[Ab (.tup (l.map cb)),none,none,none,none]) rfl ?_;rfl';refine d7 c li L λS1 p1=>?_;rfl';rw[Ao];refine cL c li L λS2 p2=>?_;rfl';refine rN c ⟨J,by lia⟩ ?_
 rfl';rw[Cs (Nt.mpr O)];rfl';refine T4 c B λS3 p3=>?_;rfl';refine cL c li L λs p4=>?_;rfl';refine rN c ⟨J,by lia⟩ ?_
 rfl';rw[Co rfl];rfl';refine rN c ⟨J,by lia⟩ ?_
 rfl';refine bU c ⟨by lia,by lia⟩ ?_
 rfl';refine E6 c ⟨J,by lia⟩ ?_
 rfl';refine qT (d:=.int (o_ l.length)) (S:=s) ?_ ?_
 .unfold o_
  show aw.ok (D.int (if bp (l.length:Ah)>uO (l.length:Ah) then bp (l.length:Ah) else uO (l.length:Ah))) s=_
  rfl
 rfl';rw[Co rfl];rfl';refine w6 (cw:=fj) (λks aj N=>s<+:N/\(∀ k∈ks,k∈tbl (ay l))/\∃ o p,aj=[Ab (.tup (l.map cb)),Ab (.int (l.length:Ah)),Ab (.lst ((tbl (ay l)).map fj)),o,p]) ?_ ?_ ⟨Be _,λ_ h=>h,_,_,rfl⟩
 .rintro k ks _ t ⟨A,H,o,p,rfl⟩
  obtain⟨F,rfl,hF,hl,g⟩:=Y k (H k (.head _));refine X2 (xs:=[.int (F:Ah),.int ((ay l).count (F:Ah):Ah)]) ?_;rfl';refine pO ?_;rfl';refine cM c ⟨by lia,by lia⟩ ?_
  rfl';rw[Cs (Nt.mpr g)];refine⟨(λz=>by cases z),λ_=>?_⟩
  rfl';refine EC c ⟨by lia,by lia⟩ hF λS6 U=>?_
  rfl';rw[Cs (Nt.mpr hl)];rfl';exact wG ⟨A.trans U,λx hx=>H x (.tail _ hx),_,_,rfl⟩
 .rintro _ t ⟨A,_,o,p,rfl⟩
  have pp:=((p1.trans p2).trans (p3.trans p4)).trans A;rfl';refine qT (SZ _ [] t) ?_;rfl';refine wV (λz=>?_) λz=>?_
  .rfl'
   refine EB c li L (λ_ S6 U=>?_) λf m S6 U I=>?_
   .rfl'
    exact qT (d:=.bl true) rfl (q _ (pp.trans U))
   .rw[z] at I
    cases I
  .have F:=zb z
   array_get_dec;array_get_dec;array_get_dec;array_get_dec;refine zG (Q:=λb N=>b=false/\t<+:N) ?_ ?_
   .refine cJ ?_
    rfl';refine YK c li L λS6 U=>?_;rw[a];rfl';have ec:xH (((fl l).map λ(n:Ag)=>(n:Ah)).map D.int) none (Ab 100)=(fl l).map nD:=by
     have:=eO (((fl l).map λ(n:Ag)=>(n:Ah)).map D.int) 100;rw[Hw (by rw[Ao,Ao];exact F.len)] at this
     rw[cC];exact this
    rw[ec];rfl';refine OU c ⟨by lia,by lia⟩ F λS7 j=>?_
    rfl';rw[Co C];exact⟨(λz=>by cases z),λ_=>⟨rfl,U.trans j⟩⟩
   rintro _ S7 ⟨rfl,j⟩;rfl';refine EB c li L (λe=>absurd e z) λf m S8 p8 I=>?_;rfl';refine X0 (d:=.int m) rfl ?_;rfl';refine cM c ⟨by lia,by lia⟩ ?_
   rfl';obtain⟨G,e,_,_,g⟩:=Y _ I;injection e with e1 u
   injection u with u _
   rw[u,Co g];exact q _ (pp.trans (j.trans p8))
theorem JN (c:Cl)(nd:(Z9 c).Nodup)(ns:Aa Ah)(E:ns.length<=63):∃ S,qL 6 (rq c) [.lst (ns.map D.int)] [] = .ok (.bl true) S:=by
 have U:Ok (qL 6 (rq c) [.lst (ns.map D.int)] []) λd _=>d=.bl true:=by
  refine qV (aj:=[Ab (.lst (ns.map D.int)),none,none,none,none,none]) rfl ?_;unfold rq;array_get_dec;refine BP (NC ns E 6 rfl λg=>?_);refine w6 (λ_ aj _=>∃ B G O C N,aj=[Ab (.lst (ns.map D.int)),B,G,O,C,N]) ?_ ?_ ⟨_,_,_,_,_,rfl⟩
  .rintro y xs _ S ⟨B,G,O,C,N,rfl⟩
   rfl';refine qAB λp q k=>?_;rfl';refine OY p 12 li k λl h H L=>?_;have a:=L.len;rw[show xJ l=.tup (l.map cb) from rfl]
   rfl';refine xP H.pen li λr S2 A t=>?_;rfl';refine EG ?_;rfl';refine OZ A.pen λz f x j=>?_;rfl';have J:xH (l.map cb) none (Ab 8)=(l.take 8).map cb:=by
    have:=eO (l.map cb) 8;rw[<- AbQ] at this;exact this
   rw[J];refine E5 (by rw[Ao,Fl];show _+1<=bq;unfold bq;lia) ?_
   have Y:(l.take 8).map cb++[cb z]=(l.take 8++[z]).map cb:=by rw[Ga];rfl
   rw[Y];refine⟨l.take 8++[z],rfl,by rw[Cu,Fl];simp;lia,?_⟩
   have T:oi 9 (w4 (l.take 8++[z])):=OM cy (by rw[Cu,Fl];simp;lia) λw hw=>by
    rcases Cc.mp hw with hw|hw
    .exact L.box w (Yl hw)
    .rw[Dn.mp hw]
     exact j
   generalize w4 (l.take 8++[z])=m at T;clear J Y;array_get_dec;array_get_dec;array_get_dec;array_get_dec;array_get_dec;array_get_dec;refine zG (Q:=λb _=>b=false) ?_ ?_
   .refine pO ?_
    rfl';refine oP c (Aw _) L λs o=>?_;rfl';refine⟨(λz=>by cases z),λ_=>?_⟩
    rfl';refine oP c li T λn u=>?_;rfl';rfl
   rintro _ S6 rfl;rfl';refine bU c ⟨by lia,by lia⟩ ?_
   rfl';refine bU c ⟨by lia,by lia⟩ ?_
   rfl';rw[Cs (Nt.mpr (FX ⟨by lia,by lia⟩))]
   rfl';refine cM c ⟨by lia,by lia⟩ ?_
   rfl';refine cM c ⟨by lia,by lia⟩ ?_
   rfl';rw[Cs (Nt.mpr (qAR li))];rfl';refine bU c ⟨by lia,by lia⟩ ?_
   rfl';rw[Cs (Int.not_le.mpr (FW ⟨by lia,by lia⟩))]
   rfl';exact wG ⟨_,_,_,_,_,rfl⟩
  .rintro _ S ⟨B,G,O,C,N,rfl⟩
   rfl';exact rfl
 obtain⟨d,I,e,rfl⟩:=U;exact⟨I,e⟩
end _K
namespace _K
open _L _D
theorem MK {P:Bj}{K:Ak}{base:Bv}(T:Txt K mg c)(nd:(Z9 c).Nodup)(hT:(RU.all λy=>(Dw K y).isSome)=true):∃ F,rS P w K mg base true 11 "law" ["_law_script"] F/\∀ ns:Aa Ah,ns.length<=63->∃ S,F [.lst (ns.map D.int)] [] = .ok (.bl true) S:=by
 refine hv (λ_=>?_) (dq (cm:=true) P w base 0 0 T rfl ck b9 ?_);refine hv (λ_=>?_) (dq (cm:=true) P w base 1 1 T rfl ck kZ ?_);refine hv (λ_=>?_) (dq (cm:=true) P w base 0 2 T rfl ck vL ?_);refine hv (λ_=>?_) (dq (cm:=true) P w base 2 3 T rfl ck (jA c) ?_);refine hv (λ_=>?_) (dq (cm:=true) P w base 2 4 T rfl ck b8 ?_);refine hv (λ_=>?_) (dq (cm:=true) P w base 3 5 T rfl ck m9 ?_);refine hv (λ_=>?_) (dq (cm:=true) P w base 4 6 T rfl ck (bA c) ?_);refine hv (λ_=>?_) (dq (cm:=true) P w base 0 7 T rfl ck j9 ?_);refine hv (λ_=>?_) (dq (cm:=true) P w base 1 8 T rfl ck uQ ?_);refine hv (λ_=>?_) (dq (cm:=true) P w base 5 9 T rfl ck (kY c) ?_);refine hv (λ_=>?_) (dq (cm:=true) P w base 6 10 T rfl ck (dJ c) ?_);refine hv (λ_=>?_) (dq (cm:=true) P w base 7 11 T rfl ck (g9 c) ?_);refine hv (λ_=>?_) (dq (cm:=true) P w base 6 12 T rfl ck (jY c) ?_);refine hv (λ_=>?_) (dq (cm:=true) P w base 0 13 T rfl ck jW ?_);refine hv (λ_=>?_) (dq (cm:=true) P w base 0 14 T rfl ck gB ?_);refine hv (λ_=>?_) (dq (cm:=true) P w base 0 15 T rfl ck gC ?_);refine hv (λ_=>?_) (dq (cm:=true) P w base 0 16 T rfl ck uR ?_);refine hv (λ_=>?_) (dq (cm:=true) P w base 0 17 T rfl ck yX ?_);refine hv (λ_=>?_) (dq (cm:=true) P w base 1 18 T rfl ck uB ?_);refine hv (λ_=>?_) (dq (cm:=true) P w base 1 19 T rfl ck vJ ?_);refine hv (λ_=>?_) (dq (cm:=true) P w base 3 20 T rfl ck (gA c) ?_);refine hv (λ_=>?_) (dqL (cm:=true) (g:=cn) (N:=5) P w base 3 3 1 21 T rfl ck ?_);refine hv (λ_=>?_) (dq (cm:=true) P w base 0 22 T rfl ck jX ?_);refine hv (λ_=>?_) (dq (cm:=true) P w base 4 23 T rfl ck (bG c) ?_);refine hv (λ_=>?_) (dq (cm:=true) P w base 1 24 T rfl ck v8 ?_);refine hv (λ_=>?_) (dq (cm:=true) P w base 4 25 T rfl ck (jZ c) ?_);refine hv (λ_=>?_) (dq (cm:=true) P w base 5 26 T rfl ck (b0 c) ?_);refine hv (λ_=>?_) (dq (cm:=true) P w base 6 27 T rfl ck (rV c) ?_);refine hv (λ_=>?_) (dq (cm:=true) P w base 8 28 T rfl ck (tN c) ?_);refine hv (λ_=>?_) (dq (cm:=true) P w base 0 29 T rfl ck yW ?_);refine hv (λ_=>?_) (dq (cm:=true) P w base 4 30 T rfl ck (v7 c) ?_);refine hv (λ_=>?_) (dq (cm:=true) P w base 2 31 T rfl ck pZ ?_);refine hv (λ_=>?_) (dq (cm:=true) P w base 3 32 T rfl ck (b7 c) ?_);refine hv (λ_=>?_) (dq (cm:=true) P w base 0 33 T rfl ck kU ?_);refine hv (λ_=>?_) (dq (cm:=true) P w base 0 34 T rfl ck pY ?_);refine hv (λ_=>?_) (dq (cm:=true) P w base 0 35 T rfl ck kW ?_);refine hv (λ_=>?_) (dq (cm:=true) P w base 0 36 T rfl ck j8 ?_);refine hv (λ_=>?_) (dq (cm:=true) P w base 1 37 T rfl ck kX ?_);refine hv (λ_=>?_) (dq (cm:=true) P w base 2 38 T rfl ck pX ?_);refine hv (λ_=>?_) (dq (cm:=true) P w base 1 39 T rfl ck jU ?_);refine hv (λ_=>?_) (dq (cm:=true) P w base 9 40 T rfl ck (jV c) ?_);refine⟨_,dqP 10 41 T rfl ck ?_,JN c nd⟩
 all_goals
  intros
  repeat' first
   |with_reducible exact ck
   |((with_reducible show QE _ _ _);with_reducible first|apply aV|apply C9|apply qAX|apply CC|apply aBt|apply aGi|apply aO|apply aN|(apply aB;first|apply qA4|apply qA3|apply qAz|apply qBE|apply ID|apply IE|apply GU|apply GT)|(apply aT;first|apply LF|apply qA2)|apply aC|apply CG|apply CB|apply N2|apply CA|apply qAZ|apply KI|apply qAa|apply C7|apply KG|apply CD|apply qAb|apply CF|apply C6|apply qAY|apply C8|apply iD|apply YZ|(apply nV;(case slot=>apply Md);(case' hm=>first|apply BQ))|(apply bX;(case slot=>apply Md);(case' hm=>first|apply BQ))|(apply nV;(case slot=>apply Mb);(case' hm=>first|apply aZ))|(apply bX;(case slot=>apply Mb);(case' hm=>first|apply aZ))|(apply nV;(case slot=>apply Sx);(case' hm=>first|apply VO))|(apply bX;(case slot=>apply Sx);(case' hm=>first|apply VO))|(apply nV;(case slot=>apply Uz);(case' hm=>first|apply aY))|(apply bX;(case slot=>apply Uz);(case' hm=>first|apply aY))|(apply nV;(case slot=>apply Xu);(case' hm=>first|apply QJ))|(apply bX;(case slot=>apply Xu);(case' hm=>first|apply QJ)))
   |((with_reducible show _=_);first|exact T.nb ck|with_reducible apply Lc|with_reducible apply Xd|with_reducible apply Wh|with_reducible apply Xv|with_reducible apply Sj|with_reducible apply Sy|with_reducible apply Va|with_reducible apply Xw|exact bS _|exact rfl|with_unfolding_all rfl)
   |((with_reducible show ki _ _ _);with_reducible first|apply qAy|apply qBD|apply IF|apply qA7|apply qA0|apply qA6|apply qBA|apply qBC|apply _w|apply _x|apply _B|apply _C|apply qA8|apply _E|apply _v|apply _z|apply qA5|apply qA1)
   |((with_reducible show av _ _ _);first|assumption|exact av.mono (by assumption)|exact av.mono (av.any (by assumption))|exact av.mark (by assumption) _|exact av.mono (av.mark (by assumption) _))
   |((with_reducible show wg _ _ _ _);exact⟨rfl,rfl⟩)
   |((with_reducible show yy _ _ _ _ _ _ _ _ _ _);assumption)
   |with_reducible first|apply C5|apply YX|apply oU|apply TZ|apply C4|apply aK|apply N7|apply N8|apply CY|apply CW|apply KQ|(apply qAd;first|apply oV|apply V2|apply V1|apply BG)|apply CZ|apply oV|apply V2|apply V1|apply BG|apply aNm|apply CJ|apply CI|apply KJ|apply N4|apply CM|apply V0|apply KM|apply CN|apply N5|apply KL|apply CL|apply CK|apply NA|apply KR|apply N6|apply CU|apply qAc|apply N9|apply CS|apply KP|apply KN|apply CQ|apply aAu|apply aP2|apply qA9|apply _y|apply IA|apply IC|apply IB|apply qBB|apply OF|apply Lc|apply Xd|apply Wh|apply Xv|apply Sj|apply Sy|apply Va|apply Xw
   |((with_reducible apply aCs);case hsw=>exact rfl)
   |((with_reducible apply aSt);case hs=>exact rfl)
   |with_reducible apply CO
   |exact T.gi (by kernel_rfl)
   |((with_reducible apply qBK);(case D=>assumption))
   |((with_reducible show wt _ _ _ _);first|assumption|exact wt.tr (by assumption))
   |((with_reducible show D_ _ _ _ _ _ _ _ _ _ _);assumption)
   |((with_reducible show M_ _ _ _ _ _ _ _ _ _ _ _ _ _);assumption)
   |((with_reducible show E_ _ _);refine lmK hT (by assumption) ?_ rfl)
   |((with_reducible show ZF _ _ _ _);first|apply aFn|apply aFn0)
   |exact λ_=>⟨rfl,rfl,rfl⟩
   |(intro h;cases h;done)
   |((with_reducible show ph _);first|assumption|exact LJ)
   |exact⟨rfl,rfl⟩
   |exact⟨rfl,rfl,rfl⟩
   |apply YX
   |apply oU
   |decide
   |(intros;rfl)
   |(intro _ h;cases h <;> rfl)
   |intro _
end _K
namespace _K
open _L _D
variable {K:Ak}
theorem bdf:y_ top tab:=by
 repeat (refine⟨?_,?_⟩;(intro _ _ _ _ _ _ Q h;first|(obtain⟨_,rfl⟩:=Q_ h;rfl)|(obtain⟨_,_,rfl⟩:=P_ h;rfl)|(obtain⟨_,_,_,rfl⟩:=_m h;rfl)))
 exact trivial
theorem IM (q0:Fq K Df "FarError" = Ab (Ab (.ref J)))(q1:Fq K Df "NoLot" = Ab (Ab (.ref U)))(q2:Fq K Df "NoNumber" = Ab (Ab (.ref Y)))(q3:Fq K Df "NoFars" = Ab (Ab (.ref Q))):QM K (oo ⟨J,U,Y,Q⟩):=⟨q0,q1,q2,q3,trivial⟩
theorem IR (Q:Fq K Df "LEAST_NUMBER" = Ab (Ab (.int (-1000) L)))(U:Fq K Df "MOST_NUMBER" = Ab (Ab (.int (1000) N)))(Y:Fq K Df "MOST_POINTS" = Ab (Ab (.int (40) C)))(G:Fq K Df "MOST_LOT" = Ab (Ab (.int (40) J)))(O:Fq K Df "MOST_FARS" = Ab (Ab (.int (100) B))):QN K qu:=⟨⟨_,Q⟩,⟨_,U⟩,⟨_,Y⟩,⟨_,G⟩,⟨_,O⟩,trivial⟩
theorem RW {P:Bj}{w:Bz}(T:Txt K mg c)(nd:(Z9 c).Nodup)(hT:(RU.all λy=>(Dw K y).isSome)=true)(hfa:mg "law" = Ab (.ref fa)) :
  ∃ fd:Fv,(∀ (s:Ai) (v:Ac),Qj s fd ⟨[v],[]⟩ [("_law_script",v)])/\∀ base:Bv,K.In base->base.Ns Df mg->md P w K mg base (n_ P w) 11 fa fd ["_law_script"] (rP K):=
 MM (T.src 41 rfl) hfa (λkV doc pm an cdv ct s v=>.of_eq rfl) λbase=>MK T nd hT
end _K
namespace PySem.W.Fast
theorem tw8171507737563324320:True:=⟨⟩
theorem tw1580321134725051184:True:=⟨⟩
theorem tw12711659122799532358:True:=⟨⟩
theorem tw5690587628508830148:True:=⟨⟩
theorem tw1163245612226897023:True:=⟨⟩
theorem tw9089415976493132599:True:=⟨⟩
theorem tw6137740918365954680:True:=⟨⟩
theorem tw1156319721992305562:True:=⟨⟩
theorem tw5750168139410119207:True:=⟨⟩
theorem tw8901622246992151401:True:=⟨⟩
theorem tw15695834514143036822:True:=⟨⟩
theorem tw9310778723054184475:True:=⟨⟩
theorem tw6237187961094642651:True:=⟨⟩
theorem tw8414310701641679147:True:=⟨⟩
theorem tw5953113155099952333:True:=⟨⟩
theorem tw615407926648648321:True:=⟨⟩
theorem tw1460099582583652647:True:=⟨⟩
theorem tw15994344414800442014:True:=⟨⟩
theorem tw10326621831411564138:True:=⟨⟩
theorem tw1520701944750484806:True:=⟨⟩
theorem tw14469715574276084989:True:=⟨⟩
theorem tw1770986620266852935:True:=⟨⟩
theorem tw15310002795018746563:True:=⟨⟩
theorem tw1216015870904497694:True:=⟨⟩
theorem tw15898189143299105624:True:=⟨⟩
theorem tw5999801283714398450:True:=⟨⟩
theorem tw15262387816633472602:True:=⟨⟩
theorem tw17172984013984981208:True:=⟨⟩
theorem tw7329930867592181449:True:=⟨⟩
theorem tw3741635271213452259:True:=⟨⟩
theorem tw14205806229414599449:True:=⟨⟩
theorem tw368303535265231467:True:=⟨⟩
theorem tw2410869507925564501:True:=⟨⟩
theorem tw2371337042026008938:True:=⟨⟩
theorem tw8036184846030413403:True:=⟨⟩
theorem tw2609623657630671542:True:=⟨⟩
theorem tw17009763766567512570:True:=⟨⟩
theorem tw4569516545250925194:True:=⟨⟩
theorem tw2267313937689022378:True:=⟨⟩
theorem tw13391341921277049368:True:=⟨⟩
theorem tw4148998296546116424:True:=⟨⟩
theorem tw17907642753910691657:True:=⟨⟩
theorem tw2286175231821636289:True:=⟨⟩
theorem tw7684218906402619145:True:=⟨⟩
theorem tw12664537647436669598:True:=⟨⟩
theorem tw12816091209673212164:True:=⟨⟩
theorem tw16427221399241884859:True:=⟨⟩
theorem tw5547702902669824131:True:=⟨⟩
theorem tw1180256477466297209:True:=⟨⟩
theorem tw18350477015009604804:True:=⟨⟩
theorem tw8711594662289476309:True:=⟨⟩
theorem tw4692300671709673621:True:=⟨⟩
theorem tw2985404317369939742:True:=⟨⟩
theorem tw15348930179732737030:True:=⟨⟩
theorem tw8526977775458482844:True:=⟨⟩
theorem tw399527173616182464:True:=⟨⟩
theorem tw778016224640574680:True:=⟨⟩
theorem tw13078335666812975739:True:=⟨⟩
theorem tw16889399478604220252:True:=⟨⟩
theorem tw844149756387484584:True:=⟨⟩
theorem tw513970014823321790:True:=⟨⟩
theorem tw10790288382052167162:True:=⟨⟩
theorem tw12177845107051554030:True:=⟨⟩
theorem tw5530854590915942048:True:=⟨⟩
theorem tw6551321474231072057:True:=⟨⟩
theorem tw15263174432839660657:True:=⟨⟩
theorem tw16254308165930207350:True:=⟨⟩
theorem tw3429060273763151093:True:=⟨⟩
theorem tw10613860352442003130:True:=⟨⟩
theorem tw10898597336072588757:True:=⟨⟩
theorem tw4201098356291531653:True:=⟨⟩
theorem tw7774955444435398989:True:=⟨⟩
theorem tw6018041515295534717:True:=⟨⟩
theorem tw11182982403706362069:True:=⟨⟩
theorem tw6739400813446526546:True:=⟨⟩
theorem tw14290473677518277584:True:=⟨⟩
theorem tw5619044007237101566:True:=⟨⟩
theorem tw10538540510268593920:True:=⟨⟩
theorem tw8240478362596818990:True:=⟨⟩
theorem tw17742784328585178661:True:=⟨⟩
theorem tw18445743819609471816:True:=⟨⟩
theorem tw11599401314883511109:True:=⟨⟩
theorem tw12996773988179225214:True:=⟨⟩
theorem tw7598761293408038980:True:=⟨⟩
theorem tw8357963917895474458:True:=⟨⟩
theorem tw3987998268563493857:True:=⟨⟩
theorem tw7578092605674994190:True:=⟨⟩
theorem tw12650474971385589206:True:=⟨⟩
end PySem.W.Fast
open PySem.W
set_option maxRecDepth 100000 in
set_option maxHeartbeats 0 in
theorem PySem.Challenge.cw_fewdistances_k94_whole_bars_holds : PySem.Challenge.rw_fewdistances_k94_whole_bars.Holds := by
 w_on;o_law;k_head;(case hw=>w_witness2)
 k_fill
 refine _D.qAx (l:=Vq) (k:=11) (x:="_law_script") rfl rfl ⟨rfl,by decide,by decide,rfl⟩ (λ_=>by kernel_rfl) (λw h Y=>PySem.W.km_in_of Y) ?F
 case F =>
  intro w mg fa h KX G hmg
  refine' _K.RW (_D.qAt _K.bdf ?hp rfl KX G ?s ?z (_K.IM ?q0 ?q1 ?q2 ?q3) (_K.IR ?gi0 ?gi1 ?gi2 ?gi3 ?gi4) ?e1 ?e2 ?e3 ?e4 ?e5 ?e6) ?nd ?hT hmg
  (case s=>(repeat (refine' ⟨_D.wj.mk ?a ?l ?c ?k,?_⟩;(case a=>k_is);(case l=>k_is);(case c=>k_is);(case k=>k_is)));exact trivial)
  (case z=>rfl)
  (case q0=>k_is)
  (case q1=>k_is)
  (case q2=>k_is)
  (case q3=>k_is)
  (case gi0=>k_is)
  (case gi1=>k_is)
  (case gi2=>k_is)
  (case gi3=>k_is)
  (case gi4=>k_is)
  (case hp=>intro y hy;revert hy;simp;grind)
  (case e1=>rfl)
  (case e2=>rfl)
  (case e3=>rfl)
  (case e4=>rfl)
  (case e5=>rfl)
  (case e6=>rfl)
  (case nd=>decide)
  (case hT=>rfl)
