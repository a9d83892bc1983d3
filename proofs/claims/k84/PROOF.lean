import PyProof.Rows.All
import Wide.All
import OpenK.AllK
import Wide.FinOn
import Lean
import PyProof.EqAt
import PyProof.EqKinds
import PyProof.TupleCall
import KE.KLam
import KE.KTryMore
import KE.KIsAll
import PyProof.NeKinds
import PyProof.Rows.CountFlat
import PyProof.Rows.FStr
import PyProof.ZipIter
import PyProof.EnumMake
import PyProof.EnumStmt
import KE.KDictLaws
import PyProof.DictWalks
import PyProof.Rows.SetFrom
import PyProof.SumWalkG
import PyProof.Rows.SumGenD
import PyProof.SeqI2
import KE.KItemsList
import PyProof.SetKind
import PyProof.TupleKey
import KE.KSortTup
import PyProof.ReprRoads
import PyProof.ReprBulk
import PyProof.TupleOfSeq
import PyProof.WalkInts
import PyProof.SeqI3
import PyProof.Rows.RuleDivmod
import PyProof.ListRange
import KE.KPairComp
import KE.KMinKey
import PyProof.Rows.CallKwBuiltin
import KE.KDictList
import PyProof.DictTruth
import PyProof.DictRoadsH
import PyProof.Rows.Range3
import PySem.Challenge.RW_fewdistances_k84_whole_lots_of_two_fars
set_option Elab.async false
set_option linter.all false
set_option maxRecDepth 100000
set_option maxHeartbeats 0
set_option tactic.hygienic false
set_option bootstrap.genMatcherCode false
set_option genSizeOf false
set_option compiler.extract_closed false
open Array renaming getElem?_toList->Bp,length_toList->Bx,getElem?_eq_getElem->Dr,getElem?_eq_some_iff->Dz,toList_append->Ef,toList_push->En,getD_eq_getD_getElem?->Fj,getD->Go,toList_extract->Kg,size_extract->Lo,toList_reverse->Mr,forIn_toList->Om,getElem?_eq_none->Pr,mem_toList_iff->Qn,getElem?_eq_none_iff->Sh,perm_iff_toList_perm->Si,size_map->Wt,append_assoc->Yj,toList->Yw,toList_inj->AaC
open Bool renaming and_eq_true->Az,false_eq_true->Bn,noConfusion->Dn,false_ne_true->Es,not_true->Jg,eq_iff_iff->Jw,and_true->Ka,false_and->Km,not_eq_true'->Pi,and_false->Ro,or_eq_true->Va,not_false->Wu,true_and->Xx
open Classical renaming byContradiction->Fw,choose_spec->Jn,choose->Kw
open False renaming elim->Ar
open ForInStep renaming yield->Lu
open Int renaming toNat_natCast->Ez,le_trans->Ga,le_of_lt->Gv,mul_eq_zero->Ix,mul_ediv_cancel_left->Kl,emod_lt_of_pos->Lm,gcd->Lz,eq_of_mul_eq_mul_right->Mz,mul_fdiv_cancel->Nn,emod_nonneg->Nt,mul_nonneg->Ox,natAbs_mul->Oy,le_refl->Qf,lt_of_lt_of_le->Rx,natAbs_natCast->Ry,mul_neg->Sj,eq_of_mul_eq_mul_left->Tk,dvd_of_emod_eq_zero->Uo,mul_zero->Uq,mul_comm->Ur,natAbs_dvd_natAbs->Wl,natAbs_of_nonneg->Xi,mul_emod_right->Yv,not_lt->AaT,natAbs_neg->Ab1
open List renaming length_map->Ao,getElem?_eq_getElem->Ap,getElem?_eq_some_iff->Ax,getElem?_append_left->AT,mem_map->Ba,all_eq_true->Bb,mem_cons->Bc,prefix_refl->Bd,mem_append->Bq,getElem?_set_ne->Br,size_toArray->Bt,length_cons->Bv,length_append->By,mem_append_right->Ca,append_assoc->Cc,mem_cons_of_mem->Ce,range->Cg,mem_of_getElem?->Cj,mem_iff_getElem->Cp,pairwise_map->Cs,pairwise_append->Ct,mem_singleton->Cz,mem_cons_self->De,map_cons->Df,getElem?_append_right->Dg,map_map->Dj,getElem?_set_self->Dk,map_append->Dl,mem_append_left->Dm,not_mem_nil->Do,getElem?_map->Du,pairwise_cons->Dx,map_congr_left->Dy,length_filter_le->Ec,mem_range->Ee,length_nil->Eh,drop_eq_getElem_cons->Fa,flatMap_cons->Fb,all_map->Ff,prefix_append->Ft,find?_cons->Fv,nodup_append->Gm,mem_filter->Gw,nil_append->Gz,length_take->Hg,append_nil->Hq,take_of_length_le->Ht,filter_eq_nil_iff->Hu,length_singleton->Ia,getD->Ie,extract_eq_take_drop->Ih,mem_of_find?_eq_some->Ik,any_eq_true->Il,zip_cons_cons->Im,filter_append->Ip,length_eq_zero_iff->Iy,filter_cons_of_neg->Jb,filterMap_cons->Jc,drop_eq_nil_of_le->Ji,perm_append_comm->Jq,nodup_cons->Jv,pairwise_iff_getElem->Kc,length_drop->Ku,lookup_cons->Kv,map_id->Lb,cons_append->Ld,filter_cons_of_pos->Lh,find?_eq_none->Ln,any_cons->Lr,length->Mc,nodup_nil->Mp,getElem_mem->Mt,ext_getElem->Mv,getD_eq_getElem?_getD->Mx,mem_flatMap->My,reverse_append->Nj,perm_iff_count->Nl,filter_eq_self->Nm,forIn_cons->Nr,foldl_cons->Nu,find?_some->NE,getElem?_take_of_lt->Ob,mem_filterMap->Oe,getElem?_cons_succ->Os,pairwise_singleton->Ot,forIn_nil->Ow,length_range->Pg,range_succ_eq_map->Po,pairwise_lt_range->Pq,drop_of_length_le->Ps,getElem_map->Qc,countP_mono_left->Qe,take_append_drop->Qg,contains_iff_mem->Qh,of_mem_zip->Qv,eq_nil_of_length_eq_zero->Qy,count_cons->Ra,mem_map_of_mem->Rh,filter_filter->Rz,perm_ext_iff_of_nodup->Sg,any_eq_false->Sn,all_cons->Sw,getElem_take->Sz,getElem_drop->Ta,ext_getElem?->Tg,length_erase_of_mem->Tp,prefix_iff_getElem?->Tu,getElem_inj->Tw,zipIdx_cons->T0,Nodup->TD,map_fst_zip->TW,getElem?_replicate->Uc,any_map->Uf,pairwise_mergeSort->Ui,length_set->Uy,find?_cons_of_neg->Vc,length_pos_of_mem->Vf,length_zip->Vl,range_succ->Vn,getElem?_eq_none->Vv,singleton_append->Wf,pairwise_flatMap->Wk,count_nil->Wy,mem_erase_of_ne->Xa,length_eraseIdx->Xb,mem_of_mem_drop->Xc,reverse_reverse->Xf,range_eq_range'->Xj,length_pos_iff->Yd,map_drop->Ye,map_eq_nil_iff->Yg,zip_nil_right->Yn,lookup_append->Ys,getElem?_drop->Yt,set_cons_zero->Yu,map_nil->Yy,zip_nil_left->Zn,foldl_append->t3,nodup_range->Aa9,countP_cons->AaB,map_flatMap->AaD,range'_succ->AaE,zipIdx_nil->AaN,map->AaQ,replicate->AaV,take_zero->AaZ
open List.Pairwise renaming nil->Pb,imp_of_mem->To
open List.Perm renaming append_left->Ig,append_right->Jl,refl->Ko,trans->Ny,swap->AaX
open Nat renaming le_refl->Av,lt_of_lt_of_le->Bl,le_trans->Ch,ne_of_lt->Cu,le_of_lt->Ek,lt_irrefl->Ep,exists_eq_add_of_le->Fp,mul_le_mul->Gd,add_sub_cancel_left->Ge,zero_le->Gh,ne_of_gt->Hj,lt_trans->Hw,zero_add->Hx,lt_of_le_of_ne->Io,add_le_add_left->Jh,lt_or_ge->Js,lt_succ_self->Kx,lt_of_le_of_lt->Ll,eq_zero_of_not_pos->Ly,le_of_lt_succ->Mf,lt_trichotomy->Mi,add_lt_of_lt_sub'->Mj,one_pos->Mk,le_add_right->Mu,add_assoc->Nh,sub_lt->Nk,min_eq_left->Oa,add_sub_cancel->Oh,pos_of_ne_zero->Ol,not_lt->Pm,mod_lt->Pp,le_of_ble_eq_true->Qk,succ_pos->Rb,add_right_comm->Rw,le_succ->Sf,mul_lt_mul_of_lt_of_le->Sk,lt_of_succ_lt->Th,sub_pos_of_lt->Ti,min_eq_right->Ua,min_self->Ue,le_antisymm->Vi,le_add_left->Vk,le_mul_of_pos_left->Vo,add_le_of_le_sub'->Wg,le_of_sub_eq_zero->Wh,ble_eq_true_of_le->Wm,eq_of_beq_eq_true->Wn,lt_sub_of_add_lt->Xd,add_le_add_right->Xe,pow_le_pow_right->Xh,add_sub_cancel'->XV,gcd->Yf,add_comm->Zc,le_of_eq->Ze,sub_self->Zf,lt_succ_of_lt->sB,succ_le_succ->wT,le_of_not_lt->Aa0,add_le_add->AaY
open Ne renaming symm->Gb
open Option renaming some->Ab,map_eq_some_iff->Ej,bind_eq_some_iff->Hl,isSome_iff_exists->Ki,isSome_map->Ss,getD_some->Tz,bind_some->Ub,map_some->Vg,isSome_some->Yq,getD_none->wS,none->AbG
open Option.some renaming inj->Dc
open Or renaming inr->Aa1,inl->Ab2
open Prod renaming ext->Np,fst->AbE,snd->AbF
open Prod.mk renaming injEq->AbB
open PyProof.Rows renaming wpS_bind->Bf,Keyed->Bj,step_dedup->Bk,wpS_pure->Bw,seqObj->Eo,slot_tuple_getitem->Fk,SortSt->Fm,wpS_forRange->Fo,callWith_type1->Gc,envOfC->He,wpS_mono->Hs,IntsAre->Ir,wpS_modify->Jt,SortKind->Nw,get?_update_seq->Nz,wpS_get->Ou,AllBare->Pv,callWith_builtin1->Ql,IsTup->Ri,assignInOrder_cons->Ru,wpS_lift->Sl,subscriptTail->Sr,subscriptTail_builtinR->Ux,gallopOf->Vj,lt_int->Xq,entry_tuple_getitem->Xs,args_tuple_getitem->Yo,assignInOrder_nil->Zi
open PyProof.Rows.F renaming plain_set_update_loop->Jk,entry_set_update_loop->Nv
open PyProof.Rows.IsTup renaming new->Zj
open PyProof.Rows.SortSt renaming mk'->Dh
open PySem renaming wpAny_bind->Ac,Value->Ad,Addr->Af,Shared->Ah,wpAny_pure->Am,wpAny->Aq,model->Au,Str->Aw,Program->Bo,starEach->Bs,Around->Bu,Expr->Bz,Heap->Cb,World->Cd,compareOp->Ci,Obj->Cw,mainGlobals->Di,wpAny_newObj_type->Dt,wpAny_call_entry->Dv,wpAny_callSpecial?_slot->Dw,Comprehension->DL,cLine->Ed,foldedSetIterable->Eg,wpAny_field->Ei,tupleKind->Eu,binaryOp->Ew,wpAny_holding->EQ,Scope->Fd,wpAny_setField_rec->Fg,Pos->Fn,sizeLine_eq->Fq,FuncData->Fu,SetTable->Fx,bootBuiltins->Fy,Stmt->Fz,wpAny_rule->Gf,intKind->Gg,backTo->Gi,mem_of_lookup->Gk,wpAny_pyIter_list->Gn,wpAny_setState_of->Gq,wpAny_seqItems->Gu,wpAny_pyIter_tuple->Hb,assignEach->Hd,sysModules->Hn,wpAny_mono->Ho,Builtin->Hr,cellsFrom->Hz,wpAny_forIn_list->HT,NameKind->Iu,wpAny_typeNameOfWhole_valiter->Iw,wpAny_attempt->Je,IsPair->Jp,wpAny_passesOwn->Ju,codeAny->Jy,attributeBase->Kb,Env->Kh,wpAny_typeNameOf_valiter->Kk,wpAny_setField->Kn,Sem->Kr,rawInt->Ks,wpAny_isInstance->Ky,wpAny_askSetting->Kz,pyNext->Li,wpAny_Call_Name_kw->Lj,letOwnedTupleGo->Lp,wpAny_specialOf->Ls,codeAny_builtin->Lx,atKey->Md,firstArgMember->Mn,codeAny_mono->Mq,swappedStores->Na,swapsWithSole->Nb,wpAny_standAt->Nc,behindInMarks->Nd,sliceBounds->Nq,getItem->Op,wpAny_typeOf->Oq,swapsWith->Pc,ofAClassStatement->Ph,wpAny_dictEntries->Pj,richCompare_meets_room->Pk,Model->Pw,pyIter->Px,BindsTo->Py,wpAny_isOneOf_valiter->Qj,wpAny_updateSeq_pair->Qp,wpAny_execs_nil->Qt,PassesOwn->Qu,pickOrder->Qz,builtinsNs->Re,recursionLimit->Rj,IsZip->Rl,isSubtype_stop->Rm,tupleKind_room_in1->Rv,wpAny_newFunctionEnv_cells->Sc,IsPart->Sd,callerA->Su,standAt->Sv,Keyword->Sx,wpAny_onRaise->Sy,setSearchFrom->Td,plainId_quiet->Te,wpAny_pyIter_slot->Tf,wpAny_comprehension_free->Tl,noFill_tuple_add->Tx,call_meetsIn->Uh,wpAny_Call_method0_late->Uk,valueAt->Uz,wpAny_Call_method_late->Vb,codeAny_of_tree->Vd,wpAny_ite_split->Vh,wpAny_dictEpoch->Vm,Tok->Vq,Arguments->Vs,codeAny_call_function->Vt,keywordEach->Vw,wpAny_of_eq->Vy,wpAny_letGo->Vz,IsEnum->Wa,hashByValue->Wb,builtinLookup_eq_fast->Wd,wpAny_notOrdered_dict->Wi,wpAny_newTuple->Wr,newFunctionEnv->Ws,isSubtype_type->Wv,wpAny_fieldsOf->Ww,dictSetDefault->Wx,assignInOrder->Xl,CmpOp->Xm,bindL->Xo,bindC->Xp,seq_tuple_add->Xr,reduceHash->Xu,wpAny_handled->Xv,wpAny_setEntries_of->Xz,wpAny_newList->Ya,evalArgs_none->Yc,setField->Yh,setState->Yi,concat_meets->Yx,wpAny_assign_Name->Zh,wpAny_truthy_bool->Zk,wpAny_sequenceKey->Zo,seqIndex?->Zp,slot_list_getitem->Zq,list_append->Zr,lastMarks->Zs,pushCells->Zv,wpAny_pyIter_enum->Zx,eqIsQuiet->ZB,searchCouldBeSeen->dL,wpAny_storeSet_of->f8,wpAny_collect_seq->t0,wpAny_execs_cons->u8,unaryOp->v4,richCompare->wE,seqIndex_of->wP,wpAny_Dict_empty->x0,newExc->Aa3,wpAny_throw->Aa4,argsOk->Aa8,GenState->AaG,bindName->AaH,bindArgs->AaJ,backToKw->AaK,newTuple->AaL,raiseNew->AaM,compTurn->AaO,call->AaR,Within->AbC,isTrue->AbD
open PySem.Around renaming under_plainId->Ke,frames_deeper->Wz
open PySem.AutoSeq1 renaming wpAny_loadPart'->Ha,sub_tuple_tuple->Oc
open PySem.Builtin.Dict renaming showsAll->Wj
open PySem.Builtin.Dict_items renaming ownsTuple->Mb,newIterator->AaF,dictOf->AbA
open PySem.Builtin.Frozenset renaming sizeOf->Tq,updateFrom->AaS,newClass->Ab3
open PySem.Builtin.List renaming listLengthHint->Rp,listExtendWith->Rq,listSameRef->Ts
open PySem.Builtin.Slice renaming slicePlaces->Jz,sliceAdjust->Ng,sliceApplied->Se
open PySem.Builtin.SmallTypes renaming nextOf->Ea,ownedTupleIsFree->Et,ownedTupleHandOut->Gx
open PySem.Builtin.Tuple renaming tupleHashOf->Ib,tupleExact->Kj,tupleCompareSizes->Kt,tupleItemsOf->Ms
open PySem.Calls renaming callWith_builtin->Lv,spliced_cons->Of,spliced_nil->Pa,Name_function_global->Sb,call_function_entry->Tj,evalArgs_plain->WP
open PySem.Challenge renaming pw_fewdistances_k84_whole_lots_of_two_fars->Qq,rw_fewdistances_k84_whole_lots_of_two_fars->Qr
open PySem.Code renaming compLoop->Ab6
open PySem.F renaming slot_dict_valueiterator_next->Gj,called_set->Hc,plainAttrs_dict->IN,slot_tuple_hash->Ja,slot_dict_setdefault->Jf,slot_tuple_iterator_next->Jo,type_dict_setdefault->Ma,slot_enumerate_next->Me,args_tuple_add_2->Od,entry_tuple_add->Oo,slot_tuple_add->Pl,args_dict_valueiterator_next_1->Pu,entry_dict_valueiterator_next->Qi,slot_zip_next->Qw,entry_dict_setdefault->Qx,args_tuple_iterator_next_1->Rg,entry_tuple_iterator_next->Rk,slot_dict_values->Tt,type_list_append->Tv,args_tuple_lt_2->Ud,args_enumerate_next_1->Ug,plain_list_iadd->Uj,slot_dict_items->Ul,slot_dict_values_iter->Um,plainAttrs_list->Us,entry_tuple_lt->Uw,entry_enumerate_next->Ve,slot_tuple_lt->Vu,plain_set_new->Wc,slot_set_iter->We,type_list_pop->Wp,args_list_append_2->WF,entry_list_append->Xt,slot_list_append->Yp,args_zip_next_1->Zu,entry_zip_next->Aa7
open PySem.Heap renaming get?_push_of_some->Ai,get?_push_size->Be,lt_size->Bg,get?_update_other->Dq,SameBut->El,size_push->Em,get?_update_self->Ev,get?_none_of_le->Qm,FlyingW->Yz,IsTuple->Za,ExtBut->Aa2,IsList->Aa5,MadeExcOf->AaW
open PySem.Heap.IsSliceOf renaming new->AbH
open PySem.Heap.SameBut renaming update->Fl,refl->Zw
open PySem.IsL renaming update->xL
open PySem.NameKind renaming free->Ic,cell->Pz
open PySem.Obj renaming mapSeq->Fc,mapFields->Ni,data_mapFields->Og,isFreed_of_fields->Vx,data_mapDictKeys->Xg,cls_mapFields->Zt
open PySem.SeqAt.EqAt renaming same->Ab5
open PySem.SetTable renaming below->Cn,insertAt->Eb,sizeAbove->Fh,runEnd->Hv,grown->Iq,insertAt_perm->Lw,Probe->Pd,fill->Tc,toList_insertAt->Tn,laid->Xw,has->Zb,layClean->Zz,tooFull->AaA,slot->Ab7,fits->Ab8
open PySem.SetTable.below renaming go->Zy
open PySem.SetTable.layClean renaming free->Jj
open PySem.SetTable.probe renaming go->Pe
open PySem.Shared renaming heap->Qb,TypeIs->Xy
open PySem.Str renaming ofString->Hk
open PySem.Value renaming ref->Cy,none->Dd,bool->Hm,type->Jr,notImplemented->Qo,isInt->Sa,int->Vp,str->Zg,isStrOf->Ab4
open PySem.W renaming Frag->Ak,tabIn->Er,nsIn->Fe,kia_one->Fi,fnOf->Gr,keepIn->Gs,cellsFrom_some->Lq,kitOne->Ml,codeIn->Mm,findIn->Ov,hideAll->Qs,tabObj->Rr,methodObj->Sm,kitx_list->So,instObj->Uu,lookIn->Wq,hideAll_get->Xk,mroIn->Xn,mg_of->Yb,of_hideAll->Yk,kitx_tuple->Yl,codeRec_of->Ym,callWith_K->Yr,specialIn->Zl,kitx_dict->Zm,plainGet->v6,takesIn->AaI,OpenLaw->AaP,CodeHd->AaU,exmOne->Ab0,WalkO->Ab9
open PySem.pickOrder renaming go->Zd
open Sum renaming inl->Jx,inr->Ut
open Sum.inl renaming inj->Vr
open True renaming intro->Jd
open _root_ renaming List->Aa,Nat->Ag,Int->Aj,Option->An,Bool->As,Array->Ay,if_neg->Bh,if_pos->Bi,decide_eq_true->Bm,decide_eq_true_eq->Cf,decide_eq_false->Co,of_decide_eq_true->Cq,if_true->Dp,if_false->Ds,String->Ex,False->Ey,or_false->Gy,beq_self_eq_true->Hi,Decidable->Hy,of_decide_eq_false->Jm,beq_eq_false_iff_ne->Kq,decide_true->La,decide_eq_decide->Lc,decide_false->Lf,decide_eq_false_iff_not->Lg,StateT->Mw,DecidableEq->No,True->Rc,beq_iff_eq->Rf,Unit->Uv,bne_self_eq_false->sK,not_or->Aa6
open PySem PySem.Spec PyProof.Rows
local macro_rules|`(tactic|fin2)=>`(tactic|omega)
abbrev aa:=Aa (Af × Cw)
abbrev ab:=Ad->Ah->Prop
abbrev ae:=Aa Af
abbrev ag:=Aa Ad
abbrev ah:=Aw->An Ad
noncomputable section
theorem om {p:Prop}(h:p:=by fin2):p:=h
theorem li {p:Prop}(h:p:=by lia):p:=h
theorem kd {p:Prop}[Hy p](h:p:=by decide +kernel):p:=h
section
namespace _L
abbrev bo:=Sum Aj Aw
def gY:bo->Ad->As
 |.inl k,v=>Sa k v
 |.inr x,v=>Ab4 x v
noncomputable def _I (w:Cd):bo->Aj
 |.inl k=>hashInt k
 |.inr x=>hashStr w x
theorem xB:∀ {k:bo} {v:Ad},gY k v=true->(∃ i t,k=Jx i/\v=Vp i t)\/(∃ x t,k=Ut x/\v=Zg x t)
 |.inl i,v,h=>by
  obtain⟨t,e⟩:=Value.isInt_shape (k:=i) (v:=v) h;exact .inl ⟨i,t,rfl,e⟩
 |.inr x,v,h=>by
  obtain⟨t,e⟩:=Value.isStrOf_shape (x:=x) (v:=v) h;exact .inr ⟨x,t,rfl,e⟩
theorem W4 (i:Aj)(t:Vq):gY (.inl i) (.int i t)=true:=by simp[gY,Sa]
theorem W5 (x:Aw)(t:Vq):gY (.inr x) (.str x t)=true:=by simp[gY,Ab4]
theorem SL (a b:Aj):decide ((Jx a:bo)=Jx b)=(a == b):=by
 by_cases e:a=b
 .subst e;simp
 .have h:¬ (Jx a:bo)=Jx b:=λq=>e (Vr q)
  rw[Co h];exact(Kq.mpr e).symm
theorem SO (a b:Aw):decide ((Ut a:bo)=Ut b)=decide (a=b):=by
 by_cases e:a=b
 .subst e;simp
 .have h:¬ (Ut a:bo)=Ut b:=λq=>e (Sum.inr.inj q)
  rw[Co h,Co e]
theorem SM (a:Aj)(b:Aw):decide ((Jx a:bo)=Ut b)=false:=Co (λq=>nomatch q)
theorem SN (a:Aw)(b:Aj):decide ((Ut a:bo)=Jx b)=false:=Co (λq=>nomatch q)
def zT (prog:Bo)(w:Cd):PySem.KeyKind prog w bo where
 is:=gY
 hash:=_I w
 inj:=λv a b J Y=>by
  rcases xB J with⟨i,t,rfl,rfl⟩|⟨x,t,rfl,rfl⟩
  .rcases xB Y with⟨j,u,rfl,e⟩|⟨y,u,rfl,e⟩
   .injection e with Q _;rw[Q]
   .exact nomatch e
  .rcases xB Y with⟨j,u,rfl,e⟩|⟨y,u,rfl,e⟩
   .exact nomatch e
   .injection e with Q _;rw[Q]
 byValue:=λk v h=>by
  rcases xB h with⟨i,t,rfl,rfl⟩|⟨x,t,rfl,rfl⟩ <;> rfl
 pyHash:=λhv h=>by
  rcases xB hv with⟨i,t,rfl,rfl⟩|⟨x,t,rfl,rfl⟩
  .exact wpAny_pyHash_int h
  .exact wpAny_pyHash_str h
 eqBool:=λU hv h=>by
  rcases xB U with⟨i,t,rfl,rfl⟩|⟨x,t,rfl,rfl⟩
  .rcases xB hv with⟨j,u,rfl,rfl⟩|⟨y,u,rfl,rfl⟩
   .rw[SL] at h;exact wpAny_eqBool_int h
   .rw[SM] at h;exact SeqAt.EqAt.int_str i t y u _ _ _ _ h
  .rcases xB hv with⟨j,u,rfl,rfl⟩|⟨y,u,rfl,rfl⟩
   .rw[SN] at h;exact SeqAt.EqAt.str_int x t j u _ _ _ _ h
   .rw[SO] at h;exact wpAny_eqBool_str h
 «strs»:=λk x t v h=>by
  rcases xB h with⟨i,u,rfl,e⟩|⟨y,u,rfl,e⟩
  .exact nomatch e
  .injection e with Q _
   subst Q;cases v <;> rfl
theorem cY (prog:Bo)(w:Cd)(i:Aj)(t:Vq):(zT prog w).is (.inl i) (.int i t)=true:=W4 i t
theorem cZ (prog:Bo)(w:Cd)(x:Aw)(t:Vq):(zT prog w).is (.inr x) (.str x t)=true:=W5 x t
end _L
namespace _L
inductive V where
 |non|bl (b:As)|int (i:Aj)|str (x:Aw)|byt (b:Ay UInt8)|flt (b:UInt64)|ref (a:Af)|ty (n:Ex)
 deriving No
def qG:V->Ad->Prop
 |.non,u=>u=Dd
 |.bl b,u=>u=Hm b
 |.int i,u=>∃ t,u=Vp i t
 |.str x,u=>∃ t,u=Zg x t
 |.byt b,u=>∃ t,u=Value.bytes b t
 |.flt b,u=>∃ t,u=Value.float b t
 |.ref a,u=>u=Cy a
 |.ty n,u=>u=Jr n
abbrev qI:Aa V->Aa Ad->Prop:=Paired qG
theorem qI.length {xs:Aa V}{us:ag}(r:qI xs us):xs.length=us.length:=Paired.length r
theorem qI.get:∀ {xs:Aa V} {us:ag} {i:Ag} {x:V},qI xs us->xs[i]? = Ab x->∃ u,us[i]? = Ab u/\qG x u
 |_,_,_,_,.nil,e=>by simp at e
 |_,_,0,_,.cons r _,e=>by simp at e;subst e;exact⟨_,rfl,r⟩
 |_,_,i+1,x,.cons _ t,e=>by
  obtain⟨u,Y,Q⟩:=qI.get (i:=i) (x:=x) t (by simpa using e)
  exact⟨u,by simpa using Y,Q⟩
theorem qI.set {x:V}{u:Ad}(r:qG x u):∀ {xs:Aa V} {us:ag} (i:Ag),qI xs us->qI (xs.set i x) (us.set i u)
 |_,_,_,.nil=>.nil
 |_,_,0,.cons _ t=>.cons r t
 |_,_,i+1,.cons q t=>.cons q (qI.set r i t)
theorem qI.append {xs Q:Aa V}{us Y:ag}(h:qI xs us)(s:qI Q Y):qI (xs++Q) (us++Y):=by
 induction h with
 |nil=>exact s
 |cons r t J=>exact .cons r J
theorem qI.take:∀ {xs:Aa V} {us:ag} (n:Ag),qI xs us->qI (xs.take n) (us.take n)
 |_,_,0,_=>.nil
 |_,_,_+1,.nil=>.nil
 |_,_,n+1,.cons r t=>.cons r (qI.take n t)
theorem qI.drop:∀ {xs:Aa V} {us:ag} (n:Ag),qI xs us->qI (xs.drop n) (us.drop n)
 |_,_,0,r=>r
 |_,_,_+1,.nil=>.nil
 |_,_,n+1,.cons _ t=>qI.drop n t
def uZ:An V->An Ad->Prop
 |some v,Ab u=>qG v u
 |none,none=>Rc
 |_,_=>Ey
def KV {κ : Type}:Aa (κ × V)->Aa (κ × Ad)->Prop:=Paired λ(p:κ × V) (q:κ × Ad)=>p.1=q.1/\qG p.2 q.2
def kV:bo->V
 |.inl i=>.int i
 |.inr x=>.str x
inductive HO where
  |lst (xs:Aa V)
  |tup (xs:Aa V)
  |dK (kvs:Aa (bo × V))|dT (kvs:Aa (Aa bo × V))
  |set (S:Aj->As) (n:Ag)
  |ins (C dx:Af) (fs:Aa (Aw × V))
  |own (x:Af)
  |xd (fs:Aa (Aw × V))
  |met (f x:Af)
  |rng (lo hi:Aj)
  |frz (o:Cw) (u:HO)
  |tbl (ps:Ay Ad)
  |ext (φ : Cb->Prop)
abbrev Hp:=Af->An HO
noncomputable def b_ (H:Hp)(a:Af)(o:HO):Hp:=λb=>if b=a then Ab o else H b
theorem z9 {H:Hp}{a:Af}{o:HO}:b_ H a o a=Ab o:=by unfold b_;rw[Bi rfl]
theorem qP {H:Hp}{a b:Af}{o:HO}(h:b≠a):b_ H a o b=H b:=by unfold b_;rw[Bh h]
theorem AZ {H:Hp}{a b:Af}{o u:HO}(h:H a=Ab o)(h':H b=Ab u)(d:o≠u):a≠b:=by
 intro e;subst e;rw[h] at h';exact d (Dc h')
theorem zG {H:Hp}{a b:Af}{o:HO}(h:H a=Ab o)(h':H b=none):a≠b:=by
 intro e;subst e;rw[h] at h';cases h'
section
variable (P:Bo)(w:Cd)
def zM (H:Hp)(h:Cb)(a:Af):HO->Prop
 |.lst Y=>Y.length<=sizeLine/\∃ (U:ag) (n:Ag),qI Y U/\h.get? a=Ab { cls:=.type "list",data:=.seq U.toArray n }
 |.tup Y=>Y.length<=sizeLine/\∃ U:Aa Ad,qI Y U/\Ri h a U.toArray
 |.dK Q=>Q.length<=sizeLine/\(a == Hn)=false/\∃ L,KV Q L/\h.DictOf (zT P w) a L
 |.dT Q=>Q.length<=sizeLine/\(a == Hn)=false/\∃ Y:Aa (Aa bo × Af × Ad),
   Paired (λ(p:Aa bo × V) (q:Aa bo × Af × Ad)=>p.1=q.1/\H q.2.1=Ab (.tup (p.1.map kV))/\qG p.2 q.2.2) Q Y /\
   ∃ o T E,h.get? a=Ab o/\o.ExactDict/\o.data=.dict T E/\T.toList=Y.map (entryOfKey (Eu (zT P w)))/\(Y.map (·.1)).Nodup
 |.set S n=>h.SetOf (Gg P w) a S n
 |.ins C N G=>H N=Ab (.own a)/\G.length<=1000/\N≠a/\h.get? a=Ab (Uu C N) /\
   ∃ J,h.Ns1 N J/\(∀ f,uZ (G.lookup f) (J f))/\AbC J (G.map (·.1))
 |.own _=>∃ o,h.get? a=Ab o
 |.xd G=>∃ J,h.Ns1 a J/\∀ f,uZ (G.lookup f) (J f)
 |.rng lo I=>∃ t u v,h.get? a=Ab { cls:=.type "range",data:=.fields #[.int lo t,.int I u,.int 1 v] }
 |.frz o u=>h.get? a=Ab o/\zM H h a u
 |.tbl A=>h.get? a=Ab { cls:=.none,data:=.fields A }
 |.met f x=>h.get? a=Ab (Sm (.ref f) (.ref x))
 |.ext φ => φ h/\(∃ o,h.get? a=Ab o)/\∀ O B:Cb,φ O->(∀ o,O.get? a=Ab o->B.get? a=Ab o)->φ B
def gl (H:Hp)(h:Cb):Prop:=∀ a o,H a=Ab o->zM P w H h a o
end
section
variable {P:Bo}{w:Cd}{H H':Hp}{h h':Cb}{a:Af}{o:HO}
theorem zM.lt (x:zM P w H h a o):a<h.objs.size:=by
 cases o with
 |lst J=>obtain⟨_,_,_,_,e⟩:=x;exact Bg e
 |tup J=>obtain⟨_,_,_,p⟩:=x;exact p.lt
 |dK Q=>obtain⟨_,_,_,_,o,_,_,e,_⟩:=x;exact Bg e
 |dT Q=>obtain⟨_,_,_,_,o,_,_,e,_⟩:=x;exact Bg e
 |set S n=>obtain⟨o,_,_,_,e,_⟩:=x;exact Bg e
 |ins C G Y=>obtain⟨_,_,_,e,_⟩:=x;exact Bg e
 |own y=>obtain⟨_,e⟩:=x;exact Bg e
 |xd Y=>obtain⟨_,⟨_,_,_,e,_⟩,_⟩:=x;exact Bg e
 |rng lo U=>obtain⟨_,_,_,e⟩:=x;exact Bg e
 |frz N u=>obtain⟨e,_⟩:=x;exact Bg e
 |tbl O=>exact Bg (show h.get? a=Ab _ from x)
 |met f y=>exact Bg (show h.get? a=Ab _ from x)
 |ext φ => obtain⟨_,⟨_,e⟩,_⟩:=x;exact Bg e
theorem Paired.mapP {α β:Type}{F G:α->β->Prop}{Q:Aa α}{Y:Aa β}(h:Paired F Q Y)(f:∀ a b,F a b->G a b):Paired G Q Y:=by
 induction h with
 |nil=>exact .nil
 |cons r t J=>exact .cons (f _ _ r) J
theorem zM.stay (x:zM P w H h a o)(k:∀ b u,(b=a\/H b=Ab (.own a))->h.get? b=Ab u->h'.get? b=Ab u)
  (M:∀ b,H b=Ab (.own a)->H' b=Ab (.own a)) (T:∀ b xs,H b=Ab (.tup xs)->H' b=Ab (.tup xs)):zM P w H' h' a o:=by
 induction o with
 |lst xs=>obtain⟨z,G,n,r,e⟩:=x;exact⟨z,G,n,r,k _ _ (.inl rfl) e⟩
 |tup xs=>obtain⟨z,G,r,Q,e,c⟩:=x;exact⟨z,G,r,Q,k _ _ (.inl rfl) e,c⟩
 |dK N=>obtain⟨z,y,L,r,Q,J,Y,e,c⟩:=x;exact⟨z,y,L,r,Q,J,Y,k _ _ (.inl rfl) e,c⟩
 |dT N =>
  obtain⟨z,y,xs,r,Q,J,Y,e,c⟩:=x;exact⟨z,y,xs,Paired.mapP r λp q z=>⟨z.1,T _ _ z.2.1,z.2.2⟩,Q,J,Y,k _ _ (.inl rfl) e,c⟩
 |set S n=>obtain⟨Q,J,Y,t,e,c⟩:=x;exact⟨Q,J,Y,t,k _ _ (.inl rfl) e,c⟩
 |ins C g A =>
  obtain⟨d,z,E,e,O,⟨U,J,Y,I,c⟩,r⟩:=x;exact⟨M _ d,z,E,k _ _ (.inl rfl) e,O,⟨U,J,Y,k _ _ (.inr d) I,c⟩,r⟩
 |own y=>obtain⟨Q,e⟩:=x;exact⟨Q,k _ _ (.inl rfl) e⟩
 |xd A=>obtain⟨O,⟨U,J,Y,e,c⟩,r⟩:=x;exact⟨O,⟨U,J,Y,k _ _ (.inl rfl) e,c⟩,r⟩
 |rng lo l=>obtain⟨t,u,v,e⟩:=x;exact⟨t,u,v,k _ _ (.inl rfl) e⟩
 |frz Q u j=>obtain⟨e,q⟩:=x;exact⟨k _ _ (.inl rfl) e,j q⟩
 |tbl B =>
  have e:h.get? a=Ab { cls:=.none,data:=.fields B }:=x;show h'.get? a=Ab { cls:=.none,data:=.fields B };exact k a _ (.inl rfl) e
 |met f y =>
  have e:h.get? a=Ab (Sm (.ref f) (.ref y)):=x;show h'.get? a=Ab (Sm (.ref f) (.ref y));exact k a _ (.inl rfl) e
 |ext φ => obtain⟨p,⟨o,e⟩,st⟩:=x;exact⟨st _ _ p λo q=>k _ _ (.inl rfl) q,⟨o,k _ _ (.inl rfl) e⟩,st⟩
theorem gl.lt (x:gl P w H h)(e:H a=Ab o):a<h.objs.size:=(x a o e).lt
theorem gl.fresh (x:gl P w H h)(e:h.objs.size<=a):H a=none:=by
 cases q:H a with
 |none=>rfl
 |some u=>exact absurd (Bl (x.lt q) e) (Ep _)
theorem gl.kept (x:gl P w H h)(k:∀ b u,h.get? b=Ab u->h'.get? b=Ab u):gl P w H h':=λa o e =>
 (x a o e).stay (λb u _ q=>k b u q) (λ_ q=>q) λ_ _ q=>q
theorem gl.laid (x:gl P w H h)(k:∀ b u,h.get? b=Ab u->h'.get? b=Ab u)(hp:h.objs.size<=a)(Q:zM P w (b_ H a o) h' a o):gl P w (b_ H a o) h':=λb u e=>by
 have J:=x.fresh hp;by_cases Y:b=a
 .subst Y;rw[z9] at e;cases e;exact Q
 .rw[qP Y] at e
  exact(x b u e).stay (λc v _ q=>k c v q) (λc q=>by rw[qP (zG q J)];exact q) λc U q=>by rw[qP (zG q J)];exact q
end
def Rd (H:Hp)(a:Af)(u:HO):Prop:=H a=Ab u\/∃ o,H a=Ab (.frz o u)
theorem Rd.of {H:Hp}{a:Af}{u:HO}(h:H a=Ab u):Rd H a u:=.inl h
theorem Rd.ok {P:Bo}{w:Cd}{H:Hp}{h:Cb}{a:Af}{u:HO}(r:Rd H a u)(x:gl P w H h):zM P w H h a u:=by
 rcases r with r|⟨o,r⟩
 .exact x a u r
 .obtain⟨_,q⟩:=x a _ r
  exact q
def wt:An HO->Prop
 |some (.lst _)=>Rc
 |some (.dK _)=>Rc
 |some (.dT _)=>Rc
 |some (.set _ _)=>Rc
 |some (.ins _ _ _)=>Rc
 |some (.ext _)=>Rc
 |_=>Ey
section
variable {P:Bo}{w:Cd}{H:Hp}{h h':Cb}{x e:Af}{o':HO}
theorem gl.write (ok:gl P w H h)(U:wt (H x))(B:e=x\/H e=Ab (.own x))(k:∀ b u,b≠e->h.get? b=Ab u->h'.get? b=Ab u)(C:∃ u,h'.get? e=Ab u)
  (O:zM P w (b_ H x o') h' x o'):gl P w (b_ H x o') h':=λb u q=>by
 have Y:∀ c y,H c=Ab (.own y)->c≠x:=λc y r z=>by subst z;rw[r] at U;exact U
 have J:∀ c G,H c=Ab (.tup G)->c≠x:=λc G r z=>by subst z;rw[r] at U;exact U
 by_cases N:b=x
 .subst N;rw[z9] at q;cases q;exact O
 .rw[qP N] at q
  by_cases Q:b=e
  .have L:H b=Ab (.own x):=by
    rcases B with z|z
    .exact absurd (Q.trans z) N
    .rw[Q];exact z
   rw[q] at L;cases L;obtain⟨v,hv⟩:=C;exact⟨v,by rw[Q];exact hv⟩
  .refine(ok b u q).stay (λc v hc r=>k c v ?_ r) (λc r=>by rw[qP (Y c b r)];exact r) λc G r=>by rw[qP (J c G r)];exact r
   rcases hc with rfl|hc
   .exact Q
   .rintro rfl
    rcases B with z|z
    .exact Y c b hc z
    .rw[hc] at z;cases z;exact N rfl
end
structure Un (fs ex:ae)(H H':Hp)(h h':Cb):Prop where
 keep:∀ b o,h.get? b=Ab o->H b=none->b ∉ fs->b ∉ ex->h'.get? b=Ab o
 slot:∀ b o,h.get? b=Ab o->H b=none->b∈fs->b ∉ ex->∃ sl,h'.get? b=Ab { o with slots:=sl }
 free:∀ b o,h.get? b=Ab o->H b=none->b ∉ ex->H' b=none
 there:∀ b o,h.get? b=Ab o->b ∉ ex->∃ o',h'.get? b=Ab o'
 tups:∀ b xs,H b=Ab (.tup xs)->H' b=Ab (.tup xs)
 frzs:∀ b o u,H b=Ab (.frz o u)->H' b=Ab (.frz o u)
 tbls:∀ b ps,H b=Ab (.tbl ps)->∃ more,H' b=Ab (.tbl (ps++more))
section
variable {fs fs' ex ex':ae}{H H1 H2:Hp}{h h1 h2 h':Cb}{a x e:Af}{o:HO}
theorem Un.any (u:Un fs ex H H1 h h1){b:Af}{Q:Cw}(q:h.get? b=Ab Q)(n:H b=none)(J:b ∉ ex):∃ sl,h1.get? b=Ab { Q with slots:=sl }:=by
 by_cases Y:b∈fs
 .exact u.slot b Q q n Y J
 .exact⟨Q.slots,u.keep b Q q n Y J⟩
theorem Un.trans (a:Un fs ex H H1 h h1)(b:Un fs ex H1 H2 h1 h2):Un fs ex H H2 h h2 where
 keep:=λc Y q n G Q=>b.keep c Y (a.keep c Y q n G Q) (a.free c Y q n Q) G Q
 slot:=λc Y q n G Q=>by
  obtain⟨sl,J⟩:=a.slot c Y q n G Q;obtain⟨N,O⟩:=b.slot c _ J (a.free c Y q n Q) G Q;exact⟨N,O⟩
 free:=λc Y q n Q=>by
  obtain⟨C,J⟩:=a.there c Y q Q;exact b.free c C J (a.free c Y q n Q) Q
 there:=λc Y q Q=>by
  obtain⟨C,J⟩:=a.there c Y q Q;exact b.there c C J Q
 tups:=λc U q=>b.tups c U (a.tups c U q)
 frzs:=λc Y U q=>b.frzs c Y U (a.frzs c Y U q)
 tbls:=λc B q=>by
  obtain⟨L,J⟩:=a.tbls c B q;obtain⟨T,O⟩:=b.tbls c _ J;exact⟨L++T,by rw[O,Yj]⟩
theorem Un.kept (k:∀ b u,h.get? b=Ab u->h'.get? b=Ab u):Un fs ex H H h h':=
 ⟨λb Q q _ _ _=>k b Q q,λb Q q _ _ _=>⟨Q.slots,k b Q q⟩,λ_ _ _ n _=>n,λb Q q _=>⟨Q,k b Q q⟩,λ_ _ q=>q,λ_ _ _ q=>q,λ_ Y q=>⟨#[],by rw[q];simp⟩⟩
theorem Un.refl:Un fs ex H H h h:=Un.kept λ_ _ q=>q
theorem Un.laid (k:∀ b u,h.get? b=Ab u->h'.get? b=Ab u)(hp:h.objs.size<=a)(Q:H a=none):Un fs ex H (b_ H a o) h h' where
 keep:=λb u q _ _ _=>k b u q
 slot:=λb u q _ _ _=>⟨u.slots,k b u q⟩
 free:=λb u q n _=>by rw[qP (Cu (Bl (Bg q) hp))];exact n
 there:=λb u q _=>⟨u,k b u q⟩
 tups:=λb Y q=>by rw[qP (zG q Q)];exact q
 frzs:=λb u Y q=>by rw[qP (zG q Q)];exact q
 tbls:=λb J q=>⟨#[],by rw[qP (zG q Q),q];simp⟩
theorem Un.write (Y:wt (H x))(C:e=x\/H e=Ab (.own x))(k:∀ b u,b≠e->h.get? b=Ab u->h'.get? b=Ab u)(J:∃ u,h'.get? e=Ab u):Un fs ex H (b_ H x o) h h':=by
 have N:∀ b,H b=none->b≠x:=λb n z=>by subst z;rw[n] at Y;exact Y
 have G:∀ b,H b=none->b≠e:=λb n z=>by
  subst z;rcases C with r|r
  .exact N b n r
  .rw[n] at r;cases r
 have U:∀ b u,H b=Ab u->¬ wt (Ab u)->b≠x:=λb u q B z=>by subst z;rw[q] at Y;exact B Y
 refine⟨λb u q n _ _=>k b u (G b n) q,λb u q n _ _=>⟨u.slots,k b u (G b n) q⟩,λb u q n _=>by rw[qP (N b n)];exact n,λb u q _=>?_,
  λb O q=>by rw[qP (U b _ q λz=>z)];exact q,λb u O q=>by rw[qP (U b _ q λz=>z)];exact q,λb L q=>⟨#[],by rw[qP (U b _ q λz=>z),q];simp⟩⟩
 by_cases Q:b=e
 .subst Q;exact J
 .exact⟨u,k b u Q q⟩
end
noncomputable def xo (h:Cb)(H:Hp):Aa Af:=(Cg h.objs.size).filter λa=>(H a).isSome
def gT (h:Cb)(H:Hp):Cb:=Qs h (xo h H)
theorem XU (h:Cb)(H:Hp):(gT h H).objs.size=h.objs.size:=PySem.W.hideAll_size _ _
theorem UH {h:Cb}{H:Hp}{b:Af}{o:Cw}(e:h.get? b=Ab o)(n:H b=none):(gT h H).get? b=Ab o:=
 Xk _ e λQ=>by
  have q:(H b).isSome=true:=(Gw.mp Q).2;rw[n] at q;simp at q
theorem FX {h:Cb}{H:Hp}{b:Af}{o:Cw}(e:(gT h H).get? b=Ab o):h.get? b=Ab o/\H b=none:=by
 have Q:h.get? b=Ab o:=Yk (xo h H) e;refine⟨Q,?_⟩;cases q:H b with
 |none=>rfl
 |some x =>
  have Y:b∈xo h H:=Gw.mpr ⟨Ee.mpr (Bg Q),by simp[q]⟩
  have z:(gT h H).get? b=none:=PySem.W.hideAll_none (xo h H) Y;rw[z] at e;cases e
end _L
namespace _L
variable {E:ab}{t':Ag}{g':Ay AaG}{d':Drawn}{M:Pw}{Q:Uv->Ah->Prop}
noncomputable def vJ:Aa Aw:=["law","_law_right","by_hull","pair_bound","hub","greatest_often"]
def NO (J:ah)(h:Cb):Prop:=∃ Y o,J "__builtins__" = Ab (.ref Y)/\Y≠Re/\h.get? Y=Ab o/\o.cls=.type "module" /\ o.dict=Ab Re/\o.data=.plain
structure Mod (K:Ak)(mg:ah)(base:Cb):Prop where
 kin:K.In base
 glob:base.Ns Di mg
 blt:∃ mb,base.Ns Re mb/\∀ x:Aw,x ≠ "__name__" -> mb x=Fy x
 nolimit:base.NoLimit
 bm:NO mg base
 code:∀ x∈vJ,∀ c T,Er K x=Ab (c,T)->AaU base c T
 inj:∀ x∈vJ,∀ y∈vJ,∀ c d T,Er K x=Ab (c,T)->Er K y=Ab (d,T)->x=y
structure Cx where
 prog:Bo
 w:Cd
 K:Ak
 mg:Aw->An Ad
 base:Cb
 A:Bu
 N:Aa Aw
 s₀:Ah
 H₀:Hp
 env:Kh
 outer:Aa Kh
 stack:Aa Kh
 ex:Aa Af
 fn:Aw->As
 calm:As
 pn:Aa (Af × Cw)
 xe:Ad->Ah->Prop
noncomputable def jg (l:Aa Kh):Aa Af:=l.filterMap (·.frame)
abbrev Cx.fs (X:Cx):Aa Af:=jg X.outer
def tz (Y:Fd)(x:Aw):Prop:=Y.names.lookup x=Ab .local \/ Y.names.lookup x=Ab .cell\/Y.names.lookup x=Ab .free
def Loc (Y:Fd)(x:Aw):Prop:=Y.names.lookup x=Ab .local \/ Y.names.lookup x=Ab .cell
def qAS (env:Kh)(h:Cb)(m:ah)(x:Aw)(u:Ad):Prop:=
 (env.kindOf x=Ab .local /\ m x=Ab u)\/((env.kindOf x=Ab .cell\/env.kindOf x=Ab .free)/\∃ c,env.cells.lookup x=Ab c/\h.IsCell c (Ab u))
structure Cx.Ok (X:Cx):Prop where
 mod:Mod X.K X.mg X.base
 kind:X.env.scope.kind=.function
 glob:X.env.globals=Di
 blt:X.env.builtins=Re
 above:X.s₀.heap.objs.size<=X.env.locals
 inj:∀ x y c,X.env.cells.lookup x=Ab c->X.env.cells.lookup y=Ab c->x=y
 has:∀ x,(X.env.kindOf x=Ab .cell\/X.env.kindOf x=Ab .free)->∃ c,X.env.cells.lookup x=Ab c
 cab:∀ x c,X.fn x=true->X.env.cells.lookup x=Ab c->X.s₀.heap.objs.size<=c
 hd:X.calm=true->X.A.handled=none
 frames:X.A.frames=Ab X.stack
 stk:X.stack=X.outer\/(X.stack=X.env::X.outer/\X.env.frame=Ab X.env.locals)
 exf:∀ b∈X.ex,b≠X.env.locals/\∀ x c,X.env.cells.lookup x=Ab c->c≠b
 bs:∀ b o,X.base.get? b=Ab o->X.s₀.heap.get? b=Ab o/\X.H₀ b=none
 bsz:X.base.objs.size<=X.s₀.heap.objs.size
 noex:∀ b o,X.base.get? b=Ab o->b ∉ X.ex
 exfs:∀ b∈X.ex,b ∉ X.fs
 funs:X.s₀.heap.FunFrames X.base X.outer
 frf:∀ b∈X.fs,X.H₀ b=none
structure Inv (X:Cx)(pins:aa)(σ : Aa (An V))(H:Hp)(s:Ah):Prop where
 ok:X.Ok
 os:s.os=X.s₀.os
 bare:Pv s.gens
 base:Un X.fs X.ex X.H₀ H X.s₀.heap s.heap
 loc:∃ m,s.heap.Ns X.env.locals m/\∀ (i:Ag) (x:Aw) (v:V),X.N[i]? = Ab x->σ[i]? = Ab (Ab v)->tz X.env.scope x->∃ u,qG v u/\qAS X.env s.heap m x u
 cell:∀ x c,X.env.cells.lookup x=Ab c->∃ v,s.heap.IsCell c v
 free:H X.env.locals=none
 freeC:∀ x c,X.env.cells.lookup x=Ab c->H c=none
 pin:∀ p∈X.pn++pins,s.heap.get? p.1=Ab p.2/\H p.1=none/\p.1≠X.env.locals/\p.1 ∉ X.fs/\∀ v,p.2.data≠.cell v
 hok:gl X.prog X.w H s.heap
 len:σ.length=X.N.length
section
variable {X:Cx}{ai:aa}{σ : Aa (An V)}{H H':Hp}{s:Ah}{h':Cb}
theorem Cx.Ok.nofr (ok:X.Ok){b:Af}{o:Cw}(e:X.base.get? b=Ab o):b ∉ X.fs:=λY=>by
 have:=(ok.funs.mem Y).1;rw[e] at this;cases this
theorem Inv.bs (I:Inv X ai σ H s):∀ b o,X.base.get? b=Ab o->s.heap.get? b=Ab o/\H b=none:=λb o e =>
 ⟨I.base.keep b o (I.ok.bs b o e).1 (I.ok.bs b o e).2 (I.ok.nofr e) (I.ok.noex b o e),I.base.free b o (I.ok.bs b o e).1 (I.ok.bs b o e).2 (I.ok.noex b o e)⟩
theorem Inv.bk (I:Inv X ai σ H s):∀ b o,X.base.get? b=Ab o->s.heap.get? b=Ab o:=λb o e=>(I.bs b o e).1
theorem Inv.mod (I:Inv X ai σ H s):Mod X.K X.mg X.base:=I.ok.mod
theorem Inv.kIn (I:Inv X ai σ H s):X.K.In s.heap:=I.ok.mod.kin.keeps I.bk
theorem Inv.nolimit (I:Inv X ai σ H s):s.heap.NoLimit:=I.ok.mod.nolimit.keeps I.bk
theorem Inv.lt (I:Inv X ai σ H s):X.env.locals<s.heap.objs.size:=let ⟨_,Y,_⟩:=I.loc;Y.lt
theorem Inv.sz (I:Inv X ai σ H s):X.s₀.heap.objs.size<=s.heap.objs.size:=Ch I.ok.above (Ek I.lt)
theorem Inv.nofs (I:Inv X ai σ H s){a:Af}(h:s.heap.objs.size<=a):a ∉ X.fs:=λY=>by
 obtain⟨_,o,J,_⟩:=I.ok.funs.mem Y;exact absurd (Bl (Bg J) (Ch I.sz h)) (Ep _)
theorem Inv.cne (I:Inv X ai σ H s):∀ x c,X.env.cells.lookup x=Ab c->c≠X.env.locals:=λx c e z=>by
 obtain⟨v,o,U,G⟩:=I.cell x c e;obtain⟨m,⟨C,O,N,Y,J,_⟩,_⟩:=I.loc;rw[z,Y] at U;cases U;rw[J] at G;cases G
theorem Inv.funs (I:Inv X ai σ H s):s.heap.FunFrames X.base X.outer:=by
 have Y:∀ (l:Aa Kh),(∀ b∈jg l,b∈X.fs)->X.s₀.heap.FunFrames X.base l->s.heap.FunFrames X.base l:=by
  intro l
  induction l with
  |nil=>intro _ _;trivial
  |cons C r w =>
   intro hs A;obtain⟨j,⟨L,o,U,O,B,T⟩,N⟩:=A;have J:L∈X.fs:=hs L (by unfold jg;rw[Jc,U];exact De)
   obtain⟨sl,e⟩:=I.base.slot L o B (I.ok.frf L J) J λz=>I.ok.exfs L z J;exact⟨j,⟨L,_,U,O,e,T⟩,w (λb G=>hs b (by unfold jg;rw[Jc,U];exact Ce _ G)) N⟩
 exact Y X.outer (λ_ G=>G) I.ok.funs
theorem Inv.stack (I:Inv X ai σ H s):s.heap.FunFrames X.base X.stack:=by
 rcases I.ok.stk with e|⟨e,J⟩
 .rw[e];exact I.funs
 .rw[e]
  obtain⟨m,Y,_⟩:=I.loc;refine .cons (by rw[I.ok.kind];decide) J Y ?_ I.funs
  exact Qm (Ch I.ok.bsz I.ok.above)
theorem Inv.stkSub (I:Inv X ai σ H s):∀ b∈jg X.stack,b∈X.env.locals::X.fs:=λb Y=>by
 rcases I.ok.stk with e|⟨e,J⟩
 .rw[e] at Y;exact Ce _ Y
 .rw[e] at Y
  unfold jg at Y;rw[Jc,J] at Y;exact Y
theorem Inv.stkFree (I:Inv X ai σ H s):∀ b∈jg X.stack,H b=none:=λb hb=>by
 rcases Bc.mp (I.stkSub b hb) with e|hb
 .rw[e];exact I.free
 .obtain⟨_,o,Y,_⟩:=I.ok.funs.mem hb
  exact I.base.free b o Y (I.ok.frf b hb) λz=>I.ok.exfs b z hb
theorem Inv.step {g':Ay AaG}{t':Ag}{d':Drawn}{ch:ae}(I:Inv X ai σ H s)
  (N:∀ b∈ch,(b∈X.ex\/X.s₀.heap.objs.size<=b)/\b≠X.env.locals/\(∀ x c,X.env.cells.lookup x=Ab c->c≠b)/\∀ p∈X.pn++ai,p.1≠b)
  (O:∀ b o,b≠X.env.locals->b ∉ X.fs->b ∉ ch->s.heap.get? b=Ab o->H b=none->h'.get? b=Ab o)
  (slot:∀ b o,b≠X.env.locals->b∈X.fs->b ∉ ch->s.heap.get? b=Ab o->H b=none->∃ sl,h'.get? b=Ab { o with slots:=sl }) (J:∀ b o,b ∉ ch->s.heap.get? b=Ab o->H b=none->H' b=none)
  (L:∀ b o,b ∉ ch->s.heap.get? b=Ab o->∃ o',h'.get? b=Ab o')
  (f:∀ b xs,H b=Ab (.tup xs)->H' b=Ab (.tup xs)) (t:∀ b o u,H b=Ab (.frz o u)->H' b=Ab (.frz o u)) (g:∀ b ps,H b=Ab (.tbl ps)->∃ w,H' b=Ab (.tbl (ps++w)))
  (ns:∀ m,s.heap.Ns X.env.locals m->h'.Ns X.env.locals m) (a:gl X.prog X.w H' h') (hg:Pv g') :
  Inv X ai σ H' { s with heap:=h',gens:=g',drawn:=d',toks:=t' }:=by
 have j:∀ b o,X.s₀.heap.get? b=Ab o->b≠X.env.locals:=λb o e=>Cu (Bl (Bg e) I.ok.above);have B:∀ b o,X.s₀.heap.get? b=Ab o->b ∉ X.ex->b ∉ ch:=λb o e Y T=>by
  rcases (N b T).1 with z|z
  .exact Y z
  .exact absurd (Bl (Bg e) z) (Ep _)
 have G:∀ x c,X.env.cells.lookup x=Ab c->∀ v,s.heap.IsCell c v->h'.IsCell c v:=λx c e v ⟨o,A,hd⟩=>by
  have U:c ∉ ch:=λz=>(N c z).2.2.1 x c e rfl;by_cases hc:c∈X.fs
  .obtain⟨sl,q⟩:=slot c o (I.cne x c e) hc U A (I.freeC x c e)
   exact⟨_,q,hd⟩
  .exact⟨o,O c o (I.cne x c e) hc U A (I.freeC x c e),hd⟩
 refine⟨I.ok,I.os,hg,⟨λb o e n T Y=>?_,λb o e n T Y=>?_,λb o e n Y=>?_,λb o e Y=>?_,λb xs e=>f b xs (I.base.tups b xs e),λb o xs e=>t b o xs (I.base.frzs b o xs e),λb ps e=>?_⟩,?_,λx c e=>?_,?_,λx c e=>?_,λp hp=>?_,a,I.len⟩
 .exact O b o (j b o e) T (B b o e Y) (I.base.keep b o e n T Y) (I.base.free b o e n Y)
 .obtain⟨sl,C⟩:=I.base.slot b o e n T Y
  obtain⟨h,y⟩:=slot b _ (j b o e) T (B b o e Y) C (I.base.free b o e n Y);exact⟨h,y⟩
 .obtain⟨o',C⟩:=I.base.there b o e Y
  exact J b o' (B b o e Y) C (I.base.free b o e n Y)
 .obtain⟨o',C⟩:=I.base.there b o e Y
  exact L b o' (B b o e Y) C
 .obtain⟨m1,C⟩:=I.base.tbls b ps e
  obtain⟨m2,y⟩:=g b _ C;exact⟨m1++m2,by rw[y,Yj]⟩
 .obtain⟨m,hn,hl⟩:=I.loc
  refine⟨m,ns m hn,λi x v C y e3=>?_⟩;obtain⟨u,r,l⟩:=hl i x v C y e3;refine⟨u,r,?_⟩;rcases l with l|⟨k,c,e,z⟩
  .exact .inl l
  .exact .inr ⟨k,c,e,G x c e _ z⟩
 .obtain⟨v,z⟩:=I.cell x c e
  exact⟨v,G x c e v z⟩
 .obtain⟨m,⟨o,_,_,A,_⟩,_⟩:=I.loc
  exact J _ o (λz=>(N _ z).2.1 rfl) A I.free
 .obtain⟨v,o,A,hd⟩:=I.cell x c e
  exact J c o (λz=>(N c z).2.2.1 x c e rfl) A (I.freeC x c e)
 .obtain⟨e,n,ne,nf,d⟩:=I.pin p hp
  have U:p.1 ∉ ch:=λz=>(N p.1 z).2.2.2 p hp rfl;exact⟨O p.1 p.2 ne nf U e n,J p.1 p.2 U e n,ne,nf,d⟩
theorem Inv.un {t':Ag}(I:Inv X ai σ H s)(u:Un X.fs [] H H' s.heap h')(U:gl X.prog X.w H' h'):Inv X ai σ H' { s with heap:=h',toks:=t' }:=by
 obtain⟨m,⟨o,A,T,N,r⟩,_⟩:=id I.loc;obtain⟨sl,C⟩:=u.any N I.free (by simp)
 exact I.step (g':=s.gens) (d':=s.drawn) (ch:=[]) (λ_ z=>nomatch z) (λb o _ G _ e n=>u.keep b o e n G (by simp)) (λb o _ G _ e n=>u.slot b o e n G (by simp)) (λb o _ e n=>u.free b o e n (by simp)) (λb o _ e=>u.there b o e (by simp)) u.tups u.frzs u.tbls (λw B=>by
  obtain⟨j,L,J,Y,O⟩:=B;rw[N] at Y;cases Y;exact⟨_,L,J,C,O⟩) U I.bare
theorem Inv.call {t':Ag}{d':Drawn}{ch:ae}(I:Inv X ai σ H s)(u:Un (jg X.stack) ch H H' s.heap h')(N:gl X.prog X.w H' h')(B:Pv g')
  (J:∀ b∈ch,(b∈X.ex\/X.s₀.heap.objs.size<=b)/\b≠X.env.locals/\(∀ x c,X.env.cells.lookup x=Ab c->c≠b)/\∀ p∈X.pn++ai,p.1≠b) :
  Inv X ai σ H' { s with heap:=h',gens:=g',drawn:=d',toks:=t' }:=by
 obtain⟨m,⟨o,y,j,C,r⟩,_⟩:=id I.loc;obtain⟨sl,O⟩:=u.any C I.free λz=>(J _ z).2.1 rfl;exact I.step (ch:=ch) J (λb o O A Y e n=>u.keep b o e n (λz=>(Bc.mp (I.stkSub b z)).elim O A) Y) (λb o _ _ Y e n=>u.any e n Y) (λb o Y e n=>u.free b o e n Y) (λb o Y e=>u.there b o e Y) u.tups u.frzs u.tbls (λk T=>by
  obtain⟨q,w,G,U,L⟩:=T;rw[C] at U;cases U;exact⟨_,w,G,O,L⟩) N B
theorem Inv.turned {t':Ag}{it:Af}(I:Inv X ai σ H s)(k:∀ b o,b≠it->s.heap.get? b=Ab o->h'.get? b=Ab o)(N:H it=none)(U:it≠X.env.locals)
  (h1:it∈X.ex\/X.s₀.heap.objs.size<=it) (h2:∀ x c,X.env.cells.lookup x=Ab c->c≠it) (h3:∀ p∈X.pn++ai,p.1≠it):Inv X ai σ H { s with heap:=h',toks:=t' }:=by
 have J:∀ b u,H b=Ab u->b≠it:=λb u e z=>by rw[z,N] at e;cases e
 refine I.step (g':=s.gens) (d':=s.drawn) (ch:=[it]) (λb L=>?_) (λb o _ _ Y e _=>k b o (λz=>Y (by simp[z])) e) (λb o _ _ Y e _=>⟨o.slots,k b o (λz=>Y (by simp[z])) e⟩) (λ_ _ _ _ n=>n)
  (λb o Y e=>⟨o,k b o (λz=>Y (by simp[z])) e⟩) (λ_ _ e=>e) (λ_ _ _ e=>e) (λb T e=>⟨#[],by rw[e];simp⟩) (λm C=>?_) (λb u e=>?_) I.bare
 .have e:b=it:=by simpa using L
  subst e;exact⟨h1,U,h2,h3⟩
 .obtain⟨o,O,G,B,r⟩:=C
  exact⟨o,O,G,k _ o (Gb U) B,r⟩
 .refine(I.hok b u e).stay (λc v Y q=>k c v ?_ q) (λ_ q=>q) λ_ _ q=>q
  rcases Y with z|z
  .rw[z];exact J b u e
  .exact J c _ z
theorem Inv.tok (I:Inv X ai σ H s)(t:Ag):Inv X ai σ H { s with toks:=t }:=I.un (h':=s.heap) (t':=t) Un.refl I.hok
theorem Inv.kept {t':Ag}(I:Inv X ai σ H s)(k:∀ b u,s.heap.get? b=Ab u->h'.get? b=Ab u):Inv X ai σ H { s with heap:=h',toks:=t' }:=I.un (Un.kept k) (I.hok.kept k)
theorem Inv.laid {a:Af}{o:HO}{t':Ag}(I:Inv X ai σ H s)(k:∀ b u,s.heap.get? b=Ab u->h'.get? b=Ab u)(hp:s.heap.objs.size<=a)(Y:zM X.prog X.w (b_ H a o) h' a o) :
  Inv X ai σ (b_ H a o) { s with heap:=h',toks:=t' }:=I.un (Un.laid k hp (I.hok.fresh hp)) (I.hok.laid k hp Y)
theorem Inv.write {x e:Af}{o:HO}{t':Ag}(I:Inv X ai σ H s)(G:wt (H x))(U:e=x\/H e=Ab (.own x))(k:∀ b u,b≠e->s.heap.get? b=Ab u->h'.get? b=Ab u)(Y:∃ u,h'.get? e=Ab u)
  (J:zM X.prog X.w (b_ H x o) h' x o):Inv X ai σ (b_ H x o) { s with heap:=h',toks:=t' }:=I.un (Un.write G U k Y) (I.hok.write G U k Y J)
theorem Inv.pins_of {Y:aa}(I:Inv X ai σ H s)(h:∀ p∈Y,s.heap.get? p.1=Ab p.2/\H p.1=none/\p.1≠X.env.locals/\p.1 ∉ X.fs/\∀ v,p.2.data≠.cell v):Inv X Y σ H s:=
 ⟨I.ok,I.os,I.bare,I.base,I.loc,I.cell,I.free,I.freeC,λp J=>(Bq.mp J).elim (λz=>I.pin p (Dm _ z)) (h p),I.hok,I.len⟩
theorem hW {N:Aa Aw}(Y:N.Nodup){i j:Ag}{x:Aw}(a:N[i]? = Ab x)(b:N[j]? = Ab x):i=j:=by
 obtain⟨G,U⟩:=Ax.mp a;obtain⟨O,J⟩:=Ax.mp b;exact(Tw Y).mp (U.trans J.symm)
theorem sG {A:Bu}{i:Ag}{x:Aw}{v:V}{u:Ad}(I:Inv X ai σ H s)(hN:X.N.Nodup)(hi:X.N[i]? = Ab x)(U:Loc X.env.scope x)(r:qG v u)
  (h:∀ s',Inv X ai (σ.set i (Ab v)) H s'->(∃ a,El a s.heap s'.heap/\(a=X.env.locals\/X.env.cells.lookup x=Ab a))->Q () s') (hf:X.fn x=true\/X.env.scope.names.lookup x=Ab .local:=by first|exact .inl rfl|exact .inr rfl|assumption):Aq M A (storeName X.env x u) Q E s:=by
 obtain⟨m,hn,hl⟩:=id I.loc;have f:(X.env.scope.kind == .class||(X.env.scope.kind == .module&&X.env.locals != X.env.globals))=false:=by rw[I.ok.kind];rfl
 have O:i<σ.length:=by rw[I.len];exact(Ax.mp hi).1
 have C:=I.cne;have Y:∀ {a:Af} {h':Cb},(∃ o,s.heap.get? a=Ab o/\H a=none)->El a s.heap h'->gl X.prog X.w H h':=λ{a h'} ha hs b ob e=>by
  obtain⟨_,_,G⟩:=ha;refine(I.hok b ob e).stay (λc w' hc q=>(hs.2 c ?_).trans q) (λ_ q=>q) λ_ _ q=>q;rintro rfl;rcases hc with rfl|hc
  .rw[G] at e;cases e
  .rw[G] at hc;cases hc
 rcases U with hk|hk
 .refine wpAny_storeName_local hk hn (λh' zb hs=>?_) f
  obtain⟨oL,_,_,zc,_⟩:=id hn;refine h _ ⟨I.ok,I.os,I.bare,⟨λb o e n B U=>?_,λb o e n B U=>?_,I.base.free,λb o e U=>?_,I.base.tups,I.base.frzs,I.base.tbls⟩,⟨_,zb,λj y v' J N e3=>?_⟩,λy c e=>?_,I.free,I.freeC,λp hp=>?_,Y ⟨oL,zc,I.free⟩ hs,by simpa using I.len⟩ ⟨_,hs,.inl rfl⟩
  .exact(hs.2 b (Cu (Bl (Bg e) I.ok.above))).trans (I.base.keep b o e n B U)
  .obtain⟨sl,J⟩:=I.base.slot b o e n B U
   exact⟨sl,(hs.2 b (Cu (Bl (Bg e) I.ok.above))).trans J⟩
  .obtain⟨o',J⟩:=I.base.there b o e U
   exact⟨o',(hs.2 b (Cu (Bl (Bg e) I.ok.above))).trans J⟩
  .by_cases T:j=i
   .subst T
    rw[hi] at J;cases J;rw[Dk O] at N;cases N;exact⟨u,r,.inl ⟨hk,by simp⟩⟩
   .rw[Br (Gb T)] at N
    obtain⟨u',r',q⟩:=hl j y v' J N e3;refine⟨u',r',?_⟩;rcases q with⟨k,e⟩|⟨k,c,e,z⟩
    .refine .inl ⟨k,?_⟩
     have:y≠x:=λe=>T (hW hN J (e▸hi));simp[this,e]
    .exact .inr ⟨k,c,e,z.sameBut hs (C y c e)⟩
  .obtain⟨w',z⟩:=I.cell y c e
   exact⟨w',z.sameBut hs (C y c e)⟩
  .obtain⟨e,n,ne,nf,d⟩:=I.pin p hp
   exact⟨(hs.2 p.1 ne).trans e,n,ne,nf,d⟩
 .have L:X.fn x=true:=by
   rcases hf with z|z
   .exact z
   .rw[z] at hk;cases hk
  obtain⟨c,hc⟩:=I.ok.has x (.inl hk);obtain⟨w',z⟩:=I.cell x c hc;refine wpAny_storeName_cell I.ok.kind hk hc z (λh' w hs=>?_);obtain⟨oc,t,g⟩:=id z;refine h { s with heap:=h' } ⟨I.ok,I.os,I.bare,⟨λb o e n B U=>?_,λb o e n B U=>?_,I.base.free,λb o e U=>?_,I.base.tups,I.base.frzs,I.base.tbls⟩,⟨m,hn.sameBut hs (Gb (C x c hc)),λj y v' J N e3=>?_⟩,λy c' e=>?_,I.free,I.freeC,λp hp=>?_,Y ⟨oc,t,I.freeC x c hc⟩ hs,by simpa using I.len⟩ ⟨c,hs,.inr hc⟩
  .exact(hs.2 b (Cu (Bl (Bg e) (I.ok.cab x c L hc)))).trans (I.base.keep b o e n B U)
  .obtain⟨sl,J⟩:=I.base.slot b o e n B U
   exact⟨sl,(hs.2 b (Cu (Bl (Bg e) (I.ok.cab x c L hc)))).trans J⟩
  .obtain⟨o',J⟩:=I.base.there b o e U
   exact⟨o',(hs.2 b (Cu (Bl (Bg e) (I.ok.cab x c L hc)))).trans J⟩
  .by_cases T:j=i
   .subst T
    rw[hi] at J;cases J;rw[Dk O] at N;cases N;exact⟨u,r,.inr ⟨.inl hk,c,hc,w⟩⟩
   .rw[Br (Gb T)] at N
    obtain⟨u',r',q⟩:=hl j y v' J N e3;refine⟨u',r',?_⟩;rcases q with q|⟨k,c',e,z'⟩
    .exact .inl q
    .refine .inr ⟨k,c',e,z'.sameBut hs ?_⟩
     rintro rfl;exact T (hW hN J (I.ok.inj _ _ _ e hc▸hi))
  .by_cases l:c'=c
   .subst l;exact⟨_,w⟩
   .obtain⟨w2,z2⟩:=I.cell y c' e
    exact⟨w2,z2.sameBut hs l⟩
  .obtain⟨e,n,ne,nf,d⟩:=I.pin p hp
   refine⟨(hs.2 p.1 ?_).trans e,n,ne,nf,d⟩;intro q;rw[q,t] at e;have q':oc=p.2:=Dc e;exact d w' (by rw[<- q'];exact g)
theorem pH {A:Bu}{i:Ag}{x:Aw}{v:V}{u:Ad}(I:Inv X ai σ H s)(Y:X.N.Nodup)(hi:X.N[i]? = Ab x)(G:Loc X.env.scope x)(r:qG v u)
  (h:∀ s',Inv X ai (σ.set i (Ab v)) H s'->Q () s') (J:X.fn x=true\/X.env.scope.names.lookup x=Ab .local:=by first|exact .inl rfl|exact .inr rfl|assumption):Aq M A (storeName X.env x u) Q E s:=
 sG I Y hi G r (λs' U _=>h s' U) J
theorem Inv.call' {s':Ah}{ch:ae}(I:Inv X ai σ H s)(U:s'.os=s.os)(u:Un (jg X.stack) ch H H' s.heap s'.heap)(J:gl X.prog X.w H' s'.heap)(G:Pv s'.gens)
  (Y:∀ b∈ch,(b∈X.ex\/X.s₀.heap.objs.size<=b)/\b≠X.env.locals/\(∀ x c,X.env.cells.lookup x=Ab c->c≠b)/\∀ p∈X.pn++ai,p.1≠b):Inv X ai σ H' s':=by
 obtain⟨h',g',d',t',N⟩:=s';have e:N=s.os:=U;subst e;exact I.call (g':=g') (t':=t') (d':=d') u J G Y
end
abbrev XK:=Ad->An Af->Hp->Prop
abbrev St:=Aa (An V)
abbrev VK:=V->Hp->Prop
abbrev TE:=St->Hp->VK->Prop
abbrev TT:=St->Hp->(As->Hp->Prop)->Prop
abbrev TA:=St->Hp->(Aa V->Hp->Prop)->Prop
structure Ends where
 nx:St->Hp->Prop
 rt:VK
 bk:St->Hp->Prop:=λ_ _=>Ey
 ct:St->Hp->Prop:=λ_ _=>Ey
abbrev TS:=Ends->St->Hp->Prop
inductive EP (X:Cx)(pins:aa)(σ : St)(Q:VK)(u:Ad)(s':Ah):Prop
 |mk (v:V) (H':Hp) (I:Inv X pins σ H' s') (r:qG v u) (q:Q v H'):EP X pins σ Q u s'
inductive TP (X:Cx)(pins:aa)(σ : St)(Q:As->Hp->Prop)(b:As)(s':Ah):Prop
 |mk (H':Hp) (I:Inv X pins σ H' s') (q:Q b H'):TP X pins σ Q b s'
inductive AP (X:Cx)(pins:aa)(σ : St)(Q:Aa V->Hp->Prop)(us:ag)(s':Ah):Prop
 |mk (vs:Aa V) (H':Hp) (I:Inv X pins σ H' s') (r:qI vs us) (q:Q vs H'):AP X pins σ Q us s'
def SP (X:Cx)(ai:aa)(D:Ends)(f:Flow)(s':Ah):Prop:=
 match f with
 |.next=>∃ Y J,Inv X ai Y J s'/\D.nx Y J
 |.brk=>∃ Y J,Inv X ai Y J s'/\D.bk Y J
 |.cont=>∃ Y J,Inv X ai Y J s'/\D.ct Y J
 |.ret u=>∃ v Y J,Inv X ai Y J s'/\qG v u/\D.rt v J
def PE (X:Cx)(e:Bz)(t:TE):Prop:=
 ∀ (Y:aa) (s:Ah) (σ : St) (H:Hp) (Q:VK),Inv X Y σ H s->t σ H Q->Aq (Au X.prog X.w) X.A (eval e X.env) (EP X Y σ Q) X.xe s
def PT (X:Cx)(e:Bz)(t:TT):Prop:=
 ∀ (Y:aa) (s:Ah) (σ : St) (H:Hp) (Q:As->Hp->Prop),Inv X Y σ H s->t σ H Q->Aq (Au X.prog X.w) X.A (isTrue e X.env (eval e X.env)) (TP X Y σ Q) X.xe s
def PW (X:Cx)(e:Bz)(t:TT):Prop:=
 ∀ (Y:Kr Ad) (J:aa) (s:Ah) (σ : St) (H:Hp) (Q:As->Hp->Prop),Inv X J σ H s->t σ H Q->Aq (Au X.prog X.w) X.A (isTrue e X.env Y) (TP X J σ Q) X.xe s
def PA (X:Cx)(es:Aa Bz)(t:TA):Prop:=
 ∀ (J:Fn) (Y:aa) (s:Ah) (σ : St) (H:Hp) (Q:Aa V->Hp->Prop),Inv X Y σ H s->t σ H Q->Aq (Au X.prog X.w) X.A (spliced (Gi J (Bs es X.env))) (AP X Y σ Q) X.xe s
def PS (X:Cx)(st:Fz)(t:TS):Prop:=
 ∀ (Y:aa) (s:Ah) (σ : St) (H:Hp) (D:Ends),Inv X Y σ H s->t D σ H->Aq (Au X.prog X.w) X.A (exec st X.env) (SP X Y D) X.xe s
def ir (X:Cx)(st:Aa Fz)(t:TS):Prop:=
 ∀ (Y:aa) (s:Ah) (σ : St) (H:Hp) (D:Ends),Inv X Y σ H s->t D σ H->Aq (Au X.prog X.w) X.A (execs st X.env) (SP X Y D) X.xe s
theorem bq {α:Type}{t:Kr α}{Q Y:α->Ah->Prop}{A:Bu}{s:Ah}(h:Aq M A t Q E s)(J:∀ a s,Q a s->Y a s):Aq M A t Y E s:=Ho h J λ_ _ x=>x
end _L
namespace _L
variable {ai:aa}{u:Ad}{E Q:ab}{x:Aw}
section
variable {X:Cx}
theorem yx {a b:Bz}{O C:TE}(M:PE X a O)(z:PE X b C){ai:aa}{s:Ah}{σ : St}{H:Hp}{R:V->V->Hp->Prop}(I:Inv X ai σ H s)(h:O σ H λx N=>C σ N λy Y=>R x y Y)
  {α:Type} {Q:α->Ah->Prop} {f:Ad->Ad->Kr α}
  (A:∀ v u G x y Y,Inv X ai σ Y G->qG x v->qG y u->R x y Y->Aq (Au X.prog X.w) X.A (f v u) Q X.xe G) :
  Aq (Au X.prog X.w) X.A (eval a X.env) (λv J=>Aq (Au X.prog X.w) X.A (eval b X.env) (λu U=>Aq (Au X.prog X.w) X.A (f v u) Q X.xe U) X.xe J) X.xe s:=by
 refine bq (M ai s σ H _ I h) λv T ⟨x,N,w,q,j⟩=>?_;refine bq (z ai T σ N _ w j) λu G ⟨y,Y,B,k,L⟩=>?_;exact A v u G x y Y B q k L
def HW (i:Ag):TE:=λσ H Q=>∃ v,σ[i]? = Ab (Ab v)/\Q v H
def tC (v:V):TE:=λ_ H Q=>Q v H
theorem E2 {i:Ag}{T:Fn}(O:X.N[i]? = Ab x)(hv:tz X.env.scope x)(G:(x == ("__debug__" : Aw))=false:=by decide)(U:(x == ("__classdict__" : Aw))=false:=by decide):PE X (.Name x T) (HW i):=by
 intro ai s σ H Q I h;obtain⟨v,e,h⟩:=h;obtain⟨m,L,B⟩:=I.loc;obtain⟨u,r,l⟩:=B i x v O e hv;have J:EP X ai σ Q u s:=⟨v,H,I,r,h⟩;rcases l with⟨hk,C⟩|⟨hk,c,N,Y⟩
 .exact wpAny_Name (wpAny_loadName_local I.ok.kind hk L C J) G
 .rcases hk with hk|hk
  .exact wpAny_Name (wpAny_loadName_cell I.ok.kind hk N Y J) G
  .exact wpAny_Name (wpAny_loadName_free I.ok.kind hk N Y J U) G
theorem RY:PE X (.Constant (.int i) j ao) (tC (.int i)):=λ_ _ _ H _ I h=>wpAny_Constant_int ⟨.int i,H,I.tok _,⟨_,rfl⟩,h⟩
theorem IW:PE X (.Constant (.bool b) j ao) (tC (.bl b)):=λ_ _ _ H _ I h=>Constant_bool ⟨.bl b,H,I,rfl,h⟩
theorem RZ:PE X (.Constant .none j ao) (tC .non):=λ_ _ _ H _ I h=>Constant_none ⟨.non,H,I,rfl,h⟩
def Gl (X:Cx)(x:Aw):Prop:=X.env.kindOf x=Ab .globalImplicit
theorem lE {s:Ah}{σ:St}{H:Hp}{J:Fn}(I:Inv X ai σ H s)(U:Gl X x)(hm:X.mg x=Ab u)(h:Q u s)
  (Y:(x == ("__debug__" : Aw))=false:=by decide):Aq (Au X.prog X.w) X.A (eval (.Name x J) X.env) Q E s:=
 Sb I.ok.kind U (Calls.loadGlobal_global (by rw[I.ok.glob];exact I.mod.glob.keeps I.bk) hm h) Y
theorem vL {s:Ah}{σ:St}{H:Hp}{G:Fn}(I:Inv X ai σ H s)(N:Gl X x)(hm:X.mg x=none)(hv:Fy x=Ab u)(h:Q u s)
  (J:x ≠ "__name__":=by decide) (U:(x == ("__debug__" : Aw))=false:=by decide):Aq (Au X.prog X.w) X.A (eval (.Name x G) X.env) Q E s:=by
 obtain⟨C,Y,O⟩:=I.mod.blt;exact Sb I.ok.kind N (Calls.loadGlobal_builtin (by rw[I.ok.glob];exact I.mod.glob.keeps I.bk) hm (by rw[I.ok.blt];exact Y.keeps I.bk) ((O x J).trans hv) h) U
theorem M3 {v:V}{U:Fn}(J:Gl X x)(hm:X.mg x=Ab u)(r:qG v u)(Y:(x == ("__debug__" : Aw))=false:=by decide):PE X (.Name x U) (tC v):=
 λ_ _ _ H _ I h=>lE I J hm ⟨v,H,I,r,h⟩ Y
theorem M2 {v:V}{G:Fn}(J:Gl X x)(hm:X.mg x=none)(hv:Fy x=Ab u)(r:qG v u)(U:x ≠ "__name__":=by decide)(Y:(x == ("__debug__" : Aw))=false:=by decide):PE X (.Name x G) (tC v):=
 λ_ _ _ H _ I h=>vL I J hm hv ⟨v,H,I,r,h⟩ U Y
variable {a b:Bz}{ta tb:TE}{ao:Fn}
variable {tA tB':TT}{av:Aa Bz}
theorem ME (Y:PT X a tA):PW X (.BoolOp .And [a] ao) tA:=by
 intro U ai s σ H Q I h;refine isTrue_and (bq (Y ai s σ H Q I h) λc J e=>?_);cases c with
 |true=>exact isTrue_and_nil e
 |false=>exact e
theorem E9 (Y:PT X a tA):PW X (.BoolOp .Or [a] ao) tA:=by
 intro U ai s σ H Q I h;refine isTrue_or (bq (Y ai s σ H Q I h) λc J e=>?_);cases c with
 |false=>exact isTrue_or_nil e
 |true=>exact e
theorem E0 {t:TE}(h:PE X a t):PE X (.BoolOp op [a] ao) t:=λai s σ H Q I Y=>BoolOp_one (h ai s σ H Q I Y)
end
end _L
namespace _L
variable {es:Aa Bz}{K:Ak}{P:Bo}{tg:Bz}{w:Cd}
def ji (K:Ak)(H:Hp)(a:Af)(xs:Aa V):Prop:=
 Rd H a (.lst xs) \/
  ∃ (o:Cw) (Q:Ay Ad) (n:Ag),K.lookup a=Ab o/\o.cls=.type "list" /\ o.dict=none/\o.data=.seq Q n/\Q.size<=sizeLine/\qI xs Q.toList
def iq (K:Ak)(H:Hp)(a:Af)(xs:Aa V):Prop:=
 Rd H a (.tup xs) \/
  ∃ (o:Cw) (Q:Ay Ad) (n:Ag),K.lookup a=Ab o/\o.cls=.type "tuple" /\ o.data=.seq Q n/\Q.size<=sizeLine/\qI xs Q.toList
noncomputable def V3:Ad->An V
 |.none=>Ab .non
 |.bool b=>Ab (.bl b)
 |.int i _=>Ab (.int i)
 |.str x _=>Ab (.str x)
 |.bytes b _=>Ab (.byt b)
 |.float b _=>Ab (.flt b)
 |.ref a=>Ab (.ref a)
 |.type n=>Ab (.ty n)
 |_=>none
theorem qG.abs {x:V}{u:Ad}(r:qG x u):V3 u=Ab x:=by
 cases x with
 |non=>cases r;rfl
 |bl _=>cases r;rfl
 |int _=>obtain⟨t,rfl⟩:=r;rfl
 |str _=>obtain⟨t,rfl⟩:=r;rfl
 |byt _=>obtain⟨t,rfl⟩:=r;rfl
 |flt _=>obtain⟨t,rfl⟩:=r;rfl
 |ref _=>cases r;rfl
 |ty _=>cases r;rfl
theorem qG.inj {x y:V}{u:Ad}(r:qG x u)(q:qG y u):x=y:=Dc (r.abs.symm.trans q.abs)
theorem qI.inj {xs Q:Aa V}{us:ag}(h:qI xs us)(k:qI Q us):xs=Q:=by
 induction h generalizing Q with
 |nil=>cases k;rfl
 |cons r t U =>
  cases k with
  |cons Y J=>rw[r.inj Y,U J]
section
variable {X:Cx}{ai:aa}{σ : St}{H:Hp}{s:Ah}{a:Af}{xs ys:Aa V}
theorem ji.of (h:H a=Ab (.lst xs)):ji K H a xs:=.inl (.inl h)
theorem iq.of (h:H a=Ab (.tup xs)):iq K H a xs:=.inl (.inl h)
theorem Inv.list (I:Inv X ai σ H s)(h:ji X.K H a xs):∃ am:Aa Ad,qI xs am/\PlainL s.heap a am.toArray/\xs.length<=sizeLine:=by
 rcases h with h|⟨o,am,n,J,Q,Y,hs,U,r⟩
 .obtain⟨z,am,n,r,e⟩:=h.ok I.hok
  exact⟨am,r,⟨_,n,e,rfl,rfl,rfl⟩,z⟩
 .refine⟨am.toList,r,⟨o,n,I.kIn a o J,Q,Y,by simpa using hs⟩,?_⟩
  have e:=r.length;simp only[Bx] at e
  lia
theorem Inv.tuple (I:Inv X ai σ H s)(h:iq X.K H a xs):∃ am:Aa Ad,qI xs am/\Ri s.heap a am.toArray/\xs.length<=sizeLine:=by
 rcases h with h|⟨o,am,n,Y,Q,hs,J,r⟩
 .obtain⟨z,am,r,p⟩:=h.ok I.hok
  exact⟨am,r,p,z⟩
 .refine⟨am.toList,r,⟨o,I.kIn a o Y,Q,n,by simpa using hs⟩,?_⟩
  have e:=r.length;simp only[Bx] at e
  lia
theorem Inv.list_inj (I:Inv X ai σ H s)(h:ji X.K H a xs)(h':ji X.K H a ys):xs=ys:=by
 obtain⟨G,r,⟨o,n,e,_,_,d⟩,_⟩:=I.list h;obtain⟨U,J,⟨O,N,Y,_,_,Q⟩,_⟩:=I.list h';rw[e] at Y;cases Y;rw[d] at Q;injection Q with d1 _
 have:G=U:=by simpa using congrArg Yw d1
 subst this;exact r.inj J
theorem Inv.tuple_inj (I:Inv X ai σ H s)(h:iq X.K H a xs)(h':iq X.K H a ys):xs=ys:=by
 obtain⟨G,r,⟨o,e,_,n,d⟩,_⟩:=I.tuple h;obtain⟨U,J,⟨O,Y,_,N,Q⟩,_⟩:=I.tuple h';rw[e] at Y;cases Y;rw[d] at Q;injection Q with d1 _
 have:G=U:=by simpa using congrArg Yw d1
 subst this;exact r.inj J
end
noncomputable abbrev Cx.wish (X:Cx)(E:ab):Cx:={ X with xe:=E }
abbrev Cx.nox (X:Cx):Cx:=X.wish λ_ _=>Ey
theorem Cx.Ok.wish {X:Cx}(ok:X.Ok)(E:ab):(X.wish E).Ok:=
 ⟨ok.mod,ok.kind,ok.glob,ok.blt,ok.above,ok.inj,ok.has,ok.cab,ok.hd,ok.frames,ok.stk,ok.exf,ok.bs,ok.bsz,ok.noex,ok.exfs,ok.funs,ok.frf⟩
theorem Cx.Ok.unwish {X:Cx}{E:ab}(ok:(X.wish E).Ok):X.Ok:=
 ⟨ok.mod,ok.kind,ok.glob,ok.blt,ok.above,ok.inj,ok.has,ok.cab,ok.hd,ok.frames,ok.stk,ok.exf,ok.bs,ok.bsz,ok.noex,ok.exfs,ok.funs,ok.frf⟩
section
variable {X:Cx}{ai:aa}{σ : St}{H:Hp}{s:Ah}{E:ab}
theorem Inv.wish (I:Inv X ai σ H s)(E:ab):Inv (X.wish E) ai σ H s:=⟨I.ok.wish E,I.os,I.bare,I.base,I.loc,I.cell,I.free,I.freeC,I.pin,I.hok,I.len⟩
theorem Inv.unwish (I:Inv (X.wish E) ai σ H s):Inv X ai σ H s:=⟨I.ok.unwish,I.os,I.bare,I.base,I.loc,I.cell,I.free,I.freeC,I.pin,I.hok,I.len⟩
theorem SP.unwish {D:Ends}{f:Flow}{s':Ah}(h:SP (X.wish E) ai D f s'):SP X ai D f s':=by
 cases f with
 |next=>obtain⟨Q,Y,I,q⟩:=h;exact⟨Q,Y,I.unwish,q⟩
 |brk=>obtain⟨Q,Y,I,q⟩:=h;exact⟨Q,Y,I.unwish,q⟩
 |cont=>obtain⟨Q,Y,I,q⟩:=h;exact⟨Q,Y,I.unwish,q⟩
 |ret u=>obtain⟨v,Q,Y,I,r,q⟩:=h;exact⟨v,Q,Y,I.unwish,r,q⟩
theorem PE.nox {e:Bz}{t:TE}(h:PE X.nox e t):PE X e t:=λai s σ H Q I U =>
 Ho (h ai s σ H Q (I.wish _) U) (λ_ _ ⟨v,Y,J,r,q⟩=>⟨v,Y,J.unwish,r,q⟩) λ_ _ z=>Ar z
theorem PT.nox {e:Bz}{t:TT}(h:PT X.nox e t):PT X e t:=λai s σ H Q I U =>
 Ho (h ai s σ H Q (I.wish _) U) (λ_ _ ⟨Y,J,q⟩=>⟨Y,J.unwish,q⟩) λ_ _ z=>Ar z
theorem ir.nox {st:Aa Fz}{t:TS}(h:ir X.nox st t):ir X st t:=λai s σ H D I Q =>
 Ho (h ai s σ H D (I.wish _) Q) (λ_ _ q=>q.unwish) λ_ _ z=>Ar z
end
section
variable {X:Cx}{st:Fz}{av:Aa Fz}{t u:TS}{e:Bz}{te:TE}{ao:Fn}
def OM:TS:=λD σ H=>D.nx σ H
def _u (t u:TS):TS:=λD σ H=>t { D with nx:=u D } σ H
theorem MA:ir X [] OM:=λ_ _ σ H _ I h=>Qt ⟨σ,H,I,h⟩
theorem JK (h1:PS X st t)(h2:ir X av u):ir X (st::av) (_u t u):=by
 intro Y s σ H D I h;refine u8 (bq (h1 Y s σ H { D with nx:=u D } I h) λf U q=>?_)
 cases f with
 |next =>
  obtain⟨Q,J,G,q⟩:=q;exact h2 Y U Q J D G q
 |ret v=>exact q
 |brk=>exact q
 |cont=>exact q
theorem MB (h1:PS X st t):ir X [st] t:=by
 intro Q s σ H D I h;refine u8 (bq (h1 Q s σ H D I h) λf Y q=>?_);cases f with
 |next=>exact Qt q
 |ret v=>exact q
 |brk=>exact q
 |cont=>exact q
theorem Inv.quiet {ai:aa}{σ:St}{H:Hp}{s:Ah}(I:Inv X ai σ H s):interactive X.env=false:=by simp[interactive,I.ok.kind]
end
abbrev TG:=V->St->Hp->(St->Hp->Prop)->Prop
abbrev t_:=Aa V->St->Hp->(St->Hp->Prop)->Prop
def PG (X:Cx)(Y:Bz)(t:TG):Prop:=
 ∀ (G:aa) (s:Ah) (σ : St) (H:Hp) (v:V) (u:Ad) (Q:St->Hp->Prop),Inv X G σ H s->qG v u->t v σ H Q ->
  Aq (Au X.prog X.w) X.A (assign Y X.env u) (λ_ N=>∃ J U,Inv X G J U N/\Q J U) X.xe s
def rk (X:Cx)(C:Aa Bz)(t:t_):Prop:=
 ∀ (U:aa) (s:Ah) (σ : St) (H:Hp) (N:Aa V) (G:ag) (Q:St->Hp->Prop),Inv X U σ H s->qI N G->t N σ H Q ->
  Aq (Au X.prog X.w) X.A (Xl ((Hd C X.env).map (·.2)) G) (λ_ O=>∃ Y J,Inv X U Y J O/\Q Y J) X.xe s
abbrev V2:=V->V->V->Hp->(Hp->Prop)->Prop
def rC (X:Cx)(t:V2):Prop:=
 ∀ (J:aa) (s:Ah) (σ : St) (H:Hp) (o i v:V) (U G u:Ad) (Q:Hp->Prop),Inv X J σ H s->qG o U->qG i G->qG v u->t o i v H Q ->
  Aq (Au X.prog X.w) X.A (setItem U G u) (λ_ N=>∃ Y,Inv X J σ Y N/\Q Y) X.xe s
section
variable {X:Cx}{ao:Fn}
def AG (i:Ag):TG:=λv σ H Q=>Q (σ.set i (Ab v)) H
theorem M4 {i:Ag}{x:Aw}(Y:X.N.Nodup)(hi:X.N[i]? = Ab x)(G:Loc X.env.scope x)(J:X.fn x=true\/X.env.scope.names.lookup x=Ab .local:=by first|exact .inl rfl|exact .inr rfl|assumption):PG X (.Name x ao) (AG i):=by
 intro O s σ H v u Q I r h;exact Zh (pH I Y hi G r (λN U=>⟨_,H,U,h⟩) J)
def _U:t_:=λY σ H Q=>Y=[]/\Q σ H
def AF (t:TG)(u:t_):t_:=λJ σ H Q=>∃ v r,J=v::r/\t v σ H λY U=>u r Y U Q
theorem M5:rk X [] _U:=by
 intro J s σ H Y U Q I r h;obtain⟨e,h⟩:=h;subst e;cases r;exact Zi ⟨σ,H,I,h⟩
theorem JH {e:Bz}{t:TG}{u:t_}(h1:PG X e t)(h2:rk X es u)
  (hs:(Hd (e::es) X.env).map (·.2)=assign e X.env::(Hd es X.env).map (·.2):=by rfl):rk X (e::es) (AF t u):=by
 intro J s σ H E T Q I r h;obtain⟨v,L,B,h⟩:=h;subst B;cases r with
 |cons r U =>
  rw[hs];refine Ru (bq (h1 J s σ H _ _ _ I r h) λ_ G ⟨Y,N,O,C⟩=>?_);exact h2 J G Y N _ _ Q O U C
def _T (K:Ak)(n:Ag)(t:t_):TG:=λv σ H Q=>∃ a Y,v=.ref a/\iq K H a Y/\Y.length=n/\t Y σ H Q
theorem E4 {k:Ag}{t:t_}{n:Ag}(B:X.calm=true)(h:rk X es t)
  (z:(Hd es X.env).length=n:=by rfl) (Y:(Hd es X.env).findIdx? (·.1)=none:=by rfl):PG X (.Tuple es k ao) (_T X.K n t):=by
 intro U s σ H v u Q I r J;obtain⟨a,C,E,O,A,J⟩:=J;subst E;cases r;obtain⟨y,G,L,j⟩:=I.tuple O;refine assign_Tuple_tuple (I.ok.hd B) L (by simp[z,<- A,G.length]) Y λN M=>?_
 have T:Inv X U σ H { s with heap:=N }:=I.kept (t':=s.toks) λb o e=>M b o (Cu (Bg e)) e
 exact h U _ σ H C _ Q T (by simpa using G) J
def zV (U G:TE)(t:V2):TG:=λv σ H Q=>U σ H λo Y=>G σ Y λi J=>t o i v J λN=>Q σ N
def _v (i j:Ag)(Y:TA):TS:=λD σ H=>Y σ H λJ Q=>∃ v w,J=[v,w]/\D.nx ((σ.set i (Ab v)).set j (Ab w)) Q
theorem E6 {i j:Ag}{x y:Aw}{a b:Bz}{T:TA}{U G pt:Fn} {kt k2 pt2} (t:X.calm=true) (E:X.N.Nodup) (hi:X.N[i]? = Ab x) (c:X.N[j]? = Ab y) (B:i≠j)
  (z:X.env.scope.names.lookup x=Ab .local) (L:X.env.scope.names.lookup y=Ab .local) (d:PA X [a,b] T)
  (hw:Na [.Tuple [.Name x U,.Name y G] kt pt] (.Tuple [a,b] k2 pt2) X.env=pure (Ab [x,y]))
  (hs:Nb [.Tuple [.Name x U,.Name y G] kt pt] (.Tuple [a,b] k2 pt2) ao.line X.env=pure false:=by rfl) :
  PS X (.Assign [.Tuple [.Name x U,.Name y G] kt pt] (.Tuple [a,b] k2 pt2) ao) (_v i j T):=by
 intro A s σ H D I h;rw[exec_Assign_arm];refine Ac (Nc ?_);rw[hs];refine Ac (Am ?_);rw[Bh (by decide)]
 refine Ac (Tuple_ (bq (d _ A s σ H _ I h) λg Q ⟨vs,M,I1,m,N⟩=>?_));obtain⟨v,w,f,N⟩:=N;subst f;obtain⟨J,Y,rfl,rv,C⟩:∃ J Y,g=[J,Y]/\qG v J/\qG w Y:=by
  cases m with
  |cons p q =>
   cases q with
   |cons n l =>
    cases l;exact⟨_,_,rfl,p,n⟩
 refine Dt ?_ (by show 2<=sizeLine;decide)
 have u:Inv X A σ M { Q with heap:=Q.heap.push { cls:=.type "tuple",data:=.seq [J,Y].toArray } }:=I1.kept (t':=Q.toks) λb o e=>Ai _ e
 rw[hw];refine Ac (Am ?_);show Aq (Au X.prog X.w) X.A (do rule "assign.swapped-stores";let items <- unpackItems (.ref Q.heap.objs.size) 2 none;Xl [λv=>AaH X.env y v,λv=>AaH X.env x v] items.reverse;pure Flow.next) _ _ _
 refine Ac (Gf (Ac (unpackItems_tuple (items:=#[J,Y]) (I.ok.hd t) (Zj Q.heap _) λh' O=>?_)));have r:=u.kept (h':=h') (t':=Q.toks) λb o e=>O b o (Cu (Bg e)) e;show Aq _ _ (Xl [λv=>AaH X.env y v,λv=>AaH X.env x v] [Y,J] >>= λ_=>pure Flow.next) _ _ _;refine Ac (Ru (wpAny_bindName (pH r E c (.inl L) C (λs2 I4=>?_) (.inr L))));refine Ru (wpAny_bindName (pH I4 E hi (.inl z) rv (λs3 k=>Zi (Am ?_)) (.inr z)));rw[List.set_comm _ _ (Gb B)] at k;exact⟨_,M,k,N⟩
end
section
variable {X:Cx}{ao:Fn}
def HX (c:TT)(G:TS):TS:=λD σ H=>∃ W:Ag->St->Hp->Prop,(∃ m,W m σ H)/\∀ m σ H,W m σ H ->
 c σ H λb Y=>if b=true then ∃ N:St->Hp->Prop,(∀ Q J,N Q J->∃ U,U<m/\W U Q J)/\G { D with nx:=N,ct:=N,bk:=D.nx } σ Y else D.nx σ Y
theorem JJ {c:Bz}{y:Aa Fz}{q:TT}{k:TS}(hp:Qu (Au X.prog X.w) X.A X.env X.xe)(t:PT X c q)(a:ir X y k):PS X (.While c y [] ao) (HX q k):=by
 intro E s σ H D I h;obtain⟨W,⟨i,d⟩,J⟩:=h;refine wpAny_While (codeAny_whileLoop (λn m=>∃ U z,Inv X E U z m/\W n U z) ?_ i ⟨σ,H,I,d⟩);rintro n g ⟨Y,o,e,r⟩;refine Ju hp (bq (t E g Y o _ e (J n Y o r)) λb l ⟨p,j,C⟩=>?_);cases b with
 |true =>
  obtain⟨N,u,C⟩:=C;rw[Bi rfl];refine Ju hp (bq (a E l Y p _ j C) λf x O=>?_);cases f with
  |next =>
   obtain⟨Q,G,B,L⟩:=O;obtain⟨A,T,M⟩:=u Q G L;exact⟨A,T,Q,G,B,M⟩
  |cont =>
   obtain⟨Q,G,B,L⟩:=O;obtain⟨A,T,M⟩:=u Q G L;exact⟨A,T,Q,G,B,M⟩
  |brk=>exact O
  |ret v=>exact O
 |false =>
  rw[Bh Es];exact Qt ⟨Y,p,j,C⟩
end
structure It where
 go:Ag->Hp->Prop
 yld:Ag->Hp->V->Hp->Prop
 stop:Ag->Hp->Prop
def xJ (X:Cx)(ai:aa)(H:Hp)(b:Af):Prop:=
 H b=none/\b≠X.env.locals/\b ∉ X.fs/\(b∈X.ex\/X.s₀.heap.objs.size<=b)/\(∀ x c,X.env.cells.lookup x=Ab c->c≠b)/\∀ p∈X.pn++ai,p.1≠b
theorem Inv.fpOk {X:Cx}{ai:aa}{σ:St}{H Y:Hp}{s:Ah}{b:Af}(I:Inv X ai σ H s)(Q:s.heap.objs.size<=b)(J:Y b=none):xJ X ai Y b:=by
 refine⟨J,Hj (Bl I.lt Q),I.nofs Q,.inr (Ch I.sz Q),λx c e z=>?_,λp U z=>?_⟩
 .obtain⟨v,q⟩:=I.cell x c e
  exact absurd (Bl q.lt (by rw[z];exact Q)) (Ep _)
 .exact absurd (Bl (Bg (I.pin p U).1) (by rw[z];exact Q)) (Ep _)
structure kz (P:Bo)(w:Cd)(K:Ak)(tg:Bz)(J:It)(fp:ae)(it:Af)(tn:Ag->Cb->Prop):Prop where
 mem:it∈fp
 obj:∀ i h,tn i h->∀ b∈fp,∃ o,h.get? b=Ab o/\∀ v,o.data≠.cell v
 keep:∀ i h h',tn i h->(∀ b∈fp,∀ o,h.get? b=Ab o->h'.get? b=Ab o)->tn i h'
 item:∀ (X:Cx),X.prog=P->X.w=w->X.K=K->X.calm=true->∀ (i:Ag) (pins:aa) (s:Ah) (σ : St) (H:Hp) (E:ab),Inv X pins σ H s->(∀ b∈fp,xJ X pins H b)->tn i s.heap->J.go i H ->
  Aq (Au P w) X.A (Li (.ref it)) (λr s1=>∃ u,r=Ab u /\
   Aq (Au P w) X.A (Lp tg (.ref it) u) (λ_ s2=>∃ x H',Inv X pins σ H' s2/\qG x u/\J.yld i H x H'/\tn (i+1) s2.heap/\∀ b∈fp,H' b=none) E s1) E s
 done:∀ (X:Cx),X.prog=P->X.w=w->X.K=K->X.calm=true->∀ (i:Ag) (pins:aa) (s:Ah) (σ : St) (H:Hp) (E:ab),Inv X pins σ H s->(∀ b∈fp,xJ X pins H b)->tn i s.heap->J.stop i H ->
  Aq (Au P w) X.A (Li (.ref it)) (λr s1=>r=none/\Inv X pins σ H s1) E s
 self:∀ (A:Bu) (i:Ag) (s:Ah) (Q:ab) (E:ab),tn i s.heap->Q (.ref it) s->Aq (Au P w) A (Px (.ref it)) Q E s
abbrev TI:=St->Hp->(It->Hp->Prop)->Prop
inductive vj (X:Cx)(pins:aa)(σ : St)(tg:Bz)(R:It->Hp->Prop)(itv:Ad)(s2:Ah):Prop
 |mk (it:Af) (fp:ae) (tn:Ag->Cb->Prop) (J:It) (H':Hp) (e:itv=.ref it) (I:Inv X pins σ H' s2) (t:kz X.prog X.w X.K tg J fp it tn) (z:tn 0 s2.heap) (f:∀ b∈fp,xJ X pins H' b) (q:R J H'):vj X pins σ tg R itv s2
def PI (X:Cx)(tg U:Bz)(J:TI):Prop:=
 ∀ (Q:aa) (s:Ah) (σ : St) (H:Hp) (R:It->Hp->Prop),Inv X Q σ H s->J σ H R ->
  Aq (Au X.prog X.w) X.A (eval U X.env) (λv Y=>Aq (Au X.prog X.w) X.A (Px v) (vj X Q σ tg R) X.xe Y) X.xe s
theorem Q9 {M:Pw}{A:Bu}{E:ab}{s:Ah}{it:Af}{u:Ad}{o:Cw}{n:Ex}{vs:Ay Ad}{Q:Uv->Ah->Prop}(U:s.heap.get? it=Ab o)(N:o.cls=.type n)(G:o.data=.fields vs)
    (J:["enumerate","zip","dict_itemiterator","dict_reverseitemiterator","odict_iterator","itertools.zip_longest","itertools.pairwise"].contains n=false) (Y:Q () s):Aq M A (Lp tg (.ref it) u) Q E s:=by
  unfold Lp;cases tg <;> first
    |exact Am Y
    |(cases u <;> first
        |exact Am Y
        | (refine Ac (wpAny_load U ?_)
           rw[N,G];show Aq M A (if (["enumerate","zip","dict_itemiterator","dict_reverseitemiterator","odict_iterator","itertools.zip_longest","itertools.pairwise"].contains n&&vs[0]? == Ab (Ks _))=true then _ else _) Q E s
           rw[Bh (by intro h;rw[J,Km] at h;cases h)]
           exact Am Y))
def zf (K:Ak)(a:Af):It:=
 ⟨λi H=>∃ Q x,ji K H a Q/\Q[i]? = Ab x,λi H x Y=>Y=H/\∀ Q,ji K H a Q->Q[i]? = Ab x,λi H=>∃ Q,ji K H a Q/\Q.length<=i⟩
def U_ (K:Ak)(a:Af):It:=
 ⟨λi H=>∃ Q x,iq K H a Q/\Q[i]? = Ab x,λi H x Y=>Y=H/\∀ Q,iq K H a Q->Q[i]? = Ab x,λi H=>∃ Q,iq K H a Q/\Q.length<=i⟩
def wz (lo:Aj)(n:Ag):It:=⟨λi _=>i<n,λi H x Q=>Q=H/\x=.int (lo+i),λi _=>n<=i⟩
theorem sI (a it:Af):kz P w K tg (zf K a) [it] it (λi h=>h.IsListIter it a i) where
 mem:=by simp
 obj:=λi h st b Q=>by
  have e:b=it:=by simpa using Q
  subst e;obtain⟨o,e,c,d⟩:=st;exact⟨o,e,λv z=>by rw[d] at z;cases z⟩
 keep:=λi h J st k=>st.at λo e=>k it (by simp) o e
 item:=by
  intro X A O y g i l s σ H E I G st T;subst A O y;obtain⟨xs,x,U,j⟩:=T;obtain⟨am,B,p,hz⟩:=I.list U;obtain⟨u,hu,f⟩:=B.get j;obtain⟨N,L,t,M,C,q⟩:=G it (by simp)
  refine wpAny_pyNext_list_item st p.isList (x:=u) (by simpa using hu) λJ Y r=>?_
  have I1:Inv X l σ H { s with heap:=J }:=I.turned (t':=s.toks) (λb o Q e=>(r.2 b Q).trans e) N L M C q
  obtain⟨o,e,c,d⟩:=id Y;exact⟨u,rfl,Q9 (s:={ s with heap:=J }) e c d (by decide) ⟨x,H,I1,f,⟨rfl,λys n=>by rw[I.list_inj n U];exact j⟩,Y,λb Q=>(G b Q).1⟩⟩
 done:=by
  intro X A O y g i l s σ H E I G st T;subst A O y;obtain⟨xs,U,j⟩:=T;obtain⟨am,B,p,hz⟩:=I.list U;obtain⟨N,L,t,M,C,q⟩:=G it (by simp)
  have hl:=B.length;exact wpAny_pyNext_list_end (I.ok.hd g) st p.isList (by simp;lia) λJ m=>⟨rfl,I.turned (t':=s.toks) (λb o Q e=>m b o Q e) N L M C q⟩
 self:=λ_ _ _ _ _ st h=>wpAny_pyIter_listiter st h
theorem ZL (a it:Af):kz P w K tg (U_ K a) [it] it (λi h=>h.IsTupleIter it a i) where
 mem:=by simp
 obj:=λi h st b Q=>by
  have e:b=it:=by simpa using Q
  subst e;obtain⟨o,e,c,d⟩:=st;exact⟨o,e,λv z=>by rw[d] at z;cases z⟩
 keep:=λi h J st k=>st.at λo e=>k it (by simp) o e
 item:=by
  intro X A O y f i g s σ H E I G st T;subst A O y;obtain⟨xs,x,U,j⟩:=T;obtain⟨l,B,p,hz⟩:=I.tuple U;obtain⟨u,hu,r⟩:=B.get j;obtain⟨N,L,m,M,C,q⟩:=G it (by simp)
  refine wpAny_pyNext_tuple_item st (show s.heap.IsTuple a l.toArray from p) (x:=u) (by simpa using hu) λJ Y t=>?_
  have I1:Inv X g σ H { s with heap:=J }:=I.turned (t':=s.toks) (λb o Q e=>(t.2 b Q).trans e) N L M C q
  obtain⟨o,e,c,d⟩:=id Y;exact⟨u,rfl,Q9 (s:={ s with heap:=J }) e c d (by decide) ⟨x,H,I1,r,⟨rfl,λys hy=>by rw[I.tuple_inj hy U];exact j⟩,Y,λb Q=>(G b Q).1⟩⟩
 done:=by
  intro X A O y f i g s σ H E I G st T;subst A O y;obtain⟨xs,U,j⟩:=T;obtain⟨l,B,p,hz⟩:=I.tuple U;obtain⟨N,L,m,M,C,q⟩:=G it (by simp)
  have hl:=B.length;exact wpAny_pyNext_tuple_end (I.ok.hd f) st (show s.heap.IsTuple a l.toArray from p) (by simp;lia) λJ n=>⟨rfl,I.turned (t':=s.toks) (λb o Q e=>n b o Q e) N L M C q⟩
 self:=λ_ _ _ _ _ st h=>wpAny_pyIter_tupleiter st h
theorem ZK (it:Af)(lo:Aj)(n:Ag):kz P w K tg (wz lo n) [it] it (λi h=>IsRangeIter h it (lo+(i:Ag)*1) ((n:Aj)-(i:Ag)) 1) where
 mem:=by simp
 obj:=λi h st b Q=>by
  have e:b=it:=by simpa using Q
  subst e;exact⟨_,st,λv z=>by
   have q:Data.fields _=Data.cell v:=z;cases q⟩
 keep:=λi h J st k=>k it (by simp) _ st
 item:=by
  intro X T N M A i y s σ H E I U st B;subst T N M;obtain⟨G,C,p,L,O,j⟩:=U it (by simp)
  have W:=Walks.range (prog:=X.prog) (w:=X.w) (I.ok.hd A) it lo 1 n;refine W.item i s _ _ B st λv J u hv Y g=>?_;obtain⟨t,rfl⟩:=hv;have c:Inv X y σ H { s with heap:=J,toks:=u }:=I.turned (λb o Q e=>g b o (by simpa using Q) e) G C L O j
  refine⟨_,rfl,Q9 (s:={ s with heap:=J,toks:=u }) (n:="range_iterator") Y rfl rfl (by decide) ⟨.int (lo+i),H,c,⟨t,?_⟩,⟨rfl,rfl⟩,Y,λb Q=>(U b Q).1⟩⟩
  rw[Int.mul_one]
 done:=by
  intro X T N M A i y s σ H E I U st B;subst T N M;obtain⟨G,C,p,L,O,j⟩:=U it (by simp)
  exact wpAny_pyNext_range_end (I.ok.hd A) st (by have:n<=i:=B;lia) λJ l=>⟨rfl,I.turned (t':=s.toks) (λb o Q e=>l b o Q e) G C L O j⟩
 self:=λ_ _ _ _ _ st h=>wpAny_pyIter_rangeiter st h
end _L
namespace _L
variable {ai:aa}{fp:ae}{s:Ah}{H:Hp}{σ:St}
section
variable {X:Cx}{tg:Bz}
theorem cC {R:It->Hp->Prop}{E:ab}{lo hi:Aj}{t u v:Vq}{Q:Ag}(I:Inv X ai σ H s)(h1 : -(2 ^ 62)<=lo)(h2:lo<2 ^ 62)(h3 : -(2 ^ 62)<=hi)(N:hi<2 ^ 62)
  (q:R (wz lo (hi-lo).toNat) H):Aq (Au X.prog X.w) X.A (Px (.ref s.heap.objs.size)) (vj X ai σ tg R) E { s with heap:=s.heap.push { cls:=.type "range",data:=.fields #[.int lo t,.int hi u,.int 1 v] },toks:=Q }:=by
 refine wpAny_pyIter_range (IsRange.new ..) (small_one h1 h2 h3 N) ?_;have Y:Inv X ai σ H { s with heap:=s.heap.push { cls:=.type "range",data:=.fields #[.int lo t,.int hi u,.int 1 v] },toks:=Q }:=I.kept λb o e=>Ai _ e
 refine⟨(s.heap.push { cls:=.type "range",data:=.fields #[.int lo t,.int hi u,.int 1 v] }).objs.size,[(s.heap.push { cls:=.type "range",data:=.fields #[.int lo t,.int hi u,.int 1 v] }).objs.size],_,_,H,rfl,
  Y.kept (t':=Q) λb o e=>Ai _ e,ZK _ lo (hi-lo).toNat,?_,λb G=>?_,q⟩
 .have U:lo+((0:Ag):Aj)*1=lo:=by simp
  have J:(((hi-lo).toNat:Ag):Aj)-((0:Ag):Aj)=Builtin.Range.rangeSize lo hi 1:=by rw[rangeSize_one];split <;> lia
  show IsRangeIter _ _ (lo+((0:Ag):Aj)*1) ((((hi-lo).toNat:Ag):Aj)-((0:Ag):Aj)) 1;rw[U,J];exact Be _ rfl
 .have e:b=(s.heap.push { cls:=.type "range",data:=.fields #[.int lo t,.int hi u,.int 1 v] }).objs.size:=by simpa using G
  subst e;exact Y.fpOk (Av _) (Y.hok.fresh (Av _))
def _y (L:TI)(g:TG)(O:TS):TS:=λD σ H=>L σ H λJ C=>∃ W:Ag->Ag->St->Hp->Prop,(∃ m,W 0 m σ C)/\∀ i m σ H,W i m σ H ->
 (J.stop i H/\D.nx σ H)\/(J.go i H/\∃ N:St->Hp->Prop,(∀ Y Q,N Y Q->∃ G,G<m/\W (i+1) G Y Q)/\∀ x Q,J.yld i H x Q->g x σ Q λU B=>O { D with nx:=N,ct:=N,bk:=D.nx } U B)
def vO (fp:ae)(h:Cb):Aa (Af × Cw):=fp.filterMap λb=>(h.get? b).map λo=>(b,o)
theorem uQ {h:Cb}{b:Af}{o:Cw}(Q:b∈fp)(e:h.get? b=Ab o):(b,o)∈vO fp h:=Oe.mpr ⟨b,Q,by rw[e];rfl⟩
theorem dZ {h:Cb}{p:Af × Cw}(hp:p∈vO fp h):p.1∈fp/\h.get? p.1=Ab p.2:=by
 obtain⟨b,Q,e⟩:=Oe.mp hp;cases q:h.get? b with
 |none=>rw[q] at e;cases e
 |some o =>
  rw[q] at e;have Y:(b,o)=p:=Dc e;subst Y;exact⟨Q,q⟩
theorem Inv.pinned (I:Inv X ai σ H s)(G:∀ b∈fp,xJ X ai H b)(U:∀ b∈fp,∃ o,s.heap.get? b=Ab o/\∀ v,o.data≠.cell v):Inv X (ai++vO fp s.heap) σ H s:=
 I.pins_of λp O=>(Bq.mp O).elim (λz=>I.pin p (Ca _ z)) λz=>by
  obtain⟨Q,e⟩:=dZ z;obtain⟨C,J,N,_⟩:=G p.1 Q;obtain⟨o,Y,d⟩:=U p.1 Q;rw[e] at Y;cases Y;exact⟨e,C,J,N,d⟩
theorem Inv.unpinned {pl:aa}(I:Inv X (ai++pl) σ H s):Inv X ai σ H s:=I.pins_of λp Q=>I.pin p (Ca _ (Dm _ Q))
inductive vo (X:Cx)(pins:aa)(fp:ae)(tn:Ag->Cb->Prop)(W:Ag->Ag->St->Hp->Prop)(n:Ag)(s':Ah):Prop
 |mk (i:Ag) (σ' : St) (H':Hp) (I:Inv X pins σ' H' s') (t:tn i s'.heap) (f:∀ b∈fp,H' b=none) (w:W i n σ' H'):vo X pins fp tn W n s'
theorem Y1 {q:Bz}{cf:Aa Fz}{wi:TI}{g:TG}{a:TS}{ao:Fn}(hp:Qu (Au X.prog X.w) X.A X.env X.xe)(hc:X.calm=true)(hi:PI X tg q wi)(hg:PG X tg g)(U:ir X cf a)
  (hs:∀ x,Eg q X.env x=pure x:=by intro _;rfl):PS X (.For tg q cf [] ao) (_y wi g a):=by
 intro ai s σ H D I h;refine wpAny_For (bq (hi ai s σ H _ I h) λv s1 h1=>bq h1 λzb s2 h2=>?_) hs;obtain⟨it,fp,tn,J,H2,e,I2,T,k,f2,W,⟨m0,w0⟩,E⟩:=h2;subst e;have Y:∀ {t:Hp},(∀ b∈fp,t b=none)->∀ b∈fp,xJ X ai t b:=λhn b U=>⟨hn b U,(f2 b U).2⟩;refine codeAny_forLoop_any (vo X ai fp tn W) ?_ m0 ⟨0,σ,H2,I2,k,λb U=>(f2 b U).1,w0⟩;rintro n s3 ⟨i,O,j,I3,w,M,w3⟩;rcases E i n O j w3 with⟨z,qn⟩|⟨go,N,hN,step⟩
 .refine Ju hp (bq (T.done X rfl rfl rfl hc i ai s3 O j X.xe I3 (Y M) w z) λr s4 ⟨l,I4⟩=>?_)
  subst l;exact Qt ⟨O,j,I4,qn⟩
 .refine Ju hp (bq (T.item X rfl rfl rfl hc i ai s3 O j X.xe I3 (Y M) w go) λr s4 ⟨u,l,h4⟩=>?_)
  subst l;refine Ju hp (bq h4 λ_ s5 ⟨x,H5,I5,r5,y5,L,c⟩=>?_);have p:=I5.pinned (Y c) (T.obj _ _ L);refine Ju hp (bq (hg _ s5 O H5 x u _ p r5 (step x H5 y5)) λ_ s6 ⟨y,H6,I6,q6⟩=>?_);refine Ju hp (bq (U _ s6 y H6 _ I6 q6) λf s7 B=>?_);have again:∀ {Q:St} {C:Hp},Inv X (ai++vO fp s5.heap) Q C s7->N Q C->∃ m,m<n/\vo X ai fp tn W m s7:=λ{Q C} G A=>by
   obtain⟨m',hm,w7⟩:=hN Q C A;refine⟨m',hm,i+1,Q,C,G.unpinned,T.keep _ _ _ L λb U o e=>(G.pin (b,o) (Ca _ (Ca _ (uQ U e)))).1,λb U=>?_,w7⟩;obtain⟨o,e,d⟩:=T.obj _ _ L b U;exact(G.pin (b,o) (Ca _ (Ca _ (uQ U e)))).2.1
  cases f with
  |next=>obtain⟨Q,C,G,A⟩:=B;exact again G A
  |cont=>obtain⟨Q,C,G,A⟩:=B;exact again G A
  |brk=>obtain⟨Q,C,G,B⟩:=B;exact⟨Q,C,G.unpinned,B⟩
  |ret v=>obtain⟨x7,Q,C,G,r7,B⟩:=B;exact⟨x7,Q,C,G.unpinned,r7,B⟩
end
end _L
namespace _L
variable {us:ag}{f:Ad->Ad->Kr Ad}{g:Aj->Aj->Aj}
abbrev R2:=V->V->Hp->VK->Prop
def lj (X:Cx)(f:Ad->Ad->Kr Ad)(r:R2):Prop:=
 ∀ (Y:aa) (s:Ah) (σ : St) (H:Hp) (x y:V) (v u:Ad) (Q:VK),Inv X Y σ H s->qG x v->qG y u->r x y H Q ->
  Aq (Au X.prog X.w) X.A (f v u) (EP X Y σ Q) X.xe s
def N_ (X:Cx)(f:Ad->Kr Ad)(r:V->Hp->VK->Prop):Prop:=
 ∀ (Y:aa) (s:Ah) (σ : St) (H:Hp) (x:V) (v:Ad) (Q:VK),Inv X Y σ H s->qG x v->r x H Q ->
  Aq (Au X.prog X.w) X.A (f v) (EP X Y σ Q) X.xe s
def jV (X:Cx)(f:Ad)(r:Aa V->Hp->VK->Prop):Prop:=
 ∀ (Y:aa) (s:Ah) (σ : St) (H:Hp) (J:Aa V) (us:ag) (Q:VK),Inv X Y σ H s->qI J us->r J H Q ->
  Aq (Au X.prog X.w) X.A (call f us) (EP X Y σ Q) X.xe s
def qAW (X:Cx)(r:V->Hp->(As->Hp->Prop)->Prop):Prop:=
 ∀ (Y:aa) (s:Ah) (σ : St) (H:Hp) (x:V) (v:Ad) (Q:As->Hp->Prop),Inv X Y σ H s->qG x v->r x H Q ->
  Aq (Au X.prog X.w) X.A (truthy v) (TP X Y σ Q) X.xe s
def _d (r:R2)(J G:TE):TE:=λσ H Q=>J σ H λx Y=>G σ Y λy U=>r x y U Q
def rI (C:Aj->Aj->Prop)(g:Aj->Aj->V):R2:=λx y H Q=>∃ i j,x=.int i/\y=.int j/\C i j/\Q (g i j) H
def q_ (g:Aj->Aj->V):R2:=λx y H Q=>∃ i j,x=.int i/\y=.int j/\Q (g i j) H
def rU (g:Aj->V):V->Hp->VK->Prop:=λx H Q=>∃ i,x=.int i/\Q (g i) H
section
variable {X:Cx}{a b c:Bz}{ta tb tc:TE}{ao:Fn}
theorem qAZ (B:PE X a ta)(w:PE X b tb){ai:aa}{s:Ah}{σ : St}{H:Hp}{R:V->V->Hp->Prop}(I:Inv X ai σ H s)
  (h:ta σ H λx N=>tb σ N λy Y=>R x y Y) {Q:ab} {f:Ad->Ad->Kr Ad}
  (E:∀ v u G x y Y,Inv X ai σ Y G->qG x v->qG y u->R x y Y->Aq (Au X.prog X.w) X.A (f v u) Q X.xe G) :
  Aq (Au X.prog X.w) X.A (eval a X.env) (λv J=>Aq (Au X.prog X.w) X.A (eval b X.env) (λu U=>Aq (Au X.prog X.w) X.A (f v u) Q X.xe U) X.xe J) X.xe s:=by
 refine bq (B ai s σ H _ I h) λv C ⟨x,N,A,z,L⟩=>?_;refine bq (w ai C σ N _ A L) λu G ⟨y,Y,O,M,T⟩=>?_;exact E v u G x y Y O z M T
theorem we {f:Ad->Ad->Kr Ad}{C:Aj->Aj->Prop}
  (rule:∀ (i j:Aj) (t u:Vq) (s:Ah) (Q:ab) (E:ab),C i j->Q (.int (g i j) s.toks) { s with toks:=s.toks+1 } -> Aq (Au X.prog X.w) X.A (f (.int i t) (.int j u)) Q E s) :
  lj X f (rI C λi j=>.int (g i j)):=by
 intro N s σ H x y v u Q I Y J h;obtain⟨i,j,rfl,rfl,U,q⟩:=h;obtain⟨t,rfl⟩:=Y;obtain⟨G,rfl⟩:=J;exact rule i j t G s _ _ U ⟨.int (g i j),H,I.tok _,⟨_,rfl⟩,q⟩
theorem RP {f:Ad->Ad->Kr Ad}
  (rule:∀ (i j:Aj) (t u:Vq) (s:Ah) (Q:ab) (E:ab),Q (.int (g i j) s.toks) { s with toks:=s.toks+1 } -> Aq (Au X.prog X.w) X.A (f (.int i t) (.int j u)) Q E s) :
  lj X f (q_ λi j=>.int (g i j)):=by
 intro G s σ H x y v u Q I Y J h;obtain⟨i,j,rfl,rfl,q⟩:=h;obtain⟨t,rfl⟩:=Y;obtain⟨U,rfl⟩:=J;exact rule i j t U s _ _ ⟨.int (g i j),H,I.tok _,⟨_,rfl⟩,q⟩
theorem Z4 {g:Aj->Aj->As}
  (rule:∀ (i j:Aj) (t u:Vq) (s:Ah) (Q:ab) (E:ab),Q (.bool (g i j)) s->Aq (Au X.prog X.w) X.A (f (.int i t) (.int j u)) Q E s) :
  lj X f (q_ λi j=>.bl (g i j)):=by
 intro G s σ H x y v u Q I Y J h;obtain⟨i,j,rfl,rfl,q⟩:=h;obtain⟨t,rfl⟩:=Y;obtain⟨U,rfl⟩:=J;exact rule i j t U s _ _ ⟨.bl (g i j),H,I,rfl,q⟩
def qAQ (i j:Aj):Prop:=0<j/\j<1073741824
def qAR (i j:Aj):Prop:=0<=j/\j<=1000000/\i.natAbs<2 ^ 64
def YZ (i j:Aj):Prop:=(-(2 ^ 64)<i/\i<2 ^ 64)\/(-(2 ^ 64)<j/\j<2 ^ 64)
theorem YZ.ok {i j:Aj}(h:YZ i j):IntMulOk i j:=by
 rcases h with⟨Q,Y⟩|⟨Q,Y⟩
 .exact .of_left (intBits_le_64 Q Y)
 .exact .of_right (intBits_le_64 Q Y)
theorem RQ:lj X (Ew .Add) (q_ λi j=>.int (i+j)):=RP λ_ _ _ _ _ _ _ q=>add_int q
theorem RW:lj X (Ew .Sub) (q_ λi j=>.int (i-j)):=RP λ_ _ _ _ _ _ _ q=>sub_int q
theorem RU:lj X (Ew .Mult) (rI YZ λi j=>.int (i*j)):=we λ_ _ _ _ _ _ _ Q q=>mul_int q Q.ok
theorem FZ:lj X (Ew .FloorDiv) (rI qAQ λi j=>.int (i/j)):=we λi j _ _ _ _ _ Q q=>by
 have Y:(0:Aj)<j:=Q.1;have J:j<1073741824:=Q.2;exact floordiv_int li (by rw[Int.fdiv_eq_ediv_of_nonneg i li];exact q) (.inl (PyProof.noPylong_small li))
theorem RS:lj X (Ew .Mod) (rI (λ_ j=>0<j) λi j=>.int (i % j)):=we λi j _ _ _ _ _ Q q=>by
 have Y:(0:Aj)<j:=Q;exact mod_int' li (by rw[Int.fmod_eq_emod_of_nonneg i li];exact q)
theorem RV:lj X (Ew .Pow) (rI qAR λi j=>.int (i ^ j.toNat)):=we λ_ _ _ _ _ _ _ Q q=>pow_int_small Q.1 Q.2.1 Q.2.2 q
theorem _b {f:Ad->Kr Ad}{g:Aj->Aj}
  (rule:∀ (i:Aj) (t:Vq) (s:Ah) (Q:ab) (E:ab),Q (.int (g i) s.toks) { s with toks:=s.toks+1 } -> Aq (Au X.prog X.w) X.A (f (.int i t)) Q E s) :
  N_ X f (rU λi=>.int (g i)):=by
 intro J s σ H x v Q I Y h;obtain⟨i,rfl,q⟩:=h;obtain⟨t,rfl⟩:=Y;exact rule i t s _ _ ⟨.int (g i),H,I.tok _,⟨_,rfl⟩,q⟩
theorem CB:N_ X (v4 .USub) (rU λi=>.int (-i)):=_b λ_ _ _ _ _ q=>neg_int q
end
section
variable {X:Cx}{a b c:Bz}{ta tb tc:TE}{ao:Fn}
theorem DP {ai:aa}{σ:St}{H:Hp}{s:Ah}{Q:VK}{k Y:As}(I:Inv X ai σ H s)(q:Q (.bl k) H)(e:k=Y):EP X ai σ Q (.bool Y) s:=by
 subst e;exact⟨.bl k,H,I,rfl,q⟩
theorem IV:lj X (Ci .Lt) (q_ λi j=>.bl (decide (i<j))):=Z4 λ_ _ _ _ _ _ _ q=>lt_int q
theorem IU:lj X (Ci .LtE) (q_ λi j=>.bl (decide (i<=j))):=Z4 λ_ _ _ _ _ _ _ q=>le_int q
theorem IT:lj X (Ci .Gt) (q_ λi j=>.bl (decide (j<i))):=Z4 λ_ _ _ _ _ _ _ q=>gt_int q
theorem IS:lj X (Ci .GtE) (q_ λi j=>.bl (decide (j<=i))):=Z4 λ_ _ _ _ _ _ _ q=>ge_int q
theorem M0:lj X (Ci .IsNot) (λx y H Q=>y=.non/\Q (.bl (!decide (x=.non))) H):=by
 intro U s σ H x y v u Q I Y J h;obtain⟨rfl,q⟩:=h;cases J;refine isnot_none_gen (DP I q ?_);cases x <;> first
  |(cases Y;rfl)
  |(obtain⟨t,rfl⟩:=Y;rfl)
theorem lj.or {r J:R2}(h:lj X f r)(h':lj X f J):lj X f (λx y H Q=>r x y H Q\/J x y H Q):=by
 intro G s σ H x y v u Q I Y U q;rcases q with q|q
 .exact h G s σ H x y v u Q I Y U q
 .exact h' G s σ H x y v u Q I Y U q
theorem bP (b:Bz){op:Xm}(h:op≠.In:=by decide)(h2:op≠.NotIn:=by decide):Nd op b=false:=by
 have Q:(op == CmpOp.In)=false:=by cases op <;> first|rfl|exact absurd rfl h
 have Y:(op == CmpOp.NotIn)=false:=by cases op <;> first|rfl|exact absurd rfl h2
 cases b <;> simp[Nd,Q,Y]
def oS (K:Ak)(x:V)(H:Hp)(k:As):Prop:=
 match x with
 |.non=>k=false
 |.bl b=>k=b
 |.int i=>k=(i != 0)
 |.str y=>y.length<=sizeLine/\k=((y.length:Aj) != 0)
 |.byt y=>y.size<=sizeLine/\k=((y.size:Aj) != 0)
 |.ref p=>(∃ Q,ji K H p Q/\k=!Q.isEmpty)\/(∃ Q,iq K H p Q/\k=!Q.isEmpty)\/∃ Y,H p=Ab (.dK Y)/\k=!Y.isEmpty
 |_=>Ey
theorem QH {κ:Type}{kvs:Aa (κ × V)}{vs:Aa (κ × Ad)}(r:KV kvs vs):(!vs.isEmpty)=!kvs.isEmpty:=by
 cases r <;> rfl
theorem tN {xs:Aa V}{am:ag}(r:qI xs am):(!am.toArray.isEmpty)=!xs.isEmpty:=by
 cases r <;> simp
theorem bN:(sizeLine:Ag)<2 ^ 63:=by rw[Fq];decide
theorem bW:qAW X (λx H Q=>∃ k,oS X.K x H k/\Q k H):=by
 intro A s σ H x v Q I N h;obtain⟨k,e,q⟩:=h;have M:=bN;have hs:sizeLine=16777216:=Fq;cases x with
 |non =>
  cases N;have Y:k=false:=e;subst Y;exact truthy_none ⟨H,I,q⟩
 |bl b =>
  cases N;have Y:k=b:=e;subst Y;exact Zk ⟨H,I,q⟩
 |int i =>
  obtain⟨t,rfl⟩:=N;have Y:k=(i != 0):=e;subst Y;exact PySem.P.truthy_int ⟨H,I,q⟩
 |str y =>
  obtain⟨t,rfl⟩:=N;obtain⟨L,Y⟩:y.length<=sizeLine/\k=((y.length:Aj) != 0):=e;subst Y;exact PySem.P.truthy_str li ⟨H,I.tok _,q⟩
 |byt y =>
  obtain⟨t,rfl⟩:=N;obtain⟨L,Y⟩:y.size<=sizeLine/\k=((y.size:Aj) != 0):=e;subst Y;exact PySem.W.truthy_bytes li ⟨H,I.tok _,q⟩
 |ref p =>
  cases N;have Y:(∃ G,ji X.K H p G/\k=!G.isEmpty)\/(∃ G,iq X.K H p G/\k=!G.isEmpty)\/∃ J,H p=Ab (.dK J)/\k=!J.isEmpty:=e;rcases Y with⟨G,O,Y⟩|⟨G,O,Y⟩|⟨J,O,Y⟩
  .subst Y
   obtain⟨E,r,pl,B⟩:=I.list O;have U:=r.length;exact wpAny_truthy_list pl.isList (by simp only[Bt];lia) ⟨H,I.tok _,by rw[tN r];exact q⟩
  .subst Y
   obtain⟨E,r,pl,B⟩:=I.tuple O;have U:=r.length;exact truthy_tuple pl (by simp only[Bt];lia) ⟨H,I.tok _,by rw[tN r];exact q⟩
  .subst Y
   obtain⟨B,T,C,r,m⟩:J.length<=sizeLine/\(p == Hn)=false/\∃ C,KV J C/\s.heap.DictOf (zT X.prog X.w) p C:=I.hok p _ O;have U:J.length=C.length:=Paired.length r;exact wpAny_truthy_dict T m li ⟨H,I.tok _,by rw[QH r];exact q⟩
 |_=>exact(show Ey from e).elim
theorem Z5:lj X (Ew .Add) (λx y H Q=>∃ i j,x=.str i/\y=.str j/\i.length+j.length<=sizeLine/\Q (.str (i++j)) H):=by
 intro N s σ H x y v u Q I Y J h;obtain⟨i,j,rfl,rfl,U,q⟩:=h;obtain⟨t,rfl⟩:=Y;obtain⟨G,rfl⟩:=J;exact add_str (λG O=>⟨.str (i++j),H,I.tok _,⟨_,rfl⟩,q⟩) U
theorem kF {x:V}(r:qI [x] us):∃ u,us=[u]/\qG x u:=by
 cases r with
 |cons Y Q=>cases Q;exact⟨_,rfl,Y⟩
theorem ZM {x y:V}(r:qI [x,y] us):∃ u Q,us=[u,Q]/\qG x u/\qG y Q:=by
 cases r with
 |cons G Y =>
  cases Y with
  |cons U J=>cases J;exact⟨_,_,rfl,G,U⟩
theorem dB:jV X (.type "int") (λxs H Q=>(∃ i,xs=[.int i]/\Q (.int i) H)\/∃ k,xs=[.bl k]/\Q (.int (if k then 1 else 0)) H):=by
 intro J s σ H xs us Q I r h;rcases h with⟨i,rfl,q⟩|⟨k,rfl,q⟩
 .obtain⟨u,rfl,t,rfl⟩:=kF r
  exact call_int_int ⟨.int i,H,I,⟨_,rfl⟩,q⟩
 .obtain⟨u,rfl,Y⟩:=kF r
  cases Y;exact call_int_bool ⟨.int (if k then 1 else 0),H,I.tok _,⟨_,rfl⟩,q⟩
def NQ (K:Ak)(x:V)(H:Hp)(n:Ag):Prop:=
 match x with
 |.str y=>y.length<=sizeLine/\n=y.length
 |.byt y=>y.size<=sizeLine/\n=y.size
 |.ref p=>(∃ Q,ji K H p Q/\n=Q.length)\/∃ Q,iq K H p Q/\n=Q.length
 |_=>Ey
theorem VA:jV X (.builtin "len") (λxs H Q=>∃ x n,xs=[x]/\NQ X.K x H n/\Q (.int n) H):=by
 intro L s σ H xs us Q I r h;obtain⟨x,n,rfl,e,q⟩:=h;obtain⟨u,rfl,U⟩:=kF r;have T:=bN;have hs:sizeLine=16777216:=Fq;cases x with
 |str y =>
  obtain⟨t,rfl⟩:=U;obtain⟨O,J⟩:y.length<=sizeLine/\n=y.length:=e;subst J;exact len_str li ⟨.int _,H,I.tok _,⟨_,rfl⟩,q⟩
 |byt y =>
  obtain⟨t,rfl⟩:=U;obtain⟨O,J⟩:y.size<=sizeLine/\n=y.size:=e;subst J;exact PySem.W.len_bytes li ⟨.int _,H,I.tok _,⟨_,rfl⟩,q⟩
 |ref p =>
  cases U;have J:(∃ xs,ji X.K H p xs/\n=xs.length)\/∃ xs,iq X.K H p xs/\n=xs.length:=e;rcases J with⟨xs,N,J⟩|⟨xs,N,J⟩
  .subst J
   obtain⟨B,G,pl,C⟩:=I.list N;have Y:=G.length;exact Calls.call_len_list pl.isList (by simp only[Bt];lia) ⟨.int xs.length,H,I.tok _,⟨_,by simp only[Bt];rw[Y]⟩,q⟩
  .subst J
   obtain⟨B,G,pl,C⟩:=I.tuple N;have Y:=G.length;exact len_tuple pl (by simp only[Bt];lia) ⟨.int xs.length,H,I.tok _,⟨_,by simp only[Bt];rw[Y]⟩,q⟩
 |_=>exact(show Ey from e).elim
end
end _L
namespace _L
variable {mA:ah}
structure vn (h:Cb)(x dx C:Af)(mA:ah):Prop where
 obj:h.get? x=Ab (Uu C dx)
 ns:h.Ns1 dx mA
 ne:dx≠x
set_option tactic.hygienic true in
theorem WB {h:Cb}{J:Af}(n:h.Ns1 J mA):∃ U,h.get? J=Ab U/\∀ name,Wq name U=Ab (mA name):=by
 obtain⟨o,Y,T,C,B,L,_,O⟩:=n;refine⟨o,C,λname=>?_⟩;have e:=O name;unfold nsFind findBy at e;rw[<- Array.find?_toList] at e;unfold Wq;rw[B];dsimp only
 split
 .rename_i y q
  rw[q] at e;exact congrArg Ab e
 .rename_i q
  rw[q] at e;have a:Y.toList.any (·.refKey)=false:=by
   rw[Sn];intro y G;obtain⟨z,t,Q⟩:=L y (Qn.mp G);simp[DictEntry.refKey,Q]
  have N:¬ Y.toList.any (·.refKey)=true:=by rw[a];exact Es
  rw[Bh N];exact congrArg Ab e
theorem vn.look {h:Cb}{x Y C:Af}(I:vn h x Y C mA):∃ Q,PySem.W.InstAt h x (Uu C Y) C (Ab Q)/\∀ name,Wq name Q=Ab (mA name):=
 let ⟨Q,J,U⟩:=WB I.ns
 ⟨Q,⟨I.obj,rfl,rfl,J⟩,U⟩
theorem uZ.some_of {v:V}{o:An Ad}(r:uZ (Ab v) o):∃ u,o=Ab u/\qG v u:=by
 cases o with
 |none=>exact(show Ey from r).elim
 |some u=>exact⟨u,rfl,r⟩
section
variable {P:Bo}{w:Cd}{H H':Hp}{h h':Cb}{a C dx:Af}{fs fs':Aa (Aw × V)}
theorem F1 (Q:gl P w H h)(e:H a=Ab (.ins C dx fs)):∃ mA,vn h a dx C mA/\(∀ f,uZ (fs.lookup f) (mA f))/\AbC mA (fs.map (·.1))/\fs.length<=1000/\H dx=Ab (.own a):=by
 obtain⟨d,z,Y,J,mA,n,r,q⟩:=(show zM P w H h a (.ins C dx fs) from Q a _ e)
 exact⟨mA,⟨J,n,Y⟩,r,q,z,d⟩
end
structure zm (K:Ak)(C:Af):Prop where
 pg:v6 K C Str.empty=true
 hd:PySem.W.hasDictIn K C=true
 po:PySem.W.plainOver K C=true
 sa:Ov K (.ref C) "__setattr__" = Ab (Ab (.builtin "object.__setattr__"))
theorem zm.get {K:Ak}{C:Af}(c:zm K C)(f:Aw):v6 K C f=true:=c.pg
section
variable {X:Cx}{ai:aa}{σ : St}{H:Hp}{s:Ah}{A:Bu}{E:ab}{Q:ab}{c:Ad}{b:As}
inductive jh (K:Ak)(H:Hp):V->Ad->Prop where
 |non:jh K H .non (.type "NoneType")
 |bl (x:As):jh K H (.bl x) (.type "bool")
 |int (i:Aj):jh K H (.int i) (.type "int")
 |str (x:Aw):jh K H (.str x) (.type "str")
 |flt (x:UInt64):jh K H (.flt x) (.type "float")
 |lst {a:Af} {xs:Aa V} (e:H a=Ab (.lst xs)):jh K H (.ref a) (.type "list")
 |frz {a:Af} {o:Cw} {xs:Aa V} (e:H a=Ab (.frz o (.lst xs))):jh K H (.ref a) (.type "list")
 |tup {a:Af} {xs:Aa V} (e:H a=Ab (.tup xs)):jh K H (.ref a) (.type "tuple")
 |dK {a:Af} {kvs:Aa (bo × V)} (e:H a=Ab (.dK kvs)):jh K H (.ref a) (.type "dict")
 |dT {a:Af} {kvs:Aa (Aa bo × V)} (e:H a=Ab (.dT kvs)):jh K H (.ref a) (.type "dict")
 |ins {a C dx:Af} {fs:Aa (Aw × V)} (e:H a=Ab (.ins C dx fs)) (cl:zm K C) (ha:Ov K (.ref C) "__class__" = Ab (Ab (.builtin "object.__class__")))
   (hn:Zl K (.builtin "object.__class__") "__get__" = Ab (Ab (.builtin "getset_descriptor.__get__"))) (htk:AaI K (.builtin "object.__class__")=Ab true)
   (hm:Xn K C (.type "object")=Ab true):jh K H (.ref a) (.ref C)
theorem XY {x:V}{u t:Ad}(I:Inv X ai σ H s)(Y:qG x u)(ty:jh X.K H x t)(e:Ml X.K t c=Ab b)(h:∀ v,Q (.bool b) { s with toks:=v }) :
  Aq (Au X.prog X.w) A (call (.builtin "isinstance") [u,c]) Q E s:=by
 cases ty with
 |non=>cases (show u=Dd from Y);exact Fi PySem.W.kitx_none I.kIn Jd e (λz=>nomatch z) h
 |bl y=>cases (show u=Hm y from Y);exact Fi PySem.W.kitx_bool I.kIn Jd e (λz=>nomatch z) h
 |int i=>obtain⟨t,q⟩:=(show ∃ t,u=Vp i t from Y);cases q;exact Fi PySem.W.kitx_int I.kIn Jd e (λz=>nomatch z) h
 |str y=>obtain⟨t,q⟩:=(show ∃ t,u=Zg y t from Y);cases q;exact Fi PySem.W.kitx_str I.kIn Jd e (λz=>nomatch z) h
 |flt y=>obtain⟨t,q⟩:=(show ∃ t,u=Value.float y t from Y);cases q;exact Fi PySem.W.kitx_float I.kIn Jd e (λz=>nomatch z) h
 |@lst a B U =>
  cases (show u=Cy a from Y)
  obtain⟨_,_,n,_,G⟩:=(show zM X.prog X.w H s.heap a (.lst B) from I.hok a _ U)
  exact Fi So I.kIn ⟨_,G,rfl⟩ e (λz=>nomatch z) h
 |@frz a l B U =>
  cases (show u=Cy a from Y)
  obtain⟨_,_,_,n,_,G⟩:=(show zM X.prog X.w H s.heap a (.frz l (.lst B)) from I.hok a _ U)
  exact Fi So I.kIn ⟨_,G,rfl⟩ e (λz=>nomatch z) h
 |@tup a B U =>
  cases (show u=Cy a from Y)
  obtain⟨_,_,_,p⟩:=(show zM X.prog X.w H s.heap a (.tup B) from I.hok a _ U)
  obtain⟨o,G,L,_⟩:=p;exact Fi Yl I.kIn ⟨o,G,L⟩ e (λz=>nomatch z) h
 |@dK a N U =>
  cases (show u=Cy a from Y)
  obtain⟨_,_,f,_,p⟩:=(show zM X.prog X.w H s.heap a (.dK N) from I.hok a _ U)
  obtain⟨o,k,w,G,L,_⟩:=p;exact Fi Zm I.kIn ⟨o,G,L.1⟩ e (λz=>nomatch z) h
 |@dT a N U =>
  cases (show u=Cy a from Y)
  obtain⟨_,_,B,_,o,k,w,G,L,_⟩:=(show zM X.prog X.w H s.heap a (.dT N) from I.hok a _ U)
  exact Fi Zm I.kIn ⟨o,G,L.1⟩ e (λz=>nomatch z) h
 |@ins a C dx m U M j g T d =>
  cases (show u=Cy a from Y)
  obtain⟨mA,O,_⟩:=F1 I.hok U;obtain⟨r,J,_⟩:=O.look;exact Fi (PySem.W.kitx_own (M.get _) M.hd j g T d) I.kIn J e (λz=>nomatch z) h
end
end _L
namespace _L
variable {ps:Aa Aw}{K:Ak}{mg:ah}{kindOf:Aw->An Iu}{A:Bu}{aj:Fd}
structure je (k:Ag)(A:Bu):Prop where
 hd:A.handled=none
 dp:A.depth+3*k+5<Rj
 un:A.units+16*k+200<Ed
 gd:A.guards=Ab []
theorem je.deeper {k:Ag}(r:je (k+1) A)(env:Kh):je k (A.deeper env):=
 ⟨r.hd,by have:=r.dp;show A.depth+1+3*k+5<_;lia,by have:=r.un;show A.units+3+16*k+200<_;lia,r.gd⟩
theorem je.depth {k:Ag}(r:je k A):A.depth<Rj:=by have:=r.dp;lia
theorem je.units {k:Ag}(r:je k A):A.units+64<Ed:=by have:=r.un;lia
def _w:TA:=λ_ H Q=>Q [] H
section
variable {X:Cx}{e:Bz}{es:Aa Bz}{te:TE}{t:TA}{ao:Fn}
theorem RX:PA X [] _w:=λ_ _ _ _ H Q I h=>Pa ⟨[],H,I,.nil,h⟩
def _t (t:TA):TE:=λσ H Q=>t σ H λY J=>Y.length<=sizeLine/\∀ p,J p=none->Q (.ref p) (b_ J p (.tup Y))
def _x (t:TA):TE:=λσ H Q=>t σ H λY J=>Y.length<=sizeLine/\∀ p,J p=none->Q (.ref p) (b_ J p (.lst Y))
theorem E1  (h:PA X es t):PE X (.Tuple es x1 ao) (_t t):=by
 intro O s σ H Q I N;refine wpAny_Tuple_spliced (bq (h ao O s σ H _ I N) λG Y ⟨B,J,U,r,z,q⟩=>⟨by rw[<- r.length];exact z,?_⟩)
 have C:J Y.heap.objs.size=none:=U.hok.fresh (Av _);refine⟨.ref Y.heap.objs.size,b_ J Y.heap.objs.size (.tup B),U.laid (t':=Y.toks) (λb u e=>Ai _ e) (Av _) ?_,rfl,q _ C⟩;exact⟨z,G,r,⟨_,Be _ rfl,rfl,_,rfl⟩⟩
theorem WV (h:PA X es t):PE X (.List es ao) (_x t):=by
 intro O s σ H Q I N;refine wpAny_List_spliced (bq (h ao O s σ H _ I N) λG Y ⟨B,J,U,r,z,q⟩=>⟨by rw[<- r.length];exact z,?_⟩)
 have C:J Y.heap.objs.size=none:=U.hok.fresh (Av _);refine⟨.ref Y.heap.objs.size,b_ J Y.heap.objs.size (.lst B),U.laid (t':=Y.toks) (λb u e=>Ai _ e) (Av _) ?_,rfl,q _ C⟩;exact⟨z,G,0,r,Be _ rfl⟩
end
abbrev Sp:=Aa V->Hp->VK->XK->Prop
abbrev sj:=Aa Kh->Hp->Ah->XK->Ad->Ah->Prop
structure nz (P:Bo)(w:Cd)(K:Ak)(mg:ah)(base:Cb)(A:Bu)(outer:Aa Kh)(s:Ah)(H:Hp):Prop where
 frames:A.frames=Ab outer
 mod:Mod K mg base
 bs:∀ b o,base.get? b=Ab o->s.heap.get? b=Ab o/\H b=none
 bsz:base.objs.size<=s.heap.objs.size
 funs:s.heap.FunFrames base outer
 frf:∀ b∈jg outer,H b=none
 hok:gl P w H s.heap
 bare:Pv s.gens
def CE (J:Aa Kh)(P:Bo)(w:Cd)(H:Hp)(s:Ah)(Q:VK)(u:Ad)(s':Ah):Prop:=
 ∃ v Y,s'.os=s.os/\Pv s'.gens/\Un (jg J) [] H Y s.heap s'.heap/\gl P w Y s'.heap/\qG v u/\Q v Y
def CR (CX:sj)(Y:Aa Kh)(P:Bo)(w:Cd)(H:Hp)(s:Ah)(Q:VK)(E:XK)(r:Result)(s':Ah):Prop:=
 match r with
 |.ok (.ret u)=>CE Y P w H s Q u s'
 |.ok _=>Ey
 |.error e=>CX Y H s E e s'
structure mz (P:Bo)(w:Cd)(K:Ak)(mg:ah)(base:Cb)(CX:sj)(k:Ag)(f:Af)(fd:Fu)(ps:Aa Aw)(sp:Sp):Prop where
 len:∀ vs H Q E,sp vs H Q E->vs.length=ps.length
 run:∀ (A:Bu) (outer:Aa Kh) (s:Ah) (H:Hp) (args:Args) (us:ag) (vs:Aa V) (Q:VK) (E:XK),je k A->nz P w K mg base A outer s H->Py s fd args (ps.zip us)->qI vs us->sp vs H Q E ->
  Jy (Au P w) A (.call (.ref f) args) (CR CX outer P w H s Q E) s
section
variable {X:Cx}{ai:aa}{σ : St}{H:Hp}{s s':Ah}
theorem Inv.env0 (I:Inv X ai σ H s):nz X.prog X.w X.K X.mg X.base X.A X.stack s H:=
 ⟨I.ok.frames,I.ok.mod,I.bs,Ch I.ok.bsz I.sz,I.stack,I.stkFree,I.hok,I.bare⟩
theorem Inv.after {Q:VK}{u:Ad}(I:Inv X ai σ H s)(h:CE X.stack X.prog X.w H s Q u s'):EP X ai σ Q u s':=by
 obtain⟨v,G,os,Y,N,J,r,q⟩:=h;obtain⟨O,g,d,t,U⟩:=s';obtain rfl:U=s.os:=os;exact⟨v,G,I.call (h':=O) (g':=g) (d':=d) (t':=t) (ch:=[]) N J Y (λb z=>absurd z (by simp)),r,q⟩
end
def uM (K:Ak)(fd:Fu)(ps:Aa Aw)(ds:ag):Prop:=
 ∀ (s:Ah) (Q:ag),K.In s.heap->(Q++ds).length=ps.length->Py s fd ⟨Q,[]⟩ (ps.zip (Q++ds))
theorem uM.all {fd:Fu}(h:∀ us:Aa Ad,us.length=ps.length->AaJ fd ⟨us,[]⟩=pure (ps.zip us)):uM K fd ps []:=λs us _ Q=>by
 rw[Hq] at Q ⊢;exact .of_eq (h us Q)
structure cy (N P:Aa Aw)(sc:Fd):Prop where
 kind:sc.kind=.function
 co:sc.isCoroutine=false
 gen:sc.isGenerator=false
 nd:N.Nodup
 pre:N.take P.length=P
 par:∀ x∈P,sc.names.lookup x=Ab .local \/ sc.names.lookup x=Ab .cell
 nofree:∀ y∈sc.names,y.2≠.free
theorem d8 {x:Aw}:∀ {Q:Aa (Aw × Ad)} {m:ah},(∀ v,(x,v) ∉ Q)->Xo kindOf Q m x=m x
 |[],_,_=>rfl
 |(n,v)::r,m,h=>by
  unfold Xo;rw[d8 λw Y=>h w (Ce _ Y)]
  split
  .have:x≠n:=by rintro rfl;exact h v De
   simp[this]
  .rfl
theorem d3 {x:Aw}:∀ {Q:Aa (Aw × Ad)} {m:ah},(∀ v,(x,v) ∉ Q)->Xp kindOf Q m x=m x
 |[],_,_=>rfl
 |(n,v)::r,m,h=>by
  unfold Xp;rw[d3 λw Y=>h w (Ce _ Y)]
  split
  .rfl
  .have:x≠n:=by rintro rfl;exact h v De
   simp[this]
theorem d7 {x:Aw}{v:Ad}:∀ {P:Aa Aw} {vs:ag} {i:Ag} {m:ah},P.Nodup->P[i]? = Ab x->vs[i]? = Ab v->kindOf x=Ab .local ->
  Xo kindOf (P.zip vs) m x=Ab v
 |[],_,_,_,_,h,_,_=>by simp at h
 |_::_,[],_,_,_,_,h,_=>by simp at h
 |p::P,w::vs,0,m,J,Y,Q,U=>by
  simp at Y Q;subst Y;subst Q;show Xo kindOf ((p,w)::P.zip vs) m p=_;unfold Xo;rw[d8 λv hv=>(Jv.mp J).1 (Qv hv).1,Bi U];simp
 |p::P,w::vs,i+1,m,J,Y,Q,U=>by
  show Xo kindOf ((p,w)::P.zip vs) m x=_;unfold Xo;exact d7 (i:=i) (Jv.mp J).2 (by simpa using Y) (by simpa using Q) U
theorem lZ {x:Aw}{v:Ad}:∀ {P:Aa Aw} {vs:ag} {i:Ag} {m:ah},P.Nodup->P[i]? = Ab x->vs[i]? = Ab v->kindOf x≠Ab .local ->
  Xp kindOf (P.zip vs) m x=Ab v
 |[],_,_,_,_,h,_,_=>by simp at h
 |_::_,[],_,_,_,_,h,_=>by simp at h
 |p::P,w::vs,0,m,J,Y,Q,U=>by
  simp at Y Q;subst Y;subst Q;show Xp kindOf ((p,w)::P.zip vs) m p=_;unfold Xp;rw[d3 λv hv=>(Jv.mp J).1 (Qv hv).1,Bh U];simp
 |p::P,w::vs,i+1,m,J,Y,Q,U=>by
  show Xp kindOf ((p,w)::P.zip vs) m x=_;unfold Xp;exact lZ (i:=i) (Jv.mp J).2 (by simpa using Y) (by simpa using Q) U
def w8 (N:Aa Aw)(vs:Aa V):St:=vs.map Ab++AaV (N.length-vs.length) none
noncomputable def nQ (CX:sj)(P:Bo)(w:Cd)(K:Ak)(mg:ah)(base:Cb)(N:Aa Aw)(J:Aw)(aj:Fd)(f:Af)(Y:Ad)(A:Bu)(U:Aa Kh)(s:Ah)(H:Hp)(E:XK):Cx where
 prog:=P
 w:=w
 K:=K
 mg:=mg
 base:=base
 A:=A.deeper (He J aj s.heap.objs.size f Y)
 N:=N
 s₀:=s
 H₀:=H
 env:=He J aj s.heap.objs.size f Y
 outer:=U
 stack:=He J aj s.heap.objs.size f Y::U
 ex:=[]
 calm:=true
 fn:=λ_=>true
 pn:=[]
 xe:=λe G=>Aq (Au P w) (A.deeper (He J aj s.heap.objs.size f Y)) (leaving (He J aj s.heap.objs.size f Y) e) (λ_ Q=>CX U H s E e Q) (λO Q=>CX U H s E O Q) G
theorem rM {Q:Fd}{n:Ag}{x:Aw}(h:Q.names.lookup x=Ab .cell):∃ c,(Hz n Q.names []).lookup x=Ab c:=by
 have q:=Lq Q.names n [] (.inl h);exact Ki.mp q
theorem dP {CX:sj}{P:Bo}{w:Cd}{base:Cb}{N:Aa Aw}{L:Aw}{f:Af}{O:Ad}{T:Aa Kh}{s I:Ah}{H:Hp}{E:XK}{us:ag}{vs:Aa V}
  (S:cy N ps aj) (d:A.handled=none) (Y:nz P w K mg base A T s H) (t:vs.length=ps.length) (r:qI vs us)
  (x:InCallC s s.heap.objs.size (Xo (He L aj s.heap.objs.size f O).kindOf (ps.zip us) λ_=>none) (Hz (s.heap.objs.size+1) aj.names []) (Xp (He L aj s.heap.objs.size f O).kindOf (ps.zip us) λ_=>none) I) :
  Inv (nQ CX P w K mg base N L aj f O A T s H E) [] (w8 N vs) H I:=by
 have l:ps.length<=N.length:=by have:=congrArg Mc S.pre;rw[Hg] at this;lia
 obtain⟨C,tk,rfl,j⟩:=x.done;have J:∀ b:Af,b ∉ (nQ CX P w K mg base N L aj f O A T s H E).ex:=λb z=>absurd (show b∈([]:ae) from z) (by simp)
 refine⟨⟨Y.mod,S.kind,rfl,rfl,Av _,λy z c C Q=>?_,λy hy=>?_,λy c _ h=>?_,λ_=>d,Wz Y.frames,.inr ⟨rfl,rfl⟩,λb z=>absurd z (J b),Y.bs,Y.bsz,λb _ _=>J b,λb z=>absurd z (J b),Y.funs,Y.frf⟩,
  rfl,Y.bare,Un.kept j,⟨_,x.toInCall.ns,λi y v C Q m=>?_⟩,λy c h=>⟨_,x.cell y c h⟩,Y.hok.fresh (Av _),λy c h=>?_,λp U=>absurd (show p∈([]:aa) from U) (by simp),Y.hok.kept j,?_⟩
 .exact name_of_addr x.apart (Gk C) (Gk Q)
 .have hy:aj.names.lookup y=Ab .cell\/aj.names.lookup y=Ab .free:=hy
  rcases hy with hy|hy
  .exact rM hy
  .exact absurd rfl (S.nofree _ (Gk hy))
 .exact Ek (x.above y c (Gk h))
 .have B:i<vs.length:=by
   unfold w8 at Q;by_cases B:i<vs.length
   .exact B
   .rw[Dg (by simpa using B)] at Q
    rw[Uc] at Q
    split at Q <;> cases Q
  have o:vs[i]? = Ab v:=by
   unfold w8 at Q;rw[AT (by simpa using B),Du] at Q
   cases e:vs[i]? with
   |none=>rw[e] at Q;cases Q
   |some a=>rw[e] at Q;cases Q;rfl
  obtain⟨u,M,g⟩:=r.get o;have U:ps[i]? = Ab y:=by
   rw[<- S.pre,Ob li];exact C
  have G:ps.Nodup:=by rw[<- S.pre];exact S.nd.sublist (List.take_sublist _ _)
  refine⟨u,g,?_⟩;rcases S.par y (Cj U) with k|k
  .exact .inl ⟨k,d7 G U M k⟩
  .obtain⟨c,e⟩:=rM (n:=s.heap.objs.size+1) k
   refine .inr ⟨.inl k,c,e,?_⟩;have q:=x.cell y c e;rw[lZ G U M (by show aj.names.lookup y≠_;rw[k];decide)] at q
   exact q
 .exact Y.hok.fresh (Ek (x.above y c (Gk h)))
 .unfold w8
  show _=N.length;rw[By,Ao,List.length_replicate]
  lia
theorem AE {CX:sj}{P:Bo}{w:Cd}{base:Cb}{k:Ag}{f:Af}{name B:Aw}{ii:Vs}{g:Aa Fz}{dV kV T pm Y h oc:Ad}{an od:An Af}
  {m:Ay (An Ad)} {N ps:Aa Aw} {sp:Sp} (lk:K.lookup f=Ab ⟨oc,od,.func (Gr name B ii g aj dV kV T pm an Y h),m⟩) (c:Mm K Y B=true) (S:cy N ps aj)
  (z:∀ vs H Q E,sp vs H Q E->vs.length=ps.length)
  (C:∀ (A:Bu) (L:Aa Kh) (s:Ah) (H:Hp) (vs:Aa V) (Q:VK) (E:XK),je k (A.deeper (He B aj s.heap.objs.size f Y))->sp vs H Q E ->
   ∃ t,ir (nQ CX P w K mg base N B aj f Y A L s H E) g t/\t { nx:=λ_ G=>Q .non G,rt:=Q } (w8 N vs) H) :
  mz P w K mg base CX (k+1) f (Gr name B ii g aj dV kV T pm an Y h) ps sp:=by
 refine⟨z,λA L s H zb us vs Q E l M hb r p=>?_⟩;have hl:=z _ _ _ _ p;have KX:K.In s.heap:=M.mod.kin.keeps λb o e=>(M.bs b o e).1;have bn:s.heap.NoLimit:=M.mod.nolimit.keeps λb o e=>(M.bs b o e).1;have O:∀ y∈ps.zip us,aj.names.lookup y.1=Ab .local \/ (aj.names.lookup y.1=Ab .cell/\((Hz (s.heap.objs.size+1) aj.names []).lookup y.1).isSome=true):=λ⟨n,v⟩ hy=>by
  rcases S.par n (Qv hy).1 with q|q
  .exact .inl q
  .exact .inr ⟨q,Lq _ _ _ (.inl q)⟩
 refine Vt l.depth (KX _ _ lk) rfl S.co S.gen rfl (Ym KX c) (hb _ _ _ _ ?_);refine Sc S.kind O λzc he a x=>?_;subst he;refine⟨bn.keeps x.toInCall.keep,codeAny_func ?_⟩;obtain⟨t,ht,hq⟩:=C A L s H vs Q E (l.deeper _) p;have I:Inv (nQ CX P w K mg base N B aj f Y A L s H E) [] (w8 N vs) H a:=dP S l.hd M hl r x;refine Ho (ht [] a (w8 N vs) H _ I hq) (λfl d hs=>?_) λe d hs=>hs;have j:∀ {U : St} {G:Hp} {v:V} {u:Ad},Inv (nQ CX P w K mg base N B aj f Y A L s H E) [] U G d->qG v u->Q v G->CE L P w H s Q u d:=
  λ{U G v u} J i q=>⟨v,G,J.os,J.bare,J.base,J.hok,i,q⟩
 cases fl with
 |ret u =>
  obtain⟨v,U,G,J,i,q⟩:=hs;exact j J i q
 |next =>
  obtain⟨U,G,J,q⟩:=hs;exact j (v:=V.non) (u:=Dd) J rfl q
 |brk =>
  obtain⟨_,_,_,q⟩:=hs;exact Ar q
 |cont =>
  obtain⟨_,_,_,q⟩:=hs;exact Ar q
end _L
namespace _H
variable {Q:ab}{lo hi:An Aj}{items:Ay Ad}
noncomputable def lexLt:Aa Aj->Aa Aj->As
 |[],[]=>false
 |[],_::_=>true
 |_::_,[]=>false
 |x::Y,y::J=>if x=y then lexLt Y J else decide (x<y)
theorem aw (x y:Aj)(xs Y:Aa Aj):lexLt (x::xs) (y::Y)=if x=y then lexLt xs Y else decide (x<y):=rfl
theorem fr:lexLt [] []=false:=rfl
theorem gr (y:Aj)(Y:Aa Aj):lexLt [] (y::Y)=true:=rfl
theorem gt (x:Aj)(xs:Aa Aj):lexLt (x::xs) [] = false:=rfl
theorem mn (A:Bu)(s:Ah)(a:Aj)(t:Vq)(c:Aj)(u:Vq):∃ e,SeqAt.EqAt A s (.int a t) (.int c u) e/\(e=true↔a=c):=
 ⟨(a == c),SeqAt.EqAt.int_int a t c u,by simp⟩
theorem K2 (A:Bu)(s:Ah)(a:Aj)(t:Vq)(c:Aj)(u:Vq)(prog:Bo)(w:Cd)(E:ab)(Q:ab)(h:Q (.bool (decide (a<c))) s) :
  Aq (Au prog w) A (wE .Lt (.int a t) (.int c u)) Q E s:=
 (Xq h:Aq (Au prog w) A (Ci .Lt (.int a t) (.int c u)) Q E s)
section
open PySem.SeqAt
open PySem.AutoSeq1 (wpAny_loadPart')
open PySem.MeetsSeq PySem.MeetsSeq2 PySem.MeetsSeq3
theorem sO (l b:Af)(items Y:Ay Ad)(n n2:Ag)(dd m:An Af)(sl zb:Ay (An Ad))(z o:Aa Aj)(hi:Ir items.toList z)(hj:Ir Y.toList o) :
  Meets (Hr.«tuple.__lt__» ⟨[.ref l,.ref b],[]⟩)
   (λ_ R s=>s.heap.get? l=Ab { cls:=.type "tuple",dict:=dd,data:=.seq items n,slots:=sl } /\ s.heap.get? b=Ab { cls:=.type "tuple",dict:=m,data:=.seq Y n2,slots:=zb } /\
    R (.ok (.ret (.bool (lexLt z o)))) s):=
 .of_wp λB w A R s h=>by
  obtain⟨j,g,d,v,os⟩:=s;obtain⟨hl,hb,h⟩:=h;have f2:=Oc;have z1:items.size=z.length:=by rw[<- hi.length];simp
  have z2:Y.size=o.length:=by rw[<- hj.length];simp
  wp_walk using wpAny_loadPart' hl,wpAny_loadPart' hb,HT _ (λav b f=>b.1=none/\f=⟨j,g,d,v,os⟩/\∃ (p k:ag) (U G:Aa Aj),av=p.zip k /\
   Ir p U/\Ir k G/\U.length+Y.size=G.length+items.size/\R (.ok (.ret (.bool (lexLt U G)))) ⟨j,g,d,v,os⟩) _
  case turn =>
   rintro⟨y,x⟩ av b f ⟨I,rfl,p,k,U,G,O,T,N,J,C⟩;cases T with
   |nil=>rw[Zn] at O;cases O
   |cons a t H =>
    cases N with
    |nil=>rw[Yn] at O;cases O
    |cons c u M =>
     rw[Im] at O;injection O with r E
     injection r with hy hx
     subst hy hx;rw[aw] at C;simp only[Bv] at J;obtain⟨e,he,L⟩:=mn A.in1 ⟨j,g,d,v,os⟩ a t c u;refine Ac (he B w _ _ ?_);cases e with
     |true =>
      rw[Bi (L.mp rfl)] at C
      wp_walk
      exact⟨rfl,rfl,_,_,_,_,E,H,M,by lia,C⟩
     |false =>
      rw[Bh (λq=>absurd (L.mpr q) Es)] at C;have i:=K2 A.in1 ⟨j,g,d,v,os⟩ a t c u B w
      wp_walk using i
      exact⟨_,rfl,by simpa using C⟩
  case fin =>
   rintro⟨b1,b2⟩ f ⟨I,rfl,p,k,U,G,O,T,N,J,C⟩;simp only at I;subst I;have hv:lexLt U G=decide (items.size<Y.size):=by
    cases T with
    |nil =>
     cases N with
     |nil =>
      simp only[Eh] at J;rw[fr];exact(Co li).symm
     |cons c u hw =>
      simp only[Eh,Bv] at J;rw[gr];exact(Bm li).symm
    |cons a t hv =>
     cases N with
     |nil =>
      simp only[Eh,Bv] at J;rw[gt];exact(Co li).symm
     |cons c u hw =>
      rw[Im] at O;cases O
   rw[hv] at C
   wp_walk
   exact⟨_,rfl,by simpa [Kt] using C⟩
  case h =>
   exact⟨rfl,rfl,items.toList,Y.toList,z,o,rfl,hi,hj,by lia,h⟩
end
section
variable {prog:Bo}{w:Cd}{A:Bu}{E:ab}{s:Ah}
theorem nk {l b:Af}{Y:Ay Ad}{N O:Aa Aj}(u:Ri s.heap l items)(k:Ri s.heap b Y)(hi:Ir items.toList N)(M:Ir Y.toList O)
  (y:A.units<Ed) (h:Q (.bool (lexLt N O)) s):Aq (Au prog w) A (Ci .Lt (.ref l) (.ref b)) Q E s:=by
 obtain⟨⟨cls,z,data,sl⟩,T,H,n,I⟩:=id u;obtain⟨⟨L,C,data2,B⟩,U,J,j,G⟩:=id k;simp only at H I J G;subst H I J G;exact Pk (op:=.Lt) ⟨_,T,rfl⟩ ⟨_,U,rfl⟩ Vu Uw (Ud _ _) (sO l b items Y n j z C sl B N O hi M)
  ⟨T,U,show Hm (lexLt N O)≠Qo/\Q (.bool (lexLt N O)) s from⟨(λx=>nomatch x),h⟩⟩ y
theorem rj {t b:Af}{vs Y:ag}(z:Ri s.heap t vs.toArray)(j:Ri s.heap b Y.toArray)(hv:vs≠[])
  (h1:Y=[]->Q (.ref t) s) (h2:Y≠[]->Q (.ref s.heap.objs.size) { s with heap:=s.heap.push { cls:=.type "tuple",data:=.seq (vs++Y).toArray } })
  (hsz:vs.length+Y.length<=sizeLine):Aq (Au prog w) A (Ew .Add (.ref t) (.ref b)) Q E s:=by
 obtain⟨⟨cls,L,data,sl⟩,B,M,n,H⟩:=id z;obtain⟨⟨I,N,data2,O⟩,J,U,T,G⟩:=id j;simp only at M H U G;subst M H U G;have e:vs.toArray++Y.toArray=(vs++Y).toArray:=by simp
 by_cases C:Y=[]
 .exact Yx ⟨_,B,rfl⟩ ⟨_,J,rfl⟩ Tx Xr Pl Oo (Od _ _)
   (tuple_addW1 t b vs.toArray Y.toArray n T L N sl O (by simpa using hv) (by simp[C])) ⟨B,J,h1 C⟩
 .refine Yx ⟨_,B,rfl⟩ ⟨_,J,rfl⟩ Tx Xr Pl Oo (Od _ _)
   (tuple_addW2 t b vs.toArray Y.toArray n T L N sl O (by simpa using hv) (by simpa using C) (by rw[Bt,Bt];exact hsz)) ⟨B,J,?_⟩
  rw[e];exact h2 C
noncomputable def cg (n d:Ag):An Aj->Ag
 |none=>d
 |some v=>if v<0 then (v+(n:Aj)).toNat else min v.toNat n
theorem pp (n d:Ag):cg n d none=d:=rfl
theorem qy (n d k:Ag):cg n d (Ab (k:Aj))=min k n:=by
 show (if (k:Aj)<0 then ((k:Aj)+(n:Aj)).toNat else min (k:Aj).toNat n)=min k n
 rw[Bh li,Ez]
theorem HI (n d:Ag)(Y:d<=n)(o:An Aj):cg n d o<=n:=by
 cases o with
 |none=>exact Y
 |some v =>
  show (if v<0 then (v+(n:Aj)).toNat else min v.toNat n)<=n
  by_cases hv:v<0
  .rw[Bi hv];lia
  .rw[Bh hv];exact Nat.min_le_right _ _
theorem aP (v:Aj)(n d:Ag):(if v<0 then max (v+(n:Aj)) 0 else min v (n:Aj))=((cg n d (Ab v):Ag):Aj):=by
 show (if v<0 then max (v+(n:Aj)) 0 else min v (n:Aj))=(((if v<0 then (v+(n:Aj)).toNat else min v.toNat n):Ag):Aj)
 by_cases hv:v<0
 .simp only[Bi hv];lia
 .simp only[Bh hv];lia
theorem oU (lo hi:An Aj)(n:Ag):Ng lo hi 1 (n:Aj)=(((cg n 0 lo:Ag):Aj),((cg n n hi:Ag):Aj)):=by
 have Y:¬ ((1:Aj)<0):=by lia
 unfold Ng;simp only[Y,Ds];refine Np ?_ ?_
 .cases lo with
  |none=>rfl
  |some v=>exact aP v n 0
 .cases hi with
  |none=>rfl
  |some v=>exact aP v n n
theorem Z7 (i j:Ag):Jz (i:Aj) (j:Aj) 1=j-i:=by
 unfold Jz;have Y:(1:Aj)>0:=by lia
 simp only[Y,Dp,Int.ediv_one]
 split <;> lia
theorem nJ {v:Ad}{o:An Aj}{Q:An Aj->Ah->Prop}(p:Sd v o)(h:Q o s):Aq (Au prog w) A (Builtin.Slice.slicePartIndex v) Q E s:=by
 cases p with
 |none=>exact slicePart_none h
 |int i t=>exact slicePart_int h
theorem jP {sl:Af}{G U:Ad}{n:Ag}{Q:Aj × Aj × Ag->Ah->Prop}(hs:s.heap.IsSliceOf sl G U .none)(pl:Sd G lo)(N:Sd U hi)
  (h:Q (((cg n 0 lo:Ag):Aj),1,cg n n hi-cg n 0 lo) s):Aq (Au prog w) A (Se (.ref sl) (pure (n:Aj))) Q E s:=by
 obtain⟨os,J,O,Y⟩:=id hs;unfold Se Builtin.Slice.sliceFields;refine Ac (Ac (Ei J Y (x:=G) rfl (Ac (Ei J Y (x:=U) rfl (Ac (Ei J Y (x:=.none) rfl (Am ?_)))))));refine Ac (slicePart_none ?_);show Aq _ _ (if ((1:Aj) == 0)=true then _ else _) _ _ s
 rw[Bh (by decide)]
 refine Ac (nJ pl (Ac (nJ N (Ac (Am ?_)))));show Aq _ _ (match Ng lo hi 1 (n:Aj) with|(lo,hi)=>pure (lo,(1:Aj),Jz lo hi 1)) _ _ s
 rw[oU lo hi n];show Aq _ _ (pure (((cg n 0 lo:Ag):Aj),(1:Aj),Jz ((cg n 0 lo:Ag):Aj) ((cg n n hi:Ag):Aj) 1)) _ _ s;rw[Z7];exact Am h
theorem JI (xs:Ay Ad)(i k:Ag):((Cg k).filterMap λ(m:Ag)=>xs[((i:Aj)+(m:Aj)*1).toNat]?).toArray=((xs.toList.drop i).take k).toArray:=by
 have e:(λ(m:Ag)=>xs[((i:Aj)+(m:Aj)*1).toNat]?)=λm=>xs[i+m]?:=by
  funext m
  have:((i:Aj)+(m:Aj)*1).toNat=i+m:=by lia
  rw[this]
 rw[e];have:=pick_run xs i k;rw[List.filterMap_map] at this;have Y:((λx=>xs[x]?)∘λx=>i+x)=λm=>xs[i+m]?:=rfl;rw[Y] at this;rw[this]
theorem ix {t sl:Af}{C B:Ad}(J:Ri s.heap t items)(hs:s.heap.IsSliceOf sl C B .none)(pl:Sd C lo)(L:Sd B hi)
  (hw:¬ (cg items.size 0 lo=0/\cg items.size items.size hi=items.size))
  (h:Q (.ref s.heap.objs.size) { s with heap:=s.heap.push { cls:=.type "tuple",data:=.seq ((items.toList.drop (cg items.size 0 lo)).take (cg items.size items.size hi-cg items.size 0 lo)).toArray } })
  (hsz:items.size<=sizeLine):Aq (Au prog w) A (Op (.ref t) (.ref sl)) Q E s:=by
 have Y:sizeOk (.seq ((items.toList.drop (cg items.size 0 lo)).take (cg items.size items.size hi-cg items.size 0 lo)).toArray):=by
  show ((items.toList.drop (cg items.size 0 lo)).take (cg items.size items.size hi-cg items.size 0 lo)).toArray.size<=sizeLine;rw[Bt,Hg,Ku,Bx]
  lia
 have I:cg items.size items.size hi<=items.size:=HI _ _ (Av _) hi;obtain⟨os,U,O,T⟩:=id hs;have N:s.TypeIs (.ref sl) "slice":=⟨os,U,O⟩;unfold Op
 try with_reducible refine EQ ?_
 first|refine Ac (Am ?_)|skip
 refine Ac (Zo J.typeIs (by decide) ?_)
 refine Ac (Dw (name:=Hk "__getitem__") J.typeIs Fk
  (Dv Fk J.typeIs Xs ?_ (Yo _ _)))
 show Aq _ _ (Ms (.ref t) >>= _) _ _ s;refine Ac (tupleItemsOf_ J ?_);refine Ac (Oq N ?_);rw[Bi (by decide)]
 refine Ac (jP hs pl L ?_);have G:¬ ((((cg items.size 0 lo:Ag):Aj) == 0&&(1:Aj) == 1&&(cg items.size items.size hi-cg items.size 0 lo) == items.size)=true):=by
  intro q;rw[Az,Az] at q;have H:((cg items.size 0 lo:Ag):Aj)=0:=eq_of_beq q.1.1;have M:cg items.size items.size hi-cg items.size 0 lo=items.size:=eq_of_beq q.2;exact hw ⟨by lia,by lia⟩
 show Aq _ _ (if (((cg items.size 0 lo:Ag):Aj) == 0&&(1:Aj) == 1&&(cg items.size items.size hi-cg items.size 0 lo) == items.size)=true then _ else _) _ _ s
 rw[Bh G,JI]
 first
  |exact Ac (m:=Kj _) (Dt (Am ⟨_,rfl,Am h⟩) Y)
  |exact Ac (m:=Kj _) (Dt (Ac (Am (Am ⟨_,rfl,Am h⟩))) Y)
  |exact Ac (Ac (m:=Kj _) (Dt (Am (Am ⟨_,rfl,Am h⟩)) Y))
  |exact Ac (Ac (m:=Kj _) (Dt (Am ⟨_,rfl,Am h⟩) Y))
end
end _H
namespace _L
abbrev TO:=St->Hp->(An Aj->Hp->Prop)->Prop
def PO (X:Cx)(e:An Bz)(t:TO):Prop:=
 ∀ (J:aa) (s:Ah) (σ : St) (H:Hp) (Q:An Aj->Hp->Prop),Inv X J σ H s->t σ H Q ->
  Aq (Au X.prog X.w) X.A (evalPart e X.env) (λu U=>∃ o Y,Inv X J σ Y U/\Sd u o/\Q o Y) X.xe s
def N1:TO:=λ_ H Q=>Q none H
def ON (t:TE):TO:=λσ H Q=>t σ H λx Y=>∃ i,x=.int i/\Q (Ab i) Y
theorem QD {Q:Aa Aj}:∀ {us:ag},qI (Q.map V.int) us->Ir us Q:=by
 induction Q with
 |nil=>intro us r;rw[Yy] at r;cases r;exact .nil
 |cons n Q J =>
  intro us r;rw[Df] at r;cases r with
  |cons U Y =>
   obtain⟨t,e⟩:=U;subst e;exact .cons n t (J Y)
section
variable {X:Cx}{e:Bz}{te:TE}{lo hi:An Bz}{tl th:TO}{ao p2:Fn}
theorem M8:PO X none N1:=by
 intro Y s σ H Q I h;rw[evalPart_none];exact Am ⟨none,H,I,.none,h⟩
theorem M9 (h:PE X e te):PO X (Ab e) (ON te):=by
 intro U s σ H Q I J;rw[evalPart_some];refine bq (h U s σ H _ I J) λu C ⟨x,G,N,O,Y⟩=>?_;obtain⟨i,rfl,q⟩:=Y;obtain⟨t,rfl⟩:=O;exact⟨Ab i,G,N,.int i t,q⟩
def ue (X:Cx)(r:V->An Aj->An Aj->Hp->VK->Prop):Prop:=
 ∀ (J:aa) (s:Ah) (σ : St) (H:Hp) (x:V) (v Y U:Ad) (lo hi:An Aj) (sl:Af) (Q:VK),Inv X J σ H s->qG x v->s.heap.IsSliceOf sl Y U .none->Sd Y lo->Sd U hi->r x lo hi H Q ->
  ∃ T id,typeLookup (.type T) "__getitem__" = pure (Ab (.builtin id))/\s.TypeIs v T/\Aq (Au X.prog X.w) X.A (Op v (.ref sl)) (EP X J σ Q) X.xe s
theorem ue.or {r U:V->An Aj->An Aj->Hp->VK->Prop}(h:ue X r)(h':ue X U):ue X (λx lo hi H Q=>r x lo hi H Q\/U x lo hi H Q):=by
 intro N s σ H x v G O lo hi sl Q I J hs pl Y q;rcases q with q|q
 .exact h N s σ H x v G O lo hi sl Q I J hs pl Y q
 .exact h' N s σ H x v G O lo hi sl Q I J hs pl Y q
def _c (r:V->An Aj->An Aj->Hp->VK->Prop)(te:TE)(tl th:TO):TE:=λσ H Q=>te σ H λx Y=>tl σ Y λl J=>th σ J λu U=>r x l u U Q
theorem JG {r:V->An Aj->An Aj->Hp->VK->Prop}(L:ue X r)(B:PE X e te)(k:PO X lo tl)(y:PO X hi th):PE X (.Subscript e (.Slice lo hi none p2) ao) (_c r te tl th):=by
 intro J s σ H Q I h;refine Subscript_ (bq (B J s σ H _ I h) λv E ⟨x,f,t,o,M⟩=>?_);refine wpAny_Slice (bq (k J E σ f _ t M) λU C ⟨l,m,O,pl,c⟩=>bq (y J C σ m _ O c) λG Y ⟨u,N,z,p,w⟩=>?_);rw[evalPart_none];refine Am ?_;have d:Inv X J σ N { Y with heap:=Y.heap.push { cls:=.type "slice",data:=.fields #[U,G,.none] } }:=z.kept (t':=Y.toks) λb n q=>Ai _ q
 obtain⟨T,id,g,A,j⟩:=L J { Y with heap:=Y.heap.push { cls:=.type "slice",data:=.fields #[U,G,.none] } } σ N x v U G l u Y.heap.objs.size Q d o (AbH ..) pl p w
 show Aq (Au X.prog X.w) X.A (Sr e (.Slice lo hi none p2) v (.ref Y.heap.objs.size)) (EP X J σ Q) X.xe { Y with heap:=Y.heap.push { cls:=.type "slice",data:=.fields #[U,G,.none] } }
 exact tail_any (ops:=[.ref Y.heap.objs.size,v]) A g j (by with_unfolding_all rfl)
def bC (xs:Aa V)(lo hi:An Aj):Aa V:=(xs.drop (_H.cg xs.length 0 lo)).take (_H.cg xs.length xs.length hi-_H.cg xs.length 0 lo)
theorem fS (xs:Aa V)(lo hi:An Aj):(bC xs lo hi).length<=xs.length:=by
 unfold bC;rw[Hg,Ku]
 lia
def _B (K:Ak):V->An Aj->An Aj->Hp->VK->Prop:=λx lo hi H Q=>∃ a Y,x=.ref a/\iq K H a Y /\
 ¬ (_H.cg Y.length 0 lo=0/\_H.cg Y.length Y.length hi=Y.length)/\∀ p,H p=none->Q (.ref p) (b_ H p (.tup (bC Y lo hi)))
theorem HN:ue X (_B X.K):=by
 intro E s σ H x v T M lo hi sl Q I O hs pl N h;obtain⟨a,J,rfl,B,C,q⟩:=h;cases O;obtain⟨L,r,U,G⟩:=I.tuple B;have Y:L.toArray.size=J.length:=by rw[Bt];exact r.length.symm
 refine⟨"tuple",_,Fk.lookup,U.typeIs,?_⟩;refine _H.ix U hs pl N (by rw[Y];exact C) ?_ (by rw[Y];exact G)
 rw[Y];refine⟨.ref s.heap.objs.size,_,I.laid (t':=s.toks) (o:=.tup (bC J lo hi)) (λb A q=>Ai _ q) (Av _) ?_,rfl,q _ (I.hok.fresh (Av _))⟩;exact⟨Ch (fS J lo hi) G,_,(r.drop (_H.cg J.length 0 lo)).take (_H.cg J.length J.length hi-_H.cg J.length 0 lo),Zj _ _⟩
end
end _L
namespace _L
variable {ai:aa}{s:Ah}{H:Hp}{σ:St}
noncomputable def og (n:Ag)(i:Aj):An Ag:=if 0<=i then (if i<n then Ab i.toNat else none) else if -(n:Aj)<=i then Ab (i+n).toNat else none
def ky {α:Type}(xs:Aa α)(i:Aj):An α:=(og xs.length i).bind λj=>xs[j]?
theorem iA {n:Ag}{i:Aj}{j:Ag}(h:og n i=Ab j):Zp i n=Ab j/\j<n /\ -(n:Aj)<=i/\i<n:=by
 unfold og at h;by_cases Y:0<=i
 .rw[Bi Y] at h
  by_cases Q:i<n
  .rw[Bi Q] at h
   have e:i.toNat=j:=Dc h;exact⟨by rw[wP Y Q,e],by lia,by lia,Q⟩
  .rw[Bh Q] at h;cases h
 .rw[Bh Y] at h
  by_cases Q : -(n:Aj)<=i
  .rw[Bi Q] at h
   have e:(i+n).toNat=j:=Dc h;exact⟨by rw[seqIndex_neg li Q,e],by lia,Q,by lia⟩
  .rw[Bh Q] at h;cases h
theorem aK {α:Type}{xs:Aa α}{i:Aj}{v:α}(h:ky xs i=Ab v):∃ j,Zp i xs.length=Ab j/\xs[j]? = Ab v/\j<xs.length /\ -(xs.length:Aj)<=i/\i<xs.length:=by
 unfold ky at h;cases e:og xs.length i with
 |none=>rw[e] at h;cases h
 |some j =>
  rw[e] at h;obtain⟨Q,Y,J,U⟩:=iA e;exact⟨j,Q,h,Y,J,U⟩
def nM (b:Bz):Prop:=∀ o i,subscripted b false o i=operate [o,i] (Op o i)
def uh (X:Cx)(r:R2):Prop:=
 ∀ (J Y:Bz) (ai:aa) (s:Ah) (σ : St) (H:Hp) (x y:V) (v u:Ad) (Q:VK),Inv X ai σ H s->qG x v->qG y u->r x y H Q ->
  subscripted Y false v u=operate [v,u] (Op v u)->Aq (Au X.prog X.w) X.A (Sr J Y v u) (EP X ai σ Q) X.xe s
def wu (X:Cx)(id:Ex)(r:V->Aa V->Hp->VK->Prop):Prop:=
 ∀ (ai:aa) (s:Ah) (σ : St) (H:Hp) (x:V) (J:Aa V) (v:Ad) (Y:ag) (Q:VK),Inv X ai σ H s->qG x v->qI J Y->r x J H Q ->
  Aq (Au X.prog X.w) X.A (call (.builtin id) (v::Y)) (EP X ai σ Q) X.xe s
section
variable {X:Cx}{a b:Bz}{ta tb:TE}{ao:Fn}
theorem uh.or {r N:R2}(h:uh X r)(h':uh X N):uh X (λx y H Q=>r x y H Q\/N x y H Q):=by
 intro Y J ai s σ H x y v u Q I U G q hs;rcases q with q|q
 .exact h Y J ai s σ H x y v u Q I U G q hs
 .exact h' Y J ai s σ H x y v u Q I U G q hs
theorem wu.or {id:Ex}{r U:V->Aa V->Hp->VK->Prop}(h:wu X id r)(h':wu X id U):wu X id (λx xs H Q=>r x xs H Q\/U x xs H Q):=by
 intro ai s σ H x xs v Y Q I J rs q;rcases q with q|q
 .exact h ai s σ H x xs v Y Q I J rs q
 .exact h' ai s σ H x xs v Y Q I J rs q
theorem IX {r:R2}(U:uh X r)(N:PE X a ta)(B:PE X b tb)(hs:nM b):PE X (.Subscript a b ao) (_d r ta tb):=by
 intro ai s σ H Q I h;exact Subscript_ (qAZ N B I h λv u J x y C Y G O q=>U a b ai J σ C x y v u Q Y G O q (hs _ _))
def qA9 (K:Ak):R2:=λx y H Q=>∃ p Y i v,x=.ref p/\y=.int i/\ji K H p Y/\ky Y i=Ab v/\Q v H
def _F (K:Ak):R2:=λx y H Q=>∃ p Y i v,x=.ref p/\y=.int i/\iq K H p Y/\ky Y i=Ab v/\Q v H
theorem iB:uh X (qA9 X.K):=by
 intro U G ai s σ H x y v u Q I E k h hs;obtain⟨p,m,i,z,rfl,rfl,o,L,q⟩:=h;cases E;obtain⟨t,rfl⟩:=k;obtain⟨g,r,pl,f⟩:=I.list o;obtain⟨j,J,A,n,c,M⟩:=aK L;obtain⟨w,B,O⟩:=r.get A;have l:=r.length;have d:=bN;have Y:EP X ai σ Q w s:=⟨z,H,I,O,q⟩;by_cases C:0<=i
 .have N:i.toNat=j:=by
   rw[wP C M] at J;exact Dc J
  exact item_listR pl.isList C li (by rw[N];simpa using B) Y hs
 .have N:(i+(g.toArray.size:Aj)).toNat=j:=by
   rw[seqIndex_neg li c] at J;rw[Bt,<- l];exact Dc J
  exact Ux (x:=w) pl.isList.typeIs Zq.lookup
   (wpAny_getItem_list_neg (Q:=λr T=>r=w/\EP X ai σ Q r T) pl.isList li (by rw[Bt] <;> lia) li (by rw[N];simpa using B) ⟨rfl,Y⟩) hs
theorem SI:uh X (_F X.K):=by
 intro Y J ai s σ H x y v u Q I B T h hs;obtain⟨p,g,i,z,rfl,rfl,A,O,q⟩:=h;cases B;obtain⟨t,rfl⟩:=T;obtain⟨d,r,pl,l⟩:=I.tuple A;obtain⟨j,C,L,c,f,k⟩:=aK O;obtain⟨w,E,G⟩:=r.get L;have M:=r.length;have o:=bN;have U:EP X ai σ Q w s:=⟨z,H,I,G,q⟩;exact Ux (x:=w) pl.typeIs slot_tuple_getitem.lookup
  (getItem_tuple (j:=j) (Q:=λr N=>r=w/\EP X ai σ Q r N) pl li li (by rw[Bt,<- M];exact C) (by simpa using E) ⟨rfl,U⟩) hs
theorem QV (am:ag)(n j:Ag)(u:Ad):Fc (·.setIfInBounds j u) { cls:=.type "list",data:=.seq am.toArray n } = { cls:=.type "list",data:=.seq (am.set j u).toArray n }:=by
 simp[Fc]
theorem Inv.lst {p:Af}{xs:Aa V}(I:Inv X ai σ H s)(h:H p=Ab (.lst xs)) :
  ∃ (am:ag) (n:Ag),qI xs am/\s.heap.get? p=Ab { cls:=.type "list",data:=.seq am.toArray n } /\ xs.length<=sizeLine:=by
 obtain⟨z,am,n,r,e⟩:=I.hok p _ h;exact⟨am,n,r,e,z⟩
theorem Inv.lstUpd {p:Af}{xs Y:Aa V}{am iw:ag}{n Q:Ag}{f:Cw->Cw}(I:Inv X ai σ H s)(h:H p=Ab (.lst xs))
  (U:s.heap.get? p=Ab { cls:=.type "list",data:=.seq am.toArray n }) (J:f { cls:=.type "list",data:=.seq am.toArray n } = { cls:=.type "list",data:=.seq iw.toArray Q }) (r:qI Y iw) (hz:Y.length<=sizeLine) (t:Ag) :
  Inv X ai σ (b_ H p (.lst Y)) { s with heap:=s.heap.update p f,toks:=t }:=by
 have e:(s.heap.update p f).get? p=Ab { cls:=.type "list",data:=.seq iw.toArray Q }:=by
  rw[Ev f U (by rw[J] <;> rfl),J]
 refine I.write (x:=p) (e:=p) (by rw[h];trivial) (.inl rfl) (λb u G q=>(Dq _ _ (Gb G)).trans q) ⟨_,e⟩ ?_
 exact⟨hz,iw,Q,r,e⟩
def OC:V->V->V->Hp->(Hp->Prop)->Prop:=λo i v H Q=>∃ p Y k j,o=.ref p/\i=.int k/\H p=Ab (.lst Y)/\og Y.length k=Ab j/\Q (b_ H p (.lst (Y.set j v)))
theorem KD:rC X OC:=by
 intro ai s σ H o i v c d u Q I E A z h;obtain⟨p,y,k,j,rfl,rfl,O,M,q⟩:=h;cases E;obtain⟨t,rfl⟩:=A;obtain⟨L,n,r,J,w⟩:=I.lst O;obtain⟨Y,l,B,T⟩:=iA M;have U:=r.length;have g:=bN;have C:Inv X ai σ (b_ H p (.lst (y.set j v))) { s with heap:=s.heap.update p (Fc (·.setIfInBounds j u)) }:=
  I.lstUpd O J (QV L n j u) (r.set z j) (by rw[Uy];exact w) s.toks
 by_cases N:0<=k
 .have G:k.toNat=j:=by
   rw[wP N T] at Y;exact Dc Y
  exact PySem.W.ki_setAt J N li (by rw[Bt,<- U];exact T) (by rw[G];exact⟨_,C,q⟩)
 .have G:(k+(L.toArray.size:Aj)).toNat=j:=by
   rw[seqIndex_neg li B] at Y;rw[Bt,<- U];exact Dc Y
  exact PySem.W.ki_setBack J li (by rw[Bt,<- U];exact B) li (by rw[G];exact⟨_,C,q⟩)
theorem cJ (lo hi:An Aj)(n:Ag):(Nq lo hi none n).1=((_H.cg n 0 lo:Ag):Aj)/\(Nq lo hi none n).2.1=((_H.cg n n hi:Ag):Aj)/\(Nq lo hi none n).2.2=1:=by
 refine⟨?_,?_,rfl⟩
 .cases lo with
  |none=>simp[Nq,_H.cg]
  |some i =>
   simp only[Nq,_H.cg,wS,show (1:Aj)>0 by decide,Dp]
   by_cases h:i<0
   .simp only[h,Dp] <;> lia
   .simp only[h,Ds] <;> lia
 .cases hi with
  |none=>simp[Nq,_H.cg]
  |some i =>
   simp only[Nq,_H.cg,wS,show (1:Aj)>0 by decide,Dp]
   by_cases h:i<0
   .simp only[h,Dp] <;> lia
   .simp only[h,Ds] <;> lia
theorem sM (am:ag)(lo hi:An Aj):slicePick am.toArray lo hi none=((am.drop (_H.cg am.length 0 lo)).take (_H.cg am.length am.length hi-_H.cg am.length 0 lo)).toArray:=by
 obtain⟨Y,Q,J⟩:=cJ lo hi am.toArray.size;unfold slicePick;rw[Y,Q,J];simp only[sliceRange_one,pick_run,Bt] <;> rfl
def _C (K:Ak):V->An Aj->An Aj->Hp->VK->Prop:=λx lo J H Q=>∃ a Y,x=.ref a/\ji K H a Y/\∀ p,H p=none->Q (.ref p) (b_ H p (.lst (bC Y lo J)))
theorem o6:ue X (_C X.K):=by
 intro ai s σ H x v L E lo U sl Q I O hs pl N h;obtain⟨a,Y,rfl,B,q⟩:=h;cases O;obtain⟨A,r,G,C⟩:=I.list B;have J:=r.length;refine⟨"list",_,Zq.lookup,G.isList.typeIs,?_⟩;refine wpAny_getItem_list_slice G.isList hs pl N .none (by simp) ?_ (by rw[Bt] <;> lia)
 rw[sM,<- J];refine⟨.ref s.heap.objs.size,_,I.laid (t':=s.toks) (o:=.lst (bC Y lo U)) (λb T q=>Ai _ q) (Av _) ?_,rfl,q _ (I.hok.fresh (Av _))⟩;exact⟨Ch (fS Y lo U) C,_,0,(r.drop (_H.cg Y.length 0 lo)).take (_H.cg Y.length Y.length U-_H.cg Y.length 0 lo),Be _ rfl⟩
theorem jV.or {f:Ad}{r J:Aa V->Hp->VK->Prop}(h:jV X f r)(h':jV X f J):jV X f (λxs H Q=>r xs H Q\/J xs H Q):=by
 intro ai s σ H xs Y Q I rs q;rcases q with q|q
 .exact h ai s σ H xs Y Q I rs q
 .exact h' ai s σ H xs Y Q I rs q
theorem b9:jV X (.type "list") (λxs H Q=>∃ p N,xs=[.ref p]/\(ji X.K H p N\/iq X.K H p N)/\∀ l,H l=none->Q (.ref l) (b_ H l (.lst N))):=by
 intro ai s σ H xs z Q I r h;obtain⟨p,N,rfl,hq,q⟩:=h;obtain⟨u,rfl,w⟩:=kF r;cases w;have C:∀ (J:ag),qI N J->N.length<=sizeLine->∀ (Y:Cb) (G:Ag),(∀ b M,s.heap.get? b=Ab M->Y.get? b=Ab M) ->
   Y.get? s.heap.objs.size=Ab { cls:=.type "list",dict:=none,data:=.seq J.toArray G,slots:=#[] } -> EP X ai σ Q (.ref s.heap.objs.size) { s with heap:=Y }:=λJ U B Y G L e =>
  ⟨.ref s.heap.objs.size,_,I.laid (t':=s.toks) L (Av _) (show zM X.prog X.w _ Y _ (.lst N) from⟨B,J,G,U,e⟩),rfl,q _ (I.hok.fresh (Av _))⟩
 rcases hq with hq|hq
 .obtain⟨J,U,pl,B⟩:=I.list hq
  have O:=U.length;obtain⟨o,T,A,n,E⟩:=pl.isList;exact call_list_seq p (.inl rfl) T A E (λY G L e=>C J U B Y G L e) (by simp only[Bt] <;> lia)
 .obtain⟨J,U,pl,B⟩:=I.tuple hq
  have O:=U.length;obtain⟨o,T,A,n,E⟩:=pl;exact call_list_seq p (.inr rfl) T A E (λY G L e=>C J U B Y G L e) (by simp only[Bt] <;> lia)
theorem pX:jV X (.type "tuple") (λxs H Q=>∃ p Y,xs=[.ref p]/\((ji X.K H p Y/\∀ l,H l=none->Q (.ref l) (b_ H l (.tup Y)))\/(iq X.K H p Y/\Q (.ref p) H))):=by
 intro ai s σ H xs A Q I r h;obtain⟨p,Y,rfl,h⟩:=h;obtain⟨u,rfl,T⟩:=kF r;cases T;rcases h with⟨G,q⟩|⟨G,q⟩
 .obtain⟨N,U,pl,C⟩:=I.list G
  have O:=U.length;refine call_tuple_list pl.isList (λJ E=>?_) (by simp only[Bt] <;> lia)
  have B:Inv X ai σ H { s with heap:=J }:=I.kept (t':=s.toks) E
  have L:Inv X ai σ (b_ H J.objs.size (.tup Y)) { s with heap:=J.push { cls:=.type "tuple",data:=.seq N.toArray } }:=
   B.laid (t':=s.toks) (λb o e=>Ai _ e) (Av _) (show zM X.prog X.w _ _ _ (.tup Y) from⟨C,N,U,Zj _ _⟩)
  exact⟨.ref J.objs.size,_,L,rfl,q _ (B.hok.fresh (Av _))⟩
 .obtain⟨N,U,pl,C⟩:=I.tuple G
  exact call_tuple_same pl ⟨.ref p,H,I,rfl,q⟩
def zu (K:Ak)(T:Ex)(x:V)(H:Hp):Prop:=match x with
 |.str _=>T = "str"
 |.int _=>T = "int"
 |.ref p=>(T = "list" /\ ∃ Y,ji K H p Y)\/(T = "tuple" /\ ∃ o,K.lookup p=Ab o/\o.cls=.type "tuple" /\ o.dict=none) \/
   (T = "dict" /\ ((∃ Q,H p=Ab (.dK Q))\/∃ Q,H p=Ab (.dT Q)))\/(T = "set" /\ ∃ S n,H p=Ab (.set S n))
 |_=>Ey
theorem YM {T:Ex}{x:V}{v:Ad}(I:Inv X ai σ H s)(r:qG x v)(ty:zu X.K T x H) :
  s.TypeIs v T/\∀ a,v=.ref a->∃ N,s.heap.get? a=Ab N/\N.dict=none:=by
 cases x with
 |str z =>
  obtain⟨t,rfl⟩:=r;cases (show T = "str" from ty)
  exact⟨typeIs_str s z t,λ_ e=>nomatch e⟩
 |int i =>
  obtain⟨t,rfl⟩:=r;cases (show T = "int" from ty)
  exact⟨typeIs_int s i t,λ_ e=>nomatch e⟩
 |ref p =>
  cases r;rcases ty with⟨rfl,B,O⟩|⟨rfl,o,Q,C,U⟩|⟨rfl,Q⟩|⟨rfl,S,n,Q⟩
  .obtain⟨L,_,pl,_⟩:=I.list O
   refine⟨pl.isList.typeIs,λa e=>?_⟩;cases e;obtain⟨o,n,e,c,U,_⟩:=pl;exact⟨o,e,U⟩
  .refine⟨⟨o,I.kIn p o Q,C⟩,λa e=>?_⟩
   cases e;exact⟨o,I.kIn _ o Q,U⟩
  .have z:∃ o,s.heap.get? p=Ab o/\o.ExactDict:=by
    rcases Q with⟨G,Q⟩|⟨G,Q⟩
    .obtain⟨_,_,_,_,o,_,_,e,Y,_⟩:=I.hok p _ Q
     exact⟨o,e,Y⟩
    .obtain⟨_,_,_,_,o,_,_,e,Y,_⟩:=I.hok p _ Q
     exact⟨o,e,Y⟩
   obtain⟨o,e,Y⟩:=z;refine⟨⟨o,e,Y.1⟩,λa J=>?_⟩;cases J;exact⟨o,e,Y.2.1⟩
  .obtain⟨o,_,_,_,e,Y,_⟩:=I.hok p _ Q
   refine⟨⟨o,e,Y.1⟩,λa J=>?_⟩;cases J;exact⟨o,e,Y.2.1⟩
 |_=>exact Ar ty
variable {o e:Bz}{es:Aa Bz}{to:TE}{t:TA}{name:Aw}{de cu:Fn}{T id:Ex}{r:V->Aa V->Hp->VK->Prop}
/- xs.append(e),list.index on a module's tuple .. are wu facts of 06m -/
end
end _L
namespace _L
variable {us:ag}
def Q_ (X:Cx)(id:Ex)(r:V->Aa V->Hp->VK->Prop):Prop:=
 ∀ (Y:aa) (s:Ah) (σ : St) (H:Hp) (x:V) (J:Aa V) (v:Ad) (us:ag) (Q:VK),Inv X Y σ H s->qG x v->qI J us->r x J H Q ->
  Aq (Au X.prog X.w) X.A (call (.builtin id) (v::us)) (EP X Y σ Q) X.xe s
theorem qI.one {x:V}(h:qI [x] us):∃ u,us=[u]/\qG x u:=kF h
theorem qI.two {x y:V}(h:qI [x,y] us):∃ u v,us=[u,v]/\qG x u/\qG y v:=ZM h
theorem qI.eraseIdx:∀ {xs:Aa V} {us:ag} (i:Ag),qI xs us->qI (xs.eraseIdx i) (us.eraseIdx i)
 |_,_,_,.nil=>.nil
 |_,_,0,.cons _ t=>t
 |_,_,i+1,.cons r t=>.cons r (qI.eraseIdx i t)
theorem dS {α:Type}:∀ (l:Aa α) (i:Ag),(l.eraseIdx i).length<=l.length
 |[],_=>Av _
 |_::_,0=>Sf _
 |_::r,i+1=>wT (dS r i)
section
variable {X:Cx}{ai:aa}{σ : St}{H:Hp}{s:Ah}{l b:Af}{xs ys zs:Aa V}
theorem Inv.lset {am iw:ag}{n:Ag}{f:Ay Ad->Ay Ad}{t':Ag}(I:Inv X ai σ H s)(U:H l=Ab (.lst xs))
  (e:s.heap.get? l=Ab { cls:=.type "list",data:=.seq am.toArray n }) (Q:f am.toArray=iw.toArray) (hv:qI ys iw) (hz:ys.length<=sizeLine) :
  Inv X ai σ (b_ H l (.lst ys)) { s with heap:=s.heap.update l (Fc f),toks:=t' }:=by
 have q:=xL e f;rw[Q] at q;refine I.write (x:=l) (e:=l) (by rw[U];exact trivial) (.inl rfl) (λG u J Y=>(Dq s.heap (Fc f) (Gb J)).trans Y) ⟨_,q⟩ ?_
 exact⟨hz,iw,_,hv,q⟩
theorem Inv.lstM (I:Inv X ai σ H s)(Q:H l=Ab (.lst xs)):xs.length<=sizeLine/\∃ (am:ag) (n:Ag),qI xs am/\xs.length=am.length/\s.heap.get? l=Ab { cls:=.type "list",data:=.seq am.toArray n }:=by
 obtain⟨z,am,n,r,e⟩:=I.hok l _ Q;exact⟨z,am,n,r,r.length,e⟩
end
section
variable {X:Cx}
def MY:V->Aa V->Hp->VK->Prop:=λx J H Q=>∃ l Y y,x=.ref l/\J=[y]/\H l=Ab (.lst Y)/\Y.length<sizeLine/\Q .non (b_ H l (.lst (Y++[y])))
theorem WK:Q_ X "list.append" MY:=by
 intro B s σ H x O v us Q I G N h;obtain⟨l,L,y,rfl,rfl,J,C,q⟩:=h;cases G;obtain⟨u,rfl,U⟩:=N.one;obtain⟨z,Y,n,r,T,e⟩:=I.lstM J;refine call_meets Yp ⟨_,e,rfl⟩ Xt (WF _ _) (Zr l Y.toArray n u (by rw[Bt];lia)) ⟨e,?_⟩
 refine⟨.non,_,I.lset (iw:=Y++[u]) J e (by simp) (r.append (.cons U .nil)) ?_,rfl,q⟩
 rw[By,Ia]
 lia
def HD:V->Aa V->Hp->VK->Prop:=λx J H Q=>∃ l Y i k y,x=.ref l/\J=[.int i]/\H l=Ab (.lst Y) /\ -(2 ^ 63)<=i/\i<2 ^ 63/\Zp i Y.length=Ab k/\Y[k]? = Ab y/\Q y (b_ H l (.lst (Y.eraseIdx k)))
theorem J6:Q_ X "list.pop" HD:=by
 intro o s σ H x j v us Q I O T h;obtain⟨l,A,i,k,y,rfl,rfl,U,N,C,E,B,q⟩:=h;cases O;obtain⟨u,rfl,G⟩:=T.one;obtain⟨t,rfl⟩:=G;obtain⟨z,Y,n,r,M,e⟩:=I.lstM U;obtain⟨w,L,J⟩:=r.get B;refine call_meets F.slot_list_pop ⟨_,e,rfl⟩ F.entry_list_pop (F.args_list_pop_2 _ _)
  (MeetsSeq.list_pop_at l Y.toArray n i t k w (fitsIndex_both N C) (by rw[Bt,<- M];exact E) (by rw[<- Bp];exact L) (by rw[Bt];lia)) ⟨e,?_⟩
 refine⟨y,_,I.lset (iw:=Y.eraseIdx k) U e ?_ (r.eraseIdx k) ?_,J,q⟩
 .show Y.toArray.eraseIdxIfInBounds k=(Y.eraseIdx k).toArray
  rw[List.eraseIdxIfInBounds_toArray]
 .have:=dS A k
  lia
end
end _L
namespace _L
variable {xs:Aa (Aa bo × Af × Ad)}{Q:ab}{H':Hp}
section
variable {κ : Type}[No κ]
noncomputable def yJ (kvs:Aa (κ × V))(k:κ):An V:=(kvs.find? λY=>decide (Y.1=k)).map (·.2)
noncomputable def v3 (kvs:Aa (κ × V))(k:κ)(v:V):Aa (κ × V):=
 if (kvs.any λY=>decide (Y.1=k))=true then kvs.map (λY=>if Y.1=k then (Y.1,v) else Y) else kvs++[(k,v)]
theorem mW {p:κ × V}{r:Aa (κ × V)}{k:κ}(e:p.1=k):yJ (p::r) k=Ab p.2:=by simp[yJ,Fv,e]
theorem mV {p:κ × V}{r:Aa (κ × V)}{k:κ}(e:¬ p.1=k):yJ (p::r) k=yJ r k:=by simp[yJ,Fv,e]
theorem cR (k:κ):∀ kvs:Aa (κ × V),(kvs.any λY=>decide (Y.1=k))=(yJ kvs k).isSome
 |[]=>rfl
 |p::r=>by
  rw[Lr];by_cases e:p.1=k
  .simp only[mW e,Bm e,Bool.true_or,Yq]
  .rw[mV e,Co e,Bool.false_or];exact cR k r
theorem kK (kvs:Aa (κ × V))(k:κ)(v:V):(v3 kvs k v).length<=kvs.length+1:=by
 unfold v3
 split
 .rw[Ao];lia
 .rw[By,Bv,Eh];lia
theorem uZ.isSome_eq {o:An V}{u:An Ad}(r:uZ o u):o.isSome=u.isSome:=by
 cases o with
 |none=>cases u with
  |none=>rfl
  |some _=>exact(show Ey from r).elim
 |some _=>cases u with
  |none=>exact(show Ey from r).elim
  |some _=>rfl
theorem KV.val {kvs:Aa (κ × V)}{vs:Aa (κ × Ad)}(r:KV kvs vs)(k:κ):uZ (yJ kvs k) (Uz vs k):=by
 unfold KV at r
 induction r with
 |nil=>exact Jd
 |@cons p q O Y h t N =>
  obtain⟨U,G⟩:=h;by_cases e:p.1=k
  .have J:q.1=k:=U.symm.trans e
   have b:Uz (q::Y) k=Ab q.2:=by simp[Uz,Fv,J]
   rw[mW e,b];exact G
  .have J:¬ q.1=k:=λz=>e (U.trans z)
   have b:Uz (q::Y) k=Uz Y k:=by simp[Uz,Fv,J]
   rw[mV e,b];exact N
theorem KV.any {kvs:Aa (κ × V)}{vs:Aa (κ × Ad)}(r:KV kvs vs)(k:κ):(kvs.any λY=>decide (Y.1=k))=vs.any λY=>decide (Y.1=k):=by
 unfold KV at r
 induction r with
 |nil=>rfl
 |cons h t J=>rw[Lr,Lr,J,h.1]
theorem KV.repl {kvs:Aa (κ × V)}{vs:Aa (κ × Ad)}(r:KV kvs vs)(k:κ){y:V}{u:Ad}(G:qG y u) :
  KV (kvs.map λY=>if Y.1=k then (Y.1,y) else Y) (vs.map λY=>if Y.1=k then (Y.1,u) else Y):=by
 unfold KV at r ⊢
 induction r with
 |nil=>exact .nil
 |@cons p q C O h t N =>
  rw[Df,Df];refine .cons ?_ N;obtain⟨J,U⟩:=h;by_cases e:p.1=k
  .rw[Bi e,Bi (J.symm.trans e)];exact⟨J,G⟩
  .rw[Bh e,Bh (λz=>e (J.trans z))];exact⟨J,U⟩
theorem KV.put {kvs:Aa (κ × V)}{vs:Aa (κ × Ad)}(r:KV kvs vs)(k:κ){y:V}{u:Ad}(Y:qG y u):KV (v3 kvs k y) (stored vs k u):=by
 unfold v3 stored;rw[r.any k];by_cases e:(vs.any λJ=>decide (J.1=k))=true
 .rw[Bi e,Bi e];exact r.repl k Y
 .rw[Bh e,Bh e];exact Paired.snoc r ⟨rfl,Y⟩
theorem KV.length {kvs:Aa (κ × V)}{vs:Aa (κ × Ad)}(r:KV kvs vs):kvs.length=vs.length:=Paired.length r
end
theorem gX {P:Bo}{w:Cd}{k:bo}{u:Ad}(r:qG (kV k) u):(zT P w).is k u=true:=by
 cases k with
 |inl i=>obtain⟨t,e⟩:=(show ∃ t,u=Vp i t from r);subst e;exact cY P w i t
 |inr x=>obtain⟨t,e⟩:=(show ∃ t,u=Zg x t from r);subst e;exact cZ P w x t
theorem dR {P:Bo}{w:Cd}:∀ {ks:Aa bo} {us:ag},qI (ks.map kV) us->ItemsAre (zT P w) ks us
 |[],_,r=>by rw[Yy] at r;cases r;exact .nil
 |k::ks,_,r=>by
  rw[Df] at r;cases r with
  |cons h t=>exact .cons (gX h) (dR t)
abbrev KT (H:Hp):Aa (Aa bo × V)->Aa (Aa bo × Af × Ad)->Prop:=Paired λp q=>p.1=q.1/\H q.2.1=Ab (.tup (p.1.map kV))/\qG p.2 q.2.2
theorem KT.val {H:Hp}{kvs:Aa (Aa bo × V)}(r:KT H kvs xs)(k:Aa bo):uZ (yJ kvs k) ((Md xs k).map (·.2)):=by
 induction r with
 |nil=>exact Jd
 |@cons p q O Y h t N =>
  obtain⟨U,_,G⟩:=h;by_cases e:p.1=k
  .have J:q.1=k:=U.symm.trans e
   have b:Md (q::Y) k=Ab q.2:=by simp[Md,Fv,J]
   rw[mW e,b];exact G
  .have J:¬ q.1=k:=λz=>e (U.trans z)
   have b:Md (q::Y) k=Md Y k:=by simp[Md,Fv,J]
   rw[mV e,b];exact N
theorem KT.repl {H:Hp}{kvs:Aa (Aa bo × V)}(r:KT H kvs xs)(k:Aa bo){y:V}{u:Ad}(G:qG y u) :
  KT H (kvs.map λJ=>if J.1=k then (J.1,y) else J) (xs.map (putAt k u)):=by
 induction r with
 |nil=>exact .nil
 |@cons p q B C h t O =>
  rw[Df,Df];refine .cons ?_ O;obtain⟨Y,U,N⟩:=h;unfold putAt;by_cases e:p.1=k
  .rw[Bi e,Bi (Y.symm.trans e)];exact⟨Y,U,G⟩
  .rw[Bh e,Bh (λz=>e (Y.trans z))];exact⟨Y,U,N⟩
theorem KT.put {H:Hp}{kvs:Aa (Aa bo × V)}(r:KT H kvs xs)(k:Aa bo){b:Af}{y:V}{u:Ad}(J:H b=Ab (.tup (k.map kV)))(Y:qG y u) :
  KT H (v3 kvs k y) (storedH xs k b u):=by
 have e:(kvs.any λU=>decide (U.1=k))=(Md xs k).isSome:=by
  rw[cR,(r.val k).isSome_eq,Ss]
 unfold v3 storedH;rw[e];by_cases q:(Md xs k).isSome=true
 .rw[Bi q,Bi q];exact r.repl k Y
 .rw[Bh q,Bh q];exact Paired.snoc r ⟨rfl,J,Y⟩
theorem KT.keeps {H:Hp}{kvs:Aa (Aa bo × V)}(r:KT H kvs xs)(J:∀ b Y,H b=Ab (.tup Y)->H' b=Ab (.tup Y)):KT H' kvs xs:=
 Paired.mapP r λ_ _ z=>⟨z.1,J _ _ z.2.1,z.2.2⟩
section
variable {P:Bo}{w:Cd}{H:Hp}{h:Cb}{a:Af}
theorem PF {u:HO}(ok:gl P w H h)(e:Rd H a u):zM P w H h a u:=e.ok ok
theorem tG {kvs:Aa (bo × V)}(ok:gl P w H h)(e:Rd H a (.dK kvs)):kvs.length<=sizeLine/\(a == Hn)=false/\∃ vs,KV kvs vs/\h.DictOf (zT P w) a vs:=
 show zM P w H h a (.dK kvs) from PF ok e
theorem Q5 {kvs:Aa (bo × V)}(ok:gl P w H h)(e:H a=Ab (.dK kvs)):kvs.length<=sizeLine/\(a == Hn)=false/\∃ vs,KV kvs vs/\h.DictOf (zT P w) a vs:=tG ok (.inl e)
theorem tQ {ks:Aa bo}(ok:gl P w H h)(e:H a=Ab (.tup (ks.map kV))):(Eu (zT P w)).is h ks a:=by
 obtain⟨_,Y,r,o,J,G,n,U⟩:=(show zM P w H h a (.tup (ks.map kV)) from ok a _ e)
 exact⟨o,Y.toArray,n,J,G,U,by simpa using dR r⟩
theorem sU {kvs:Aa (Aa bo × V)}(ok:gl P w H h)(e:Rd H a (.dT kvs)):kvs.length<=sizeLine/\(a == Hn)=false /\
  ∃ xs,KT H kvs xs/\h.DictOfH (Eu (zT P w)) a xs:=by
 obtain⟨z,y,xs,r,o,C,G,U,N,L,T,O⟩:=(show zM P w H h a (.dT kvs) from PF ok e)
 refine⟨z,y,xs,r,o,C,G,U,N,L,T,λx hx=>?_,O⟩;have Y:∀ {l:Aa (Aa bo × V)} {m:Aa (Aa bo × Af × Ad)},KT H l m->∀ x∈m,(Eu (zT P w)).is h x.1 x.2.1:=by
  intro l m q
  induction q with
  |nil=>intro x hx;exact nomatch hx
  |@cons p q I E J t B =>
   intro x hx;rcases Bc.mp hx with e|hx
   .subst e
    exact tQ ok (by rw[<- J.1];exact J.2.1)
   .exact B x hx
 exact Y r x hx
theorem A9 {kvs:Aa (Aa bo × V)}(ok:gl P w H h)(e:H a=Ab (.dT kvs)):kvs.length<=sizeLine/\(a == Hn)=false /\
  ∃ xs,KT H kvs xs/\h.DictOfH (Eu (zT P w)) a xs:=sU ok (.inl e)
end
def gI (H:Hp)(a:Af)(y:V)(r:An V):Prop:=
 (∃ Y k,Rd H a (.dK Y)/\y=kV k/\r=yJ Y k)\/∃ Y k b,Rd H a (.dT Y)/\y=.ref b/\H b=Ab (.tup (k.map kV))/\r=yJ Y k
def nL (H:Hp)(a:Af)(y v:V)(H':Hp):Prop:=
 (∃ Y k,H a=Ab (.dK Y)/\y=kV k/\Y.length<sizeLine/\H'=b_ H a (.dK (v3 Y k v))) \/
 ∃ Y k b,H a=Ab (.dT Y)/\y=.ref b/\H b=Ab (.tup (k.map kV))/\Y.length<sizeLine/\H'=b_ H a (.dT (v3 Y k v))
theorem gI.k {H:Hp}{a:Af}{kvs:Aa (bo × V)}{k:bo}(e:H a=Ab (.dK kvs)):gI H a (kV k) (yJ kvs k):=.inl ⟨kvs,k,.inl e,rfl,rfl⟩
theorem gI.t {H:Hp}{a b:Af}{kvs:Aa (Aa bo × V)}{k:Aa bo}(e:H a=Ab (.dT kvs))(Y:H b=Ab (.tup (k.map kV))):gI H a (.ref b) (yJ kvs k):=.inr ⟨kvs,k,b,.inl e,rfl,Y,rfl⟩
theorem nL.k {H:Hp}{a:Af}{kvs:Aa (bo × V)}{k:bo}{v:V}(e:H a=Ab (.dK kvs))(Y:kvs.length<sizeLine):nL H a (kV k) v (b_ H a (.dK (v3 kvs k v))):=.inl ⟨kvs,k,e,rfl,Y,rfl⟩
theorem nL.t {H:Hp}{a b:Af}{kvs:Aa (Aa bo × V)}{k:Aa bo}{v:V}(e:H a=Ab (.dT kvs))(J:H b=Ab (.tup (k.map kV)))(Y:kvs.length<sizeLine) :
  nL H a (.ref b) v (b_ H a (.dT (v3 kvs k v))):=.inr ⟨kvs,k,b,e,rfl,J,Y,rfl⟩
section
variable {X:Cx}{ai:aa}{σ : St}{H:Hp}{s:Ah}{a:Af}{y v:V}{u r:Ad}{o:An V}{A:Bu}{E:ab}
theorem Inv.big (I:Inv X ai σ H s):Hn<s.heap.objs.size:=by
 have h:Di<s.heap.objs.size:=(I.mod.glob.keeps I.bk).lt;exact Hw (by decide) h
theorem XA (q:A.units+1<Ed)(I:Inv X ai σ H s)(g:gI H a y (Ab v))(L:qG y u)(h:∀ U s',Inv X ai σ H s'->qG v U->Q U s') :
  Aq (Au X.prog X.w) A (Op (.ref a) u) Q E s:=by
 rcases g with⟨G,k,e,B,l⟩|⟨G,k,b,e,B,M,l⟩
 .subst B
  obtain⟨z,T,j,Y,O⟩:=tG I.hok e;obtain⟨U,C,J⟩:=uZ.some_of (v:=v) (o:=Uz j k) (by rw[l];exact Y.val k)
  exact wpAny_getItem_of (gX L) O.mapOf C (h U _ (I.tok _) J)
 .subst B
  cases (show u=Cy b from L)
  obtain⟨z,T,xs,Y,O⟩:=sU I.hok e;obtain⟨U,C,J⟩:=uZ.some_of (v:=v) (o:=(Md xs k).map (·.2)) (by rw[l];exact Y.val k)
  obtain⟨p,w,N⟩:=Ej.mp C;refine wpAny_getItem_heap (Rv q) (tQ I.hok M) O w ?_;rw[N];exact h U _ (I.tok _) J
theorem _X (B:A.units+1<Ed)(I:Inv X ai σ H s)(g:gI H a y o)(O:qG y u)(h:∀ s',Inv X ai σ H s'->Q (.bool o.isSome) s') :
  Aq (Au X.prog X.w) A (Ci .In u (.ref a)) Q E s:=by
 rcases g with⟨U,k,e,N,l⟩|⟨U,k,b,e,N,C,l⟩
 .subst N
  obtain⟨z,J,L,Y,G⟩:=tG I.hok e;refine wpAny_in_of (gX O) J G.mapOf ?_;rw[<- (Y.val k).isSome_eq,<- l];exact h _ (I.tok _)
 .subst N
  cases (show u=Cy b from O)
  obtain⟨z,J,xs,Y,G⟩:=sU I.hok e;refine wpAny_in_heap (Rv B) (tQ I.hok C) J G ?_;have q:=(Y.val k).isSome_eq;rw[Ss] at q;rw[<- q,<- l];exact h _ (I.tok _)
theorem nR {h':Cb}{t':Ag}{J:HO}(I:Inv X ai σ H s)(N:wt (H a))(hs:El a s.heap h')(U:∃ q,h'.get? a=Ab q)(Y:zM X.prog X.w (b_ H a J) h' a J) :
  Inv X ai σ (b_ H a J) { s with heap:=h',toks:=t' }:=
 I.write (x:=a) (e:=a) N (.inl rfl) (λb q G z=>(hs.2 b G).trans z) U Y
theorem XF {P:Bo}{w:Cd}{h':Cb}{kvs:Aa (bo × V)}{vs:Aa (bo × Ad)}(z:kvs.length<=sizeLine)(U:(a == Hn)=false)(Y:KV kvs vs)(J:h'.DictOf (zT P w) a vs) :
  zM P w H' h' a (.dK kvs):=⟨z,U,vs,Y,J⟩
theorem XB {Q:Uv->Ah->Prop}(hu:A.units+1<Ed)(I:Inv X ai σ H s)(g:nL H a y v H')(j:qG y u)(d:qG v r)(h:∀ s',Inv X ai σ H' s'->Q () s') :
  Aq (Au X.prog X.w) A (setItem (.ref a) u r) Q E s:=by
 rcases g with⟨J,k,e,B,l,L⟩|⟨J,k,b,e,B,w,l,L⟩
 .subst B L
  obtain⟨z,T,i,Y,N⟩:=Q5 I.hok e;have O:i.length<=sizeLine:=by rw[<- Y.length];exact z
  have C:(v3 J k v).length<=sizeLine:=by have:=kK J k v;lia
  refine wpAny_setItem_pairs (hsz:=O) (gX j) N λM U hs=>h _ ?_;have f:∃ q,M.get? a=Ab q:=let ⟨q,_,_,G,_⟩:=U;⟨q,G⟩
  exact nR I (by rw[e];exact Jd) hs f (XF C T (Y.put k d) U)
 .subst B L
  cases (show u=Cy b from j)
  obtain⟨z,T,xs,Y,N⟩:=A9 I.hok e;have O:xs.length<=sizeLine:=by rw[<- Paired.length Y];exact z
  have C:(v3 J k v).length<=sizeLine:=by have:=kK J k v;lia
  refine wpAny_setItem_heap (hsz:=O) (Rv hu) (tQ I.hok w) N λM U hs=>h _ ?_;obtain⟨q,x,t,G,m,h3,h4,_,n⟩:=U;refine nR I (by rw[e];exact Jd) hs ⟨q,G⟩ ⟨C,T,_,(Y.put k w d).keeps λc ys p=>?_,q,x,t,G,m,h3,h4,n⟩
  rw[qP (AZ p e (λz=>nomatch z))];exact p
end
section
variable {X:Cx}{ai:aa}{σ : St}{H:Hp}{s:Ah}{a:Af}{kvs:Aa (bo × V)}{k:bo}{u:Ad}{A:Bu}{E:ab}
theorem CW (I:Inv X ai σ H s)(e:Rd H a (.dK kvs))(h:∀ t s',Inv X ai σ H s'->Q (.int kvs.length t) s'):Aq (Au X.prog X.w) A (call (.builtin "len") [.ref a]) Q E s:=by
 obtain⟨z,U,G,Y,J⟩:=tG I.hok e;refine call_len_dict U J (by rw[<- Y.length];rw[Fq] at z;lia) ?_
 rw[<- Y.length];exact h _ _ (I.tok _)
end
def V1 (i:Bz):Prop:=∀ Y J,subscripted i false Y J=operate [Y,J] (Op Y J)
theorem N0 {prog:Bo}{w:Cd}{A:Bu}{E:ab}{s:Ah}{env:Kh}{J Y:Bz}{H:Fn}{T id:Ex}
  (M:typeLookup (.type T) "__getitem__" = pure (Ab (.builtin id))) (hs:V1 Y)
  (h:Aq (Au prog w) A (eval J env) (λo N=>Aq (Au prog w) A (eval Y env) (λi U=>U.TypeIs o T/\Aq (Au prog w) A (Op o i) Q E U) E N) E s) :
  Aq (Au prog w) A (eval (.Subscript J Y H) env) Q E s:=by
 refine Subscript_ (Ho h (λo N B=>Ho B (λi U G=>?_) λ_ _ x=>x) λ_ _ x=>x);obtain⟨I,G⟩:=G;unfold Sr;refine Ac ?_;rw[getitemInPython_of_ne I.not_modules];refine Ac (Ls I M ?_);have C:Aq (Au prog w) A (subscripted Y false o i) (λr O=>Aq (Au prog w) A (letTemporaryGo J o r >>= λ_=>pure r) Q E O) E U:=by
  rw[hs o i];exact wpAny_operating (Ho G (λr O L=>Ac (wpAny_letTemporaryGo (Am L))) λ_ _ x=>x)
 first
  |exact Am (Ac C)
  |exact Ac (Am (Ac C))
  |exact Ac C
theorem cV {X:Cx}{ai:aa}{σ:St}{H:Hp}{s:Ah}{a:Af}{y:V}{o:An V}(I:Inv X ai σ H s)(g:gI H a y o):s.TypeIs (.ref a) "dict":=by
 rcases g with⟨J,k,e,_,_⟩|⟨J,k,b,e,_,_,_⟩
 .obtain⟨_,_,U,_,Y⟩:=tG I.hok e
  exact Y.typeIs
 .obtain⟨_,_,xs,_,Y⟩:=sU I.hok e
  exact Y.typeIs
theorem VV {P:Bo}{w:Cd}{H:Hp}(h:Cb)(Y:Hn<h.objs.size):zM P w H (h.push { cls:=.type "dict",data:=.dict #[] }) h.objs.size (.dK []):=
 ⟨Gh _,Kq.mpr (Gb (Cu Y)),[],.nil,Heap.DictOf.new h⟩
def HV:TE:=λ_ H Q=>∀ p,H p=none->Q (.ref p) (b_ H p (.dK []))
section
variable {X:Cx}{ao:Fn}
theorem JF:PE X (.Dict [] [] ao) HV:=λY s σ H Q I h =>
 x0 ⟨.ref s.heap.objs.size,_,I.laid (a:=s.heap.objs.size) (o:=.dK []) (t':=s.toks) (λ_ _ q=>Ai _ q) (Av _) (VV s.heap I.big),rfl,h _ (I.hok.fresh (Av _))⟩
end
end _L
namespace _A
open PySem.W PySem.Calls
theorem tM {P:Params}{h:Cb}:∀ (Q:Aa Aj) (vs:ag),WellAll P h vs (Q.map WData.int)->Ir vs Q:=by
 intro Q
 induction Q with
 |nil =>
  intro vs w;rw[Yy] at w;cases w;exact .nil
 |cons n Q Y =>
  intro vs w;rw[Df] at w;cases w with
  |cons a b =>
   cases a;exact .cons _ _ (Y _ b)
theorem YD {l:OpenLaw}{n:Ag}(H:l.most=Ab n){P:Params}{h:Cb}{args:Aa WData}{Y:ag}
  (J:l.row.toRowW.claim.pre args=true) (C:WellAll P h Y args) :
  ∃ a vs Q,Y=[Cy a]/\args=[WData.list (Q.map WData.int)]/\h.get? a=Ab { cls:=.type "list",data:=.seq vs.toArray } /\ Ir vs Q/\Q.length<=n:=by
 have B:WShape.hasAll [] args [.list .int]=true:=(pre_splitW J).1;have L:l.pre.holds [] { args:=args } = true:=(pre_splitW J).2;obtain⟨d,r,rfl,E,I⟩:=hasAllW_cons B;obtain rfl:=hasAllW_nil I;obtain⟨j,rfl,w⟩:=hasW_list E;obtain⟨Q,rfl⟩:=items_int w;have G:Q.length<=n:=by
  unfold OpenLaw.pre at L;have O:(WTm.not (.lt (.lit (.int (n:Aj))) (.len (.arg 0)))).holds [] { args:=[.list (Q.map .int)] } = true:=by
   have O:=(holds_andW L).1;rw[H] at O;exact O
  have N:=condW_of O (w_not (w_lt w_lit (w_len_list (w_arg rfl))));rw[Ao] at N;refine Aa0 λq=>?_;have T:(n:Aj)<((Q.length:Ag):Aj):=by lia
  first
   |(rw[Bm T] at N;exact absurd N (by decide))
   |(simp at N;lia)
 cases C with
 |cons A z =>
  cases z;cases A with
  |list M U=>exact⟨_,_,Q,rfl,rfl,M,tM Q _ U,G⟩
theorem Y0 (l:OpenLaw)(args:Aa WData):l.row.toRowW.claim.post args (.bool true) args=true:=
 postW_of (r:=l.row.toRowW) (X:=(true == true))
  (show WShape.has [] (.bool true) .bool=true by first|rfl|decide|simp[WShape.has,WShape.arms,WShape.armsAll])
  (show (WTm.eq .res (.lit (.bool true))).value [] { args:=args,res:=Ab (.bool true),after:=args } = Ab (.bool (true == true)) from w_eq_bool (w_res rfl) w_lit) rfl
theorem mv {l:OpenLaw}{n:Ag}{q:Bo}{t:Aa Aw}{g:(Aw->An Ad)->Cb->Prop}{u:Cd->Cb->Prop}{d:DefRec}
  (e:l.most=Ab n) (M:d.params.defaults=[])
  (call:∀ (w:Cd) (J Q:Ah) (I j:ah) (O:Af) (o:Cw) (A E U:Ad) (a:Af) (vs:ag) (T:Aa Aj),
   Ground q t [] g w J I j Q.heap->u w Q.heap ->
   Q.heap.get? O=Ab o->o.data=.func (docDef d.name d.params d.body d.scope A E U)->Q.heap.CodeRec E d.name->I d.name=Ab (.ref O) ->
   Q.heap.get? a=Ab { cls:=.type "list",data:=.seq vs.toArray } -> Ir vs T->T.length<=n->Q.gens=#[] ->
   Jy (Au l.prog w) Su (.call (.ref O) ⟨[.ref a],[]⟩) (λr s'=>r=.ok (.ret (.bool true))/\OldK Q.heap s'.heap/\s'.os=Q.os/\Pv s'.gens) Q) :
  WalkO q t g u l.row.toRowW d [] (λf vs=>AaR f vs):=by
 intro w J Q I j G Y O o A E U s kV ho hd z c y hg k p as C v b H m;obtain rfl:s=.none:=Dflts.none c M;obtain rfl:kV=.none:=Dflts.noKw c;obtain⟨a,vs,T,rfl,rfl,L,N,B⟩:=YD e C H;refine enter_call (Mq (call w J Q I j O o A E U a vs T G Y ho (fd_plain hd) z y L N B hg) λr s' x=>?_);obtain⟨rfl,i,h3,h4⟩:=x;exact⟨.inl ⟨.bool true,.bool true,[],rfl,λ_=>rfl,.bool true,Y0 l _,λ_=>⟨Pb,λ_ h=>(nomatch h)⟩⟩,i,h3,h4⟩
end _A
namespace _L
theorem YS {vs:ag}{Q:Aa Aj}(h:Ir vs Q):qI (Q.map V.int) vs:=by
 induction h with
 |nil=>exact .nil
 |cons n t h Y=>exact .cons ⟨t,rfl⟩ Y
def ox (K:Ak)(H:Hp)(a:Af)(xs:Aa V):Prop:=
 Rd H a (.lst xs)\/∃ (Q:ag) (n:Ag),K.lookup a=Ab { cls:=.type "list",data:=.seq Q.toArray n } /\ xs.length<=sizeLine/\qI xs Q
theorem ox.l {K:Ak}{H:Hp}{a:Af}{xs:Aa V}(h:ox K H a xs):ji K H a xs:=by
 rcases h with h|⟨Q,n,e,l,v⟩
 .exact .inl h
 .exact .inr ⟨_,Q.toArray,n,e,rfl,rfl,rfl,by rw[Bt,<- v.length];exact l,by simpa using v⟩
end _L
namespace _L
variable {ps:Aa Aw}{f:Af}{x bb:Aw}{H:Hp}
noncomputable def yF (s:Fz):Vs:=match s with
 |.FunctionDef _ a _ _ _ _ _ _ _ _=>a
 |_=>{ posonlyargs:=[],args:=[],vararg:=none,kwonlyargs:=[],kw_defaults:=[],kwarg:=none,defaults:=[] }
def zZ (s:Fz):Aa Fz:=match s with
 |.FunctionDef _ _ b _ _ _ _ _ _ _=>b
 |_=>[]
def qK (s:Fz):Fd:=match s with
 |.FunctionDef _ _ _ _ _ _ Q _ _ _=>Q
 |_=>{ kind:=.function,names:=[],isGenerator:=false,isCoroutine:=false }
abbrev X_:sj:=λ_ _ _ _ _ _=>Ey
structure se (K:Ak)(x qual:Aw)(st:Fz)(f:Af)(fd:Fu):Prop where
 ex:∃ (oc:Ad) (od:An Af) (kV doc pm:Ad) (an:An Af) (cdv ct:Ad) (osl:Ay (An Ad)),
  fd=Gr x qual (yF st) (zZ st) (qK st) .none kV doc pm an cdv ct/\K.lookup f=Ab ⟨oc,od,.func fd,osl⟩/\Mm K cdv qual=true
 kp:Gs K (.ref f)=true
section
variable {P:Bo}{w:Cd}{K:Ak}{mg:ah}{base:Cb}
theorem se.ok {st:Fz}{fd:Fu}{N:Aa Aw}{k:Ag}{sp:Sp}(F:se K x bb st f fd)(S:cy N ps (qK st))(O:∀ vs H Q E,sp vs H Q E->vs.length=ps.length)
  (J:∀ (Y:Ad) (A:Bu) (G:Aa Kh) (s:Ah) (H:Hp) (vs:Aa V) (Q:VK) (E:XK),je k (A.deeper (He bb (qK st) s.heap.objs.size f Y))->sp vs H Q E ->
   ∃ t,ir (nQ X_ P w K mg base N bb (qK st) f Y A G s H E).nox (zZ st) t/\t { nx:=λ_ B=>Q .non B,rt:=Q } (w8 N vs) H):mz P w K mg base X_ (k+1) f fd ps sp:=by
 obtain⟨y,z,kV,T,u,j,Y,M,I,rfl,lk,U⟩:=F.ex;refine AE lk U S O λA G s H vs Q E L C=>?_;obtain⟨t,h,q⟩:=J Y A G s H vs Q E L C;exact⟨t,h.nox,q⟩
theorem se.binds {st:Fz}{fd:Fu}(F:se K x bb st f fd)
  (h:∀ (kV Q G:Ad) (J:An Af) (Y U:Ad) (us:ag),us.length=ps.length->AaJ (Gr x bb (yF st) (zZ st) (qK st) .none kV Q G J Y U) ⟨us,[]⟩=pure (ps.zip us)):uM K fd ps []:=by
 obtain⟨C,B,kV,Q,G,J,Y,U,N,rfl,lk,O⟩:=F.ex;exact .all (h kV Q G J Y U)
theorem DX {st:Fz}{C:Ad}{O G:An Af}{J:Ay (An Ad)}{kV Y N Q U:Ad}(l:K.lookup f=Ab ⟨C,O,.func (Gr x bb (yF st) (zZ st) (qK st) .none kV Y N G Q U),J⟩)
  (c:Mm K Q bb=true) (k:Gs K (.ref f)=true):se K x bb st f (Gr x bb (yF st) (zZ st) (qK st) .none kV Y N G Q U):=⟨⟨C,O,kV,Y,N,G,Q,U,J,rfl,l,c⟩,k⟩
end
def qF (H Q:Hp):Prop:=∀ b o,H b=Ab o->Q b=Ab o
theorem qF.refl (H:Hp):qF H H:=λ_ _ h=>h
theorem qF.trans {Q Y:Hp}(a:qF H Q)(b:qF Q Y):qF H Y:=λc o h=>b c o (a c o h)
theorem qF.free {Q:Hp}(e:qF H Q){l:Af}(h:Q l=AbG):H l=AbG:=by
 cases q:H l with
 |none=>rfl
 |some o =>
  rw[e l o q] at h;cases h
theorem qF.seq {K:Ak}{Q:Hp}{a:Af}{xs:Aa V}(e:qF H Q)(h:ji K H a xs):ji K Q a xs:=by
 rcases h with (h|⟨o,h⟩)|h
 .exact .inl (.inl (e _ _ h))
 .exact .inl (.inr ⟨o,e _ _ h⟩)
 .exact .inr h
end _L
end
section
namespace _D
open _L
inductive D where
 |non|bl (b:As)|int (i:Aj)|str (x:Aw)|ty (n:Ex)|obj (a:Af)|tup (xs:Aa D)|lst (xs:Aa D)|dct0|loc (i:Ag)|exn (c:Ad)|fd (ks:Aa bo) (ds:Aa D)|clo (a:Af) (vs:Aa V) (ds:Aa D)
def _V (a:Af)(c:Ad):HO:=.ext λh=>∃ Q,h.get? a=Ab Q/\Q.cls=c
inductive MO where
 |dead|lst (xs:Aa D)|dct (kvs:Aa (bo × D))|dcT (kvs:Aa (Aa Aj × D))|ins (C:Af) (fs:Aa (Aw × D))
abbrev ak:=Aa MO
inductive ba (β : Type) where
 |ok (d:β) (S:ak)|ex (c:Ad) (x:D) (S:ak)|bad
@[inline] noncomputable def ba.bind {β γ:Type}(r:ba β)(f:β->ak->ba γ) : ba γ:=
 match r with
 |.ok d S=>f d S
 |.ex c x S=>.ex c x S
 |.bad=>.bad
theorem ba.bind_ok {β γ:Type}(d:β)(S:ak)(f:β->ak->ba γ) : (ba.ok d S).bind f=f d S:=rfl
section
variable (K:Ak)(P:Hp)(α : Aa Af)
mutual
def aq:D->V->Prop
 |.non,v=>v=.non
 |.bl b,v=>v=.bl b
 |.int i,v=>v=.int i
 |.str x,v=>v=.str x
 |.ty n,v=>v=.ty n
 |.obj a,v=>v=.ref a/\Gs K (.ref a)=true
 |.tup Y,v=>∃ a Q,v=.ref a/\iq K P a Q/\qC Y Q
 |.lst Y,v=>∃ a Q,v=.ref a/\ox K P a Q/\qC Y Q
 |.dct0,v=>∃ a,v=.ref a/\P a=Ab (.dK [])
 |.loc i,v=>∃ a,v=.ref a/\α[i]? = Ab a
 |.exn c,v=>∃ a,v=.ref a/\P a=Ab (_V a c)
 |.fd J Y,v=>∃ a o Q,v=.ref a/\P a=Ab (.frz o (.dK (J.zip Q)))/\J.length=Q.length/\qC Y Q
 |.clo a Q Y,v=>v=.ref a/\qC Y Q
def qC:Aa D->Aa V->Prop
 |[],Q=>Q=[]
 |d::J,Q=>∃ w Y,Q=w::Y/\aq d w/\qC J Y
end
end
section
variable {K:Ak}{P P':Hp}{α α':ae}
theorem wC (e:qF P P'){a:Af}{xs:Aa V}(h:iq K P a xs):iq K P' a xs:=by
 rcases h with (h|⟨o,h⟩)|h
 .exact .inl (.inl (e _ _ h))
 .exact .inl (.inr ⟨o,e _ _ h⟩)
 .exact .inr h
theorem iV (e:qF P P'){a:Af}{u:HO}(h:Rd P a u):Rd P' a u:=by
 rcases h with h|⟨o,h⟩
 .exact .inl (e _ _ h)
 .exact .inr ⟨o,e _ _ h⟩
theorem xK (e:qF P P'){a:Af}{xs:Aa V}(h:ox K P a xs):ox K P' a xs:=by
 rcases h with h|h
 .exact .inl (iV e h)
 .exact .inr h
theorem fJ {i:Ag}{a:Af}(h:α<+:α')(e:α[i]? = Ab a):α'[i]? = Ab a:=by
 obtain⟨r,rfl⟩:=h;rw[AT (Ax.mp e).1];exact e
mutual
theorem aq.mono (e:qF P P')(h:α<+:α'):∀ (d:D) (v:V),aq K P α d v->aq K P' α' d v
 |.non,_,r=>by simpa only [aq] using r
 |.bl _,_,r=>by simpa only [aq] using r
 |.int _,_,r=>by simpa only [aq] using r
 |.str _,_,r=>by simpa only [aq] using r
 |.ty _,_,r=>by simpa only [aq] using r
 |.obj _,_,r=>by simpa only [aq] using r
 |.tup Y,v,r=>by
  simp only[aq] at r ⊢;obtain⟨a,Q,rfl,q,t⟩:=r;exact⟨a,Q,rfl,wC e q,qC.mono e h Y Q t⟩
 |.lst Y,v,r=>by
  simp only[aq] at r ⊢;obtain⟨a,Q,rfl,q,t⟩:=r;exact⟨a,Q,rfl,xK e q,qC.mono e h Y Q t⟩
 |.dct0,v,r=>by
  simp only[aq] at r ⊢;obtain⟨a,rfl,q⟩:=r;exact⟨a,rfl,e _ _ q⟩
 |.loc i,v,r=>by
  simp only[aq] at r ⊢;obtain⟨a,rfl,q⟩:=r;exact⟨a,rfl,fJ h q⟩
 |.exn c,v,r=>by
  simp only[aq] at r ⊢;obtain⟨a,rfl,q⟩:=r;exact⟨a,rfl,e _ _ q⟩
 |.fd U Y,v,r=>by
  simp only[aq] at r ⊢;obtain⟨a,o,Q,rfl,q,J,t⟩:=r;exact⟨a,o,Q,rfl,e _ _ q,J,qC.mono e h Y Q t⟩
 |.clo a Q Y,v,r=>by
  simp only[aq] at r ⊢;exact⟨r.1,qC.mono e h Y Q r.2⟩
theorem qC.mono (e:qF P P')(h:α<+:α'):∀ (ds:Aa D) (vs:Aa V),qC K P α ds vs->qC K P' α' ds vs
 |[],vs,r=>by simpa only [qC] using r
 |d::ds,vs,r=>by
  simp only[qC] at r ⊢;obtain⟨w,Q,rfl,J,Y⟩:=r;exact⟨w,Q,rfl,aq.mono e h d w J,qC.mono e h ds Q Y⟩
end
theorem qC.nil:qC K P α [] []:=by simp only[qC]
theorem qC.cons {d:D}{v:V}{ds:Aa D}{vs:Aa V}(r:aq K P α d v)(t:qC K P α ds vs):qC K P α (d::ds) (v::vs):=by
 simp only[qC];exact⟨v,vs,rfl,r,t⟩
theorem qC.nil_inv {vs:Aa V}(r:qC K P α [] vs):vs=[]:=by simpa only [qC] using r
theorem qC.cons_inv {d:D}{ds:Aa D}{vs:Aa V}(r:qC K P α (d::ds) vs):∃ w Q,vs=w::Q/\aq K P α d w/\qC K P α ds Q:=by simpa only [qC] using r
theorem qC.length:∀ {ds:Aa D} {vs:Aa V},qC K P α ds vs->ds.length=vs.length
 |[],vs,r=>by rw[r.nil_inv];rfl
 |d::ds,vs,r=>by
  obtain⟨w,Q,rfl,_,t⟩:=r.cons_inv;rw[Bv,Bv,t.length]
theorem qC.append:∀ {ds es:Aa D} {vs Q:Aa V},qC K P α ds vs->qC K P α es Q->qC K P α (ds++es) (vs++Q)
 |[],es,vs,Q,r,t=>by rw[r.nil_inv];exact t
 |d::ds,es,vs,Q,r,t=>by
  obtain⟨w,U,rfl,J,Y⟩:=r.cons_inv;exact .cons J (Y.append t)
theorem qC.get:∀ {ds:Aa D} {vs:Aa V} {i:Ag} {d:D},qC K P α ds vs->ds[i]? = Ab d->∃ v,vs[i]? = Ab v/\aq K P α d v
 |[],_,_,_,_,e=>by simp at e
 |d::ds,vs,i,Q,r,e=>by
  obtain⟨w,N,rfl,G,U⟩:=r.cons_inv;cases i with
  |zero=>simp at e;subst e;exact⟨w,rfl,G⟩
  |succ i =>
   obtain⟨v,Y,J⟩:=U.get (i:=i) (d:=Q) (by simpa using e)
   exact⟨v,by simpa using Y,J⟩
theorem qC.drop:∀ {ds:Aa D} {vs:Aa V} (n:Ag),qC K P α ds vs->qC K P α (ds.drop n) (vs.drop n)
 |ds,vs,0,r=>by simpa using r
 |[],vs,n+1,r=>by rw[r.nil_inv];exact .nil
 |d::ds,vs,n+1,r=>by
  obtain⟨w,Y,rfl,_,Q⟩:=r.cons_inv;simpa using Q.drop n
theorem qC.take:∀ {ds:Aa D} {vs:Aa V} (n:Ag),qC K P α ds vs->qC K P α (ds.take n) (vs.take n)
 |ds,vs,0,r=>by simpa using qC.nil
 |[],vs,n+1,r=>by rw[r.nil_inv];exact .nil
 |d::ds,vs,n+1,r=>by
  obtain⟨w,J,rfl,Y,Q⟩:=r.cons_inv;simpa using qC.cons Y (Q.take n)
theorem qC.set {d:D}{v:V}(q:aq K P α d v):∀ {ds:Aa D} {vs:Aa V} (n:Ag),qC K P α ds vs->qC K P α (ds.set n d) (vs.set n v)
 |[],vs,n,r=>by rw[r.nil_inv];exact .nil
 |e::ds,vs,0,r=>by
  obtain⟨w,J,rfl,Y,Q⟩:=r.cons_inv;exact .cons q Q
 |e::ds,vs,n+1,r=>by
  obtain⟨w,J,rfl,Y,Q⟩:=r.cons_inv;exact .cons Y (Q.set q n)
end
abbrev qB:=Aa (An D)
def zJ (K:Ak)(P:Hp)(α : Aa Af)(σ : _L.St)(env:qB):Prop:=env.length=σ.length/\∀ (i:Ag) (d:D),env[i]? = Ab (Ab d)->∃ v,σ[i]? = Ab (Ab v)/\aq K P α d v
def md (K:Ak)(P:Hp)(α : Aa Af){κ : Type}:Aa (κ × D)->Aa (κ × V)->Prop:=Paired λ(p:κ × D) (q:κ × V)=>p.1=q.1/\aq K P α p.2 q.2
def AK (Q:Aa Aj):Aj:=Xu (Ib (Q.map hashInt))
def rA (a:Af)(xs:Aa (Aa Aj × Af × V))(h:Cb):Prop:=∃ Q:Aa (Aa Aj × Af × Ad),Paired (λ(p:Aa Aj × Af × V) (q:Aa Aj × Af × Ad)=>p.1=q.1/\p.2.1=q.2.1/\qG p.2.2 q.2.2) xs Q /\
 ∃ o Y J,h.get? a=Ab o/\o.ExactDict/\o.data=.dict Y J/\Y.toList=Q.map λx=>⟨AK x.1,.ref x.2.1,x.2.2⟩
abbrev tw (a:Af)(xs:Aa (Aa Aj × Af × V)):HO:=.ext (rA a xs)
def si (K:Ak)(P:Hp)(α : Aa Af):Aa (Aa Aj × D)->Aa (Aa Aj × Af × V)->Prop:=Paired λ(p:Aa Aj × D) (q:Aa Aj × Af × V)=>p.1=q.1/\iq K P q.2.1 (q.1.map V.int)/\aq K P α p.2 q.2.2
def rq (K:Ak)(H P:Hp)(α : Aa Af)(a:Af):MO->Prop
 |.dead=>Rc
 |.lst N=>∃ Q,H a=Ab (.lst Q)/\qC K P α N Q
 |.dct Y=>∃ Q,H a=Ab (.dK Q)/\md K P α Y Q
 |.dcT Y=>∃ J,H a=Ab (tw a J)/\(a == Hn)=false/\J.length<=sizeLine/\(J.map (·.1)).Nodup/\si K P α Y J
 |.ins C U=>∃ G Q,H a=Ab (.ins C G Q)/\md K P α U Q
inductive wk (x:Aw)(H P:Hp)(α : Aa Af)(T:Af):Prop
 |mk (ps:Ay Ad) (e:H T=Ab (.tbl ps)) (pn:P T=none) (an:T ∉ α) (ok:TriplesOk ps.toList) (cd:∀ pos cv,codeAmong pos ps.toList=Ab cv->∃ c oc vs t,cv=.ref c/\H c=Ab (.frz oc (.frz oc (.own 0)))/\oc.data=.fields vs/\vs[1]? = Ab (.str (x ++ ".<locals>." ++ "<lambda>") t)):wk x H P α T
def oR (K:Ak)(H P:Hp)(α : Aa Af):Prop:=∀ x∈vJ,∀ c T,Er K x=Ab (c,T)->wk x H P α T
def SC (u:HO):Prop:=(∃ Q,u=.tbl Q)\/∃ o,u=.frz o (.frz o (.own 0))
theorem oR.keep {K:Ak}{H Y P U:Hp}{α Q:ae}(r:oR K H P α)(e:∀ b u,H b=Ab u->SC u->Y b=Ab u)(hp:∀ b u,H b=Ab u->SC u->P b=none->b ∉ α->U b=none/\b ∉ Q):oR K Y U Q:=λx I c T h =>
 let ⟨A,J,B,G,ok,O⟩:=r x I c T h
 let z:=hp _ _ J (.inl ⟨_,rfl⟩) B G
 ⟨A,e _ _ J (.inl ⟨_,rfl⟩),z.1,z.2,ok,λL E q=>let ⟨c,N,C,t,a,b,d⟩:=O L E q;⟨c,N,C,t,a,e _ _ b (.inr ⟨_,rfl⟩),d⟩⟩
structure bf (K:Ak)(H P:Hp)(α : Aa Af)(S:ak):Prop where
 tb:oR K H P α
 sub:qF P H
 len:α.length=S.length
 nd:α.Nodup
 sep:∀ (i:Ag) (a:Af) (o:MO),α[i]? = Ab a->S[i]? = Ab o->o≠.dead->P a=none
 at':∀ (i:Ag) (a:Af) (o:MO),α[i]? = Ab a->S[i]? = Ab o->rq K H P α a o
 own:∀ (i:Ag) (a:Af),α[i]? = Ab a->H a≠none
section
variable {K:Ak}{H P P':Hp}{α α':ae}{S:ak}
theorem zJ.mono {σ : _L.St}{env:qB}(e:qF P P')(h:α<+:α')(r:zJ K P α σ env):zJ K P' α' σ env:=
 ⟨r.1,λi d q=>let ⟨v,Q,Y⟩:=r.2 i d q;⟨v,Q,aq.mono e h d v Y⟩⟩
theorem md.mono {κ : Type}(e:qF P P')(h:α<+:α'){kvs:Aa (κ × D)}{vs:Aa (κ × V)}(r:md K P α kvs vs):md K P' α' kvs vs:=by
 refine Paired.mapP r λp q z=>⟨z.1,aq.mono e h _ _ z.2⟩
theorem si.mono (e:qF P P')(h:α<+:α'){kvs:Aa (Aa Aj × D)}{xs:Aa (Aa Aj × Af × V)}(r:si K P α kvs xs):si K P' α' kvs xs:=
 Paired.mapP r λp q z=>⟨z.1,wC e z.2.1,aq.mono e h _ _ z.2.2⟩
theorem rq.mono {a:Af}(e:qF P P')(h:α<+:α'):∀ {o:MO},rq K H P α a o->rq K H P' α' a o
 |.dead,_=>trivial
 |.lst _,⟨Q,q,r⟩=>⟨Q,q,qC.mono e h _ _ r⟩
 |.dct _,⟨Q,q,r⟩=>⟨Q,q,r.mono e h⟩
 |.dcT _,⟨Q,q,d,l,n,r⟩=>⟨Q,q,d,l,n,r.mono e h⟩
 |.ins _ _,⟨Y,Q,q,r⟩=>⟨Y,Q,q,r.mono e h⟩
theorem bf.grow {J:Hp}(r:bf K H P α S)(e:qF H J):bf K J P α S where
 tb:=r.tb.keep (λb u q _=>e _ _ q) λ_ _ _ _ p n=>⟨p,n⟩
 sub:=r.sub.trans e
 len:=r.len
 nd:=r.nd
 sep:=r.sep
 at':=λi a o U N=>by
  have m:=r.at' i a o U N;cases o with
  |dead=>trivial
  |lst B=>obtain⟨Q,q,t⟩:=m;exact⟨Q,e _ _ q,t⟩
  |dct Y=>obtain⟨Q,q,t⟩:=m;exact⟨Q,e _ _ q,t⟩
  |dcT Y=>obtain⟨Q,q,t⟩:=m;exact⟨Q,e _ _ q,t⟩
  |ins C O=>obtain⟨G,Q,q,t⟩:=m;exact⟨G,Q,e _ _ q,t⟩
 own:=λi a q=>by
  have m:=r.own i a q;cases z:H a with
  |none=>exact absurd z m
  |some o=>rw[e _ _ z];intro w;cases w
theorem pF {H:Hp}{a:Af}{o:HO}(h:H a=none):qF H (b_ H a o):=λb u e=>by rw[qP (zG e h)];exact e
theorem bf.pure {a:Af}{o:HO}(r:bf K H P α S)(h:H a=none):bf K (b_ H a o) (b_ P a o) α S/\qF P (b_ P a o):=by
 have O:P a=none:=by
  cases z:P a with
  |none=>rfl
  |some u=>rw[r.sub _ _ z] at h;cases h
 have U:qF P (b_ P a o):=pF O;have G:=r.grow (pF (o:=o) h);refine⟨⟨r.tb.keep (λb u q _=>(qP (zG q h)).trans q) λb u q _ p n=>⟨(qP (zG q h)).trans p,n⟩,λb u e=>?_,r.len,r.nd,λi b u Q J N=>?_,λi b u Q J=>(G.at' i b u Q J).mono U (Bd _),G.own⟩,U⟩
 .by_cases Y:b=a
  .subst Y;rw[z9] at e ⊢;exact e
  .rw[qP Y] at e ⊢;exact r.sub _ _ e
 .have Y:b≠a:=by rintro rfl;exact r.own i b Q h
  rw[qP Y];exact r.sep i b u Q J N
theorem bf.new {a:Af}{o:HO}{m:MO}(r:bf K H P α S)(h:H a=none)(hm:rq K (b_ H a o) P (α ++ [a]) a m):bf K (b_ H a o) P (α ++ [a]) (S++[m]):=by
 have C:P a=none:=by
  cases z:P a with
  |none=>rfl
  |some u=>rw[r.sub _ _ z] at h;cases h
 have U:=r.grow (pF (o:=o) h);have O:α<+:α++[a]:=Ft _ _;have split:∀ (i:Ag) (b:Af),(α++[a])[i]? = Ab b->(i<α.length/\α[i]? = Ab b)\/(i=α.length/\b=a):=λi b q=>by
  by_cases Q:i<α.length
  .rw[AT Q] at q;exact .inl ⟨Q,q⟩
  .rw[Dg om] at q
   cases G:i-α.length with
   |zero=>rw[G] at q;simp at q;exact .inr ⟨by fin2,q.symm⟩
   |succ k=>rw[G] at q;simp at q
 refine⟨r.tb.keep (λb u q _=>(qP (zG q h)).trans q) λb u q _ p n=>⟨p,λz=>(Bq.mp z).elim n λw=>zG q h (by simpa using w)⟩,U.sub,by simp[r.len],?_,λi b u J Y L=>?_,λi b u J Y=>?_,λi b q=>?_⟩
 .rw[Gm]
  refine⟨r.nd,by simp,λb B c N e=>?_⟩
  simp at N;subst N;subst e;obtain⟨i,Q,e⟩:=Cp.mp B;exact r.own i b (by rw[Ap Q,e]) h
 .rcases split i b J with⟨Q,z⟩|⟨Q,rfl⟩
  .rw[AT (by rw[<- r.len];exact Q)] at Y
   exact r.sep i b u z Y L
  .exact C
 .rcases split i b J with⟨Q,z⟩|⟨Q,rfl⟩
  .rw[AT (by rw[<- r.len];exact Q)] at Y
   exact(U.at' i b u z Y).mono (qF.refl _) O
  .rw[Q,r.len,Dg (Av _)] at Y
   simp at Y;subst Y;exact hm
 .rcases split i b q with⟨_,z⟩|⟨_,rfl⟩
  .exact U.own i b z
  .rw[z9];intro z;cases z
theorem dY {N:ae}(Q:N.Nodup){i j:Ag}{x:Af}(a:N[i]? = Ab x)(b:N[j]? = Ab x):i=j:=by
 obtain⟨U,J⟩:=Ax.mp a;obtain⟨G,Y⟩:=Ax.mp b;exact(Tw Q).mp (J.trans Y.symm)
theorem bf.put {a:Af}{i:Ag}{o:HO}{m m':MO}(r:bf K H P α S)(O:α[i]? = Ab a)(hs:S[i]? = Ab m)(T:m≠.dead)(hm:rq K (b_ H a o) P α a m'):bf K (b_ H a o) P α (S.set i m'):=by
 have E:=r.sep i a m O hs T;have I:i<S.length:=(Ax.mp hs).1;refine⟨r.tb.keep (λb u q B=>?_) λ_ _ _ _ p n=>⟨p,n⟩,λb u e=>?_,by simp[r.len],r.nd,λj b u J U A=>?_,λj b u J U=>?_,λj b q=>?_⟩
 .refine(qP ?_).trans q
  rintro rfl;have z:=r.at' i _ m O hs;cases m with
  |dead=>exact T rfl
  |lst w=>obtain⟨Q,z,_⟩:=z;rw[q] at z;rcases B with⟨_,rfl⟩|⟨_,rfl⟩ <;> cases z
  |dct G=>obtain⟨Q,z,_⟩:=z;rw[q] at z;rcases B with⟨_,rfl⟩|⟨_,rfl⟩ <;> cases z
  |dcT G=>obtain⟨Q,z,_⟩:=z;rw[q] at z;rcases B with⟨_,rfl⟩|⟨_,rfl⟩ <;> cases z
  |ins C M=>obtain⟨L,Q,z,_⟩:=z;rw[q] at z;rcases B with⟨_,rfl⟩|⟨_,rfl⟩ <;> cases z
 .have Y:b≠a:=by rintro rfl;rw[E] at e;cases e
  rw[qP Y];exact r.sub _ _ e
 .by_cases N:j=i
  .subst N;rw[O] at J;cases J;exact E
  .rw[Br (Gb N)] at U;exact r.sep j b u J U A
 .by_cases N:j=i
  .subst N;rw[O] at J;cases J
   rw[Dk I] at U;cases U;exact hm
  .rw[Br (Gb N)] at U
   have Y:b≠a:=by rintro rfl;exact N (dY r.nd J O)
   have z:=r.at' j b u J U;cases u with
   |dead=>trivial
   |lst w=>obtain⟨Q,q,t⟩:=z;exact⟨Q,by rw[qP Y];exact q,t⟩
   |dct G=>obtain⟨Q,q,t⟩:=z;exact⟨Q,by rw[qP Y];exact q,t⟩
   |dcT G=>obtain⟨Q,q,t⟩:=z;exact⟨Q,by rw[qP Y];exact q,t⟩
   |ins C M=>obtain⟨L,Q,q,t⟩:=z;exact⟨L,Q,by rw[qP Y];exact q,t⟩
 .by_cases Y:b=a
  .subst Y;rw[z9];intro z;cases z
  .rw[qP Y];exact r.own j b q
end
theorem nn {β : Type}{a:β}{p:Prop}(h:(none:An β) = Ab a):p:=by cases h
theorem jD {β : Type}{c:Prop}[Hy c]{a b:β}(h:(if c then Ab a else none)=Ab b):c/\a=b:=by
 by_cases z:c
 .rw[Bi z] at h;exact⟨z,Dc h⟩
 .rw[Bh z] at h;exact nn h
end _D
end
namespace _D
open _L
variable {us:ag}{cf:Aa Fz}{vs:Aa V}{u vv:Ad}{p:Af}{R:It->Hp->Prop}{sp:Sp}{S:ak}{Q:VK}
abbrev DE:=qB->ak->ba D
abbrev DT:=qB->ak->ba As
abbrev DA:=qB->ak->ba (Aa D)
inductive jf where
 |nx (env:qB) (S:ak)|rt (d:D) (S:ak)|bk (env:qB) (S:ak)|ct (env:qB) (S:ak)|ex (c:Ad) (x:D) (env:qB) (S:ak)|bad
abbrev DS:=qB->ak->jf
def vk (X:Cx)(ai:aa)(H:Hp)(b:Af):Prop:=
 (∃ o,X.s₀.heap.get? b=Ab o)\/H b≠none\/(∃ p∈X.pn++ai,p.1=b)\/∃ x,X.env.cells.lookup x=Ab b
def Cv (X:Cx)(ai:aa)(H:Hp)(B h:Cb):Prop:=∀ b o,h.get? b=Ab o->vk X ai H b->b ∉ jg X.stack->B.get? b=Ab o
inductive ql (X:Cx)(pins:aa)(H:Hp)(c:Ad)(e:Af)(h:Cb):Prop where
 |new (g:Cb) (args:ag):AaW g h e c args->g.FunFrames X.base X.stack->(∀ b o,h.get? b=Ab o->vk X pins H b->g.get? b=Ab o)->ql X pins H c e h
 |fly (B:Cb) (a0:Ad):Yz B X.stack e c a0 h->Cv X pins H B h->ql X pins H c e h
inductive uz (X:Cx)(P:Hp)(α : Aa Af)(c:Ad)(x:D)(S:ak)(u:Ad)(s:Ah):Prop
 |mk (e:Af) (pins:aa) (σ : _L.St) (H:Hp) (P':Hp) (α' : Aa Af) (e1:u=.ref e) (I:Inv X pins σ H s) (r:bf X.K H P' α' S) (q1:qF P P') (q2:α<+:α') (q3:X.ex=[]/\X.stack=X.env::X.outer/\X.env.frame=Ab X.env.locals) (q4:ql X pins H c e s.heap):uz X P α c x S u s
theorem uz.base {X:Cx}{P P1:Hp}{α Y:ae}{c:Ad}{x:D}{s:Ah}(e:qF P P1)(h:α<+:Y)(k:uz X P1 Y c x S u s):uz X P α c x S u s:=by
 obtain⟨a,B,σ,H,L,J,N,I,r,G,C,O,U⟩:=k;exact⟨a,B,σ,H,L,J,N,I,r,e.trans G,h.trans C,O,U⟩
section
variable (X:Cx)
def qJ {β:Type}(P:Hp)(α : Aa Af)(r:ba β)(Ok:β->ak->Prop):Prop:=
 match r with
 |.ok d Y=>Ok d Y
 |.ex c x Y=>∀ u J,uz X P α c x Y u J->X.xe u J
 |.bad=>Ey
def jj (P:Hp)(α : Aa Af)(Q:VK)(d:D)(G:ak):Prop:=∀ v U J Y,bf X.K U J Y G->qF P J->α<+:Y->aq X.K J Y d v->Q v U
def yj (P:Hp)(α : Aa Af)(Q:As->Hp->Prop)(b:As)(G:ak):Prop:=∀ J U Y,bf X.K J U Y G->qF P U->α<+:Y->Q b J
def P_ (P:Hp)(α : Aa Af)(Q:Aa V->Hp->Prop)(ds:Aa D)(G:ak):Prop:=∀ vs U J Y,bf X.K U J Y G->qF P J->α<+:Y->qC X.K J Y ds vs->Q vs U
abbrev qV (P:Hp)(α : Aa Af)(r:ba D)(Q:VK):Prop:=qJ X P α r (jj X P α Q)
abbrev wZ (P:Hp)(α : Aa Af)(r:ba As)(Q:As->Hp->Prop):Prop:=qJ X P α r (yj X P α Q)
abbrev b7 (P:Hp)(α : Aa Af)(r:ba (Aa D))(Q:Aa V->Hp->Prop):Prop:=qJ X P α r (P_ X P α Q)
def qX (P:Hp)(α : Aa Af)(r:jf)(D:Ends):Prop:=
 match r with
 |.nx U O=>∀ J N G Y,bf X.K N G Y O->zJ X.K G Y J U->qF P G->α<+:Y->D.nx J N
 |.bk U O=>∀ J N G Y,bf X.K N G Y O->zJ X.K G Y J U->qF P G->α<+:Y->D.bk J N
 |.ct U O=>∀ J N G Y,bf X.K N G Y O->zJ X.K G Y J U->qF P G->α<+:Y->D.ct J N
 |.rt d O=>∀ v N G Y,bf X.K N G Y O->qF P G->α<+:Y->aq X.K G Y d v->D.rt v N
 |.ex c x _ O=>∀ u C,uz X P α c x O u C->X.xe u C
 |.bad=>Ey
inductive tD (f:DE)(σ : _L.St)(H:Hp)(Q:VK):Prop
 |mk (P:Hp) (α : Aa Af) (env:qB) (S:ak) (r:bf X.K H P α S) (re:zJ X.K P α σ env) (af:qV X P α (f env S) Q):tD f σ H Q
inductive ma (f:DT)(σ : _L.St)(H:Hp)(Q:As->Hp->Prop):Prop
 |mk (P:Hp) (α : Aa Af) (env:qB) (S:ak) (r:bf X.K H P α S) (re:zJ X.K P α σ env) (af:wZ X P α (f env S) Q):ma f σ H Q
inductive lv (f:DA)(σ : _L.St)(H:Hp)(Q:Aa V->Hp->Prop):Prop
 |mk (P:Hp) (α : Aa Af) (env:qB) (S:ak) (r:bf X.K H P α S) (re:zJ X.K P α σ env) (af:b7 X P α (f env S) Q):lv f σ H Q
inductive iu (f:DS)(D:Ends)(σ : _L.St)(H:Hp):Prop
 |mk (P:Hp) (α : Aa Af) (env:qB) (S:ak) (r:bf X.K H P α S) (re:zJ X.K P α σ env) (af:qX X P α (f env S) D):iu f D σ H
end
section
variable {X:Cx}{P P1:Hp}{α α1:ae}
theorem qV.base {r:ba D}(e:qF P P1)(h:α<+:α1)(k:qV X P α r Q):qV X P1 α1 r Q:=by
 cases r with
 |ok d S=>exact λv J C Y r G U O=>k v J C Y r (e.trans G) (h.trans U) O
 |ex c x S=>exact λu N q=>k u N (q.base e h)
 |bad=>exact k
theorem wZ.base {r:ba As}{Q:As->Hp->Prop}(e:qF P P1)(h:α<+:α1)(k:wZ X P α r Q):wZ X P1 α1 r Q:=by
 cases r with
 |ok d S=>exact λJ N Y r O G=>k J N Y r (e.trans O) (h.trans G)
 |ex c x S=>exact λu U q=>k u U (q.base e h)
 |bad=>exact k
theorem b7.base {r:ba (Aa D)}{Q:Aa V->Hp->Prop}(e:qF P P1)(h:α<+:α1)(k:b7 X P α r Q):b7 X P1 α1 r Q:=by
 cases r with
 |ok d S=>exact λv J N Y r O G C=>k v J N Y r (e.trans O) (h.trans G) C
 |ex c x S=>exact λu U q=>k u U (q.base e h)
 |bad=>exact k
theorem qX.base {r:jf}{D:Ends}(e:qF P P1)(h:α<+:α1)(k:qX X P α r D):qX X P1 α1 r D:=by
 cases r with
 |nx G S=>exact λv J N Y r C O U=>k v J N Y r C (e.trans O) (h.trans U)
 |bk G S=>exact λv J N Y r C O U=>k v J N Y r C (e.trans O) (h.trans U)
 |ct G S=>exact λv J N Y r C O U=>k v J N Y r C (e.trans O) (h.trans U)
 |rt d S=>exact λv J N Y r O U L=>k v J N Y r (e.trans O) (h.trans U) L
 |ex c x G S=>exact λu B q=>k u B (q.base e h)
 |bad=>exact k
theorem xr {v:V}{H:Hp}{d:D}(k:jj X P α Q d S)(r:bf X.K H P α S)(q:aq X.K P α d v):Q v H:=k v H P α r (qF.refl _) (Bd _) q
end
section
variable {X:Cx}{a b e:Bz}{ao:Fn}
theorem o_ {t t':TE}(h:PE X e t)(w:∀ σ H Q,t' σ H Q->t σ H Q):PE X e t':=λY s σ H Q I q=>h Y s σ H Q I (w σ H Q q)
theorem xu {st:Fz}{t t':TS}(h:PS X st t)(w:∀ D σ H,t' D σ H->t D σ H):PS X st t':=λY s σ H D I q=>h Y s σ H D I (w D σ H q)
theorem E7 {st:Aa Fz}{t t':TS}(h:ir X st t)(w:∀ D σ H,t' D σ H->t D σ H):ir X st t':=λY s σ H D I q=>h Y s σ H D I (w D σ H q)
theorem paW {es:Aa Bz}{t t':TA}(h:PA X es t)(w:∀ σ H Q,t' σ H Q->t σ H Q):PA X es t':=λao Y s σ H Q I q=>h ao Y s σ H Q I (w σ H Q q)
structure Got (X:Cx)(pins:aa)(σ : _L.St)(env:qB)(P:Hp)(α : Aa Af)(u:Ad)(s1:Ah)(v:V)(H1 P1:Hp)(α1:ae)(d:D)(S1:ak):Prop where
 inv:Inv X pins σ H1 s1
 val:qG v u
 rel:bf X.K H1 P1 α1 S1
 env:zJ X.K P1 α1 σ env
 rep:aq X.K P1 α1 d v
 same:qF P P1
 pre:α<+:α1
inductive xg (X:Cx)(pins:aa)(σ : _L.St)(env:qB)(P:Hp)(α : Aa Af)(u:Ad)(s1:Ah){γ : Type}(g:D->ak->ba γ)(Ok:γ->ak->Prop):Prop
 |mk (v:V) (H1 P1:Hp) (α1:ae) (d:D) (S1:ak) (G:Got X pins σ env P α u s1 v H1 P1 α1 d S1) (q:qJ X P α (g d S1) Ok):xg X pins σ env P α u s1 g Ok
inductive uk (X:Cx)(pins:aa)(σ : _L.St)(env:qB)(P:Hp)(α : Aa Af)(us:ag)(s1:Ah){γ : Type}(g:Aa D->ak->ba γ)(Ok:γ->ak->Prop):Prop
 |mk (vs:Aa V) (H1 P1:Hp) (α1:ae) (ds:Aa D) (S1:ak) (I:Inv X pins σ H1 s1) (rv:qI vs us) (r:bf X.K H1 P1 α1 S1) (re:zJ X.K P1 α1 σ env) (rp:qC X.K P1 α1 ds vs) (e1:qF P P1) (e2:α<+:α1) (q:qJ X P α (g ds S1) Ok):uk X pins σ env P α us s1 g Ok
inductive w_ (X:Cx)(pins:aa)(σ : _L.St)(env:qB)(P:Hp)(α : Aa Af)(b:As)(s1:Ah){γ : Type}(g:As->ak->ba γ)(Ok:γ->ak->Prop):Prop
 |mk (H1 P1:Hp) (α1:ae) (S1:ak) (I:Inv X pins σ H1 s1) (r:bf X.K H1 P1 α1 S1) (re:zJ X.K P1 α1 σ env) (e1:qF P P1) (e2:α<+:α1) (q:qJ X P α (g b S1) Ok):w_ X pins σ env P α b s1 g Ok
theorem zX {γ:Type}{f:DE}{g:D->ak->ba γ}{Ok:γ->ak->Prop}{ai:aa}{s:Ah}{σ:_L.St}{H P:Hp}{α:ae}{env:qB}(M:PE X e (tD X f))(I:Inv X ai σ H s)(r:bf X.K H P α S)
  (L:zJ X.K P α σ env) (U:qJ X P α ((f env S).bind g) Ok) :
  Aq (Au X.prog X.w) X.A (eval e X.env) (λu B=>xg X ai σ env P α u B g Ok) X.xe s:=by
 refine bq (M ai s σ H (λv O=>∃ J Y d G,bf X.K O J Y G/\zJ X.K J Y σ env/\aq X.K J Y d v/\qF P J/\α<+:Y/\qJ X P α (g d G) Ok) I ⟨P,α,env,S,r,L,?_⟩) λu B ⟨v,O,t,o,J,Y,d,G,j,k,y,w,m,A⟩=>⟨v,O,J,Y,d,G,⟨t,o,j,k,y,w,m⟩,A⟩;cases q:f env S with
 |bad=>rw[q] at U;exact U
 |ex c x E=>rw[q] at U;exact U
 |ok d E =>
  rw[q] at U;exact λv i l N z T C n=>⟨l,N,d,E,z,L.mono T C,n,T,C,U⟩
theorem yM {γ:Type}{es:Aa Bz}{f:DA}{g:Aa D->ak->ba γ}{Ok:γ->ak->Prop}{ai:aa}{s:Ah}{σ:_L.St}{H P:Hp}{α:ae}{env:qB}(w:PA X es (lv X f))(I:Inv X ai σ H s)(r:bf X.K H P α S)
  (L:zJ X.K P α σ env) (U:qJ X P α ((f env S).bind g) Ok) (ao:Fn) :
  Aq (Au X.prog X.w) X.A (spliced (Gi ao (Bs es X.env))) (λus B=>uk X ai σ env P α us B g Ok) X.xe s:=by
 refine bq (w ao ai s σ H (λvs O=>∃ J Y A G,bf X.K O J Y G/\zJ X.K J Y σ env/\qC X.K J Y A vs/\qF P J/\α<+:Y/\qJ X P α (g A G) Ok) I ⟨P,α,env,S,r,L,?_⟩) λu B ⟨v,O,m,l,J,Y,d,G,y,o,k,z,n,M⟩=>⟨v,O,J,Y,d,G,m,l,y,o,k,z,n,M⟩;cases q:f env S with
 |bad=>rw[q] at U;exact U
 |ex c x E=>rw[q] at U;exact U
 |ok d E =>
  rw[q] at U;exact λv h t N j T C i=>⟨t,N,d,E,j,L.mono T C,i,T,C,U⟩
theorem kY {γ:Type}{f:DT}{g:As->ak->ba γ}{Ok:γ->ak->Prop}{ai:aa}{s:Ah}{σ:_L.St}{H P:Hp}{α:ae}{env:qB}{m:Kr As}
  (A:∀ (Q:As->Hp->Prop),ma X f σ H Q->Aq (Au X.prog X.w) X.A m (TP X ai σ Q) X.xe s) (r:bf X.K H P α S) (B:zJ X.K P α σ env) (J:qJ X P α ((f env S).bind g) Ok) :
  Aq (Au X.prog X.w) X.A m (λb C=>w_ X ai σ env P α b C g Ok) X.xe s:=by
 refine bq (A (λb O=>∃ U Y G,bf X.K O U Y G/\zJ X.K U Y σ env/\qF P U/\α<+:Y/\qJ X P α (g b G) Ok) ⟨P,α,env,S,r,B,?_⟩) λb C ⟨O,k,U,Y,G,w,y,M,o,I⟩=>⟨O,U,Y,G,k,w,y,M,o,I⟩;cases q:f env S with
 |bad=>rw[q] at J;exact J
 |ex c x T=>rw[q] at J;exact J
 |ok d T =>
  rw[q] at J;exact λl z N j L E=>⟨z,N,T,j,B.mono L E,L,E,J⟩
def dC (d:D):DE:=λ_ S=>.ok d S
def q9 (i:Ag):DE:=λY S=>match Y[i]? with
 |some (Ab d)=>.ok d S
 |_=>.bad
theorem LK:PE X (.Constant (.int i) j ao) (tD X (dC (.int i))):=o_ RY λσ H Q ⟨P,α,Y,S,r,U,J⟩=>xr J r (by simp only[aq])
theorem CY:PE X (.Constant (.bool i) j ao) (tD X (dC (.bl i))):=o_ IW λσ H Q ⟨P,α,Y,S,r,U,J⟩=>xr J r (by simp only[aq])
theorem LN:PE X (.Constant .none j ao) (tD X (dC .non)):=o_ RZ λσ H Q ⟨P,α,Y,S,r,U,J⟩=>xr J r (by simp only[aq])
set_option tactic.hygienic true in
theorem N2 {i:Ag}{σ:_L.St}{H:Hp}(h:tD X (q9 i) σ H Q):HW i σ H Q:=by
 obtain⟨P,α,G,S,r,U,Y⟩:=h;unfold q9 at Y
 split at Y
 .rename_i d q
  obtain⟨v,N,J⟩:=U.2 i d q;exact⟨v,N,xr Y r J⟩
 .exact Ar Y
theorem dv (i:Ag){x:Aw}(J:X.N[i]? = Ab x:=by rfl)(hv:tz X.env.scope x:=by first|exact Ab2 rfl|exact Aa1 (Ab2 rfl)|exact Aa1 (Aa1 rfl))(U:(x == ("__debug__" : Aw))=false:=by decide)
  (Y:(x == ("__classdict__" : Aw))=false:=by decide):PE X (.Name x ao) (tD X (q9 i)):=o_ (E2 J hv U Y) λσ H Q h=>N2 h
theorem BB {x:Aw}{d:D}{v:V}(U:Gl X x)(hm:X.mg x=Ab u)(r:qG v u)(q:∀ P α,aq X.K P α d v)(J:(x == ("__debug__" : Aw))=false:=by decide):PE X (.Name x ao) (tD X (dC d)):=
 o_ (M3 U hm r J) λσ H Q ⟨P,α,Y,S,r,N,G⟩=>xr G r (q _ _)
theorem B8 {x:Aw}{n:Ex}(U:Gl X x)(hm:X.mg x=none)(hv:Fy x=Ab (.type n))(N:x ≠ "__name__":=by decide)(J:(x == ("__debug__" : Aw))=false:=by decide):PE X (.Name x ao) (tD X (dC (.ty n))):=
 o_ (M2 (v:=.ty n) U hm hv rfl N J) λσ H Q ⟨P,α,Y,S,r,O,G⟩=>xr G r (by simp only[aq])
abbrev G2:=D->D->ak->ba D
def fv (X:Cx)(f:Ad->Ad->Kr Ad)(g:G2):Prop:=
 ∀ (J:aa) (σ : _L.St) (H:Hp) (s:Ah) (P:Hp) (α : Aa Af) (S:ak) (v u:V) (vv Y:Ad) (a b:D) (Q:VK),Inv X J σ H s->bf X.K H P α S->qG v vv->qG u Y->aq X.K P α a v->aq X.K P α b u->qV X P α (g a b S) Q ->
  Aq (Au X.prog X.w) X.A (f vv Y) (EP X J σ Q) X.xe s
theorem fv.of {f:Ad->Ad->Kr Ad}{r:R2}{g:G2}(h:lj X f r)(w:∀ H P α S v u a b Q,bf X.K H P α S->aq X.K P α a v->aq X.K P α b u->qV X P α (g a b S) Q->r v u H Q):fv X f g:=
 λJ σ H s P α S v u vv Y a b Q I G B O N U C=>h J s σ H v u vv Y Q I B O (w H P α S v u a b Q G N U C)
def y_ (X:Cx)(f:Ad->Kr Ad)(g:D->ak->ba D):Prop:=
 ∀ (Y:aa) (σ : _L.St) (H:Hp) (s:Ah) (P:Hp) (α : Aa Af) (S:ak) (v:V) (vv:Ad) (a:D) (Q:VK),Inv X Y σ H s->bf X.K H P α S->qG v vv->aq X.K P α a v->qV X P α (g a S) Q ->
  Aq (Au X.prog X.w) X.A (f vv) (EP X Y σ Q) X.xe s
def ze (X:Cx)(g:G2):Prop:=
 ∀ (J Y:Bz) (G:aa) (σ : _L.St) (H:Hp) (s:Ah) (P:Hp) (α : Aa Af) (S:ak) (v u:V) (vv U:Ad) (a b:D) (Q:VK),Inv X G σ H s->bf X.K H P α S->qG v vv->qG u U->aq X.K P α a v->aq X.K P α b u->qV X P α (g a b S) Q ->
  subscripted Y false vv U=operate [vv,U] (Op vv U)->Aq (Au X.prog X.w) X.A (Sr J Y vv U) (EP X G σ Q) X.xe s
def wM (X:Cx)(f:Ad)(g:Aa D->ak->ba D):Prop:=
 ∀ (Y:aa) (σ : _L.St) (H:Hp) (s:Ah) (P:Hp) (α : Aa Af) (S:ak) (vs:Aa V) (us:ag) (J:Aa D) (Q:VK),Inv X Y σ H s->bf X.K H P α S->qI vs us->qC X.K P α J vs->qV X P α (g J S) Q ->
  Aq (Au X.prog X.w) X.A (call f us) (EP X Y σ Q) X.xe s
def d2 (g:G2)(N J:DE):DE:=λY S=>(N Y S).bind λx U=>(J Y U).bind λy G=>g x y G
def d1 (g:D->ak->ba D)(J:DE):DE:=λY S=>(J Y S).bind g
variable {fa fb:DE}
theorem rX {g:G2}{f:Ad->Ad->Kr Ad}{ai:aa}{s:Ah}{σ:_L.St}{H:Hp}(k:fv X f g)(w:PE X a (tD X fa))(q:PE X b (tD X fb))(I:Inv X ai σ H s)(h:tD X (d2 g fa fb) σ H Q) :
  Aq (Au X.prog X.w) X.A (eval a X.env) (λv J=>Aq (Au X.prog X.w) X.A (eval b X.env) (λu U=>Aq (Au X.prog X.w) X.A (f v u) (EP X ai σ Q) X.xe U) X.xe J) X.xe s:=by
 obtain⟨P,α,j,S,r,M,o⟩:=h;refine bq (zX w I r M o) λvv c ⟨v,t,L,G,d,m,Y,C⟩=>?_;refine bq (zX q Y.inv Y.rel Y.env (P:=L) (α:=G) (Ok:=jj X L G Q) (g:=λy B=>g d y B) ?_) λz T ⟨u,l,A,O,E,B,G2,N⟩=>?_
 .exact qV.base Y.same Y.pre C
 .exact k ai σ l T A O B v u vv z d E Q G2.inv G2.rel Y.val G2.val (aq.mono G2.same G2.pre _ _ Y.rep) G2.rep (qV.base G2.same G2.pre N)
theorem A4 {op:Operator}{g:G2}(Y:fv X (Ew op) g)(J:PE X a (tD X fa))(U:PE X b (tD X fb)):PE X (.BinOp a op b ao) (tD X (d2 g fa fb)):=
 λG s σ H Q I h=>wpAny_BinOp (rX Y J U I h)
theorem LI {op:Xm}{g:G2}(Y:fv X (Ci op) g)(J:PE X a (tD X fa))(U:PE X b (tD X fb))(hm:Nd op b=false:=by first|exact bP _|with_unfolding_all rfl):PE X (.Compare a [op] [b] ao) (tD X (d2 g fa fb)):=
 λG s σ H Q I h=>wpAny_Compare1 (rX Y J U I h) hm
theorem A5 {op:UnaryOp}{g:D->ak->ba D}(T:y_ X (v4 op) g)(C:PE X a (tD X fa)):PE X (.UnaryOp op a ao) (tD X (d1 g fa)):=by
 intro B s σ H Q I h;obtain⟨P,α,L,S,r,O,A⟩:=h;exact UnaryOp_ (bq (zX C I r O A) λvv N ⟨v,E,G,U,d,M,Y,J⟩=>T B σ E N G U M v vv d Q Y.inv Y.rel Y.val Y.rep (qV.base Y.same Y.pre J))
theorem A3 {g:G2}(ho:ze X g)(i:PE X a (tD X fa))(hb:PE X b (tD X fb))(hs:nM b:=by intro _ _;rfl):PE X (.Subscript a b ao) (tD X (d2 g fa fb)):=by
 intro j s σ H Q I h;obtain⟨P,α,Y,S,r,C,U⟩:=h;have O:uh X (λx y H Q=>∃ P α S a b,bf X.K H P α S/\aq X.K P α a x/\aq X.K P α b y/\qV X P α (g a b S) Q):=λG N j s σ H x y v u Q I n ry ⟨P,α,S,a,b,r,p1,m,U⟩ k =>
  ho G N j σ H s P α S x y v u a b Q I r n ry p1 m U k
 refine o_ (IX O i hb hs) (t':=tD X (d2 g fa fb)) (λσ H Q h=>?_) j s σ H Q I ⟨P,α,Y,S,r,C,U⟩;obtain⟨P,α,Y,S,r,C,U⟩:=h;refine⟨P,α,Y,S,r,C,?_⟩;unfold d2 at U;cases q:fa Y S with
 |bad=>rw[q] at U;exact U
 |ex c x S'=>rw[q] at U;exact U
 |ok d E =>
  rw[q] at U;intro v H1 t T r1 B A rp;refine⟨t,T,Y,E,r1,C.mono B A,?_⟩;have J:qV X P α ((fb Y E).bind λy L=>g d y L) Q:=U;cases w:fb Y E with
  |bad=>rw[w] at J;exact J
  |ex c x S'=>rw[w] at J;exact λu s' z=>J u s' (z.base B A)
  |ok d' L =>
   rw[w] at J;intro u H2 P2 M r2 f l o;exact⟨P2,M,L,d,d',r2,aq.mono f l _ _ rp,o,qV.base (B.trans f) (A.trans l) J⟩
def qA:DA:=λ_ S=>.ok [] S
def q8 (f:DE)(g:DA):DA:=λY S=>(f Y S).bind λx U=>(g Y U).bind λJ G=>.ok (x::J) G
theorem LF:PA X [] (lv X qA):=paW RX λσ H Q ⟨P,α,Y,S,r,U,J⟩=>J [] H P α r (qF.refl _) (Bd _) .nil
theorem B6 {es:Aa Bz}{g:DA}(A:PE X e (tD X fa))(T:PA X es (lv X g))(hs:Bs (e::es) X.env=(false,eval e X.env)::Bs es X.env:=by rfl):PA X (e::es) (lv X (q8 fa g)):=by
 intro ao m s σ H Q I h;obtain⟨P,α,j,S,r,E,o⟩:=h;rw[hs];show Aq _ _ (spliced ((false,eval e X.env)::Gi ao (Bs es X.env))) _ _ s;refine Of (bq (zX A I r E o) λu c ⟨x,n,O,J,d,f,Y,G⟩=>?_);refine bq (yM T Y.inv Y.rel Y.env (P:=O) (α:=J) (Ok:=P_ X O J Q) (b7.base Y.same Y.pre G) ao) λus l ⟨k,q,t,z,i,v,L,y,w,M,N,C,B,U⟩=>?_;exact⟨x::k,q,L,.cons Y.val y,U _ _ _ _ w C B (.cons (aq.mono C B _ _ Y.rep) N)⟩
noncomputable def bn:Ag:=16777216
theorem xN:bn=sizeLine:=Fq.symm
def zD (f:DA):DE:=λY S=>(f Y S).bind λJ U=>if J.length<=bn then .ok (.tup J) U else .bad
def wA (f:DA):DE:=λY S=>(f Y S).bind λJ U=>if J.length<=bn then .ok (.lst J) U else .bad
def vY (f:DA):DE:=λY S=>(f Y S).bind λJ U=>if J.length<=bn then .ok (.loc U.length) (U++[.lst J]) else .bad
theorem fL {K:Ak}{P:Hp}{α:ae}{a:Af}{ds:Aa D}(h:iq K P a vs)(r:qC K P α ds vs):aq K P α (.tup ds) (.ref a):=by simp only[aq];exact⟨a,vs,rfl,h,r⟩
theorem fK {K:Ak}{P:Hp}{α:ae}{a:Af}{ds:Aa D}(h:ox K P a vs)(r:qC K P α ds vs):aq K P α (.lst ds) (.ref a):=by simp only[aq];exact⟨a,vs,rfl,h,r⟩
theorem pC {H P:Hp}{α:ae}{ds:Aa D}(r:bf X.K H P α S)(hp:H p=none)(G:qC X.K P α ds vs)(U:jj X P α Q (.tup ds) S):Q (.ref p) (b_ H p (.tup vs)):=by
 obtain⟨J,Y⟩:=r.pure (o:=.tup vs) hp;exact U _ _ _ α J Y (Bd _) (fL (.of z9) (qC.mono Y (Bd _) _ _ G))
theorem wO {H P:Hp}{α:ae}{ds:Aa D}(r:bf X.K H P α S)(hp:H p=none)(G:qC X.K P α ds vs)(U:jj X P α Q (.lst ds) S):Q (.ref p) (b_ H p (.lst vs)):=by
 obtain⟨J,Y⟩:=r.pure (o:=.lst vs) hp;exact U _ _ _ α J Y (Bd _) (fK (.inl (.inl z9)) (qC.mono Y (Bd _) _ _ G))
theorem lK {H P:Hp}{α:ae}{ds:Aa D}(r:bf X.K H P α S)(hp:H p=none)(G:qC X.K P α ds vs)(U:jj X P α Q (.loc S.length) (S++[.lst ds])):Q (.ref p) (b_ H p (.lst vs)):=by
 have Y:α<+:α++[p]:=Ft _ _;have J:=r.new (o:=.lst vs) (m:=.lst ds) hp ⟨vs,z9,qC.mono (qF.refl _) Y _ _ G⟩;refine U _ _ _ _ J (qF.refl _) Y ?_;simp only[aq];exact⟨p,rfl,by rw[<- r.len];simp⟩
theorem nU {f:DA}{σ:_L.St}{H:Hp}{G:Aa D->ak->ba D}{mk:Aa V->HO}(h:tD X (λenv S=>(f env S).bind λxs S1=>if xs.length<=bn then G xs S1 else .bad) σ H Q)
  (k:∀ N P1 J S1 ds vs p,bf X.K N P1 J S1->N p=none->qC X.K P1 J ds vs->qV X P1 J (G ds S1) Q->Q (.ref p) (b_ N p (mk vs))) :
  lv X f σ H λvs N=>vs.length<=sizeLine/\∀ p,N p=none->Q (.ref p) (b_ N p (mk vs)):=by
 obtain⟨P,α,env,S,r,L,E⟩:=h;refine⟨P,α,env,S,r,L,?_⟩;have Y:qV X P α ((f env S).bind λxs S1=>if xs.length<=bn then G xs S1 else .bad) Q:=E
 cases q:f env S with
 |bad=>rw[q] at Y;exact Y
 |ex c x M=>rw[q] at Y;exact Y
 |ok ds S1 =>
  rw[q] at Y;intro vs N P1 J A I B C;have U:qV X P α (if ds.length<=bn then G ds S1 else .bad) Q:=Y
  by_cases O:ds.length<=bn
  .rw[Bi O] at U
   exact⟨by rw[<- C.length,<- xN];exact O,λp T=>k N P1 J S1 ds vs p A T C (qV.base I B U)⟩
  .rw[Bh O] at U;exact Ar U
theorem LR {es:Aa Bz}{f:DA} {x1} (h:PA X es (lv X f)):PE X (.Tuple es x1 ao) (tD X (zD f)):=
 o_ (E1 h) λσ H Q q=>nU (G:=λU Y=>.ok (.tup U) Y) (mk:=.tup) q λL B N Y T vs p r J C O=>pC r J C O
theorem LM {es:Aa Bz}{f:DA}(h:PA X es (lv X f)):PE X (.List es ao) (tD X (wA f)):=
 o_ (WV h) λσ H Q q=>nU (G:=λU Y=>.ok (.lst U) Y) (mk:=.lst) q λL B N Y T vs p r J C O=>wO r J C O
theorem BC {es:Aa Bz}{f:DA}(h:PA X es (lv X f)):PE X (.List es ao) (tD X (vY f)):=
 o_ (WV h) λσ H Q q=>nU (G:=λU Y=>.ok (.loc Y.length) (Y++[MO.lst U])) (mk:=.lst) q λL B N Y T vs p r J C O=>lK r J C O
end
section
variable {X:Cx}{a b c e:Bz}{ao:Fn}{fa fb fc:DE}{ta tb:DT}
def xM:D->ak->An As
 |.non,_=>Ab false
 |.bl b,_=>Ab b
 |.int i,_=>Ab (i != 0)
 |.str x,_=>if x.length<=bn then Ab ((x.length:Aj) != 0) else none
 |.tup Y,_=>Ab (!Y.isEmpty)
 |.lst Y,_=>Ab (!Y.isEmpty)
 |.dct0,_=>Ab false
 |.loc i,S=>match S[i]? with
  |some (.lst Y)=>Ab (!Y.isEmpty)
  |some (.dct J)=>Ab (!J.isEmpty)
  |_=>none
 |_,_=>none
theorem qC.isEmpty {K:Ak}{P:Hp}{α:ae}{ds:Aa D}(r:qC K P α ds vs):(!ds.isEmpty)=!vs.isEmpty:=by
 cases ds with
 |nil=>rw[r.nil_inv];rfl
 |cons d ds=>obtain⟨w,Y,rfl,_,_⟩:=r.cons_inv;rfl
theorem xY {K:Ak}{H P:Hp}(e:qF P H){a:Af}{xs:Aa V}(h:iq K P a xs):iq K H a xs:=wC e h
theorem uY {H P:Hp}{α:ae}{v:V}{d:D}{k:As}(r:bf X.K H P α S)(p:aq X.K P α d v)(h:xM d S=Ab k):oS X.K v H k:=by
 cases d with
 |non=>simp only[aq] at p;subst p;cases h;rfl
 |bl b=>simp only[aq] at p;subst p;cases h;rfl
 |int i=>simp only[aq] at p;subst p;cases h;rfl
 |str x =>
  simp only[aq] at p;subst p;obtain⟨G,rfl⟩:=jD h;exact⟨by rw[<- xN];exact G,rfl⟩
 |tup J =>
  simp only[aq] at p;obtain⟨a,vs,rfl,q,t⟩:=p;cases h;exact .inr (.inl ⟨vs,xY r.sub q,t.isEmpty⟩)
 |lst J =>
  simp only[aq] at p;obtain⟨a,vs,rfl,q,t⟩:=p;cases h;exact .inl ⟨vs,(xK r.sub q).l,t.isEmpty⟩
 |dct0 =>
  simp only[aq] at p;obtain⟨a,rfl,q⟩:=p;cases h;exact .inr (.inr ⟨[],r.sub _ _ q,rfl⟩)
 |loc i =>
  simp only[aq] at p;obtain⟨a,rfl,q⟩:=p;have h:(match S[i]? with|some (.lst J)=>Ab (!J.isEmpty)|some (.dct Y)=>Ab (!Y.isEmpty)|_=>none)=Ab k:=h
  cases hs:S[i]? with
  |none=>rw[hs] at h;exact nn h
  |some m =>
   rw[hs] at h;cases m with
   |lst J =>
    cases h;obtain⟨vs,z,t⟩:=r.at' i a _ q hs;exact .inl ⟨vs,.of z,t.isEmpty⟩
   |dct Y =>
    cases h;obtain⟨vs,z,t⟩:=r.at' i a _ q hs;refine .inr (.inr ⟨vs,z,?_⟩);cases t <;> rfl
   |_=>exact nn h
 |ty n=>exact nn h
 |obj a=>exact nn h
 |exn c=>exact nn h
 |fd N U=>exact nn h
 |clo a vs U=>exact nn h
theorem PP {ai:aa}{s:Ah}{σ:_L.St}{H P:Hp}{α:ae}{v:V}{d:D}{k:As}{Q:As->Hp->Prop}(I:Inv X ai σ H s)(r:bf X.K H P α S)(Y:qG v vv)(p:aq X.K P α d v)(h:xM d S=Ab k)(q:Q k H) :
  Aq (Au X.prog X.w) X.A (truthy vv) (TP X ai σ Q) X.xe s:=bW ai s σ H v vv Q I Y ⟨k,uY r p h,q⟩
def jM (o:An As)(S:ak):ba As:=match o with
 |some b=>.ok b S
 |none=>.bad
def ci (f:DE):DT:=λY S=>(f Y S).bind λd J=>jM (xM d J) J
theorem lP {o:An As}{P:Hp}{α:ae}{Ok:As->ak->Prop}(h:qJ X P α (jM o S) Ok):∃ b,o=Ab b/\Ok b S:=by
 cases o with
 |none=>exact Ar h
 |some b=>exact⟨b,rfl,h⟩
theorem D8 (B:PE X a (tD X fa))(N:∀ Y,isTrue a X.env Y=(do let v <- Y;Sv a.pos;holding [v] (truthy v)):=by intro _;rfl):PT X a (ma X (ci fa)):=by
 intro w s σ H Q I h;obtain⟨P,α,T,S,r,C,A⟩:=h;refine isTrue_plain (bq (zX B I r C A) λvv M ⟨v,E,O,G,d,z,J,U⟩=>?_) (N _);obtain⟨k,L,q⟩:=lP U;exact PP J.inv J.rel J.val J.rep L (q E O G J.rel J.same J.pre)
theorem D6 {op:Xm}{g:G2}(n:fv X (Ci op) g)(A:PE X a (tD X fa))(hb:PE X b (tD X fb))(hm:Nd op b=false:=by first|exact bP _|with_unfolding_all rfl):PT X (.Compare a [op] [b] ao) (ma X (ci (d2 g fa fb))):=by
 intro m s σ H Q I h;obtain⟨P,α,J,S,r,T,af⟩:=h;refine wpAny_isTrue_Compare1 ?_ hm;have N:tD X (d2 g fa fb) σ H (λv U=>∃ k,oS X.K v U k/\Q k U):=by
  refine⟨P,α,J,S,r,T,?_⟩;have Y:qJ X P α ((d2 g fa fb J S).bind λd C=>jM (xM d C) C) (yj X P α Q):=af;cases q:d2 g fa fb J S with
  |bad=>rw[q] at Y;exact Y
  |ex c x S'=>rw[q] at Y;exact Y
  |ok d C =>
   rw[q] at Y;obtain⟨k,M,G⟩:=lP (X:=X) Y;exact λv U L O B f j o=>⟨k,uY B o M,G U L O B f j⟩
 exact bq (rX n A hb I N) λv s1 l=>bq l λu s2 E=>bq E λx s3 ⟨y,z,w,t,k,i,G⟩=>bW m s3 σ z y x Q w t ⟨k,i,G⟩
def w4 (g g':G2)(fa fb fc:DE):DE:=λY S=>(fa Y S).bind λx G=>(fb Y G).bind λy N=>(g x y N).bind λz J =>
 match xM z J with
 |some true=>(fc Y J).bind λw U=>g' y w U
 |some false=>.ok z J
 |none=>.bad
inductive xf (X:Cx)(pins:aa)(σ : _L.St)(P:Hp)(α : Aa Af)(w:Ad)(s1:Ah){γ : Type}(k:D->ak->ba γ)(Ok:γ->ak->Prop):Prop
 |mk (y:V) (H1 P1:Hp) (α1:ae) (d:D) (S1:ak) (I:Inv X pins σ H1 s1) (rv:qG y w) (r:bf X.K H1 P1 α1 S1) (rp:aq X.K P1 α1 d y) (e1:qF P P1) (e2:α<+:α1) (q:qJ X P α (k d S1) Ok):xf X pins σ P α w s1 k Ok
theorem c8 {γ:Type}{f:Ad->Ad->Kr Ad}{g:G2}{k:D->ak->ba γ}{Ok:γ->ak->Prop}{ai:aa}{σ:_L.St}{H:Hp}{s:Ah}{P:Hp}{α:ae}{v u:V}{O:Ad}{a b:D}(h:fv X f g)(I:Inv X ai σ H s)(r:bf X.K H P α S)
  (i:qG v vv) (T:qG u O) (pa:aq X.K P α a v) (pb:aq X.K P α b u) (J:qJ X P α ((g a b S).bind k) Ok) :
  Aq (Au X.prog X.w) X.A (f vv O) (λw B=>xf X ai σ P α w B k Ok) X.xe s:=by
 refine bq (h ai σ H s P α S v u vv O a b (λy C=>∃ U Y d G,bf X.K C U Y G/\aq X.K U Y d y/\qF P U/\α<+:Y/\qJ X P α (k d G) Ok) I r i T pa pb ?_) λw B ⟨y,C,I1,o,U,Y,d,G,A,n,z,E,q5⟩=>⟨y,C,U,Y,d,G,I1,o,A,n,z,E,q5⟩;cases q:g a b S with
 |bad=>rw[q] at J;exact J
 |ex c x L=>rw[q] at J;exact J
 |ok d L =>
  rw[q] at J;exact λv H' j N m M t l=>⟨j,N,d,L,m,l,M,t,J⟩
theorem qJ.base' {β:Type}{P P1:Hp}{α J:ae}{r:ba β}{Ok Y:β->ak->Prop}(e:qF P P1)(h:α<+:J)(G:∀ d S,Ok d S->Y d S)(k:qJ X P α r Ok):qJ X P1 J r Y:=by
 cases r with
 |ok d S=>exact G d S k
 |ex c x S=>exact λu U q=>k u U (q.base e h)
 |bad=>exact k
theorem VO {op U:Xm}{g g':G2}(ho:fv X (Ci op) g)(q:fv X (Ci U) g')(ha:PE X a (tD X fa))(hb:PE X b (tD X fb))(hc:PE X c (tD X fc))
  (hm:Zs [op,U] [b,c]=false:=by with_unfolding_all rfl):PE X (.Compare a [op,U] [b,c] ao) (tD X (w4 g g' fa fb fc)):=by
 intro n s σ H Q I h;obtain⟨P,α,zc,S,r,x,af⟩:=h;refine Compare_chain (bq (zX ha I r x af) λvv s1 ⟨v,H1,P1,zb,d,S1,N,A⟩=>chain_link (bq (zX hb N.inv N.rel N.env (qV.base N.same N.pre A)) λuu s2 ⟨u,H2,P2,zl,d',S2,G2,T⟩ =>
  bq (c8 ho G2.inv G2.rel N.val G2.val (aq.mono G2.same G2.pre _ _ N.rep) G2.rep (qV.base G2.same G2.pre T)) λw s3 ⟨y,l,P3,M,z,S3,I3,t,G,O,B,C,Y⟩=>?_)) hm
 cases j:xM z S3 with
 |none=>simp only[j] at Y;exact Ar Y
 |some k =>
  simp only[j] at Y;have tv:=uY G O j;refine bq (bW n s3 σ l y w (λE i=>E=k/\i=l) I3 t ⟨k,tv,rfl,rfl⟩) λE s4 ⟨f,m,hk,hH⟩=>?_;subst hk;subst hH;cases E with
  |false=>exact ite_ff ⟨y,f,m,t,Y y f P3 M G B C O⟩
  |true =>
   refine ite_tt (chain_last (bq (zX hc m G (G2.env.mono B C) (qV.base B C Y)) λww s5 ⟨w',H5,P5,o,d5,S5,J,L⟩=>?_));exact q n σ H5 s5 P5 o S5 u w' uu ww d' d5 Q J.inv J.rel G2.val J.val (aq.mono (B.trans J.same) (C.trans J.pre) _ _ G2.rep) J.rep (qV.base J.same J.pre L)
theorem VZ {op C:Xm}{g g':G2}(ho:fv X (Ci op) g)(zs:fv X (Ci C) g')(ha:PE X a (tD X fa))(hb:PE X b (tD X fb))(hc:PE X c (tD X fc))
  (hm:Zs [op,C] [b,c]=false:=by with_unfolding_all rfl):PT X (.Compare a [op,C] [b,c] ao) (ma X (ci (w4 g g' fa fb fc))):=by
 intro ai s σ H Q I h;obtain⟨P,α,Y,S,r,re,af⟩:=h;have M:qJ X P α ((w4 g g' fa fb fc Y S).bind λd J=>jM (xM d J) J) (yj X P α Q):=af;have L:(w4 g g' fa fb fc Y S).bind (λd J=>jM (xM d J) J)=(fa Y S).bind λx J=>(fb Y J).bind λy E=>(g x y E).bind λz U =>
   match xM z U with
   |some true=>((fc Y U).bind λw N=>g' y w N).bind λd J=>jM (xM d J) J
   |some false=>.ok false U
   |none=>.bad:=by
  unfold w4;cases fa Y S with
  |bad=>rfl
  |ex _ _ _=>rfl
  |ok x J =>
   show ba.bind (ba.bind (fb Y J) _) _=ba.bind (fb Y J) _;cases fb Y J with
   |bad=>rfl
   |ex _ _ _=>rfl
   |ok y E =>
    show ba.bind (ba.bind (g x y E) _) _=ba.bind (g x y E) _;cases g x y E with
    |bad=>rfl
    |ex _ _ _=>rfl
    |ok z U =>
     show ba.bind (match xM z U with|some true=>(fc Y U).bind λw N=>g' y w N|some false=>.ok z U|none=>.bad) _=_
     cases A:xM z U with
     |none=>simp only[A,ba.bind]
     |some k=>cases k <;> simp only[A,ba.bind,jM]
 rw[L] at M;refine isTrue_chain (bq (zX ha I r re M) λvv s1 ⟨v,H1,P1,zx,d,J,T,i⟩=>test_link (bq (zX hb T.inv T.rel T.env (wZ.base T.same T.pre i)) λuu s2 ⟨u,H2,P2,q,d',E,G2,m⟩ =>
  bq (c8 ho G2.inv G2.rel T.val G2.val (aq.mono G2.same G2.pre _ _ T.rep) G2.rep (wZ.base G2.same G2.pre m)) λw s3 ⟨y,H3,P3,zb,z,U,I3,r3,B,t,l,o,G⟩=>?_)) hm
 cases A:xM z U with
 |none=>simp only[A] at G;exact Ar G
 |some k =>
  simp only[A] at G;have tv:=uY B t A;refine bq (bW ai s3 σ H3 y w (λn H'=>n=k/\H'=H3) I3 r3 ⟨k,tv,rfl,rfl⟩) λn s4 ⟨H4,I4,hk,hH⟩=>?_;subst hk;subst hH;cases n with
  |false=>exact ite_ff ⟨H4,I4,G H4 P3 zb B l o⟩
  |true =>
   have zv:qJ X P2 q ((fc Y U).bind λw N=>(g' d' w N).bind λd J=>jM (xM d J) J) (yj X P2 q Q):=by
    have e:((fc Y U).bind λw N=>(g' d' w N).bind λd J=>jM (xM d J) J)=(((fc Y U).bind λw N=>g' d' w N).bind λd J=>jM (xM d J) J):=by
     cases fc Y U <;> rfl
    rw[e];exact G
   refine ite_tt (test_last (bq (zX hc I4 B (G2.env.mono l o) (wZ.base l o zv)) λww s5 ⟨w',H5,P5,zy,d5,S5,O,f⟩ =>
    bq (c8 zs O.inv O.rel G2.val O.val (aq.mono (l.trans O.same) (o.trans O.pre) _ _ G2.rep) O.rep (wZ.base O.same O.pre f)) λx6 s6 ⟨y6,H6,P6,zl,d6,S6,I6,r6,j,zc,e5,e6,zw⟩=>?_))
   obtain⟨k6,q6,z6⟩:=lP zw;exact PP I6 j r6 zc q6 (z6 H6 P6 zl j e5 e6)
def yQ (t:DT):DT:=λY S=>(t Y S).bind λb J=>.ok (!b) J
def zS (t u:DT):DT:=λY S=>(t Y S).bind λb J=>if b then u Y J else .ok false J
def bD (t u:DT):DT:=λY S=>(t Y S).bind λb J=>if b then .ok true J else u Y J
theorem D7 (B:PT X a (ma X ta)):PT X (.UnaryOp .Not a ao) (ma X (yQ ta)):=by
 intro T s σ H Q I h;obtain⟨P,α,E,S,r,C,w⟩:=h;refine isTrue_not (bq (kY (λG q=>B T s σ H G I q) r C w) λb j ⟨U,O,J,y,M,z,A,L,N,Y⟩=>⟨U,M,Y U O J z L N⟩)
def qu (X:Cx)(e:Bz)(t:DT):Prop:=PW X e (ma X t)
theorem qu.pt {t:DT}(h:qu X e t):PT X e (ma X t):=h _
theorem BQ (Y:PT X a (ma X ta)):qu X (.BoolOp .And [a] ao) ta:=ME Y
theorem DC (Y:PT X a (ma X ta)):qu X (.BoolOp .Or [a] ao) ta:=E9 Y
theorem DB {B:Aa Bz}(y:PT X a (ma X ta))(o:qu X (.BoolOp .And (b::B) ao) tb):qu X (.BoolOp .And (a::b::B) ao) (zS ta tb):=by
 intro j O s σ H Q I h;obtain⟨P,α,U,S,r,z,l⟩:=h;refine isTrue_and (bq (kY (λM q=>y O s σ H M I q) r z l) λk w ⟨G,C,Y,g,T,A,N,E,L,J⟩=>?_);cases k with
 |true=>exact o j O w σ G Q T ⟨C,Y,U,g,A,N,wZ.base E L J⟩
 |false=>exact⟨G,T,J G C Y A E L⟩
theorem AA {B:Aa Bz}(y:PT X a (ma X ta))(o:qu X (.BoolOp .Or (b::B) ao) tb):qu X (.BoolOp .Or (a::b::B) ao) (bD ta tb):=by
 intro j O s σ H Q I h;obtain⟨P,α,U,S,r,z,l⟩:=h;refine isTrue_or (bq (kY (λM q=>y O s σ H M I q) r z l) λk w ⟨G,C,Y,g,T,A,N,E,L,J⟩=>?_);cases k with
 |true=>exact⟨G,T,J G C Y A E L⟩
 |false=>exact o j O w σ G Q T ⟨C,Y,U,g,A,N,wZ.base E L J⟩
def mB (f g:DE):DE:=λY S=>(f Y S).bind λx J=>match xM x J with
 |some true=>g Y J
 |some false=>.ok x J
 |none=>.bad
def VM (f:DE):DE:=λY S=>(f Y S).bind λx J=>match xM x J with
 |some b=>.ok (.bl (!b)) J
 |none=>.bad
theorem LP  (h:PE X a (tD X fa)):PE X (.BoolOp op [a] ao) (tD X fa):=E0 h
theorem C6 {ai:aa}{s:Ah}{σ:_L.St}{H:Hp}{v:V}{k:As}{R:As->Ah->Prop}(I:Inv X ai σ H s)(G:qG v vv)(t:oS X.K v H k)(h:∀ s',Inv X ai σ H s'->R k s') :
  Aq (Au X.prog X.w) X.A (truthy vv) R X.xe s:=bq (bW ai s σ H v vv (λY J=>Y=k/\J=H) I G ⟨k,t,rfl,rfl⟩) λY O ⟨B,U,N,C⟩=>by subst N;subst C;exact h O U
theorem LH {L:Aa Bz}(w:PE X a (tD X fa))(z:PE X (.BoolOp .And (b::L) ao) (tD X fb)):PE X (.BoolOp .And (a::b::L) ao) (tD X (mB fa fb)):=by
 intro A s σ H Q I h;obtain⟨P,α,G,S,r,M,j⟩:=h;refine BoolOp_and (bq (zX w I r M j) λvv y ⟨v,N,B,U,d,T,Y,J⟩=>?_);cases O:xM d T with
 |none=>simp only[O] at J;exact Ar J
 |some k =>
  simp only[O] at J;refine C6 Y.inv Y.val (uY Y.rel Y.rep O) λE C=>?_;cases k with
  |true=>exact z A E σ N Q C ⟨B,U,G,T,Y.rel,Y.env,qV.base Y.same Y.pre J⟩
  |false=>exact⟨v,N,C,Y.val,J v N B U Y.rel Y.same Y.pre Y.rep⟩
theorem LO (L:PE X a (tD X fa)):PE X (.UnaryOp .Not a ao) (tD X (VM fa)):=by
 intro z s σ H Q I h;obtain⟨P,α,T,S,r,B,E⟩:=h;refine UnaryOp_ (bq (zX L I r B E) λvv w ⟨v,N,C,G,d,A,J,Y⟩=>?_);cases U:xM d A with
 |none=>simp only[U] at Y;exact Ar Y
 |some k =>
  simp only[U] at Y;exact not_of (C6 J.inv J.val (uY J.rel J.rep U) λM O=>⟨.bl (!k),N,O,rfl,Y (.bl (!k)) N C G J.rel J.same J.pre (by simp only[aq])⟩)
def vz (t:DT)(f g:DE):DE:=λY S=>(t Y S).bind λb J=>if b then f Y J else g Y J
theorem A0 (y:PT X c (ma X ta))(j:PE X a (tD X fa))(o:PE X b (tD X fb)):PE X (.IfExp c a b ao) (tD X (vz ta fa fb)):=by
 intro N s σ H Q I h;obtain⟨P,α,J,S,r,z,l⟩:=h;refine wpAny_IfExp (bq (kY (λw q=>y N s σ H w I q) r z l) λk B ⟨T,C,U,A,E,M,G,L,O,Y⟩=>?_);cases k with
 |true=>exact j N B σ T Q E ⟨C,U,J,A,M,G,qV.base L O Y⟩
 |false=>exact o N B σ T Q E ⟨C,U,J,A,M,G,qV.base L O Y⟩
end
@[inline] noncomputable def ba.toS {β:Type}(env:qB)(r:ba β)(k:β->ak->jf):jf:=
 match r with
 |.ok d S=>k d S
 |.ex c x S=>.ex c x env S
 |.bad=>.bad
section
variable {X:Cx}{a b c e:Bz}{ao:Fn}{fa fb fc:DE}{ta tb:DT}{f g:DS}{st:Fz}{av:Aa Fz}
def zQ:DS:=λY S=>.nx Y S
def qH (f g:DS):DS:=λJ S=>match f J S with
 |.nx Y U=>g Y U
 |o=>o
theorem D1:ir X [] (iu X zQ):=E7 MA λD σ H ⟨P,α,J,S,r,Y,U⟩=>U σ H P α r Y (qF.refl _) (Bd _)
theorem BK (h1:PS X st (iu X f))(h2:ir X av (iu X g)):ir X (st::av) (iu X (qH f g)):=E7 (JK h1 h2) λD σ H ⟨P,α,U,S,r,B,J⟩=>by
 refine⟨P,α,U,S,r,B,?_⟩;unfold qH at J;cases q:f U S with
 |nx Y G =>
  rw[q] at J;exact λE A I O L N T C=>⟨I,O,Y,G,L,N,qX.base T C J⟩
 |rt d G=>rw[q] at J;exact J
 |bk Y G=>rw[q] at J;exact J
 |ct Y G=>rw[q] at J;exact J
 |ex c x Y G=>rw[q] at J;exact J
 |bad=>rw[q] at J;exact J
theorem D2 (h1:PS X st (iu X f)):ir X [st] (iu X f):=MB h1
theorem w9 {β:Type}{P:Hp}{α:ae}{env:qB}{r:ba β}{k:β->ak->jf}{D:Ends}(h:qX X P α (r.toS env k) D):qJ X P α r λd S=>qX X P α (k d S) D:=by
 cases r with
 |ok d S=>exact h
 |ex c x S=>exact h
 |bad=>exact h
inductive xc (X:Cx)(pins:aa)(σ : _L.St)(env:qB)(P:Hp)(α : Aa Af)(u:Ad)(s1:Ah)(k:D->ak->jf)(E:Ends):Prop
 |mk (v:V) (H1 P1:Hp) (α1:ae) (d:D) (S1:ak) (G:Got X pins σ env P α u s1 v H1 P1 α1 d S1) (q:qX X P1 α1 (k d S1) E):xc X pins σ env P α u s1 k E
theorem tE {k:D->ak->jf}{ai:aa}{s:Ah}{σ:_L.St}{H P:Hp}{α:ae}{env:qB}{D:Ends}(N:PE X e (tD X fa))(I:Inv X ai σ H s)(r:bf X.K H P α S)
  (C:zJ X.K P α σ env) (L:qX X P α ((fa env S).toS env k) D) :
  Aq (Au X.prog X.w) X.A (eval e X.env) (λu U=>xc X ai σ env P α u U k D) X.xe s:=by
 have Y:qJ X P α ((fa env S).bind λd S=>.ok d S) λd S=>qX X P α (k d S) D:=by
  have:=w9 L;cases q:fa env S <;> rw[q] at this <;> exact this
 exact bq (zX N I r C Y) λu U ⟨v,B,O,J,d,T,G,q⟩=>⟨v,B,O,J,d,T,G,qX.base G.same G.pre q⟩
def xH (f:DE):DS:=λY S=>(f Y S).toS Y λ_ J=>.nx Y J
theorem BL (U:PE X e (tD X fa))(hs:Pc e none ao.line X.env=pure false:=by rfl):PS X (.Expr e ao) (iu X (xH fa)):=by
 intro T s σ H D I h;obtain⟨P,α,C,S,r,O,B⟩:=h;exact wpAny_Expr_any (bq (tE U I r O B) λv L ⟨x,J,N,Y,d,E,G,q⟩=>⟨σ,J,G.inv,q σ J N Y G.rel G.env (qF.refl _) (Bd _)⟩) I.quiet hs
def qU (f:DE):DS:=λY S=>(f Y S).toS Y λd J=>.rt d J
theorem D4 (U:PE X e (tD X fa)):PS X (.Return (Ab e) ao) (iu X (qU fa)):=by
 intro T s σ H D I h;obtain⟨P,α,C,S,r,O,B⟩:=h;exact wpAny_Return_some (bq (tE U I r O B) λv L ⟨x,J,N,Y,d,E,G,q⟩=>⟨x,σ,J,G.inv,G.val,q x J N Y G.rel (qF.refl _) (Bd _) G.rep⟩)
def gq (t:DT)(f g:DS):DS:=λY S=>(t Y S).toS Y λb J=>if b then f Y J else g Y J
theorem A8 {as C:Aa Fz}(l:PT X c (ma X ta))(o:ir X as (iu X f))(v:ir X C (iu X g)):PS X (.If c as C ao) (iu X (gq ta f g)):=by
 intro N s σ H D I h;obtain⟨P,α,Y,S,r,y,t⟩:=h;have O:qJ X P α ((ta Y S).bind λd S=>.ok d S) λb S=>qX X P α (if b then f Y S else g Y S) D:=by
  have:=w9 t;cases q:ta Y S <;> rw[q] at this <;> exact this
 refine wpAny_If (bq (kY (λj q=>l N s σ H j I q) r y O) λk L ⟨E,B,G,w,A,z,J,M,T,U⟩=>?_);cases k with
 |true=>exact o N L σ E D A ⟨B,G,Y,w,z,J,qX.base M T U⟩
 |false=>exact v N L σ E D A ⟨B,G,Y,w,z,J,qX.base M T U⟩
abbrev DG:=D->qB->ak->ba qB
abbrev pf:=Aa D->qB->ak->ba qB
def wq (X:Cx)(P:Hp)(α : Aa Af)(Q:_L.St->Hp->Prop)(J:qB)(O:ak):Prop:=∀ U N G Y,bf X.K N G Y O->zJ X.K G Y U J->qF P G->α<+:Y->Q U N
def nj (X:Cx)(g:DG):TG:=λv σ H Q=>∃ P α Y S d,bf X.K H P α S/\zJ X.K P α σ Y/\aq X.K P α d v/\qJ X P α (g d Y S) (wq X P α Q)
def cL (X:Cx)(g:pf):t_:=λvs σ H Q=>∃ P α Y S J,bf X.K H P α S/\zJ X.K P α σ Y/\qC X.K P α J vs/\qJ X P α (g J Y S) (wq X P α Q)
theorem zJ.set {K:Ak}{P:Hp}{α:ae}{σ:_L.St}{env:qB}{d:D}{v:V}(Y:zJ K P α σ env)(i:Ag)(N:aq K P α d v):zJ K P α (σ.set i (Ab v)) (env.set i (Ab d)):=by
 refine⟨by simp[Y.1],λj G e=>?_⟩
 by_cases J:i=j
 .subst J
  by_cases U:i<env.length
  .rw[Dk U] at e
   cases e;exact⟨v,by rw[Dk (by rw[<- Y.1];exact U)],N⟩
  .rw[Vv (by simp;fin2)] at e;cases e
 .rw[Br J] at e ⊢
  exact Y.2 j G e
def bi (i:Ag):DG:=λd Y S=>.ok (Y.set i (Ab d)) S
theorem BE {i:Ag}{x:Aw}(J:X.N.Nodup)(hi:X.N[i]? = Ab x:=by rfl)(L:Loc X.env.scope x:=by first|exact Ab2 rfl|exact Aa1 rfl)(U:X.fn x=true\/X.env.scope.names.lookup x=Ab .local:=by first|exact .inl rfl|exact .inr rfl|assumption):PG X (.Name x ao) (nj X (bi i)):=by
 intro N s σ H v u Q I O h;obtain⟨P,α,C,S,d,r,Y,G,B⟩:=h;exact M4 J hi L U N s σ H v u Q I O (B _ H P α r (Y.set i G) (qF.refl _) (Bd _))
def yT:pf:=λJ Y S=>match J with
 |[]=>.ok Y S
 |_=>.bad
def x8 (g:DG)(N:pf):pf:=λU J S=>match U with
 |d::r=>(g d J S).bind λY G=>N r Y G
 |[]=>.bad
theorem BF:rk X [] (cL X yT):=by
 intro G s σ H vs us Q I N h;obtain⟨P,α,O,S,Y,r,U,C,J⟩:=h;cases Y with
 |nil=>exact M5 G s σ H vs us Q I N ⟨C.nil_inv,J σ H P α r U (qF.refl _) (Bd _)⟩
 |cons d Y=>exact Ar J
theorem VS {es:Aa Bz}{g:DG}{A:pf}(h1:PG X e (nj X g))(h2:rk X es (cL X A))(hs:(Hd (e::es) X.env).map (·.2)=assign e X.env::(Hd es X.env).map (·.2):=by rfl):rk X (e::es) (cL X (x8 g A)):=by
 intro ai s σ H vs us Q I rv h;obtain⟨P,α,U,S,G,r,k,i,j⟩:=h;cases G with
 |nil=>exact Ar j
 |cons d G =>
  obtain⟨w,o,rfl,p1,y⟩:=i.cons_inv;refine JH h1 h2 hs ai s σ H _ us Q I rv ⟨w,o,rfl,P,α,U,S,d,r,k,p1,?_⟩;have Y:qJ X P α ((g d U S).bind λJ L=>A G J L) (wq X P α Q):=j;cases q:g d U S with
  |bad=>rw[q] at Y;exact Y
  |ex c x t=>rw[q] at Y;exact Y
  |ok J L =>
   rw[q] at Y;intro l H' v O r' N C T;refine⟨v,O,J,L,G,r',N,qC.mono C T _ _ y,qJ.base' C T (λz t ok M H2 P2 E m B e3 n=>ok M H2 P2 E m B (C.trans e3) (T.trans n)) Y⟩
def nq (n:Ag)(U:pf):DG:=λd Y S=>match d with
 |.tup J=>if J.length=n then U J Y S else .bad
 |_=>.bad
set_option tactic.hygienic true in
theorem LV {es:Aa Bz}{k:Ag}{N:pf}{n:Ag}(E:X.calm=true)(h:rk X es (cL X N))(M:(Hd es X.env).length=n:=by rfl)(U:(Hd es X.env).findIdx? (·.1)=none:=by rfl):PG X (.Tuple es k ao) (nj X (nq n N)):=by
 intro O s σ H v u Q I C B;obtain⟨P,α,J,S,d,r,L,G,Y⟩:=B;cases d with
 |tup T =>
  simp only[aq] at G;obtain⟨a,vs,rfl,q,t⟩:=G;simp only[nq] at Y
  split at Y
  .rename_i A
   exact E4 E h M U O s σ H _ u Q I C ⟨a,vs,rfl,xY r.sub q,by rw[<- t.length];exact A,P,α,J,S,T,r,L,t,Y⟩
  .exact Ar Y
 |_=>exact Ar Y
abbrev G3:=D->D->D->ak->ba Uv
def OkU (X:Cx)(P:Hp)(α : Aa Af)(Q:Hp->Prop)(_:Uv)(G:ak):Prop:=∀ J U Y,bf X.K J U Y G->qF P U->α<+:Y->Q J
def r0 (X:Cx)(g:G3):V2:=λo i v H Q=>∃ P α S a b d,bf X.K H P α S/\aq X.K P α a o/\aq X.K P α b i/\aq X.K P α d v/\qJ X P α (g a b d S) (OkU X P α Q)
def tj (U fi:DE)(g:G3):DG:=λd Y S=>(U Y S).bind λo G=>(fi Y G).bind λi N=>(g o i d N).bind λ_ J=>.ok Y J
theorem LU {o i:Bz}{j fi:DE}{g:G3}(ho:PE X o (tD X j))(hi:PE X i (tD X fi))(hs:rC X (r0 X g))
  (ha:∀ v,assign (.Subscript o i ao) X.env v=(do
   let G <- holding [v] (eval o X.env)
   let O <- holding [v,G] (eval i X.env)
   Sv ao
   holding [v,G,O] (setItem G O v)
   release [v,G,O] []):=by intro _;rfl):PG X (.Subscript o i ao) (nj X (tj j fi g)):=by
 intro ai s σ H v u Q I rv h;obtain⟨P,α,zb,S,d,r,re,rp,af⟩:=h;rw[ha];refine Ac (EQ (bq (zX ho I r re af) λG s1 ⟨x,H1,k,N,d1,S1,J,L⟩=>?_));refine Ac (EQ (bq (zX hi J.inv J.rel J.env (P:=k) (α:=N) (Ok:=wq X k N Q) (qJ.base' J.same J.pre (λn S' ok E M C U r2 T e3 e4=>ok E M C U r2 T (J.same.trans e3) (J.pre.trans e4)) L)) λO s2 ⟨y,M,C,U,d2,m,G2,Y⟩=>?_));refine Ac (Nc (Ac (EQ (bq (hs ai s2 σ M x y v G O u (λA=>Q σ A) G2.inv J.val G2.val rv ⟨C,U,m,d1,d2,d,G2.rel,aq.mono G2.same G2.pre _ _ J.rep,G2.rep,aq.mono (J.same.trans G2.same) (J.pre.trans G2.pre) _ _ rp,?_⟩) λ_ s3 ⟨A,I3,q3⟩=>?_))))
 .cases q:g d1 d2 d m with
  |bad=>rw[q] at Y;exact Y
  |ex c x S'=>rw[q] at Y;exact λu s' z=>Y u s' (z.base G2.same G2.pre)
  |ok w S3 =>
   rw[q] at Y;exact λH' P' B r' t l=>Y σ H' P' B r' (G2.env.mono t l) (G2.same.trans t) (G2.pre.trans l)
 .exact wpAny_release ⟨σ,A,I3,q3⟩
def qT (f:DE)(g:DG):DS:=λY S=>(f Y S).toS Y λd U=>(g d Y U).toS Y λJ G=>.nx J G
theorem ZT {g:DG}{d:D}{env:qB}{P:Hp}{α:ae}{U:Ends}(h:qX X P α ((g d env S).toS env λY G=>.nx Y G) U):qJ X P α (g d env S) (wq X P α U.nx):=by
 cases q:g d env S with
 |bad=>rw[q] at h;exact h
 |ex c x N=>rw[q] at h;exact h
 |ok J O=>rw[q] at h;exact h
theorem LY {Y:Bz}{g:DG}(N:PE X e (tD X fa))(L:PG X Y (nj X g))(hs:Nb [Y] e ao.line X.env=pure false:=by rfl)(hw:Na [Y] e X.env=pure none:=by rfl)
  (h1:(Hd [Y] X.env).map (·.2)=[assign Y X.env]:=by rfl):PS X (.Assign [Y] e ao) (iu X (qT fa g)):=by
 intro O s σ H D I h;obtain⟨P,α,J,S,r,T,A⟩:=h;refine wpAny_Assign_stores (bq (tE N I r T A) λv B ⟨x,E,C,U,d,M,G,q⟩=>?_) hs hw;rw[h1];exact bq (L O B σ E x v _ G.inv G.val ⟨C,U,J,M,d,G.rel,G.env,G.rep,ZT q⟩) λ_ w q=>q
theorem D5 {i:Ag}{x:Aw}{Y:Fn}(L:X.N.Nodup)(O:PE X e (tD X fa))(hi:X.N[i]? = Ab x:=by rfl)(M:Loc X.env.scope x:=by first|exact Ab2 rfl|exact Aa1 rfl)(hs:Pc e (Ab (.Name x Y)) ao.line X.env=pure false:=by rfl)
  (T:X.fn x=true\/X.env.scope.names.lookup x=Ab .local:=by first|exact .inl rfl|exact .inr rfl|assumption):PS X (.Assign [.Name x Y] e ao) (iu X (qT fa (bi i))):=by
 intro k s σ H D I h;obtain⟨P,α,E,S,r,B,A⟩:=h;refine wpAny_Assign_Name (bq (tE O I r B A) λv z ⟨y,U,C,J,d,j,G,q⟩=>?_) hs;exact pH G.inv L hi M G.val (λw N=>⟨_,U,N,q _ U C J G.rel (G.env.set i G.rep) (qF.refl _) (Bd _)⟩) T
noncomputable def c9 (i j:Ag)(env:qB)(S1:ak):Aa D->jf
 |[x,y]=>.nx ((env.set i (Ab x)).set j (Ab y)) S1
 |_=>.bad
def jO (i j:Ag)(f:DA):DS:=λY S=>(f Y S).toS Y λJ U=>c9 i j Y U J
theorem D3 {i j:Ag}{x y:Aw}{f:DA}{O C pt:Fn} {kt k2 pt2} (s:X.calm=true) (v:X.N.Nodup) (k:PA X [a,b] (lv X f)) (hi:X.N[i]? = Ab x:=by rfl) (M:X.N[j]? = Ab y:=by rfl) (B:i≠j:=by decide)
  (hx:X.env.scope.names.lookup x=Ab .local:=by rfl) (z:X.env.scope.names.lookup y=Ab .local:=by rfl)
  (hw:Na [.Tuple [.Name x O,.Name y C] kt pt] (.Tuple [a,b] k2 pt2) X.env=pure (Ab [x,y]):=by rfl)
  (hs:Nb [.Tuple [.Name x O,.Name y C] kt pt] (.Tuple [a,b] k2 pt2) ao.line X.env=pure false:=by rfl) :
  PS X (.Assign [.Tuple [.Name x O,.Name y C] kt pt] (.Tuple [a,b] k2 pt2) ao) (iu X (jO i j f)):=xu (E6 s v hi M B hx z k hw hs) λD σ H ⟨P,α,U,S,r,T,h⟩=>by
 refine⟨P,α,U,S,r,T,?_⟩;have Y:=w9 h;cases q:f U S with
 |bad=>rw[q] at Y;exact Y
 |ex c x S'=>rw[q] at Y;exact Y
 |ok G S1 =>
  rw[q] at Y;intro vs H' m N o E L rp;have J:qX X P α (c9 i j U S1 G) D:=Y;cases G with
  |nil=>exact Ar J
  |cons d G=>cases G with
   |nil=>exact Ar J
   |cons d' G=>cases G with
    |cons _ _=>exact Ar J
    |nil =>
     obtain⟨w,ws,rfl,l,t⟩:=rp.cons_inv;obtain⟨n,I,rfl,A,t⟩:=t.cons_inv;rw[t.nil_inv];exact⟨w,n,rfl,J _ _ m N o (((T.mono E L).set i l).set j A) E L⟩
end
structure sd (K:Ak)(J:It)(P:Hp)(α : Aa Af)(ds:Aa D):Prop where
 go:∀ i H P1 α1 S,i<ds.length->bf K H P1 α1 S->qF P P1->α<+:α1->J.go i H
 yld:∀ i H x H' P1 α1 S,i<ds.length->bf K H P1 α1 S->qF P P1->α<+:α1->J.yld i H x H'->∃ P2 d,ds[i]? = Ab d/\bf K H' P2 α1 S/\qF P1 P2/\aq K P2 α1 d x
 stop:∀ i H P1 α1 S,ds.length<=i->bf K H P1 α1 S->qF P P1->α<+:α1->J.stop i H
abbrev DI:=qB->ak->ba (Aa D)
def vm (X:Cx)(P:Hp)(α : Aa Af)(R:It->Hp->Prop)(ds:Aa D)(N:ak):Prop:=∀ J G U Y,bf X.K G U Y N->qF P U->α<+:Y->sd X.K J U Y ds->R J G
inductive qw (X:Cx)(f:DI)(σ : _L.St)(H:Hp)(R:It->Hp->Prop):Prop
 |mk (P:Hp) (α : Aa Af) (env:qB) (S:ak) (r:bf X.K H P α S) (re:zJ X.K P α σ env) (af:qJ X P α (f env S) (vm X P α R)):qw X f σ H R
def v7 {β:Type}(o:An β)(S:ak):ba β:=match o with
 |some b=>.ok b S
 |none=>.bad
theorem vU {X:Cx}{β:Type}{o:An β}{P:Hp}{α:ae}{Ok:β->ak->Prop}(h:qJ X P α (v7 o S) Ok):∃ b,o=Ab b/\Ok b S:=by
 cases o with
 |none=>exact Ar h
 |some b=>exact⟨b,rfl,h⟩
theorem vI {X:Cx}{β:Type}{c:Prop}[Hy c]{r:ba β}{P:Hp}{α : Aa Af}{Ok:β->ak->Prop}(h:qJ X P α (if c then r else .bad) Ok):c/\qJ X P α r Ok:=by
 by_cases z:c
 .rw[Bi z] at h;exact⟨z,h⟩
 .rw[Bh z] at h;exact Ar h
theorem c7 {X:Cx}{β:Type}{ds:Aa D}{g:D->ba β}{P:Hp}{α:ae}{Ok:β->ak->Prop}(h:qJ X P α (match ds with|[d]=>g d|_=>.bad) Ok):∃ d,ds=[d]/\qJ X P α (g d) Ok:=by
 cases ds with
 |nil=>exact Ar h
 |cons d ds =>
  cases ds with
  |nil=>exact⟨d,rfl,h⟩
  |cons _ _=>exact Ar h
theorem lJ {β:Type}{i:Ag}{f:Aa D->An β}{g:Aa (bo × D)->An β}{b:β}(h:(match S[i]? with|some (.lst xs)=>f xs|some (.dct kvs)=>g kvs|_=>none)=Ab b):(∃ xs,S[i]? = Ab (.lst xs)/\f xs=Ab b)\/∃ kvs,S[i]? = Ab (.dct kvs)/\g kvs=Ab b:=by
 cases e:S[i]? with
 |none=>rw[e] at h;exact nn h
 |some m =>
  rw[e] at h;cases m with
  |lst xs=>exact .inl ⟨xs,rfl,h⟩
  |dct kvs=>exact .inr ⟨kvs,rfl,h⟩
  |_=>exact nn h
theorem SZ {β:Type}{i:Ag}{f:Aa D->An β}{b:β}(h:(match S[i]? with|some (.lst xs)=>f xs|_=>none)=Ab b):∃ xs,S[i]? = Ab (.lst xs)/\f xs=Ab b:=by
 cases e:S[i]? with
 |none=>rw[e] at h;exact nn h
 |some m =>
  rw[e] at h;cases m with
  |lst xs=>exact⟨xs,rfl,h⟩
  |_=>exact nn h
inductive yk (d:D)(xs:Aa D):Prop
 |tup (e:d=.tup xs)
 |lst (e:d=.lst xs)
noncomputable def fH {β:Type}(S:ak)(n:Ag)(f:Aa D->ba β) : ba β:=match S[n]? with
 |some (.lst Y)=>f Y
 |_=>.bad
theorem jK {X:Cx}{β:Type}{n:Ag}{f:Aa D->ba β}{P:Hp}{α:ae}{Ok:β->ak->Prop}(h:qJ X P α (fH S n f) Ok):∃ xs,S[n]? = Ab (.lst xs)/\qJ X P α (f xs) Ok:=by
 unfold fH at h;cases e:S[n]? with
 |none=>rw[e] at h;exact Ar h
 |some m =>
  rw[e] at h;cases m with
  |lst xs=>exact⟨xs,rfl,h⟩
  |_=>exact Ar h
noncomputable def zU:D->An (Aa D)
 |.tup Y=>Ab Y
 |.lst Y=>Ab Y
 |_=>none
theorem xz {d:D}{xs:Aa D}(h:zU d=Ab xs):yk d xs:=by
 cases d with
 |tup Y=>exact .tup (congrArg D.tup (Dc h))
 |lst Y=>exact .lst (congrArg D.lst (Dc h))
 |_=>exact nn h
def yL (f:DE):DI:=λY S=>(f Y S).bind λd J=>v7 (zU d) J
section
variable {X:Cx}{K:Ak}{tg e:Bz}{fa:DE}{ao:Fn}
theorem UN {P:Hp}{α:ae}{a:Af}{ds:Aa D}(q:ji K P a vs)(t:qC K P α ds vs):sd K (zf K a) P α ds where
 go:=λi H U J S Y r e _=>⟨vs,vs[i]'(by rw[<- t.length];exact Y),(e.trans r.sub).seq q,by simp⟩
 yld:=λi H x B U J S Y r e N y=>by
  obtain⟨rfl,y⟩:=y;have C:=y vs ((e.trans r.sub).seq q);obtain⟨v,G,O⟩:=t.get (Ap Y);rw[C] at G;cases G;exact⟨U,_,Ap Y,r,qF.refl _,aq.mono e N _ _ O⟩
 stop:=λi H U J S Y r e _=>⟨vs,(e.trans r.sub).seq q,by rw[<- t.length];exact Y⟩
theorem F7 {P:Hp}{α:ae}{a:Af}{ds:Aa D}(q:iq K P a vs)(t:qC K P α ds vs):sd K (U_ K a) P α ds where
 go:=λi H U J S Y r e _=>⟨vs,vs[i]'(by rw[<- t.length];exact Y),wC (e.trans r.sub) q,by simp⟩
 yld:=λi H x B U J S Y r e N y=>by
  obtain⟨rfl,y⟩:=y;have C:=y vs (wC (e.trans r.sub) q);obtain⟨v,G,O⟩:=t.get (Ap Y);rw[C] at G;cases G;exact⟨U,_,Ap Y,r,qF.refl _,aq.mono e N _ _ O⟩
 stop:=λi H U J S Y r e _=>⟨vs,wC (e.trans r.sub) q,by rw[<- t.length];exact Y⟩
theorem eQ {ai:aa}{σ:_L.St}{H P:Hp}{α:ae}{s:Ah}{v:V}{d:D}{ds:Aa D}(I:Inv X ai σ H s)(r:bf X.K H P α S)(J:qG v vv)(U:aq X.K P α d v)(G:zU d=Ab ds)
  (q:vm X P α R ds S):Aq (Au X.prog X.w) X.A (Px vv) (vj X ai σ tg R) X.xe s:=by
 cases d with
 |tup B =>
  cases G;simp only[aq] at U;obtain⟨a,vs,rfl,Y,t⟩:=U;cases J;obtain⟨O,J,p,C⟩:=I.tuple (xY r.sub Y);refine Hb (show s.heap.IsTuple a O.toArray from p) ?_
  refine⟨s.heap.objs.size,[s.heap.objs.size],_,_,H,rfl,I.kept (t':=s.toks) λb o e=>Ai _ e,ZL a _,⟨_,Be _ rfl,rfl,rfl⟩,λb N=>?_,q _ _ P α r (qF.refl _) (Bd _) (F7 Y t)⟩;have e:b=s.heap.objs.size:=by simpa using N
  subst e;exact I.fpOk (Av _) (I.hok.fresh (Av _))
 |lst B =>
  cases G;simp only[aq] at U;obtain⟨a,vs,rfl,Y,t⟩:=U;cases J;obtain⟨O,J,p,C⟩:=I.list ((xK r.sub Y).l);refine Gn p.isList ?_;refine⟨s.heap.objs.size,[s.heap.objs.size],_,_,H,rfl,I.kept (t':=s.toks) λb o e=>Ai _ e,sI a _,⟨_,Be _ rfl,rfl,rfl⟩,λb N=>?_,q _ _ P α r (qF.refl _) (Bd _) (UN Y.l t)⟩;have e:b=s.heap.objs.size:=by simpa using N
  subst e;exact I.fpOk (Av _) (I.hok.fresh (Av _))
 |_=>cases G
theorem vm.base {P P1:Hp}{α Y:ae}{ds:Aa D}(e:qF P P1)(h:α<+:Y)(k:vm X P α R ds S):vm X P1 Y R ds S:=λJ G O U r C N B=>k J G O U r (e.trans C) (h.trans N) B
theorem LW (G:PE X e (tD X fa)):PI X tg e (qw X (yL fa)):=by
 intro E s σ H R I h;obtain⟨P,α,O,S,r,U,B⟩:=h;refine bq (zX G I r U B) λvv T ⟨v,A,L,C,d,w,Y,J⟩=>?_;obtain⟨M,N,q⟩:=vU J;exact eQ Y.inv Y.rel Y.val Y.rep N (q.base Y.same Y.pre)
noncomputable def w6 (lo:Aj)(n:Ag):Aa D:=(Cg n).map λ(i:Ag)=>D.int (lo+(i:Aj))
theorem pD (lo:Aj)(n:Ag):(w6 lo n).length=n:=by simp[w6]
theorem dQ {P:Hp}{α:ae}{lo:Aj}{n:Ag}:sd K (wz lo n) P α (w6 lo n) where
 go:=λi H U J S Y r e _=>by rw[pD] at Y;exact Y
 yld:=λi H x G U J S Y r e N y=>by
  obtain⟨rfl,rfl⟩:=y;rw[pD] at Y;exact⟨U,.int (lo+i),by simp[w6,Y],r,qF.refl _,by simp only[aq]⟩
 stop:=λi H U J S Y r e _=>by rw[pD] at Y;exact Y
def jN (ds:Aa D):An (Aa D):=match ds with
 |[.int j]=>if -(2 ^ 62)<=j/\j<2 ^ 62 then Ab (w6 0 j.toNat) else none
 |[.int i,.int j]=>if -(2 ^ 62)<=i/\i<2 ^ 62 /\ -(2 ^ 62)<=j/\j<2 ^ 62 then Ab (w6 i (j-i).toNat) else none
 |_=>none
def wB (f:DA):DI:=λY S=>(f Y S).bind λJ U=>v7 (jN J) U
def ye:D->An Aj
 |.int i=>Ab i
 |_=>none
theorem fX {d:D}{i:Aj}(h:ye d=Ab i):d=.int i:=by
 cases d with
 |int k=>exact congrArg D.int (Dc h)
 |_=>exact nn h
inductive vh:Aa D->Aa D->Prop
 |one (j:Aj) (h : -(2 ^ 62)<=j/\j<2 ^ 62):vh [.int j] (w6 0 j.toNat)
 |two (i j:Aj) (h : -(2 ^ 62)<=i/\i<2 ^ 62 /\ -(2 ^ 62)<=j/\j<2 ^ 62):vh [.int i,.int j] (w6 i (j-i).toNat)
theorem OE (d:D):jN [d]=(ye d).bind λj=>if -(2 ^ 62)<=j/\j<2 ^ 62 then Ab (w6 0 j.toNat) else none:=by cases d <;> rfl
theorem OF (d d':D):jN [d,d']=(ye d).bind λi=>(ye d').bind λj=>if -(2 ^ 62)<=i/\i<2 ^ 62 /\ -(2 ^ 62)<=j/\j<2 ^ 62 then Ab (w6 i (j-i).toNat) else none:=by
 cases d with
 |int i=>cases d' <;> rfl
 |_=>rfl
theorem T7 {ds am:Aa D}(h:jN ds=Ab am):vh ds am:=by
 cases ds with
 |nil=>exact nn h
 |cons d ds =>
  cases ds with
  |nil =>
   obtain⟨j,e,h⟩:=Hl.mp ((OE d).symm.trans h);obtain⟨c,rfl⟩:=jD h;rw[fX e];exact .one j c
  |cons J ds =>
   cases ds with
   |nil =>
    obtain⟨i,e,h⟩:=Hl.mp ((OF d J).symm.trans h);obtain⟨j,G,h⟩:=Hl.mp h;obtain⟨c,rfl⟩:=jD h;rw[fX e,fX G];exact .two i j c
   |cons _ _ =>
    have U:∀ Y t,jN (d::J::Y::t)=none:=λY t=>by cases d <;> first|rfl|(cases J <;> rfl)
    exact nn ((U _ _).symm.trans h)
theorem lO {P:Hp}{α:ae}{i:Aj}{ds:Aa D}(r:qC K P α (.int i::ds) vs):∃ Y,vs=.int i::Y/\qC K P α ds Y:=by
 obtain⟨w,Y,rfl,p,t⟩:=r.cons_inv;exact⟨Y,congrArg (· :: Y) (by simpa only [aq] using p),t⟩
theorem PI.weak {Y:Bz}{t t':TI}(h:PI X tg Y t)(w:∀ σ H R,t' σ H R->t σ H R):PI X tg Y t':=λJ s σ H R I q=>h J s σ H R I (w σ H R q)
end
section
variable {X:Cx}{tg a b:Bz}{f:DA}{p ao:Fn}
theorem VU {e:Bz}{es:Aa Bz}(l:Gl X "range")(hm:X.mg "range" = none)(k:PA X (e::es) (lv X f))(hs:Bs (e::es) X.env=(false,eval e X.env)::Bs es X.env:=by rfl)(G:(Gi ao (Bs es X.env)).any (·.1)=false:=by rfl) :
  PI X tg (.Call (.Name "range" p) (e::es) [] ao) (qw X (wB f)):=by
 intro ai s σ H R I h;obtain⟨P,α,v,S,r,w,m⟩:=h;refine Call_ (vL I l hm boot_range (Gc (bq (yM k I r w m ao) λus n ⟨vs,E,N,Y,ds,x,A,T,B,g,C,O,L,J⟩=>?_) hs G));obtain⟨am,d,q⟩:=vU J;cases T7 d with
 |one j c =>
  obtain⟨y,rfl,U⟩:=lO C;cases U.nil_inv;obtain⟨u,rfl,t,rfl⟩:=kF T;refine call_range_1 (cC A om om c.1 c.2 ?_);have z:=q (wz 0 j.toNat) E N Y B O L dQ;rw[Int.sub_zero];exact z
 |two i j c =>
  obtain⟨y,rfl,U⟩:=lO C;obtain⟨o,rfl,M⟩:=lO U;cases M.nil_inv;obtain⟨u,u',rfl,⟨t,rfl⟩,t',rfl⟩:=ZM T;exact call_range_2 (cC A c.1 c.2.1 c.2.2.1 c.2.2.2 (q (wz i (j-i).toNat) E N Y B O L dQ))
noncomputable def vN (g:DG)(f:DS):Aa D->qB->ak->jf
 |[],J,S=>.nx J S
 |d::N,J,S=>(g d J S).toS J λU O=>match f U O with
  |.nx Y G=>vN g f N Y G
  |.ct Y G=>vN g f N Y G
  |.bk Y G=>.nx Y G
  |o=>o
def v8 (fi:DI)(g:DG)(f:DS):DS:=λY S=>(fi Y S).toS Y λJ U=>vN g f J Y U
inductive qh (X:Cx)(P1:Hp)(α1:ae)(g:DG)(f:DS)(ds:Aa D)(D:Ends)(i m:Ag)(σ : _L.St)(H:Hp):Prop
 |mk (hi:i<=ds.length) (hm:m=ds.length-i) (P2:Hp) (α2:ae) (env2:qB) (S2:ak) (r:bf X.K H P2 α2 S2) (re:zJ X.K P2 α2 σ env2) (e1:qF P1 P2) (e2:α1<+:α2) (af:qX X P2 α2 (vN g f (ds.drop i) env2 S2) D):qh X P1 α1 g f ds D i m σ H
theorem D0 {a_:Bz}{fi:DI}{g:DG}{f:DS}(hp:Qu (Au X.prog X.w) X.A X.env X.xe)(hc:X.calm=true)(hi:PI X tg a_ (qw X fi))(hg:PG X tg (nj X g))(hb:ir X cf (iu X f))
  (hs:∀ x,Eg a_ X.env x=pure x:=by intro _;rfl):PS X (.For tg a_ cf [] ao) (iu X (v8 fi g f)):=xu (Y1 hp hc hi hg hb hs) λD σ H ⟨P,α,B,S,r,re,af⟩=>by
 refine⟨P,α,B,S,r,re,?_⟩;have G:=w9 af;cases q:fi B S with
 |bad=>rw[q] at G;exact G
 |ex c x S'=>rw[q] at G;exact G
 |ok L S1 =>
  rw[q] at G;have zb:qX X P α (vN g f L B S1) D:=G;intro J H1 P1 M r1 e1 e2 it;refine⟨qh X P1 M g f L D,
   ⟨L.length,Gh _,rfl,P1,M,B,S1,r1,re.mono e1 e2,qF.refl _,Bd _,qX.base e1 e2 zb⟩,?_⟩
  rintro i m zv H2 ⟨hi,rfl,h,C,E,l,r2,v,n,t,T⟩;by_cases N:i<L.length
  .refine .inr ⟨it.go i H2 h C l N r2 n t,qh X P1 M g f L D (i+1) (L.length-(i+1)),λzx H' w=>⟨_,?_,w⟩,λx H3 y=>?_⟩
   .omega
   .obtain⟨P3,d,hd,r3,e5,rp⟩:=it.yld i H2 x H3 h C l N r2 n t y
    have A:L.drop i=d::L.drop (i+1):=by
     rw[Fa N];rw[Ap N] at hd;rw[Dc hd]
    rw[A] at T;have O:=w9 (qX.base e5 (Bd _) T);refine⟨P3,C,E,l,d,r3,v.mono e5 (Bd _),rp,?_⟩;cases q2:g d E l with
    |bad=>rw[q2] at O;exact O
    |ex c x S'=>rw[q2] at O;exact O
    |ok I S3 =>
     rw[q2] at O;intro zw H4 P4 zc r4 zl e6 e7;refine⟨P4,zc,I,S3,r4,zl,?_⟩;have Y:=qX.base e6 e7 O;cases k:f I S3 with
     |bad=>simp only[k] at Y;exact Y
     |ex c x U o=>simp only[k] at Y;exact Y
     |rt d4 o=>simp only[k] at Y;exact Y
     |bk U o=>simp only[k] at Y;exact Y
     |nx U o =>
      simp only[k] at Y;exact λzs H5 P5 j r5 z e s=>⟨N,rfl,P5,j,U,o,r5,z,((n.trans e5).trans e6).trans e,(t.trans e7).trans s,qX.base e s Y⟩
     |ct U o =>
      simp only[k] at Y;exact λzs H5 P5 j r5 z e s=>⟨N,rfl,P5,j,U,o,r5,z,((n.trans e5).trans e6).trans e,(t.trans e7).trans s,qX.base e s Y⟩
  .have A:L.drop i=[]:=Ji om
   rw[A] at T;exact .inl ⟨it.stop i H2 h C l om r2 n t,T zv H2 h C r2 v (qF.refl _) (Bd _)⟩
end
abbrev DF:=Aa D->ak->ba D
section
variable {X:Cx}{x:Aw}{p ao:Fn}{e:Bz}{es:Aa Bz}{F:DF}{fa:DA}
def qM (F:DF)(fa:DA):DE:=λY S=>(fa Y S).bind λJ U=>F J U
theorem dA {ai:aa}{U:Ah}{σ:_L.St}{J P P1:Hp}{α Y:ae}{ds:Aa D}{S1:ak}(G:wM X u F)(N:Inv X ai σ J U)(L:bf X.K J P1 Y S1)(O:qI vs us)
  (B:qC X.K P1 Y ds vs) (e1:qF P P1) (e2:α<+:Y) (C:qJ X P α (F ds S1) (jj X P α Q)):Aq (Au X.prog X.w) X.A (call u us) (EP X ai σ Q) X.xe U:=G ai σ J U P1 Y S1 vs us ds Q N L O B (qV.base e1 e2 C)
theorem VN {id:Ex}(M:wM X (.builtin id) F)(A:Gl X x)(hm:X.mg x=none)(hv:Fy x=Ab (.builtin id))(C:PA X (e::es) (lv X fa))(L:x ≠ "__name__":=by decide)(J:(x == ("__debug__" : Aw))=false:=by decide)
  (G:Bs (e::es) X.env=(false,eval e X.env)::Bs es X.env:=by rfl) (U:(Gi ao (Bs es X.env)).any (·.1)=false:=by rfl):PE X (.Call (.Name x p) (e::es) [] ao) (tD X (qM F fa)):=by
 intro g s σ H Q I h;obtain⟨P,α,T,S,r,O,y⟩:=h;refine Lj (vL I A hm hv ?_ L J);exact Ql (bq (yM C I r O y ao) λus l ⟨vs,c,o,w,d,v,z,E,q,j,k,B,N,Y⟩=>dA M z q E k B N Y) G U
theorem XE {T:Ex}(w:wM X (.type T) F)(M:Gl X x)(hm:X.mg x=none)(hv:Fy x=Ab (.type T))(C:PA X (e::es) (lv X fa))(L:x ≠ "__name__":=by decide)(J:(x == ("__debug__" : Aw))=false:=by decide)
  (G:Bs (e::es) X.env=(false,eval e X.env)::Bs es X.env:=by rfl) (U:(Gi ao (Bs es X.env)).any (·.1)=false:=by rfl):PE X (.Call (.Name x p) (e::es) [] ao) (tD X (qM F fa)):=by
 intro c s σ H Q I h;obtain⟨P,α,E,S,r,O,k⟩:=h;refine Lj (vL I M hm hv ?_ L J);exact Gc (bq (yM C I r O k ao) λus g ⟨vs,d,l,z,v,f,j,A,o,y,q,B,N,Y⟩=>dA w j o A q B N Y) G U
end
theorem zM.there {P:Bo}{w:Cd}{H:Hp}{h:Cb}{a:Af}{o:HO}(x:zM P w H h a o):∃ J,h.get? a=Ab J:=by
 cases o with
 |lst G=>obtain⟨_,_,_,_,e⟩:=x;exact⟨_,e⟩
 |tup G=>obtain⟨_,_,_,J,e,_⟩:=x;exact⟨_,e⟩
 |dK Y=>obtain⟨_,_,_,_,o,_,_,e,_⟩:=x;exact⟨_,e⟩
 |dT Y=>obtain⟨_,_,_,_,o,_,_,e,_⟩:=x;exact⟨_,e⟩
 |set S n=>obtain⟨o,_,_,_,e,_⟩:=x;exact⟨_,e⟩
 |ins C N U=>obtain⟨_,_,_,e,_⟩:=x;exact⟨_,e⟩
 |own y=>obtain⟨_,e⟩:=x;exact⟨_,e⟩
 |xd U=>obtain⟨_,⟨_,_,_,e,_⟩,_⟩:=x;exact⟨_,e⟩
 |rng lo B=>obtain⟨_,_,_,e⟩:=x;exact⟨_,e⟩
 |frz J u=>obtain⟨e,_⟩:=x;exact⟨_,e⟩
 |tbl O=>exact⟨_,show h.get? a=Ab _ from x⟩
 |met f y=>exact⟨_,show h.get? a=Ab _ from x⟩
 |ext φ => obtain⟨_,e,_⟩:=x;exact e
section
variable {X:Cx}{ai:aa}{σ : _L.St}{H:Hp}{s:Ah}{B h':Cb}
abbrev oq (X:Cx):Prop:=X.ex=[]/\X.stack=X.env::X.outer/\X.env.frame=Ab X.env.locals
theorem oq.mem (F:oq X){b:Af}:b∈jg X.stack↔b=X.env.locals\/b∈X.fs:=by
 rw[F.2.1];unfold jg;rw[Jc,F.2.2];exact Bc
theorem vk.there (I:Inv X ai σ H s)(F:oq X){b:Af}(o:vk X ai H b):∃ Y,s.heap.get? b=Ab Y:=by
 rcases o with⟨o,e⟩|e|⟨p,U,rfl⟩|⟨x,e⟩
 .exact I.base.there b o e (by rw[F.1];simp)
 .cases q:H b with
  |none=>exact absurd q e
  |some u=>exact zM.there (I.hok b u q)
 .exact⟨_,(I.pin p U).1⟩
 .obtain⟨v,Y,J,_⟩:=I.cell x b e
  exact⟨Y,J⟩
theorem Inv.fly (I:Inv X ai σ H s)(F:oq X)(y:Cv X ai H B s.heap)(st:B.StaysIn h')(up:s.heap.UpToSlots h'):Inv X ai σ H { s with heap:=h' } /\ Cv X ai H B h':=by
 have E:∀ b o,s.heap.get? b=Ab o->vk X ai H b->b ∉ jg X.stack->h'.get? b=Ab o:=λb o e q n=>st b o (y b o e q n);have A:∀ b o,X.s₀.heap.get? b=Ab o->b≠X.env.locals:=λb o e=>Cu (Bl (Bg e) I.ok.above);have N:∀ b o,X.s₀.heap.get? b=Ab o->b ∉ X.fs->b ∉ jg X.stack:=λb o e n z=>(F.mem.mp z).elim (A b o e) n;have nx:∀ b,b ∉ X.ex:=λb=>by rw[F.1];simp
 have G:∀ b,b∈jg X.stack->∀ o,s.heap.get? b=Ab o->∃ sl,h'.get? b=Ab { o with slots:=sl }:=λb hb o e=>by
  obtain⟨_,w,f,C⟩:=I.stack.mem hb;rw[e] at f;cases f;exact up b o e C
 have Y:∀ x c,X.env.cells.lookup x=Ab c->∀ v,s.heap.IsCell c v->h'.IsCell c v:=λx c e v ⟨o,ho,h⟩=>by
  obtain⟨sl,q⟩:=up c o ho λvs z=>by rw[h] at z;cases z
  exact⟨_,q,h⟩
 refine⟨⟨I.ok,I.os,I.bare,⟨λb o e n hb O=>?_,λb o e n hb O=>?_,I.base.free,λb o e O=>?_,I.base.tups,I.base.frzs,I.base.tbls⟩,?_,λx c e=>?_,I.free,I.freeC,λp g=>?_,λa o e=>?_,I.len⟩,λb o e q n=>?_⟩
 .exact E b o (I.base.keep b o e n hb O) (.inl ⟨o,e⟩) (N b o e hb)
 .obtain⟨sl,J⟩:=I.base.slot b o e n hb O
  obtain⟨M,U⟩:=G b (F.mem.mpr (.inr hb)) _ J;exact⟨M,U⟩
 .obtain⟨w,J⟩:=I.base.there b o e O
  by_cases hb:b∈jg X.stack
  .obtain⟨sl,U⟩:=G b hb _ J
   exact⟨_,U⟩
  .exact⟨w,E b w J (.inl ⟨o,e⟩) hb⟩
 .obtain⟨m,L,hl⟩:=I.loc
  refine⟨m,up.ns L,λi x v J U T=>?_⟩;obtain⟨u,r,l⟩:=hl i x v J U T;refine⟨u,r,?_⟩;rcases l with l|⟨k,c,e,z⟩
  .exact .inl l
  .exact .inr ⟨k,c,e,Y x c e _ z⟩
 .obtain⟨v,z⟩:=I.cell x c e
  exact⟨v,Y x c e v z⟩
 .obtain⟨e,n,j,C,d⟩:=I.pin p g
  exact⟨E p.1 p.2 e (.inr (.inr (.inl ⟨p,g,rfl⟩))) λz=>(F.mem.mp z).elim j C,n,j,C,d⟩
 .refine(I.hok a o e).stay (λb u hb q=>?_) (λ_ q=>q) λ_ _ q=>q
  have L:H b≠none:=by
   rcases hb with rfl|hb
   .rw[e];intro z;cases z
   .rw[hb];intro z;cases z
  exact E b u q (.inr (.inl L)) λz=>L (I.stkFree b z)
 .obtain⟨t,J⟩:=vk.there I F q
  have U:=y b t J q n;have T:=st b t U;rw[e] at T;cases T;exact U
theorem R4 {c:Ad}{e:Af}{g:Cb}{Y:ag}(I:Inv X ai σ H s)(hm:AaW g s.heap e c Y)(G:g.FunFrames X.base X.stack)(O:∀ b o,s.heap.get? b=Ab o->vk X ai H b->g.get? b=Ab o) :
  (Qs g (jg X.stack)).StaysIn g/\g.FunFrames (Qs g (jg X.stack)) X.stack/\Cv X ai H (Qs g (jg X.stack)) s.heap:=
 ⟨λb o q=>Yk _ q,PySem.W.funFrames_hide G λJ U a N=>Oe.mpr ⟨J,U,N⟩,λb o e q n=>Xk _ (O b o e q) n⟩
theorem W9 {M:Pw}{A:Bu}{E:ab}{c:Ad}{e:Af}{Q:Uv->Ah->Prop}(I:Inv X ai σ H s)(F:oq X)(U:A.frames=Ab X.stack)(f:ql X ai H c e s.heap)
  (N:∀ h' B L,Yz B X.outer e c L h'->Inv X ai σ H { s with heap:=h' } -> Cv X ai H B h'->Q () { s with heap:=h' }) : Aq M A (leaving X.env (.ref e)) Q E s:=by
 cases f with
 |new g O C y l =>
  obtain⟨z,o,w⟩:=R4 I C y l;rw[F.2.1] at U;refine wpAny_leaves_madeW U F.2.2 z (by rw[<- F.2.1];exact o) C λh' t J T d k=>?_
  obtain⟨G,Y⟩:=Inv.fly I F w J.1 k;exact N h' _ _ J G Y
 |fly B L j q =>
  rw[F.2.1] at U;refine wpAny_leaves_onW U F.2.2 (by rw[<- F.2.1];exact j) λh' J T=>?_
  obtain⟨G,Y⟩:=Inv.fly I F q J.1 T;exact N h' _ _ J G Y
end
def ni (P:Bo)(w:Cd):sj:=λU H s E u Y =>
 ∃ e c J B G,u=.ref e/\Y.os=s.os/\Pv Y.gens/\Un (jg U) [] H J s.heap Y.heap/\gl P w J Y.heap/\Yz B U e c G Y.heap /\
  (∀ b o,Y.heap.get? b=Ab o->((∃ o,s.heap.get? b=Ab o)\/J b≠none)->b ∉ jg U->B.get? b=Ab o)/\E c none J
section
variable {X:Cx}{ai:aa}{σ : _L.St}{H:Hp}{s s':Ah}
theorem DQ {E:XK}(I:Inv X ai σ H s)(F:oq X)(h:ni X.prog X.w X.stack H s E u s'):∃ e c Y,u=.ref e/\Inv X ai σ Y s'/\ql X ai Y c e s'.heap/\E c none Y:=by
 obtain⟨e,c,Y,B,T,rfl,os,J,M,U,L,N,q⟩:=h;have j:Inv X ai σ Y s':=Inv.call' I os M U J (ch:=[]) λb z=>absurd z (by simp)
 refine⟨e,c,Y,rfl,j,.fly B T L λb o O G n=>N b o O ?_ n,q⟩;rcases G with⟨o,z⟩|z|⟨p,C,rfl⟩|⟨x,z⟩
 .exact .inl (I.base.there b o z (by rw[F.1];simp))
 .exact .inr z
 .exact .inl ⟨_,(I.pin p C).1⟩
 .obtain⟨v,w,A,_⟩:=I.cell x b z
  exact .inl ⟨w,A⟩
end
structure az (cm:As)(k:Ag)(A:Bu):Prop where
 hd:cm=true->A.handled=none
 dp:A.depth+3*k+5<Rj
 un:A.units+16*k+200<Ed
 gd:A.guards=Ab []
theorem az.mono {cm:As}{j k:Ag}{A:Bu}(r:az cm k A)(h:j<=k:=by decide):az cm j A:=⟨r.hd,by have:=r.dp;fin2,by have:=r.un;fin2,r.gd⟩
theorem az.deeper {cm:As}{k:Ag}{A:Bu}(r:az cm (k+1) A)(env:Kh):az cm k (A.deeper env):=
 ⟨r.hd,by have:=r.dp;show A.depth+1+3*k+5<_;fin2,by have:=r.un;show A.units+3+16*k+200<_;fin2,r.gd⟩
theorem az.depth {cm:As}{k:Ag}{A:Bu}(r:az cm k A):A.depth<Rj:=by have:=r.dp;fin2
theorem az.units {cm:As}{k:Ag}{A:Bu}(r:az cm k A):A.units+64<Ed:=by have:=r.un;fin2
theorem az.of {k:Ag}{A:Bu}(r:je k A):az true k A:=⟨λ_=>r.hd,r.dp,r.un,r.gd⟩
theorem az.any {cm:As}{k:Ag}{A:Bu}(r:az cm k A):az false k A:=⟨(λz=>nomatch z),r.dp,r.un,r.gd⟩
theorem az.mark {cm:As}{k:Ag}{A:Bu}(r:az cm k A)(h:An Ad):az false k (A.mark h):=⟨(λz=>nomatch z),r.dp,r.un,r.gd⟩
noncomputable abbrev Cx.re (X:Cx)(A:Bu)(cm:As)(E:ab):Cx:={ X with A:=A,calm:=cm,xe:=E }
theorem Inv.re {X:Cx}{ai:aa}{σ:_L.St}{H:Hp}{s:Ah}(I:Inv X ai σ H s)(A:Bu)(cm:As)(E:ab)(Y:A.frames=Ab X.stack)(J:cm=true->A.handled=none):Inv (Cx.re X A cm E) ai σ H s:=
 ⟨⟨I.ok.mod,I.ok.kind,I.ok.glob,I.ok.blt,I.ok.above,I.ok.inj,I.ok.has,I.ok.cab,J,Y,I.ok.stk,I.ok.exf,I.ok.bs,I.ok.bsz,I.ok.noex,I.ok.exfs,I.ok.funs,I.ok.frf⟩,I.os,I.bare,I.base,I.loc,I.cell,I.free,I.freeC,I.pin,I.hok,I.len⟩
structure nw (P:Bo)(w:Cd)(K:Ak)(mg:ah)(base:Cb)(cm:As)(k:Ag)(f:Af)(fd:Fu)(ps:Aa Aw)(sp:Sp):Prop where
 len:∀ vs H Q E,sp vs H Q E->vs.length=ps.length
 run:∀ (A:Bu) (outer:Aa Kh) (s:Ah) (H:Hp) (args:Args) (us:ag) (vs:Aa V) (Q:VK) (E:XK),az cm k A->nz P w K mg base A outer s H->Py s fd args (ps.zip us)->qI vs us->sp vs H Q E ->
  Jy (Au P w) A (.call (.ref f) args) (CR (ni P w) outer P w H s Q E) s
theorem nw.ok {P:Bo}{w:Cd}{K:Ak}{J:ah}{base:Cb}{k:Ag}{f:Af}{fd:Fu}{ps:Aa Aw}(F:nw P w K J base true k f fd ps sp):mz P w K J base (ni P w) k f fd ps sp:=
 ⟨F.len,λA G s H Y us vs Q E U=>F.run A G s H Y us vs Q E (.of U)⟩
theorem nw.any {P:Bo}{w:Cd}{K:Ak}{J:ah}{base:Cb}{cm:As}{k:Ag}{f:Af}{fd:Fu}{ps:Aa Aw}(F:nw P w K J base false k f fd ps sp):nw P w K J base cm k f fd ps sp:=
 ⟨F.len,λA G s H Y us vs Q E U=>F.run A G s H Y us vs Q E U.any⟩
theorem nw.imp {P:Bo}{w:Cd}{K:Ak}{U:ah}{base:Cb}{cm:As}{k:Ag}{f:Af}{fd:Fu}{ps:Aa Aw}{J:Sp}(F:nw P w K U base cm k f fd ps sp)
  (h:∀ vs H Q E,J vs H Q E->sp vs H Q E):nw P w K U base cm k f fd ps J:=
 ⟨λvs H Q E q=>F.len vs H Q E (h _ _ _ _ q),λA O s H Y us vs Q E N G C hv hs=>F.run A O s H Y us vs Q E N G C hv (h _ _ _ _ hs)⟩
noncomputable def ly (cm:As)(P:Bo)(w:Cd)(K:Ak)(mg:ah)(base:Cb)(N:Aa Aw)(U:Aw)(aj:Fd)(f:Af)(J:Ad)(A:Bu)(G:Aa Kh)(s:Ah)(H:Hp)(E:XK):Cx where
 prog:=P
 w:=w
 K:=K
 mg:=mg
 base:=base
 A:=A.deeper (He U aj s.heap.objs.size f J)
 N:=N
 s₀:=s
 H₀:=H
 env:=He U aj s.heap.objs.size f J
 outer:=G
 stack:=He U aj s.heap.objs.size f J::G
 ex:=[]
 calm:=cm
 fn:=λ_=>true
 pn:=[]
 xe:=λe O=>Aq (Au P w) (A.deeper (He U aj s.heap.objs.size f J)) (leaving (He U aj s.heap.objs.size f J) e) (λ_ Y=>ni P w G H s E e Y) (λC Y=>ni P w G H s E C Y) O
section
variable {P:Bo}{w:Cd}{K:Ak}{mg:ah}{base:Cb}{cm:As}{N:Aa Aw}{bb:Aw}{aj:Fd}{f:Af}{cd:Ad}{A:Bu}{ap:Aa Kh}{s:Ah}{H:Hp}{E:XK}
theorem VI:Qu (Au P w) (A.deeper (He bb aj s.heap.objs.size f cd)) (He bb aj s.heap.objs.size f cd) (ly cm P w K mg base N bb aj f cd A ap s H E).xe:=PassesOwn.leaving (Q₁:=λe Y=>ni P w ap H s E e Y)
abbrev zp (P:Bo)(w:Cd)(A:Bu)(env:Kh)(ap:Aa Kh)(H:Hp)(s:Ah)(E:XK):Ad->Ah->Prop:=λe J=>Aq (Au P w) (A.deeper env) (leaving env e) (λ_ Y=>ni P w ap H s E e Y) (λU Y=>ni P w ap H s E U Y) J
theorem VJ {X:Cx}{O:Hp}{α:ae}{c:Ad}{x:D}{s':Ah}(M:X.A=A.deeper X.env)(k:uz X O α c x S u s')
  (q:∀ G C J,bf X.K G C J S->qF O C->α<+:J->E c none G):zp X.prog X.w A X.env X.outer X.H₀ X.s₀ E u s':=by
 obtain⟨e,h,σ,L,y,U,rfl,I,r,v,j,F,d⟩:=k;unfold zp;rw[<- M];refine W9 I F I.ok.frames d λa B m l Y i=>?_;refine⟨e,c,L,B,m,rfl,Y.os,Y.bare,by have z:=Y.base;rw[F.1] at z;exact z,Y.hok,l,λb o g T n=>i b o g ?_ λz=>?_,q L y U r v j⟩
 .rcases T with z|z
  .exact .inl z
  .exact .inr (.inl z)
 .rcases (oq.mem F).mp z with z|z
  .subst z
   rcases T with⟨o',t⟩|z
   .exact absurd (Bg t) (Pm.mpr Y.ok.above)
   .exact z Y.free
  .exact n z
theorem QF {ps:Aa Aw}{U:Ah}(S:cy N ps aj)(G:cm=true->A.handled=none)(Y:nz P w K mg base A ap s H)(O:vs.length=ps.length)(r:qI vs us)
  (x:InCallC s s.heap.objs.size (Xo (He bb aj s.heap.objs.size f cd).kindOf (ps.zip us) λ_=>none) (Hz (s.heap.objs.size+1) aj.names []) (Xp (He bb aj s.heap.objs.size f cd).kindOf (ps.zip us) λ_=>none) U) :
  Inv (ly cm P w K mg base N bb aj f cd A ap s H E) [] (_L.w8 N vs) H U:=by
 have I:=dP (CX:=ni P w) (E:=E) (A:={ A with handled:=none }) S rfl ⟨Y.frames,Y.mod,Y.bs,Y.bsz,Y.funs,Y.frf,Y.hok,Y.bare⟩ O r x
 have J:=Inv.re I (A.deeper (He bb aj s.heap.objs.size f cd)) cm (ly cm P w K mg base N bb aj f cd A ap s H E).xe (Wz Y.frames) G;exact J
end
theorem DU {P:Bo}{w:Cd}{K:Ak}{l:ah}{base:Cb}{cm:As}{k:Ag}{f:Af}{T:Aw}{ii:Vs}{aj:Fd}{oc:Ad}{od i:An Af}{c:Ay (An Ad)}{x:Aw}{kV M pm Y ct:Ad}{N ps:Aa Aw}
  {A:Bu} {L:Aa Kh} {s:Ah} {H:Hp} {O:Args} {us:ag} {vs:Aa V} {Q:VK} {E:XK} (lk:K.lookup f=Ab ⟨oc,od,.func (Gr x T ii cf aj .none kV M pm i Y ct),c⟩) (m:Mm K Y T=true) (S:cy N ps aj) (hl:vs.length=ps.length) (a:az cm (k+1) A)
  (j:nz P w K l base A L s H) (hb:Py s (Gr x T ii cf aj .none kV M pm i Y ct) O (ps.zip us)) (r:qI vs us)
  (C:∃ t,ir (ly cm P w K l base N T aj f Y A L s H E) cf t/\t { nx:=λ_ G=>Q .non G,rt:=Q } (_L.w8 N vs) H) :
  Jy (Au P w) A (.call (.ref f) O) (CR (ni P w) L P w H s Q E) s:=by
 have KX:K.In s.heap:=j.mod.kin.keeps λb o e=>(j.bs b o e).1;have bn:s.heap.NoLimit:=j.mod.nolimit.keeps λb o e=>(j.bs b o e).1;have B:∀ y∈ps.zip us,aj.names.lookup y.1=Ab .local \/ (aj.names.lookup y.1=Ab .cell/\((Hz (s.heap.objs.size+1) aj.names []).lookup y.1).isSome=true):=λ⟨n,v⟩ hy=>by
  rcases S.par n (Qv hy).1 with q|q
  .exact .inl q
  .exact .inr ⟨q,Lq _ _ _ (.inl q)⟩
 refine Vt a.depth (KX _ _ lk) rfl S.co S.gen rfl (Ym KX m) (hb _ _ _ _ ?_);refine Sc S.kind B λzb he h x=>?_;subst he;refine⟨bn.keeps x.toInCall.keep,codeAny_func ?_⟩;obtain⟨t,ht,hq⟩:=C;have I:Inv (ly cm P w K l base N T aj f Y A L s H E) [] (_L.w8 N vs) H h:=QF S a.hd j hl r x;refine Ho (ht [] h (_L.w8 N vs) H _ I hq) (λfl g hs=>?_) λe g hs=>hs;have z:∀ {U : _L.St} {G:Hp} {v:V} {u:Ad},Inv (ly cm P w K l base N T aj f Y A L s H E) [] U G g->qG v u->Q v G->CE L P w H s Q u g:=
  λ{U G v u} J d q=>⟨v,G,J.os,J.bare,J.base,J.hok,d,q⟩
 cases fl with
 |ret u =>
  obtain⟨v,U,G,J,d,q⟩:=hs;exact z J d q
 |next =>
  obtain⟨U,G,J,q⟩:=hs;exact z (v:=V.non) (u:=Dd) J rfl q
 |brk =>
  obtain⟨_,_,_,q⟩:=hs;exact Ar q
 |cont =>
  obtain⟨_,_,_,q⟩:=hs;exact Ar q
def fV (K:Ak)(x:Aw)(Y:Ad):Prop:=∀ c T,Er K x=Ab (c,T)->Y=.ref c
theorem DR {P:Bo}{w:Cd}{K:Ak}{L:ah}{base:Cb}{cm:As}{k:Ag}{f:Af}{x C:Aw}{st:Fz}{fd:Fu}{N ps:Aa Aw}(F:se K x C st f fd)(S:cy N ps (qK st))
  (U:∀ vs H Q E,sp vs H Q E->vs.length=ps.length)
  (J:∀ (Y:Ad) (A:Bu) (O:Aa Kh) (s:Ah) (H:Hp) (vs:Aa V) (Q:VK) (E:XK),fd.code=Y/\Mod K L base->az cm k (A.deeper (He C (qK st) s.heap.objs.size f Y))->sp vs H Q E ->
   ∃ t,ir (ly cm P w K L base N C (qK st) f Y A O s H E) (zZ st) t/\t { nx:=λ_ z=>Q .non z,rt:=Q } (_L.w8 N vs) H) :
  nw P w K L base cm (k+1) f fd ps sp:=by
 obtain⟨l,d,kV,y,c,o,Y,g,j,rfl,lk,B⟩:=F.ex;exact⟨U,λA O s H I us vs Q E T M q r G=>DU lk B S (U _ _ _ _ G) T M q r (J Y A O s H vs Q E ⟨rfl,M.mod⟩ (T.deeper _) G)⟩
def yP (n:Ag)(ds:Aa D):qB:=ds.map Ab++AaV (n-ds.length) none
noncomputable def Z6:jf->ba D
 |.rt d S=>.ok d S
 |.nx _ S=>.ok .non S
 |.ex c x _ S=>.ex c x S
 |_=>.bad
def qL (n:Ag)(g:DS):DF:=λY S=>Z6 (g (yP n Y) S)
def yr (K:Ak)(P:Hp)(α : Aa Af)(R:ba D)(Q:VK)(E:XK):Prop:=match R with
 |.ok d G=>∀ v U J Y,bf K U J Y G->qF P J->α<+:Y->aq K J Y d v->Q v U
 |.ex c _ G=>∀ U J Y,bf K U J Y G->qF P J->α<+:Y->E c none U
 |.bad=>Ey
def so (K:Ak)(n:Ag)(F:DF):Sp:=λvs H Q E=>vs.length=n/\∃ P α Y S,bf K H P α S/\qC K P α Y vs/\yr K P α (F Y S) Q E
theorem ZC {K:Ak}{P:Hp}{α:ae}{N:Aa Aw}{ds:Aa D}(r:qC K P α ds vs):zJ K P α (_L.w8 N vs) (yP N.length ds):=by
 refine⟨by simp[yP,_L.w8,r.length],λi d e=>?_⟩
 unfold yP at e;unfold _L.w8;by_cases Y:i<ds.length
 .rw[AT (by simpa using Y),Du] at e
  rw[AT (by rw[Ao,<- r.length];exact Y),Du]
  cases q:ds[i]? with
  |none=>rw[q] at e;cases e
  |some G =>
   rw[q] at e;cases e;obtain⟨v,J,U⟩:=r.get q;exact⟨v,by rw[J];rfl,U⟩
 .rw[Dg (by simpa using Y),Uc] at e
  split at e <;> cases e
section
variable {P:Bo}{w:Cd}{K:Ak}{mg:ah}{base:Cb}{cm:As}
theorem V7 {k:Aw}{aj:Fd}{f:Af}{G:Ad}{A:Bu}{y:Aa Kh}{s:Ah}{H I:Hp}{E:XK}{N:Aa Aw}{g:DS}{α:ae}{ds:Aa D}{M:ak}(i:ir (ly cm P w K mg base N k aj f G A y s H E) cf (iu (ly cm P w K mg base N k aj f G A y s H E) g))
  (r:bf K H I α M) (m:qC K I α ds vs) (Y:yr K I α (qL N.length g ds M) Q E):∃ t,ir (ly cm P w K mg base N k aj f G A y s H E) cf t/\t { nx:=λ_ U=>Q .non U,rt:=Q } (_L.w8 N vs) H:=by
 refine⟨_,i,I,α,yP N.length ds,M,r,ZC m,?_⟩;unfold qL at Y;cases q:g (yP N.length ds) M with
 |rt d j=>rw[q] at Y;exact λv U C J L B T n=>Y v U C J L B T n
 |nx O j=>rw[q] at Y;exact λo U C J L l B T=>Y .non U C J L B T (by simp only[aq])
 |bk O j=>rw[q] at Y;exact Ar Y
 |ct O j=>rw[q] at Y;exact Ar Y
 |ex c x O j=>rw[q] at Y;exact λu e z=>VJ (A:=A) rfl z λU C J L B T=>Y U C J L B T
 |bad=>rw[q] at Y;exact Ar Y
theorem fnX {x G:Aw}{st:Fz}{f:Af}{fd:Fu}{N ps:Aa Aw}{k:Ag}{g:DS}(F:se K x G st f fd)(S:cy N ps (qK st))
  (J:∀ (Y:Ad) (A:Bu) (U:Aa Kh) (s:Ah) (H:Hp) (E:XK),fd.code=Y/\Mod K mg base->az cm k (A.deeper (He G (qK st) s.heap.objs.size f Y)) ->
   ir (ly cm P w K mg base N G (qK st) f Y A U s H E) (zZ st) (iu (ly cm P w K mg base N G (qK st) f Y A U s H E) g)) :
  nw P w K mg base cm (k+1) f fd ps (so K ps.length (qL N.length g)):=by
 refine DR F S (λvs H Q E h=>h.1) λY A U s H vs Q E C O h=>?_;obtain⟨z,T,α,M,I,r,L,B⟩:=h;exact V7 (J Y A U s H E C O) r L B
end
section
variable {X:Cx}{cm:As}{k:Ag}{f:Af}{fd:Fu}{ps:Aa Aw}{F:DF}{x:Aw}{p ao:Fn}{e:Bz}{es:Aa Bz}{fa:DA}{n:Ag}
def qD (n:Ag)(F:DF)(fa:DA):DE:=λY S=>(fa Y S).bind λJ U=>if J.length=n then F J U else .bad
def EX (X:Cx)(P:Hp)(α : Aa Af)(R:ba D):XK:=λc _ G=>match R with
 |.ex N _ U=>c=N/\∃ J Y,bf X.K G J Y U/\qF P J/\α<+:Y
 |_=>Ey
theorem HP {P:Hp}{α:ae}{R:ba D}(J:qV X P α R Q):yr X.K P α R Q (EX X P α R):=by
 cases R with
 |ok d U=>exact J
 |ex c x U=>exact λB C Y G N O=>⟨rfl,C,Y,G,N,O⟩
 |bad=>exact J
theorem V9 {ai:aa}{σ:_L.St}{H:Hp}{s:Ah}{P:Hp}{α:ae}{R:ba D}(L:(∃ c x U,R=.ex c x U)->oq X)(I:Inv X ai σ H s)(N:qV X P α R Q)
  (h:Jy (Au X.prog X.w) X.A (.call u ⟨us,[]⟩) (CR (ni X.prog X.w) X.stack X.prog X.w H s Q (EX X P α R)) s):Aq (Au X.prog X.w) X.A (call u us) (EP X ai σ Q) X.xe s:=by
 refine wpAny_call (Mq h λr B Y=>?_);cases r with
 |error u =>
  have Y:ni X.prog X.w X.stack H s (EX X P α R) u B:=Y;cases R with
  |ok d U=>obtain⟨_,_,_,_,_,_,_,_,_,_,_,_,q⟩:=Y;exact Ar q
  |bad=>exact Ar N
  |ex j z U =>
   have O:=L ⟨_,_,_,rfl⟩;obtain⟨a,c,C,rfl,M,G,rfl,E,J,A,w,T⟩:=DQ I O Y;exact N _ _ ⟨a,ai,σ,C,E,J,rfl,M,A,w,T,O,G⟩
 |ok G =>
  cases G with
  |ret u=>exact I.after Y
  |next=>exact Ar Y
  |brk=>exact Ar Y
  |cont=>exact Ar Y
theorem TC {ai:aa}{σ:_L.St}{H:Hp}{s:Ah}{P:Hp}{α:ae}{ds:Aa D}(G:nw X.prog X.w X.K X.mg X.base cm k f fd ps (so X.K n F))(C:az cm k X.A)(T:uM X.K fd ps [])(L:oq X)
  (I:Inv X ai σ H s) (r:bf X.K H P α S) (U:qI vs us) (O:qC X.K P α ds vs) (B:ds.length=n) (N:qV X P α (F ds S) Q):Aq (Au X.prog X.w) X.A (call (.ref f) us) (EP X ai σ Q) X.xe s:=by
 have J:so X.K n F vs H Q (EX X P α (F ds S)):=⟨by rw[<- O.length];exact B,P,α,ds,S,r,O,HP N⟩
 have E:us.length=ps.length:=by rw[<- U.length];exact G.len _ _ _ _ J
 have Y:=T s us I.kIn (by rw[Hq];exact E)
 rw[Hq] at Y;exact V9 (λ_=>L) I N (G.run X.A X.stack s H ⟨us,[]⟩ us vs Q _ C I.env0 Y U J)
theorem dG {env:qB}{S S1:ak}{P:Hp}{α:ae}{ds:Aa D}{Ok:D->ak->Prop}(h:qJ X P α (if ds.length=n then F ds S1 else .bad) Ok):ds.length=n/\qJ X P α (F ds S1) Ok:=by
 by_cases Y:ds.length=n
 .rw[Bi Y] at h;exact⟨Y,h⟩
 .rw[Bh Y] at h;exact Ar h
theorem B9 (G:nw X.prog X.w X.K X.mg X.base cm k f fd ps (so X.K n F))(B:az cm k X.A)(w:oq X)(j:Gl X x)(hm:X.mg x=Ab (.ref f))(d:Gs X.K (.ref f)=true)(l:uM X.K fd ps [])
  (E:PA X (e::es) (lv X fa)) (U:(x == ("__debug__" : Aw))=false:=by decide) (C:Bs (e::es) X.env=(false,eval e X.env)::Bs es X.env:=by rfl) (N:(Gi ao (Bs es X.env)).any (·.1)=false:=by rfl) :
  PE X (.Call (.Name x p) (e::es) [] ao) (tD X (qD n F fa)):=by
 intro m s σ H Q I h;obtain⟨P,α,env,S,r,T,g⟩:=h;refine Lj (lE I j hm ?_ U);refine Yr (h₀:=X.base) I.ok.mod.kin d (bq (yM E I r T g ao) λus t ⟨vs,i,v,q,b,a,O,z,y,o,c,A,L,J⟩=>⟨O.kIn,?_⟩) C N;obtain⟨M,Y⟩:=dG (env:=env) (S:=S) J;exact TC G B l w O y z c M (qV.base A L Y)
end
noncomputable abbrev qAa:Aa Ad:=[.type "ValueError",.type "Exception",.type "BaseException",.type "object"]
noncomputable def AN:Ad->As
 |.str _ _=>true
 |_=>false
def iR (K:Ak)(N:Af):As:=(match List.lookup N K with
 |some o=>match o.data with
  |.dict Y _=>Y.toList.all λe=>AN e.key
  |_=>false
 |none=>false)&&decide (Fe K N "__init__" = Ab none)
def PB (K:Ak)(C:Af)(f:Ad->ClassData->Ay (An Ad)->As):As:=match List.lookup C K with
 |some o=>(match o.data with|.cls Y=>f o.cls Y o.slots|_=>false)
 |none=>false
def VE (K:Ak)(C A:Af):As:=PB K C λJ Y sl=>PB K A λ_ U _=>decide (J=.type "type")&&(decide (Y.mro=.ref C::.ref A::qAa)&&(!Y.hasDel&&(iR K Y.ns&&(iR K U.ns&&(decide (sl.toList.length=6)&&decide (sl.toList[4]? = Ab (Ab (.builtin "ValueError.__new__"))))))))
noncomputable abbrev Cx.tryIn (X:Cx)(E:ab)(pn:aa):Cx:={ X with xe:=E,pn:=pn }
end _D
namespace _D
open _L PySem.W
structure zk (K:Ak)(C:Af):Prop where
 ga:findIn K (.ref C) "__getattribute__" = Ab (Ab (.builtin "BaseException.__getattribute__"))
 hk:findIn K (.ref C) "__getattr__" = Ab none
 cl:findIn K (.ref C) "__class__" = Ab (Ab (.builtin "object.__class__"))
 sp:specialIn K (.builtin "object.__class__") "__get__" = Ab (Ab (.builtin "getset_descriptor.__get__"))
 tk:takesIn K (.builtin "object.__class__")=Ab true
 mo:mroIn K C (.type "object")=Ab true
 mb:mroIn K C (.type "BaseException")=Ab true
 isC:(clsIn K C).isSome=true
end _D
namespace _D
open _L
variable {iy:Aa (Aw × Af)}{α α1:ae}{ds:Aa D}{E:ab}{C:Af}{s:Ah}{K:Ak}{w:Cd}{o:Cw}{H P P1:Hp}{S S1:ak}
theorem pJ {α:Type}{t:Kr α}{Q Y:α->Ah->Prop}{M:Pw}{A:Bu}(h:Aq M A t Q (λ_ _=>Ey) s)(J:∀ a s,Q a s->Y a s):Aq M A t Y E s:=Ho h J λ_ _ x=>x.elim
def jS (Q:Aa Bz)(env:Kh):Kr As:=forIn Q true λc r=>if r=true then do let ok <- AbD c env (eval c env);pure (Lu ok) else pure (Lu r)
def qf (X:Cx)(J:Aa Bz)(t:DT):Prop:=
 ∀ (Y:aa) (s:Ah) (σ : _L.St) (H:Hp) (Q:As->Hp->Prop),Inv X Y σ H s->ma X t σ H Q->Aq (Au X.prog X.w) X.A (jS J X.env) (TP X Y σ Q) X.xe s
def zN:DT:=λ_ S=>.ok true S
section
variable {X:Cx}
theorem fU {prog:Bo}{A:Bu}{env:Kh}{Q:As->Ah->Prop}:∀ (Y:Aa Bz) {s:Ah},Q false s ->
  Aq (Au prog w) A (forIn Y false λc r=>if r=true then do let ok <- AbD c env (eval c env);pure (Lu ok) else pure (Lu r)) Q E s
 |[],s,h=>by rw[Ow];exact Am h
 |c::J,s,h=>by
  rw[Nr];rw[Bh (by simp)]
  refine Ac (Am ?_);exact fU J h
theorem BP:qf X [] zN:=λU s σ H Q I ⟨P,α,Y,S,r,G,J⟩=>by
 unfold jS;rw[Ow];exact Am ⟨H,I,J H P α r (qF.refl _) (Bd _)⟩
theorem U0 {c:Bz}{N:Aa Bz}{t u:DT}(h1:PT X c (ma X t))(h2:qf X N u):qf X (c::N) (zS t u):=λO s σ H Q I ⟨P,α,J,S,r,j,y⟩=>by
 unfold jS;rw[Nr,Bi rfl];refine Ac (Ac (bq (kY (λM q=>h1 O s σ H M I q) r j y) λb z ⟨U,P1,α1,S1,T,L,G,A,B,Y⟩=>Am ?_));cases b with
 |true=>exact h2 O z σ U Q T ⟨P1,α1,J,S1,L,G,wZ.base A B Y⟩
 |false=>exact fU N ⟨U,T,Y U P1 α1 L A B⟩
theorem qA5 {e:Bz}{f:DE}{ai:aa}{σ:_L.St}{env:qB}{d:D}(N:PE X e (tD X f))(I:Inv X ai σ H s)(r:bf X.K H P α S)(L:zJ X.K P α σ env)(q:f env S=.ok d S1) :
  Aq (Au X.prog X.w) X.A (eval e X.env) (λu U=>∃ v Y P1 α1,Got X ai σ env P α u U v Y P1 α1 d S1) X.xe s:=by
 refine bq (zX (g:=λd S=>ba.ok d S) (Ok:=λQ J=>Q=d/\J=S1) N I r L (by rw[q];exact⟨rfl,rfl⟩)) λu U ⟨v,Y,P1,α1,Q,J,G,B,T⟩=>?_
 have A:Q=d:=B;have O:J=S1:=T;subst A;subst O;exact⟨v,Y,P1,α1,G⟩
theorem IZ {B:Aa Bz}{t:DT}{ai:aa}{σ:_L.St}{env:qB}{b:As}(L:qf X B t)(I:Inv X ai σ H s)(r:bf X.K H P α S)(N:zJ X.K P α σ env)(q:t env S=.ok b S1) :
  Aq (Au X.prog X.w) X.A (jS B X.env) (λY G=>Y=b/\∃ Q P1 α1,Inv X ai σ Q G/\bf X.K Q P1 α1 S1/\zJ X.K P1 α1 σ env/\qF P P1/\α<+:α1) X.xe s:=by
 refine bq (L ai s σ H (λY Q=>Y=b/\∃ P1 α1,bf X.K Q P1 α1 S1/\zJ X.K P1 α1 σ env/\qF P P1/\α<+:α1) I ⟨P,α,env,S,r,N,?_⟩) λY G ⟨Q,k,e,P1,α1,M,j,z,T⟩=>⟨e,Q,P1,α1,k,M,j,z,T⟩;rw[q];exact λu y J A O U=>⟨rfl,y,J,A,N.mono O U,O,U⟩
theorem qA7 {O:Bz}{g:DG}{ai:aa}{σ:_L.St}{env Y:qB}{d:D}{v:V}{u:Ad}(c:PG X O (nj X g))(I:Inv X ai σ H s)(r:bf X.K H P α S)(T:zJ X.K P α σ env)(p:qG v u)
  (t:aq X.K P α d v) (q:g d env S=.ok Y S1) :
  Aq (Au X.prog X.w) X.A (assign O X.env u) (λ_ N=>∃ Q J P1 α1,Inv X ai Q J N/\bf X.K J P1 α1 S1/\zJ X.K P1 α1 Q Y/\qF P P1/\α<+:α1) X.xe s:=by
 refine bq (c ai s σ H v u (λQ J=>∃ P1 α1,bf X.K J P1 α1 S1/\zJ X.K P1 α1 Q Y/\qF P P1/\α<+:α1) I p ⟨P,α,env,S,d,r,T,t,?_⟩) λ_ N ⟨Q,J,f,P1,α1,M,k,y,L⟩=>⟨Q,J,P1,α1,f,M,k,y,L⟩;rw[q];exact λj m l G A U z B=>⟨l,G,A,U,z,B⟩
def b0 (K:Ak)(P:Hp)(α : Aa Af)(ds:Aa D)(o:Cw):Prop:=∃ (Y:ag) (n:Ag) (Q:Aa V),o={ cls:=.type "list",data:=.seq Y.toArray n } /\ qI Q Y/\qC K P α ds Q/\ds.length<=bn
theorem b0.mono (e:qF P P1)(h:α<+:α1)(a:b0 K P α ds o):b0 K P1 α1 ds o:=by
 obtain⟨N,n,Q,J,Y,U,G⟩:=a;exact⟨N,n,Q,J,Y,qC.mono e h _ _ U,G⟩
theorem b0.cell (a:b0 K P α ds o):∀ v,o.data≠.cell v:=by
 obtain⟨Y,n,Q,rfl,_⟩:=a;intro v z;cases z
theorem Inv.pin1 {ai:aa}{σ:_L.St}{a:Af}(I:Inv X ai σ H s)(f:xJ X ai H a)(e:s.heap.get? a=Ab o)(d:∀ v,o.data≠.cell v):Inv X (ai++[(a,o)]) σ H s:=
 I.pins_of λp Q=>(Bq.mp Q).elim (λz=>I.pin p (Ca _ z)) λz=>by
  have Y:p=(a,o):=by simpa using z
  subst Y;exact⟨e,f.1,f.2.1,f.2.2.1,d⟩
theorem Inv.pinned1 {ai:aa}{σ:_L.St}{a:Af}(I:Inv X (ai++[(a,o)]) σ H s):s.heap.get? a=Ab o/\H a=none:=by
 have:=I.pin (a,o) (Ca _ (Ca _ (by simp)))
 exact⟨this.1,this.2.1⟩
end
structure Acc where
 m:As
 O:Ak->Hp->Aa Af->Aa D->Cw->Prop
 mono:∀ {K:Ak} {P P1:Hp} {α α1:ae} {ds:Aa D} {o:Cw},qF P P1->α<+:α1->O K P α ds o->O K P1 α1 ds o
 cell:∀ {K:Ak} {P:Hp} {α : Aa Af} {ds:Aa D} {o:Cw},O K P α ds o->∀ v,o.data≠.cell v
@[reducible] def j_:Acc:=⟨false,b0,b0.mono,b0.cell⟩
def xW (m:As)(J:Bz)(Y:Aa DL)(aj:Fd)(Q:Fn):Bz:=match m with
 |false=>.ListComp J Y aj Q
 |true=>.SetComp J Y aj Q
structure ft (B:Acc)(Y:Cx)(pins:aa)(P1:Hp)(α1:ae)(fp:ae)(acc:Af)(env:qB)(S:ak)(ds:Aa D)(s:Ah)(σ : _L.St)(H P:Hp)(α : Aa Af)(o:Cw):Prop where
 inv:Inv Y pins σ H s
 rel:bf Y.K H P α S
 env:zJ Y.K P α σ env
 same:qF P1 P
 pre:α1<+:α
 fpn:∀ b∈fp,H b=none
 acn:H acc=none
 at':s.heap.get? acc=Ab o
 acc:B.O Y.K P α ds o
noncomputable def vF (iy:Aa (Aw × Af)):Aa (Aw × Iu)->Aa (Aw × Af)->Aa (Aw × Af)
 |[],Q=>Q
 |(n,k)::r,Q=>vF iy r (if k == .free then (n,(iy.lookup n).getD 0)::Q else Q)
theorem sJ {env:Kh}{aj:Fd}(h:∀ y∈aj.names,y.2=.free->∃ c,env.cells.lookup y.1=Ab c):closureFor aj env=pure (vF env.cells aj.names []):=by
 have I:∀ (l:Aa (Aw × Iu)) (Y:Aa (Aw × Af)),(∀ y∈l,y.2=.free->∃ c,env.cells.lookup y.1=Ab c) ->
   (forIn l Y λx Y=>match x with|(Q,U)=>if (U == Ic)=true then do let a <- cellOf env Q;pure (Lu ((Q,a)::Y)) else pure (Lu Y):Kr (Aa (Aw × Af)))=pure (vF env.cells l Y):=by
  intro l
  induction l with
  |nil=>intro Y _;rfl
  |cons y r B =>
   intro Y N;obtain⟨n,k⟩:=y;rw[Nr];by_cases L:k=.free
   .subst L
    obtain⟨c,T⟩:=N (n,.free) De rfl;have J:env.cells.lookup n=Ab c:=T;have e:cellOf env n=pure c:=by unfold cellOf;rw[J]
    simp only[Hi,Dp,e,pure_bind];rw[B _ λz G=>N z (Ce _ G)];simp only[vF,Hi,Dp,J,Tz]
   .have O:(k == Ic)=false:=by simpa using L
    simp only[O,Bn,Ds,pure_bind];rw[B _ λz G=>N z (Ce _ G)];simp only[vF,O,Bn,Ds]
 unfold closureFor;have:=I aj.names [] h;simp only[bind_pure];exact this
theorem fQ {x:Aw}{c:Af}:∀ (l:Aa (Aw × Iu)) (Y:Aa (Aw × Af)),(vF iy l Y).lookup x=Ab c->Y.lookup x=Ab c\/((x,Ic)∈l/\c=(iy.lookup x).getD 0)
 |[],Y,h=>.inl h
 |(n,k)::r,Y,h=>by
  rcases fQ r _ h with h|⟨U,G⟩
  .by_cases J:k=.free
   .subst J
    simp only[Hi,Dp,Kv] at h;cases Q:x == n with
    |true =>
     rw[Q] at h;have e:x=n:=by simpa using Q
     subst e;exact .inr ⟨De,(Dc h).symm⟩
    |false=>rw[Q] at h;exact .inl h
   .have Q:(k == Ic)=false:=by simpa using J
    simp only[Q,Bn,Ds] at h;exact .inl h
  .exact .inr ⟨Ce _ U,G⟩
theorem dD {x:Aw}:∀ (l:Aa (Aw × Iu)) (Q:Aa (Aw × Af)),((x,Ic)∈l\/∃ c,Q.lookup x=Ab c)->∃ c,(vF iy l Q).lookup x=Ab c
 |[],Q,h=>by
  rcases h with h|h
  .cases h
  .exact h
 |(n,k)::r,Q,h=>by
  refine dD r _ ?_;rcases h with h|⟨c,h⟩
  .rcases Bc.mp h with e|h
   .cases e
    exact .inr ⟨(iy.lookup x).getD 0,by simp only[Hi,Dp,Kv]⟩
   .exact .inl h
  .by_cases Y:k=.free
   .subst Y
    simp only[Hi,Dp,Kv];cases J:x == n with
    |true=>exact .inr ⟨_,rfl⟩
    |false=>exact .inr ⟨c,h⟩
   .have J:(k == Ic)=false:=by simpa using Y
    simp only[J,Bn,Ds];exact .inr ⟨c,h⟩
structure df (scX:Fd)(NX:Aa Aw)(scope:Fd)(N':Aa Aw)(cap:Aa (An Ag)):Prop where
 kind:scope.kind=.function
 names:∀ y∈scope.names,y.2=.local -> scope.names.lookup y.1=Ab .local
 cel:∀ y∈scope.names,y.2=.cell->scope.names.lookup y.1=Ab .cell
 free:∀ y∈scope.names,y.2=.free->scX.names.lookup y.1=Ab .cell\/scX.names.lookup y.1=Ab .free
 fr2:∀ y∈scope.names,y.2=.free->scope.names.lookup y.1=Ab .free
 len:cap.length=N'.length
 caps:((cap.zip N').all λp=>match p.1 with|none=>true|some i=>NX[i]? == Ab p.2&&scope.names.lookup p.2 == Ab .free)=true
 nd:N'.Nodup
def vQ (bu:Aa (An Ag))(σ : _L.St):_L.St:=bu.map λo=>match o with
 |none=>none
 |some i=>(σ[i]?).join
def xF (bu:Aa (An Ag))(env:qB):qB:=bu.map λo=>match o with
 |none=>none
 |some i=>(env[i]?).join
theorem Y7 {σ:_L.St}{env:qB}(G:zJ K P α σ env)(bu:Aa (An Ag)):zJ K P α (vQ bu σ) (xF bu env):=by
 refine⟨by simp[vQ,xF],λj d e=>?_⟩
 unfold xF at e;unfold vQ;rw[Du] at e ⊢;cases q:bu[j]? with
 |none=>rw[q] at e;cases e
 |some o =>
  rw[q] at e;cases o with
  |none=>cases e
  |some i =>
   have Q:(env[i]?).join=Ab d:=by simpa using e
   cases z:env[i]? with
   |none=>rw[z] at Q;cases Q
   |some w =>
    rw[z] at Q;have Y:w=Ab d:=Q;subst Y;obtain⟨v,U,J⟩:=G.2 i d z;exact⟨v,by simp[U],J⟩
noncomputable def qY (X:Cx)(Y:Aa Aw)(aj:Fd)(Q:Aa (Aw × Af))(C:Af)(ex:ae)(s₀:Ah)(H₀:Hp):Cx:=
 { X with N:=Y,s₀:=s₀,H₀:=H₀,env:=compEnvC aj Q C X.env,outer:=X.stack,stack:=X.stack,ex:=ex,fn:=λx=>decide (aj.names.lookup x=Ab .cell),pn:=[],xe:=λ_ _=>Ey }
theorem jL {aj:Fd}{env:Kh}:∀ {Q:Aa (Aw × Iu)} {x:Aw} {k:Iu},
  (Q.map λ(n,k)=>if (k == Ic&&env.scope.kind == .function&&env.kindOf n == Ab .cell) then (n,Pz) else (n,k)).lookup x=Ab k ->
  Q.lookup x=Ab k\/(k=.cell/\Q.lookup x=Ab .free)
 |[],_,_,h=>by simp at h
 |(n,U)::r,x,k,h=>by
  rw[Df,Kv] at h;rw[Kv];dsimp only at h;cases J:(U == Ic&&env.scope.kind == .function&&env.kindOf n == Ab .cell) with
  |true =>
   rw[J] at h;simp only[Dp] at h;cases Y:x == n with
   |true =>
    rw[Y] at h;have e:Pz=k:=Dc h;have G:U=.free:=by
     have:=(Az _ _).mp J;have:=(Az _ _).mp this.1;simpa using this.1
    subst G;exact .inr ⟨e.symm,rfl⟩
   |false=>rw[Y] at h;exact jL (aj:=aj) h
  |false =>
   rw[J] at h;simp only[Bn,Ds] at h;cases Y:x == n with
   |true=>rw[Y] at h;exact .inl h
   |false=>rw[Y] at h;exact jL (aj:=aj) h
section
variable {X:Cx}{aj:Fd}{N':Aa Aw}{bu:Aa (An Ag)}{ai:aa}{σ : _L.St}{H2:Hp}{s2:Ah}{fp:ae}
theorem gN (S:df X.env.scope X.N aj N' bu){x:Aw}{k:Iu}(h:(relabel aj X.env).names.lookup x=Ab k):aj.names.lookup x=Ab k\/(k=.cell/\aj.names.lookup x=Ab .free):=jL (aj:=aj) h
theorem X5 (S:df X.env.scope X.N aj N' bu)(ok:X.Ok){x:Aw}{c:Af}(h:(vF X.env.cells aj.names []).lookup x=Ab c):X.env.cells.lookup x=Ab c/\(x,Ic)∈aj.names:=by
 rcases fQ _ _ h with h|⟨Y,J⟩
 .cases h
 .have:=S.free _ Y rfl
  obtain⟨U,Q⟩:=ok.has x this;rw[Q,Tz] at J;rw[Q,J];exact⟨rfl,Y⟩
def JD (aj:Fd)(C:Af):Aa (Aw × Af):=Hz (C+1) aj.names []
def gK (X:Cx)(aj:Fd)(C:Af):Aa (Aw × Af):=Hz (C+1) aj.names (vF X.env.cells aj.names [])
theorem v9:∀ (Q:Aa (Aw × Iu)) (lo:Ag) (ar:Aa (Aw × Af)),Hz lo Q ar=Hz lo Q [] ++ ar
 |[],_,_=>rfl
 |(n,k)::r,lo,ar=>by
  unfold Hz
  split
  .rw[v9 r _ ((n,lo)::ar),v9 r _ [(n,lo)],Cc];rfl
  .exact v9 r lo ar
set_option tactic.hygienic true in
theorem bA:∀ (Q:Aa (Aw × Iu)) (lo:Ag) {n:Aw} {c:Af},(n,c)∈Hz lo Q [] -> (n,Pz)∈Q
 |[],_,_,_,h=>by cases h
 |(Y,k)::r,lo,n,c,h=>by
  unfold Hz at h
  split at h
  .rename_i J
   rw[v9] at h;rcases Bq.mp h with h|h
   .exact Ce _ (bA r _ h)
   .have e:(n,c)=(Y,lo):=by simpa using h
    cases e;have:k=Pz:=by simpa using J
    rw[this];exact De
  .exact Ce _ (bA r _ h)
theorem xP (S:df X.env.scope X.N aj N' bu)(ok:X.Ok){C:Af}{x:Aw}{c:Af}(h:(gK X aj C).lookup x=Ab c):((x,c)∈JD aj C/\aj.names.lookup x=Ab .cell)\/(X.env.cells.lookup x=Ab c/\(x,Ic)∈aj.names):=by
 unfold gK at h;rw[v9,Ys] at h;cases q:(Hz (C+1) aj.names []).lookup x with
 |some Q =>
  rw[q] at h;cases h;have m:=Gk q;exact .inl ⟨m,S.cel _ (bA _ _ m) rfl⟩
 |none =>
  rw[q] at h;exact .inr (X5 S ok h)
theorem rT (S:df X.env.scope X.N aj N' bu)(ok:X.Ok){C:Af}{x:Aw}(h:aj.names.lookup x=Ab .cell\/aj.names.lookup x=Ab .free):∃ c,(gK X aj C).lookup x=Ab c:=by
 unfold gK;rw[v9,Ys];rcases h with h|h
 .have:=Lq aj.names (C+1) [] (x:=x) (.inl h)
  obtain⟨c,Y⟩:=Ki.mp this;exact⟨c,by rw[Y];rfl⟩
 .obtain⟨J,Q⟩:=dD (iy:=X.env.cells) aj.names [] (.inl (Gk h))
  rw[Q];cases (Hz (C+1) aj.names []).lookup x with
  |none=>exact⟨J,rfl⟩
  |some c=>exact⟨c,rfl⟩
theorem B4 (S:df X.env.scope X.N aj N' bu)(Q:Inv X ai σ H2 s2)(I:∀ b∈fp,xJ X ai H2 b)(O:∀ b∈fp,b<s2.heap.objs.size)(U:s2.heap.objs.size<=C){h1:Cb}(N:CellsOk h1 (C+1) (JD aj C)) :
  (qY X N' aj (gK X aj C) C fp s2 H2).Ok where
 mod:=Q.ok.mod
 kind:=S.kind
 glob:=Q.ok.glob
 blt:=Q.ok.blt
 above:=U
 inj:=λx y c h1 G=>by
  rcases xP S Q.ok h1 with⟨L,_⟩|⟨L,_⟩ <;> rcases xP S Q.ok G with⟨B,_⟩|⟨B,_⟩
  .exact PySem.name_of_addr N.apart L B
  .obtain⟨v,j,Y,_⟩:=Q.cell y c B
   exact absurd (Bl (Bg Y) U) (Pm.mpr (Ek (N.empty x c L).2))
  .obtain⟨v,j,Y,_⟩:=Q.cell x c L
   exact absurd (Bl (Bg Y) U) (Pm.mpr (Ek (N.empty y c B).2))
  .exact Q.ok.inj x y c L B
 has:=λx M=>by
  have T:(relabel aj X.env).names.lookup x=Ab .cell\/(relabel aj X.env).names.lookup x=Ab .free:=M;refine rT S Q.ok ?_;rcases T with h|h
  .rcases gN S h with h|⟨_,h⟩
   .exact .inl h
   .exact .inr h
  .rcases gN S h with h|⟨z,_⟩
   .exact .inr h
   .cases z
 cab:=λx c h G=>by
  have M:aj.names.lookup x=Ab .cell:=Cq h;rcases xP S Q.ok G with⟨m,_⟩|⟨_,m⟩
  .exact Ch U (Ek (N.empty x c m).2)
  .have:=S.fr2 _ m rfl
   have this':aj.names.lookup x=Ab .free:=this;rw[M] at this';cases this'
 hd:=Q.ok.hd
 frames:=Q.ok.frames
 stk:=.inl rfl
 exf:=λb J=>⟨Cu (Bl (O b J) U),λx c h=>by
  rcases xP S Q.ok h with⟨m,_⟩|⟨m,_⟩
  .exact Gb (Cu (Hw (Bl (O b J) U) (N.empty x c m).2))
  .exact(I b J).2.2.2.2.1 x c m⟩
 bs:=Q.bs
 bsz:=Ch Q.ok.bsz Q.sz
 noex:=λb o e J=>by
  obtain⟨_,_,_,h,_⟩:=I b J;rcases h with h|h
  .exact Q.ok.noex b o e h
  .exact absurd (Bl (Bg e) (Ch Q.ok.bsz h)) (Ep _)
 exfs:=λb J A=>by
  obtain⟨_,h1,G,_⟩:=I b J;rcases Bc.mp (Q.stkSub b A) with z|z
  .exact h1 z
  .exact G z
 funs:=Q.stack
 frf:=Q.stkFree
theorem VG {s4:Ah}{m:ah}(S:df X.env.scope X.N aj N' bu)(Y:Inv X ai σ H2 s2)(hf:∀ b∈fp,xJ X ai H2 b)(d:∀ b∈fp,b<s2.heap.objs.size)(A:s2.heap.objs.size<=C)
  (hn:s4.heap.Ns C m) (os:s4.os=s2.os) (bh:s4.gens=s2.gens) (Q:∀ b o,s2.heap.get? b=Ab o->s4.heap.get? b=Ab o) (g:CellsOk s4.heap (C+1) (JD aj C)) :
  Inv (qY X N' aj (gK X aj C) C fp s2 H2) [] (vQ bu σ) H2 s4 where
 ok:=B4 S Y hf d A g
 os:=os
 bare:=bh▸Y.bare
 base:=Un.kept Q
 loc:=by
  refine⟨m,hn,λj x v h1 G h3=>?_⟩;have r:N'[j]? = Ab x:=h1;unfold vQ at G;rw[Du] at G;cases q:bu[j]? with
  |none=>rw[q] at G;cases G
  |some o =>
   rw[q] at G;cases o with
   |none=>cases G
   |some i =>
    have I:(σ[i]?).join=Ab v:=by simpa using G
    have M:σ[i]? = Ab (Ab v):=by
     cases z:σ[i]? with
     |none=>rw[z] at I;cases I
     |some w=>rw[z] at I;have:w=Ab v:=I;rw[this]
    have hz:(Ab i,x)∈bu.zip N':=by
     refine List.mem_iff_getElem?.mpr ⟨j,?_⟩;rw[List.getElem?_zip_eq_some];exact⟨q,r⟩
    have e:=Bb.mp S.caps _ hz;simp only[Az,Rf] at e;obtain⟨hN,J⟩:=e;have a:=S.free _ (Gk J) rfl;obtain⟨mo,zb,hl⟩:=Y.loc;have l:tz X.env.scope x:=by
     rcases a with k|k
     .exact .inr (.inl k)
     .exact .inr (.inr k)
    obtain⟨u,ru,lk⟩:=hl i x v hN M l;refine⟨u,ru,?_⟩;rcases lk with⟨kl,_⟩|⟨_,c,f,N⟩
    .have L:X.env.scope.names.lookup x=Ab .local:=kl
     rcases a with k|k
     .have O:X.env.scope.names.lookup x=Ab .cell:=k
      rw[L] at O;cases O
     .have O:X.env.scope.names.lookup x=Ab .free:=k
      rw[L] at O;cases O
    .obtain⟨c',B⟩:=rT S Y.ok (C:=C) (.inr J)
     have n:X.env.cells.lookup x=Ab c':=by
      rcases xP S Y.ok B with⟨_,z⟩|⟨z,_⟩
      .rw[J] at z;cases z
      .exact z
     rw[f] at n;cases n;refine .inr ⟨?_,c,B,?_⟩
     .have y:tz (relabel aj X.env) x:=h3
      rcases y with h|h|h
      .rcases gN S h with h|⟨z,_⟩
       .rw[J] at h;cases h
       .cases z
      .exact .inl h
      .exact .inr h
     .obtain⟨T,U,t⟩:=N
      exact⟨T,Q c T U,t⟩
 cell:=λx c h=>by
  rcases xP S Y.ok h with⟨m,_⟩|⟨m,_⟩
  .exact⟨none,(g.empty x c m).1⟩
  .obtain⟨v,T,U,t⟩:=Y.cell x c m
   exact⟨v,T,Q c T U,t⟩
 free:=Y.hok.fresh A
 freeC:=λx c h=>by
  rcases xP S Y.ok h with⟨m,_⟩|⟨m,_⟩
  .exact Y.hok.fresh (Ch A (Ek (g.empty x c m).2))
  .exact Y.freeC x c m
 pin:=λp hp=>absurd (show p∈([]:aa) from hp) (by simp)
 hok:=Y.hok.kept Q
 len:=by
  show (vQ bu σ).length=N'.length;simp[vQ,S.len]
end
theorem XX {P:Bo}{h:Cb}{a:Af}{o:HO}(x:gl P w H h)(J:H a=none)(Q:zM P w (b_ H a o) h a o):gl P w (b_ H a o) h:=λb u e=>by
 by_cases Y:b=a
 .subst Y;rw[z9] at e;cases e;exact Q
 .rw[qP Y] at e
  exact(x b u e).stay (λc v _ q=>q) (λc q=>by rw[qP (zG q J)];exact q) λc U q=>by rw[qP (zG q J)];exact q
theorem XW {P:Bo}{h h':Cb}(x:gl P w H h)(Q:H C=none)(k:∀ b o,b≠C->h.get? b=Ab o->h'.get? b=Ab o):gl P w H h':=λb u e =>
 (x b u e).stay (λc v Y q=>k c v (by
  rintro rfl;rcases Y with z|z
  .subst z;rw[Q] at e;cases e
  .rw[Q] at z;cases z) q) (λ_ q=>q) λ_ _ q=>q
section
variable {X:Cx}{cb tg a_:Bz}{cw:Aa Bz}{aj:Fd}{ao:Fn}{N':Aa Aw}{bu:Aa (An Ag)}{fi:DI}{g:DG}{t:DT}{fe:DE}
def kM (X:Cx)(ai:aa)(σ : _L.St)(P1:Hp)(α1:ae)(ds:Aa D)(G:ak)(ar C:Af)(s:Ah):Prop:=
 ∃ (Y J:Hp) (Q : Aa Af) (U:Aa V),Inv X ai σ (b_ Y ar (.lst U)) s/\bf X.K Y J Q G/\Y ar=none/\qF P1 J/\α1<+:Q/\qC X.K J Q ds U/\Y C=none
theorem rS {Y:Cx}{ai:aa}{σ j:_L.St}{A:Hp}{J s':Ah}{fp:ae}{ar:Af}{U d:Hp}{O:ae}{fw:qB}{c:ak}{cl:Aa (Aw × Af)}(i:Inv X ai σ A J)
  (hf:∀ b∈fp,xJ X ai A b) (h:Y=qY X N' aj cl C fp J A) (m:J.heap.objs.size<=C) (hA:J.heap.objs.size<=ar) (l:ar≠C) (st:ft j_ Y [] P1 α1 fp ar fw c ds s' j U d O o)
  {h':Cb} (sb:El C s'.heap h'):kM X ai σ P1 α1 ds c ar C { s' with heap:=h' }:=by
 subst h;obtain⟨v,n,z,rfl,rv,f,x⟩:=st.acc;have L:∀ b o,b≠C->s'.heap.get? b=Ab o->h'.get? b=Ab o:=λb o G e=>(sb.2 b G).trans e;have M:∀ b o,J.heap.get? b=Ab o->b≠C:=λb o e=>Cu (Bl (Bg e) m);have nA:∀ b o,J.heap.get? b=Ab o->b≠ar:=λb o e=>Cu (Bl (Bg e) hA);have base:Un (jg X.stack) fp A U J.heap s'.heap:=st.inv.base;have y:∀ b u,U b=Ab u->b≠ar:=λb u e=>zG e st.acn;have un:Un (jg X.stack) fp A (b_ U ar (.lst z)) J.heap h':=by
  refine⟨λb Q q T G N=>L b Q (M b Q q) (base.keep b Q q T G N),λb Q q T G N=>?_,λb Q q T N=>?_,λb Q q N=>?_,λb xs q=>?_,λb Q u q=>?_,λb ps q=>?_⟩
  .obtain⟨sl,e⟩:=base.slot b Q q T G N
   exact⟨sl,L b _ (M b Q q) e⟩
  .rw[qP (nA b Q q)];exact base.free b Q q T N
  .obtain⟨r,e⟩:=base.there b Q q N
   exact⟨r,L b r (M b Q q) e⟩
  .have:=base.tups b xs q;rw[qP (y _ _ this)];exact this
  .have:=base.frzs b Q u q;rw[qP (y _ _ this)];exact this
  .obtain⟨B,e⟩:=base.tbls b ps q
   exact⟨B,by rw[qP (y _ _ e)];exact e⟩
 have I:gl X.prog X.w U h':=XW st.inv.hok st.inv.free L;have p:h'.get? ar=Ab { cls:=.type "list",data:=.seq v.toArray n }:=L ar _ l st.at';have k:gl X.prog X.w (b_ U ar (.lst z)) h':=XX I st.acn ⟨by rw[<- f.length,<- xN];exact x,v,n,rv,p⟩
 refine⟨U,d,O,z,?_,st.rel,st.acn,st.same,st.pre,f,st.inv.free⟩;exact i.call' (s':={ s' with heap:=h' }) (ch:=fp) (st.inv.os) un k st.inv.bare λb G=>by
  obtain⟨_,h1,h2,h3,h4,a⟩:=hf b G;exact⟨h3,h1,h4,a⟩
theorem aQ (S:df X.env.scope X.N aj N' bu)(ok:X.Ok):closureFor aj X.env=pure (vF X.env.cells aj.names []):=sJ λy Q Y=>ok.has y.1 (S.free y Q Y)
theorem BS {ai:aa}{σ:_L.St}{J:ak}{ar:Af}{Q:VK}(c:kM X ai σ P1 α1 ds J ar C s)(ok:jj X P1 α1 Q (.lst ds) J):EP X ai σ Q (.ref ar) s:=by
 obtain⟨y,k,O,u,I,r,z,A,G,j,_⟩:=c;exact⟨.ref ar,_,I,rfl,wO r z j λv L N Y T B U M=>ok v L N Y T (A.trans B) (G.trans U) M⟩
end
end _D
section
namespace _D
open _L PySem.SeqAt
noncomputable def yd (b:As):Aj:=if b then 1 else 0
mutual
def e_:D->D->As
 |.non,.non=>true
 |.bl a,.bl b=>a == b
 |.bl a,.int b=>yd a == b
 |.int a,.bl b=>a == yd b
 |.int a,.int b=>a == b
 |.str a,.str b=>a == b
 |.tup Q,.tup Y=>zE Q Y
 |.lst Q,.lst Y=>zE Q Y
 |_,_=>false
def zE:Aa D->Aa D->As
 |[],[]=>true
 |x::Q,y::Y=>e_ x y&&zE Q Y
 |_,_=>false
end
noncomputable def pl:Ag->D->As
 |_,.non=>true
 |_,.bl _=>true
 |_,.int _=>true
 |_,.str _=>true
 |n+1,.tup Q=>Q.all (pl n)
 |n+1,.lst Q=>Q.all (pl n)
 |_,_=>false
theorem jX (x y:D)(xs Q:Aa D):zE (x::xs) (y::Q)=(e_ x y&&zE xs Q):=rfl
theorem y8:∀ (xs Q:Aa D),zE xs Q=((Cg (min xs.length Q.length)).all (λj=>e_ (xs.getD j .non) (Q.getD j .non))&&xs.length == Q.length)
 |[],[]=>rfl
 |[],y::Q=>rfl
 |x::xs,[]=>rfl
 |x::xs,y::Q=>by
  have Y:=y8 xs Q;rw[jX,Y,Bv,Bv,Nat.succ_min_succ,Po,Sw,Ff,Bool.and_assoc];have e:(xs.length+1 == Q.length+1)=(xs.length == Q.length):=by simp
  rw[e];rfl
theorem U6 {xs Q:Aa D}(h:xs.length≠Q.length):zE xs Q=false:=by
 rw[y8];simp[h]
theorem nX (xs Q:Aa D):e_ (.tup xs) (.tup Q)=zE xs Q:=rfl
theorem nW (xs Q:Aa D):e_ (.lst xs) (.lst Q)=zE xs Q:=rfl
section
variable {X:Cx}{ai:aa}{σ : _L.St}{H P:Hp}{α : Aa Af}{S:ak}{s:Ah}
inductive Kd (X:Cx)(P:Hp)(α : Aa Af)(s:Ah):D->Ad->Prop where
 |non:Kd X P α s .non .none
 |bl (b:As):Kd X P α s (.bl b) (.bool b)
 |int (i:Aj) (t:Vq):Kd X P α s (.int i) (.int i t)
 |str (x:Aw) (t:Vq):Kd X P α s (.str x) (.str x t)
 |tup (a:Af) (xs:Aa D) (its:ag) (vs:Aa V) (rp:qC X.K P α xs vs) (rv:qI vs its) (h:s.heap.IsTuple a its.toArray) (q:iq X.K P a vs):Kd X P α s (.tup xs) (.ref a)
 |lst (a:Af) (xs:Aa D) (its:ag) (vs:Aa V) (rp:qC X.K P α xs vs) (rv:qI vs its) (h:s.heap.IsList a its.toArray) (q:ox X.K P a vs):Kd X P α s (.lst xs) (.ref a)
theorem yU (I:Inv X ai σ H s)(r:bf X.K H P α S){n:Ag}{d:D}{v:V}{u:Ad}(h:pl n d=true)(p:aq X.K P α d v)(Q:qG v u):Kd X P α s d u:=by
 cases d with
 |non=>simp only[aq] at p;subst p;cases Q;exact .non
 |bl b=>simp only[aq] at p;subst p;cases Q;exact .bl b
 |int i=>simp only[aq] at p;subst p;obtain⟨t,rfl⟩:=Q;exact .int i t
 |str x=>simp only[aq] at p;subst p;obtain⟨t,rfl⟩:=Q;exact .str x t
 |tup U =>
  simp only[aq] at p;obtain⟨a,Y,rfl,q,t⟩:=p;cases Q;obtain⟨G,N,J,_⟩:=I.tuple (xY r.sub q);exact .tup a U G Y t N J q
 |lst U =>
  simp only[aq] at p;obtain⟨a,Y,rfl,q,t⟩:=p;cases Q;obtain⟨G,N,J,_⟩:=I.list ((xK r.sub q).l);exact .lst a U G Y t N J.isList q
 |_=>cases n <;> exact Dn h
theorem yZ {ds:Aa D}{vs:Aa V}{am:ag}(U:qC X.K P α ds vs)(Y:qI vs am){j:Ag}(h:j<am.toArray.size):∃ v,aq X.K P α (ds.getD j .non) v/\qG v am.toArray[j]/\ds.getD j .non∈ds:=by
 have B:=U.length;have L:=Y.length;have G:j<am.length:=by simpa using h
 have Q:j<ds.length:=by lia
 obtain⟨v,C,p⟩:=U.get (Ap Q);obtain⟨u,J,q⟩:=Y.get C;have N:am.toArray[j]=u:=by
  have:am[j]? = Ab am[j]:=Ap G;rw[this] at J;simpa using Dc J
 have O:ds.getD j .non=ds[j]:=by simp[Ie,Q]
 rw[N,O];exact⟨v,p,q,Mt Q⟩
theorem wF {n:Ag}{ds:Aa D}(h:ds.all (pl n)=true){d:D}(Q:d∈ds):pl n d=true:=Bb.mp h d Q
theorem lB {h:Cb}{a:Af}{xs Q:Ay Ad}(h1:h.IsTuple a xs)(h2:h.IsTuple a Q):xs=Q:=by
 obtain⟨o,e,_,n,d⟩:=h1;obtain⟨G,J,_,U,Y⟩:=h2;cases e.symm.trans J;cases d.symm.trans Y;rfl
theorem i6 {h:Cb}{a:Af}{xs Q:Ay Ad}(h1:h.IsList a xs)(h2:h.IsList a Q):xs=Q:=by
 obtain⟨o,e,_,n,d⟩:=h1;obtain⟨G,J,_,U,Y⟩:=h2;cases e.symm.trans J;cases d.symm.trans Y;rfl
theorem QJ {h:Cb}{a:Af}{xs Q:Ay Ad}(h1:h.IsTuple a xs)(h2:h.IsList a Q):Ey:=by
 obtain⟨o,e,c,_⟩:=h1;obtain⟨U,Y,J,_⟩:=h2;cases e.symm.trans Y;exact absurd (c.symm.trans J) (by decide)
inductive jc (X:Cx)(P:Hp)(α : Aa Af)(xs ys:Aa D)(its its2:ag):Prop
 |mk (vs ws:Aa V) (rp:qC X.K P α xs vs) (rv:qI vs its) (rp2:qC X.K P α ys ws) (rv2:qI ws its2):jc X P α xs ys its its2
theorem jc.len1 {xs J:Aa D}{am Q:ag}(q:jc X P α xs J am Q):xs.length=am.length:=by
 obtain⟨N,G,U,Y,_,_⟩:=q;exact U.length.trans Y.length
theorem jc.len2 {xs Y:Aa D}{am Q:ag}(q:jc X P α xs Y am Q):Y.length=Q.length:=by
 obtain⟨N,G,_,_,U,J⟩:=q;exact U.length.trans J.length
inductive oo (X:Cx)(P:Hp)(α : Aa Af):D->D->Prop
 |eq {d d':D} (h:e_ d d'=true):oo X P α d d'
 |tt (xs ys:Aa D) (its:ag) (q:jc X P α xs ys its its):oo X P α (.tup xs) (.tup ys)
 |ll (xs ys:Aa D) (its:ag) (q:jc X P α xs ys its its):oo X P α (.lst xs) (.lst ys)
theorem iZ {d d':D}{u:Ad}(A:Kd X P α s d u)(G:Kd X P α s d' u):oo X P α d d':=by
 cases A with
 |non=>cases G;exact .eq rfl
 |bl b=>cases G;exact .eq (Hi _)
 |int i t=>cases G;exact .eq (Hi _)
 |str x t=>cases G;exact .eq (Hi _)
 |tup a L I T E B h q =>
  cases G with
  |tup _ N J O Y Q U C =>
   cases lB h U;exact .tt L N I ⟨T,O,E,B,Y,Q⟩
  |lst _ N J O Y Q U C=>exact(QJ h U).elim
 |lst a L I T E B h q =>
  cases G with
  |lst _ N J O Y Q U C =>
   cases i6 h U;exact .ll L N I ⟨T,O,E,B,Y,Q⟩
  |tup _ N J O Y Q U C=>exact(QJ U h).elim
theorem dI (I:Inv X ai σ H s)(r:bf X.K H P α S){m:Ag}(T:∀ (d d':D) (u:Ad),pl m d=true->pl m d'=true->Kd X P α s d u->Kd X P α s d' u->e_ d d'=true){xs U:Aa D}{am:ag}(h1:xs.all (pl m)=true)(h2:U.all (pl m)=true)(q:jc X P α xs U am am):zE xs U=true:=by
 obtain⟨y,z,C,G,Y,Q⟩:=q;have B:=C.length.trans G.length;have M:=Y.length.trans Q.length;rw[y8,B,M,Ue,Az];refine⟨Bb.mpr λj J=>?_,BEq.rfl⟩;have J:j<am.toArray.size:=Ee.mp J;obtain⟨k,L,w,O⟩:=yZ C G J;obtain⟨o,E,A,N⟩:=yZ Y Q J;exact T _ _ _ (wF h1 O) (wF h2 N) (yU I r (wF h1 O) L w) (yU I r (wF h2 N) E A)
theorem aX (I:Inv X ai σ H s)(r:bf X.K H P α S):∀ (n:Ag) (d d':D) (u:Ad),pl n d=true->pl n d'=true->Kd X P α s d u->Kd X P α s d' u->e_ d d'=true:=by
 intro n
 induction n with
 |zero =>
  intro d d' u Q J Y N;cases iZ Y N with
  |eq h=>exact h
  |tt=>exact Dn Q
  |ll=>exact Dn Q
 |succ m O =>
  intro d d' u Q J Y N;cases iZ Y N with
  |eq h=>exact h
  |tt G U C q=>exact(nX G U).trans (dI I r O Q J q)
  |ll G U C q=>exact(nW G U).trans (dI I r O Q J q)
structure E3 (A:Bu)(s:Ah)(u u':Ad)(b:As):Prop where
 eq:EqAt A s u u' b
 rc:RcAt A s u u' b
 ne:RcNeAt A s u u' (!b)
inductive yl (X:Cx)(P:Hp)(α : Aa Af)(A:Bu)(s:Ah):D->D->Ad->Ad->Prop
 |of {d d':D} {u u':Ad} (b:As) (e:e_ d d'=b) (h:E3 A s u u' b):yl X P α A s d d' u u'
 |tt (a b:Af) (xs ys:Aa D) (its its2:ag) (ha:s.heap.IsTuple a its.toArray) (hb:s.heap.IsTuple b its2.toArray) (q:jc X P α xs ys its its2):yl X P α A s (.tup xs) (.tup ys) (.ref a) (.ref b)
 |ll (a b:Af) (xs ys:Aa D) (its its2:ag) (ha:s.heap.IsList a its.toArray) (hb:s.heap.IsList b its2.toArray) (q:jc X P α xs ys its its2):yl X P α A s (.lst xs) (.lst ys) (.ref a) (.ref b)
theorem GF {A:Bu}{d d':D}{u y:Ad}(Q:A.units<Ed)(q:Kd X P α s d u)(E:Kd X P α s d' y):yl X P α A s d d' u y:=by
 cases q with
 |non  =>
  cases E with
  |non  => exact .of _ rfl ⟨Ab5 _,RcAt.none_none,RcNeAt.none_none⟩
  |bl b=>exact .of _ rfl ⟨EqAt.none_bool b,RcAt.none_bool b,RcNeAt.none_bool b⟩
  |int b Y=>exact .of _ rfl ⟨EqAt.none_int b Y,RcAt.none_int b Y,RcNeAt.none_int b Y⟩
  |str b Y=>exact .of _ rfl ⟨EqAt.none_str b Y,RcAt.none_str b Y,RcNeAt.none_str b Y⟩
  |tup b B U L C O J T=>exact .of _ rfl ⟨EqAt.none_tuple J Q,RcAt.none_tuple J Q,RcNeAt.none_tuple J Q⟩
  |lst b B U L C O J T=>exact .of _ rfl ⟨EqAt.none_list J Q,RcAt.none_list J Q,RcNeAt.none_list J Q⟩
 |bl a =>
  cases E with
  |non  => exact .of _ rfl ⟨EqAt.bool_none a,RcAt.bool_none a,RcNeAt.bool_none a⟩
  |bl b=>exact .of _ rfl ⟨EqAt.bool_bool a b,RcAt.bool_bool a b,RcNeAt.bool_bool a b⟩
  |int b Y=>exact .of _ rfl ⟨EqAt.bool_int a b Y,RcAt.bool_int a b Y,RcNeAt.bool_int a b Y⟩
  |str b Y=>exact .of _ rfl ⟨EqAt.bool_str a b Y,RcAt.bool_str a b Y,RcNeAt.bool_str a b Y⟩
  |tup b B U L C O J T=>exact .of _ rfl ⟨EqAt.bool_tuple a J Q,RcAt.bool_tuple a J Q,RcNeAt.bool_tuple a J Q⟩
  |lst b B U L C O J T=>exact .of _ rfl ⟨EqAt.bool_list a J Q,RcAt.bool_list a J Q,RcNeAt.bool_list a J Q⟩
 |int a G =>
  cases E with
  |non  => exact .of _ rfl ⟨EqAt.int_none a G,RcAt.int_none a G,RcNeAt.int_none a G⟩
  |bl b=>exact .of _ rfl ⟨EqAt.int_bool a G b,RcAt.int_bool a G b,RcNeAt.int_bool a G b⟩
  |int b Y=>exact .of _ rfl ⟨EqAt.int_int a G b Y,RcAt.int_int a G b Y,RcNeAt.int_int a G b Y⟩
  |str b Y=>exact .of _ rfl ⟨EqAt.int_str a G b Y,RcAt.int_str a G b Y,RcNeAt.int_str a G b Y⟩
  |tup b B U L C O J T=>exact .of _ rfl ⟨EqAt.int_tuple a G J Q,RcAt.int_tuple a G J Q,RcNeAt.int_tuple a G J Q⟩
  |lst b B U L C O J T=>exact .of _ rfl ⟨EqAt.int_list a G J Q,RcAt.int_list a G J Q,RcNeAt.int_list a G J Q⟩
 |str a G =>
  cases E with
  |non  => exact .of _ rfl ⟨EqAt.str_none a G,RcAt.str_none a G,RcNeAt.str_none a G⟩
  |bl b=>exact .of _ rfl ⟨EqAt.str_bool a G b,RcAt.str_bool a G b,RcNeAt.str_bool a G b⟩
  |int b Y=>exact .of _ rfl ⟨EqAt.str_int a G b Y,RcAt.str_int a G b Y,RcNeAt.str_int a G b Y⟩
  |str b Y=>exact .of _ rfl ⟨EqAt.str_str a G b Y,RcAt.str_str a G b Y,RcNeAt.str_str a G b Y⟩
  |tup b B U L C O J T=>exact .of _ rfl ⟨EqAt.str_tuple a G J Q,RcAt.str_tuple a G J Q,RcNeAt.str_tuple a G J Q⟩
  |lst b B U L C O J T=>exact .of _ rfl ⟨EqAt.str_list a G J Q,RcAt.str_list a G J Q,RcNeAt.str_list a G J Q⟩
 |tup a M j w z I N k =>
  cases E with
  |non  => exact .of _ rfl ⟨EqAt.tuple_none N Q,RcAt.tuple_none N Q,RcNeAt.tuple_none N Q⟩
  |bl b=>exact .of _ rfl ⟨EqAt.tuple_bool b N Q,RcAt.tuple_bool b N Q,RcNeAt.tuple_bool b N Q⟩
  |int b Y=>exact .of _ rfl ⟨EqAt.tuple_int b Y N Q,RcAt.tuple_int b Y N Q,RcNeAt.tuple_int b Y N Q⟩
  |str b Y=>exact .of _ rfl ⟨EqAt.tuple_str b Y N Q,RcAt.tuple_str b Y N Q,RcNeAt.tuple_str b Y N Q⟩
  |tup b B U L C O J T=>exact .tt a b M B j U N J ⟨w,L,z,I,C,O⟩
  |lst b B U L C O J T=>exact .of _ rfl ⟨EqAt.tuple_list N J Q,RcAt.tuple_list N J Q,RcNeAt.tuple_list N J Q⟩
 |lst a M j w z I N k =>
  cases E with
  |non  => exact .of _ rfl ⟨EqAt.list_none N Q,RcAt.list_none N Q,RcNeAt.list_none N Q⟩
  |bl b=>exact .of _ rfl ⟨EqAt.list_bool b N Q,RcAt.list_bool b N Q,RcNeAt.list_bool b N Q⟩
  |int b Y=>exact .of _ rfl ⟨EqAt.list_int b Y N Q,RcAt.list_int b Y N Q,RcNeAt.list_int b Y N Q⟩
  |str b Y=>exact .of _ rfl ⟨EqAt.list_str b Y N Q,RcAt.list_str b Y N Q,RcNeAt.list_str b Y N Q⟩
  |tup b B U L C O J T=>exact .of _ rfl ⟨EqAt.list_tuple N J Q,RcAt.list_tuple N J Q,RcNeAt.list_tuple N J Q⟩
  |lst b B U L C O J T=>exact .ll a b M B j U N J ⟨w,L,z,I,C,O⟩
theorem E3.cast {A:Bu}{u Q:Ad}{b c:As}(e:c=b)(h:E3 A s u Q b):E3 A s u Q c:=e▸h
theorem GG {A:Bu}{a b:Af}{xs J:Aa D}{am Q:ag}(N:A.units<Ed)(G:s.heap.IsTuple a am.toArray)(O:s.heap.IsTuple b Q.toArray)(C:xs.length=am.length)(B:J.length=Q.length)
  (sub:∀ j (h1:j<am.toArray.size) (h2:j<Q.toArray.size),EqAt A.in1 s am.toArray[j] Q.toArray[j] (e_ (xs.getD j .non) (J.getD j .non))) (same:a=b->zE xs J=true):E3 A s (.ref a) (.ref b) (zE xs J):=by
 have e:zE xs J=((Cg (min am.toArray.size Q.toArray.size)).all (λj=>e_ (xs.getD j .non) (J.getD j .non))&&am.toArray.size == Q.toArray.size):=by rw[y8,C,B];rfl
 have U:=RcAt.tuples G O N sub;have R2:=RcNeAt.tuples G O N sub;rw[<- e] at U R2;refine⟨?_,U,R2⟩;by_cases Y:a=b
 .rw[same Y,Y]
  exact Ab5 _
 .exact EqAt.of_refs Y U
theorem AC {A:Bu}{a b:Af}{xs Y:Aa D}{am Q:ag}(N:A.units<Ed)(G:s.heap.IsList a am.toArray)(O:s.heap.IsList b Q.toArray)(C:xs.length=am.length)(L:Y.length=Q.length)
  (sub:∀ j (h1:j<am.toArray.size) (h2:j<Q.toArray.size),EqAt A.in1 s am.toArray[j] Q.toArray[j] (e_ (xs.getD j .non) (Y.getD j .non))) (same:a=b->zE xs Y=true):E3 A s (.ref a) (.ref b) (zE xs Y):=by
 have R:RcAt A s (.ref a) (.ref b) (zE xs Y)/\RcNeAt A s (.ref a) (.ref b) (!zE xs Y):=by
  by_cases U:am.length=Q.length
  .have e:zE xs Y=(Cg am.toArray.size).all (λj=>e_ (xs.getD j .non) (Y.getD j .non)):=by rw[y8,C,L,<- U,Ue,BEq.rfl,Ka];rfl
   rw[e];exact⟨RcAt.lists G O U N sub,RcNeAt.lists G O U N sub⟩
  .rw[U6 (by rw[C,L];exact U)]
   have B:(am.toArray.size != Q.toArray.size)=true:=bne_iff_ne.mpr U;exact⟨RcAt.lists_lengths G O B N,RcNeAt.lists_lengths G O B N⟩
 refine⟨?_,R.1,R.2⟩;by_cases J:a=b
 .rw[same J,J]
  exact Ab5 _
 .exact EqAt.of_refs J R.1
theorem eC (I:Inv X ai σ H s)(r:bf X.K H P α S):∀ (n:Ag) (A:Bu) (d d':D) (u L:Ad),A.units+n<Ed->pl n d=true->pl n d'=true->Kd X P α s d u->Kd X P α s d' L->E3 A s u L (e_ d d'):=by
 intro n
 induction n with
 |zero =>
  intro A d d' u L E U O C B;cases GF E C B with
  |of b e h=>exact h.cast e
  |tt=>exact Dn U
  |ll=>exact Dn U
 |succ m x =>
  intro A d d' u L E U O C B;have G:A.units<Ed:=Ll (Mu _ _) E;have sy:A.in1.units+m<Ed:=by show A.units+1+m<Ed;lia
  have sub:∀ {J Y:Aa D} {N Q:ag},J.all (pl m)=true->Y.all (pl m)=true->jc X P α J Y N Q ->
    ∀ j (U:j<N.toArray.size) (O:j<Q.toArray.size),EqAt A.in1 s N.toArray[j] Q.toArray[j] (e_ (J.getD j .non) (Y.getD j .non)):=λ{J Y N Q} w z ⟨vs,ws,i,p,o,c⟩ j l v=>by
   obtain⟨w1,g,z1,k⟩:=yZ i p l;obtain⟨w2,f,t,y⟩:=yZ o c v;exact(x A.in1 _ _ _ _ sy (wF w k) (wF z y) (yU I r (wF w k) g z1) (yU I r (wF z y) f t)).eq
  cases GF G C B with
  |of b e h=>exact h.cast e
  |tt a b J Y N Q T M q=>exact(GG G T M q.len1 q.len2 (sub U O q) λe=>by subst e;exact(nX J Y).symm.trans (aX I r (m+1) _ _ _ U O C B)).cast (nX J Y)
  |ll a b J Y N Q T M q=>exact(AC G T M q.len1 q.len2 (sub U O q) λe=>by subst e;exact(nW J Y).symm.trans (aX I r (m+1) _ _ _ U O C B)).cast (nW J Y)
def zH:Ag:=30
def jy:G2:=λa b S=>if pl zH a&&pl zH b then .ok (.bl (e_ a b)) S else .bad
def im:G2:=λa b S=>if pl zH a&&pl zH b then .ok (.bl (!e_ a b)) S else .bad
set_option tactic.hygienic true in
theorem GZ (B:X.A.units+64<Ed):fv X (Ci .Eq) jy:=by
 intro ai σ H s P α S v u C U a b Q I r G J N O Y;unfold jy at Y
 split at Y
 .rename_i h
  rw[Az] at h;exact(eC I r zH X.A a b C U (by unfold zH;lia) h.1 h.2 (yU I r h.1 N G) (yU I r h.2 O J)).rc _ _ _ _ ⟨.bl _,H,I,rfl,xr Y r (by simp only[aq])⟩
 .exact Ar Y
set_option tactic.hygienic true in
theorem P9 (B:X.A.units+64<Ed):fv X (Ci .NotEq) im:=by
 intro ai σ H s P α S v u C U a b Q I r G J N O Y;unfold im at Y
 split at Y
 .rename_i h
  rw[Az] at h;exact(eC I r zH X.A a b C U (by unfold zH;lia) h.1 h.2 (yU I r h.1 N G) (yU I r h.2 O J)).ne _ _ _ _ ⟨.bl _,H,I,rfl,xr Y r (by simp only[aq])⟩
 .exact Ar Y
end
end _D
end
namespace _D
open _L
variable {ai:aa}{kvs:Aa (bo × D)}{am us:ag}{xs ds:Aa D}{vs:Aa V}{f:Ad->Ad->Kr Ad}{s:Ah}{d:D}{v:V}{Q:VK}{σ:_L.St}
section
variable {X:Cx}
noncomputable def i2 (C:Aj->Aj->As)(f:Aj->Aj->D):G2:=λa b S=>match a,b with
 |.int i,.int j=>if C i j then .ok (f i j) S else .bad
 |_,_=>.bad
theorem GN {C:Aj->Aj->As}{f:Aj->Aj->D}{a b:D}{S:ak}{P:Hp}{α:ae}{Ok:D->ak->Prop}(h:qJ X P α (i2 C f a b S) Ok):∃ i j,a=.int i/\b=.int j/\C i j=true/\Ok (f i j) S:=by
 cases a with
 |int i =>
  cases b with
  |int j =>
   obtain⟨Y,h⟩:=vI (X:=X) h;exact⟨i,j,rfl,rfl,Y,h⟩
  |_=>exact Ar h
 |_=>exact Ar h
theorem xG {P:Hp}{α:ae}{i:Aj}(r:aq X.K P α (.int i) v):v=.int i:=by simpa only [aq] using r
theorem bT {Y:Aj->Aj->Prop}{v:Aj->Aj->V}{C:Aj->Aj->As}{d:Aj->Aj->D}(h:lj X f (rI Y v))(J:∀ i j,C i j=true->Y i j)(hv:∀ P α i j,aq X.K P α (d i j) (v i j)):fv X f (i2 C d):=
 fv.of h λH P α S x y a b Q r G U O=>by
  obtain⟨i,j,rfl,rfl,N,ok⟩:=GN O;exact⟨i,j,xG G,xG U,J i j N,xr ok r (hv P α i j)⟩
theorem bS {v:Aj->Aj->V}{d:Aj->Aj->D}(h:lj X f (q_ v))(hv:∀ P α i j,aq X.K P α (d i j) (v i j)):fv X f (i2 (λ_ _=>true) d):=
 fv.of h λH P α S x y a b Q r J Y U=>by
  obtain⟨i,j,rfl,rfl,_,ok⟩:=GN U;exact⟨i,j,xG J,xG Y,xr ok r (hv P α i j)⟩
def zV:G2:=i2 (λ_ _=>true) λi j=>.int (i-j)
theorem RN:fv X (Ew .Sub) zV:=bS RW λP α i j=>by simp only[aq]
noncomputable def rK (i j:Aj):As:=decide (-(2 ^ 64)<i/\i<2 ^ 64)||decide (-(2 ^ 64)<j/\j<2 ^ 64)
theorem FV:fv X (Ew .Mult) (i2 rK λi j=>.int (i*j)):=bT RU (λi j h=>by
 unfold rK at h;rw[Va] at h;rcases h with h|h
 .exact .inl (Cq h)
 .exact .inr (Cq h)) λP α i j=>by simp only[aq]
noncomputable def NW (i j:Aj):As:=decide (0<j/\j<1073741824)
def kH:G2:=i2 NW λi j=>.int (i/j)
theorem RG:fv X (Ew .FloorDiv) kH:=bT FZ (λi j h=>(Cq h:0<j/\j<1073741824)) λP α i j=>by simp only[aq]
def uF:G2:=i2 (λ_ j=>decide (0<j)) λi j=>.int (i % j)
theorem RL:fv X (Ew .Mod) uF:=bT RS (λi j h=>Cq h) λP α i j=>by simp only[aq]
noncomputable def qAg (i j:Aj):As:=decide (0<=j/\j<=1000000/\i.natAbs<2 ^ 64)
def eO:G2:=i2 qAg λi j=>.int (i ^ j.toNat)
theorem RM:fv X (Ew .Pow) eO:=bT RV (λi j h=>(Cq h:0<=j/\j<=1000000/\i.natAbs<2 ^ 64)) λP α i j=>by simp only[aq]
def mj:G2:=i2 (λ_ _=>true) λi j=>.bl (decide (i<j))
def lq:G2:=i2 (λ_ _=>true) λi j=>.bl (decide (i<=j))
def tm:G2:=i2 (λ_ _=>true) λi j=>.bl (decide (j<i))
def vy:G2:=i2 (λ_ _=>true) λi j=>.bl (decide (j<=i))
theorem P8:fv X (Ci .Lt) mj:=bS IV λP α i j=>by simp only[aq]
theorem IQ:fv X (Ci .LtE) lq:=bS IU λP α i j=>by simp only[aq]
theorem P7:fv X (Ci .Gt) tm:=bS IT λP α i j=>by simp only[aq]
theorem IP:fv X (Ci .GtE) vy:=bS IS λP α i j=>by simp only[aq]
def kI:D->ak->ba D:=λa S=>match a with
 |.int i=>.ok (.int (-i)) S
 |_=>.bad
theorem CA:y_ X (v4 .USub) kI:=by
 intro ai σ H s P α S v U a Q I r J p Y;cases a with
 |int i=>exact CB ai s σ H v U Q I J ⟨i,xG p,xr Y r (by simp only[aq])⟩
 |_=>exact Ar Y
noncomputable def gIs:G2:=λa b S=>match b with
 |.non=>match a with
  |.non=>.ok (.bl true) S
  |_=>.ok (.bl false) S
 |_=>.bad
def eM:G2:=λa b S=>match b with
 |.non=>match a with
  |.non=>.ok (.bl false) S
  |_=>.ok (.bl true) S
 |_=>.bad
theorem FP {P:Hp}{α:ae}(r:aq X.K P α d v):decide (v=.non)=(match d with|.non=>true|_=>false):=by
 cases d <;> simp only[aq] at r
 case non=>subst r;rfl
 case bl=>subst r;rfl
 case int=>subst r;rfl
 case str=>subst r;rfl
 case ty=>subst r;rfl
 case clo=>obtain⟨rfl,_⟩:=r;rfl
 case obj=>obtain⟨rfl,_⟩:=r;rfl
 case tup=>obtain⟨a,vs,rfl,_⟩:=r;rfl
 case lst=>obtain⟨a,vs,rfl,_⟩:=r;rfl
 case dct0=>obtain⟨a,rfl,_⟩:=r;rfl
 case loc=>obtain⟨a,rfl,_⟩:=r;rfl
 case exn=>obtain⟨a,rfl,_⟩:=r;rfl
 case fd=>obtain⟨a,o,vs,rfl,_⟩:=r;rfl
theorem JA:fv X (Ci .IsNot) eM:=fv.of M0 λH P α S x y a b Q r U J Y=>by
 cases b with
 |non =>
  simp only[aq] at J;refine⟨J,?_⟩;rw[FP U];cases a <;> exact xr Y r (by simp only[aq] <;> rfl)
 |_=>exact Ar Y
def zP:G2:=λa b S=>match a,b with
 |.int i,.int j=>.ok (.int (i+j)) S
 |.str x,.str y=>if x.length+y.length<=bn then .ok (.str (x++y)) S else .bad
 |.tup xs,.tup Y=>if xs.length+Y.length<=bn then .ok (.tup (xs++Y)) S else .bad
 |.lst xs,.lst Y=>if xs.length+Y.length<=bn then .ok (.lst (xs++Y)) S else .bad
 |_,_=>.bad
theorem jT {H P:Hp}{α:ae}{S:ak}(I:Inv X ai σ H s)(r:bf X.K H P α S)(p:aq X.K P α (.tup xs) v) :
  ∃ a vs am,v=.ref a/\iq X.K P a vs/\qC X.K P α xs vs/\qI vs am/\Ri s.heap a am.toArray/\xs.length=am.length/\xs.length<=bn:=by
 simp only[aq] at p;obtain⟨a,vs,rfl,q,t⟩:=p;obtain⟨am,Y,J,z⟩:=I.tuple (xY r.sub q);exact⟨a,vs,am,rfl,q,t,Y,J,by rw[t.length,Y.length],by rw[t.length,xN];exact z⟩
theorem bO {H P:Hp}{α:ae}{S:ak}(I:Inv X ai σ H s)(r:bf X.K H P α S)(p:aq X.K P α (.lst xs) v) :
  ∃ a vs am n,v=.ref a/\ox X.K P a vs/\qC X.K P α xs vs/\qI vs am/\s.heap.get? a=Ab { cls:=.type "list",data:=.seq am.toArray n } /\ xs.length=am.length/\xs.length<=bn:=by
 simp only[aq] at p;obtain⟨a,vs,rfl,q,t⟩:=p;have:∃ am n,qI vs am/\s.heap.get? a=Ab { cls:=.type "list",data:=.seq am.toArray n } /\ vs.length<=sizeLine:=by
  rcases q with q|⟨am,n,e,z,Y⟩
  .obtain⟨z,am,n,Y,e⟩:=(iV r.sub q).ok I.hok
   exact⟨am,n,Y,e,z⟩
  .exact⟨am,n,Y,I.kIn _ _ e,z⟩
 obtain⟨am,n,Y,e,z⟩:=this;exact⟨a,vs,am,n,rfl,q,t,Y,e,by rw[t.length,Y.length],by rw[t.length,xN];exact z⟩
theorem US {H P:Hp}{α:ae}{S:ak}(I:Inv X ai σ H s)(r:bf X.K H P α S)(t:qC X.K P α xs vs)(Y:qI vs am)(hz:xs.length<=bn)
  (ok:jj X P α Q (.tup xs) S):EP X ai σ Q (.ref s.heap.objs.size) { s with heap:=s.heap.push { cls:=.type "tuple",data:=.seq am.toArray } }:=by
 refine⟨.ref s.heap.objs.size,_,I.laid (t':=s.toks) (o:=.tup vs) (λb J q=>Ai _ q) (Av _) ⟨by rw[<- t.length,<- xN];exact hz,am,Y,Zj _ _⟩,rfl,pC r (I.hok.fresh (Av _)) t ok⟩
theorem UR {H P:Hp}{α:ae}{S:ak}(I:Inv X ai σ H s)(r:bf X.K H P α S)(t:qC X.K P α xs vs)(Y:qI vs am)(hz:xs.length<=bn)
  (ok:jj X P α Q (.lst xs) S):EP X ai σ Q (.ref s.heap.objs.size) { s with heap:=s.heap.push { cls:=.type "list",data:=.seq am.toArray } }:=by
 refine⟨.ref s.heap.objs.size,_,I.laid (t':=s.toks) (o:=.lst vs) (λb J q=>Ai _ q) (Av _) ⟨by rw[<- t.length,<- xN];exact hz,am,0,Y,Be _ rfl⟩,rfl,wO r (I.hok.fresh (Av _)) t ok⟩
theorem NT {H P:Hp}{α:ae}{S:ak}{N:Aa D}{u:V}{i k:Ad}(I:Inv X ai σ H s)(r:bf X.K H P α S)(rv:qG v i)(e:qG u k)(p:aq X.K P α (.tup xs) v)(l:aq X.K P α (.tup N) u)(t:xs.length+N.length<=bn)(A:jj X P α Q (.tup (xs++N)) S) :
  Aq (Au X.prog X.w) X.A (Ew .Add i k) (EP X ai σ Q) X.xe s:=by
 obtain⟨a,vs,am,rfl,q1,t1,T,j,w,_⟩:=jT I r p;obtain⟨b,ws,G,rfl,q2,x,E,y,m,_⟩:=jT I r l;cases rv;cases e;by_cases M:am=[]
 .obtain⟨⟨cls,h,data,sl⟩,o,c,n,g⟩:=id j
  obtain⟨⟨q,C,data2,L⟩,J,Y,n2,U⟩:=id y;simp only at c g Y U;subst c g Y U;have B:xs=[]:=Iy.mp (by rw[w,M];rfl)
  subst B;exact Yx ⟨_,o,rfl⟩ ⟨_,J,rfl⟩ Tx Xr Pl Oo (Od _ _) (tuple_addW0 a b am.toArray G.toArray n n2 h C sl L (by simp[M]))
   ⟨o,J,⟨.ref b,H,I,rfl,xr A r l⟩⟩
 .refine _H.rj j y M (λz=>⟨.ref a,H,I,rfl,xr A r ?_⟩) (λz=>?_) (by rw[<- w,<- m,<- xN];exact t)
  .have O:N=[]:=Iy.mp (by rw[m,z];rfl)
   rw[O,Hq];exact p
  .exact US I r (t1.append x) (T.append E) (by rw[By];exact t) A
theorem NS {H P:Hp}{α:ae}{S:ak}{J:Aa D}{u:V}{C G:Ad}(I:Inv X ai σ H s)(r:bf X.K H P α S)(M:qG v C)(B:qG u G)(w:aq X.K P α (.lst xs) v)(z:aq X.K P α (.lst J) u)(N:xs.length+J.length<=bn)(j:jj X P α Q (.lst (xs++J)) S) :
  Aq (Au X.prog X.w) X.A (Ew .Add C G) (EP X ai σ Q) X.xe s:=by
 obtain⟨a,vs,am,n,rfl,o,y,Y,T,L,_⟩:=bO I r w;obtain⟨b,q,O,p,rfl,l,E,U,A,k,_⟩:=bO I r z;cases M;cases B;refine PySem.P.add_list T A ?_ (by rw[Bt,Bt,<- L,<- k,<- xN];exact N)
 rw[List.append_toArray];exact UR I r (y.append E) (Y.append U) (by rw[By];exact N) j
inductive zn (a b:D)(S:ak):Prop
 |bad (e:zP a b S=.bad)
 |int (i j:Aj) (ea:a=.int i) (eb:b=.int j)
 |str (x y:Aw) (ea:a=.str x) (eb:b=.str y)
 |tup (x y:Aa D) (ea:a=.tup x) (eb:b=.tup y)
 |lst (x y:Aa D) (ea:a=.lst x) (eb:b=.lst y)
theorem qAY (a b:D)(S:ak):zn a b S:=by
 cases a with
 |int i=>cases b with
  |int j=>exact .int i j rfl rfl
  |_=>exact .bad rfl
 |str i=>cases b with
  |str j=>exact .str i j rfl rfl
  |_=>exact .bad rfl
 |tup i=>cases b with
  |tup j=>exact .tup i j rfl rfl
  |_=>exact .bad rfl
 |lst i=>cases b with
  |lst j=>exact .lst i j rfl rfl
  |_=>exact .bad rfl
 |_=>exact .bad rfl
theorem RF:fv X (Ew .Add) zP:=by
 intro ai σ H s P α S v u T L a b Q I r B C G N Y;cases qAY a b S with
 |bad e=>rw[e] at Y;exact Ar Y
 |int i j U J =>
  subst U J;exact RQ ai s σ H v u T L Q I B C ⟨i,j,xG G,xG N,xr Y r (by simp only[aq])⟩
 |str x y U J =>
  subst U J;obtain⟨O,Y⟩:=vI (X:=X) Y;simp only[aq] at G N;exact Z5 ai s σ H v u T L Q I B C ⟨x,y,G,N,by rw[<- xN];exact O,xr Y r (by simp only[aq])⟩
 |tup xs E U J =>
  subst U J;obtain⟨O,Y⟩:=vI (X:=X) Y;exact NT I r B C G N O Y
 |lst xs E U J =>
  subst U J;obtain⟨O,Y⟩:=vI (X:=X) Y;exact NS I r B C G N O Y
def dy:G2:=λa b S=>match b with
 |.int k=>match a with
  |.tup xs=>v7 (ky xs k) S
  |.lst xs=>v7 (ky xs k) S
  |.loc i=>match S[i]? with
   |some (.lst xs)=>v7 (ky xs k) S
   |_=>.bad
  |_=>.bad
 |_=>.bad
theorem nN {P:Hp}{α:ae}{k:Aj}(Y:qC X.K P α ds vs)(h:ky ds k=Ab d):∃ v,ky vs k=Ab v/\aq X.K P α d v:=by
 unfold ky at h ⊢;rw[<- Y.length];cases q:og ds.length k with
 |none=>rw[q] at h;cases h
 |some j =>
  rw[q] at h;obtain⟨v,J,U⟩:=Y.get (show ds[j]? = Ab d from h)
  exact⟨v,J,U⟩
theorem _J:ze X dy:=by
 intro Y J ai σ H s P α S v u E B a b Q I r L C N M G hs;cases b with
 |int k =>
  have T:=xG M;cases a with
  |tup xs =>
   obtain⟨d,e,ok⟩:=vU (X:=X) G;simp only[aq] at N;obtain⟨p,vs,rfl,q,t⟩:=N;obtain⟨w,O,U⟩:=nN t e;exact SI Y J ai s σ H _ u E B Q I L C ⟨p,vs,k,w,rfl,T,xY r.sub q,O,xr ok r U⟩ hs
  |lst xs =>
   obtain⟨d,e,ok⟩:=vU (X:=X) G;simp only[aq] at N;obtain⟨p,vs,rfl,q,t⟩:=N;obtain⟨w,O,U⟩:=nN t e;exact iB Y J ai s σ H _ u E B Q I L C ⟨p,vs,k,w,rfl,T,(xK r.sub q).l,O,xr ok r U⟩ hs
  |loc i =>
   obtain⟨xs,A,G⟩:=jK (X:=X) (f:=λxs=>v7 (ky xs k) S) G;obtain⟨d,e,ok⟩:=vU (X:=X) G;simp only[aq] at N;obtain⟨p,rfl,q⟩:=N;obtain⟨vs,z,t⟩:=r.at' i p _ q A;obtain⟨w,O,U⟩:=nN t e;exact iB Y J ai s σ H _ u E B Q I L C ⟨p,vs,k,w,rfl,T,.of z,O,xr ok r U⟩ hs
  |_=>exact Ar G
 |_=>exact Ar G
def mJ:G3:=λo i d S=>match o,i with
 |.loc n,.int k=>match S[n]? with
  |some (.lst xs)=>match og xs.length k with
   |some j=>.ok () (S.set n (.lst (xs.set j d)))
   |none=>.bad
  |_=>.bad
 |_,_=>.bad
theorem OK:rC X (r0 X mJ):=by
 intro ai s σ H o i v T E u Q I N O B h;obtain⟨P,α,S,a,b,d,r,G,L,C,Y⟩:=h;cases a with
 |loc n =>
  cases b with
  |int k =>
   obtain⟨xs,U,Y⟩:=jK (X:=X) (f:=λxs=>match og xs.length k with|some j=>.ok () (S.set n (.lst (xs.set j d)))|none=>.bad) Y
   cases J:og xs.length k with
   |none=>rw[J] at Y;exact Ar Y
   |some j =>
    rw[J] at Y;simp only[aq] at G;obtain⟨p,rfl,q⟩:=G;obtain⟨vs,z,t⟩:=r.at' n p _ q U;refine KD ai s σ H _ i v T E u Q I N O B ⟨p,vs,k,j,rfl,xG L,z,by rw[<- t.length];exact J,?_⟩
    refine Y _ P α (r.put (m':=.lst (xs.set j d)) q U (by intro z;cases z) ⟨vs.set j v,z9,t.set C j⟩) (qF.refl _) (Bd _)
  |_=>exact Ar Y
 |_=>exact Ar Y
def QN:D->ak->An Ag
 |.tup xs,_=>Ab xs.length
 |.lst xs,_=>Ab xs.length
 |.str x,_=>if x.length<=bn then Ab x.length else none
 |.dct0,_=>Ab 0
 |.loc i,S=>match S[i]? with
  |some (.lst xs)=>Ab xs.length
  |_=>none
 |_,_=>none
def eG:DF:=λds S=>match ds with
 |[d]=>match QN d S with
  |some n=>.ok (.int n) S
  |none=>.bad
 |_=>.bad
end
section
variable {X:Cx}
theorem yX {P:Hp}{α:ae}(J:qC X.K P α [d] vs)(Y:qI vs us):∃ v u,vs=[v]/\us=[u]/\aq X.K P α d v/\qG v u:=by
 obtain⟨v,U,rfl,p,t⟩:=J.cons_inv;have:=t.nil_inv;subst this;obtain⟨u,rfl,q⟩:=kF Y;exact⟨v,u,rfl,rfl,p,q⟩
theorem fM {P:Hp}{α:ae}{e:D}(N:qC X.K P α [d,e] vs)(J:qI vs us):∃ v w u x,vs=[v,w]/\us=[u,x]/\aq X.K P α d v/\aq X.K P α e w/\qG v u/\qG w x:=by
 obtain⟨v,G,rfl,p,t⟩:=N.cons_inv;obtain⟨w,G,rfl,U,t⟩:=t.cons_inv;have:=t.nil_inv;subst this;obtain⟨u,x,rfl,q,Y⟩:=ZM J;exact⟨v,w,u,x,rfl,rfl,p,U,q,Y⟩
def QM (d:D)(S:ak):An Ag:=match d with
 |.dct0=>none
 |_=>QN d S
theorem SU {H P:Hp}{α:ae}{S:ak}{n:Ag}(r:bf X.K H P α S)(p:aq X.K P α d v)(Y:QM d S=Ab n):NQ X.K v H n:=by
 cases d with
 |str x =>
  cases (show v=.str x from p)
  obtain⟨G,rfl⟩:=jD Y;exact⟨by rw[<- xN];exact G,rfl⟩
 |tup xs =>
  simp only[aq] at p;obtain⟨a,J,rfl,U,t⟩:=p;cases Y;exact .inr ⟨J,xY r.sub U,t.length⟩
 |lst xs =>
  simp only[aq] at p;obtain⟨a,J,rfl,U,t⟩:=p;cases Y;exact .inl ⟨J,(xK r.sub U).l,t.length⟩
 |loc i =>
  simp only[aq] at p;obtain⟨a,rfl,e⟩:=p;obtain⟨xs,N,Y⟩:=SZ (f:=λxs=>Ab xs.length) Y;cases Y;obtain⟨J,z,t⟩:=r.at' i a _ e N;exact .inl ⟨J,.of z,t.length⟩
 |_=>exact nn Y
inductive wy (ds:Aa D)(S:ak)(r:ba D):Prop
 |bad (e:r=.bad)
 |of (d:D) (n:Ag) (ed:ds=[d]) (hn:QM d S=Ab n) (e:r=.ok (.int n) S)
theorem AS (ds:Aa D)(S:ak):wy ds S (match ds with|[.dct0]=>.bad|_=>eG ds S):=by
 cases ds with
 |nil=>exact .bad rfl
 |cons d ds =>
  cases ds with
  |cons _ _=>cases d <;> exact .bad rfl
  |nil =>
   have z:(match [d] with|[D.dct0]=>ba.bad|_=>eG [d] S)=(match QM d S with|some n=>ba.ok (D.int n) S|none=>.bad):=by cases d <;> rfl
   rw[z];cases Y:QM d S with
   |none=>exact .bad rfl
   |some n=>exact .of d n rfl Y rfl
theorem L5 (C:Rc):wM X (.builtin "len") (λds S=>match ds with|[.dct0]=>.bad|_=>eG ds S):=by
 intro ai σ H s P α S vs us ds Q I r J O U;have Y:qJ X P α (match ds with|[D.dct0]=>ba.bad|_=>eG ds S) (jj X P α Q):=U
 clear U;cases AS ds S with
 |bad e=>rw[e] at Y;exact Ar Y
 |of d n N G e =>
  rw[e] at Y;subst N;obtain⟨v,u,rfl,rfl,p,q⟩:=yX O J;exact VA ai s σ H _ _ Q I J ⟨v,n,rfl,SU r p G,xr Y r (by simp only[aq])⟩
noncomputable def mh:D->ak->An Ex
 |.non,_=>Ab "NoneType"
 |.bl _,_=>Ab "bool"
 |.int _,_=>Ab "int"
 |.str _,_=>Ab "str"
 |.tup _,_=>Ab "tuple"
 |.lst _,_=>Ab "list"
 |.dct0,_=>Ab "dict"
 |.loc i,S=>match S[i]? with
  |some (.lst _)=>Ab "list"
  |some (.dct _)=>Ab "dict"
  |_=>none
 |_,_=>none
def gV (a b:Ex):As:=a == b||(a == "bool" && b == "int")
def mQ (b:Ex):As:=b == "int" || b == "bool" || b == "tuple" || b == "list" || b == "str" || b == "dict"
noncomputable def SQ (a b:Ex):An As:=if (Jr a == Jr b)=true then Ab true else if PySem.W.kitMeta b=true then (fastBuiltinMro a).map (·.contains (.type b)) else none
noncomputable def yp:Aa Ex:=["NoneType","bool","int","str","tuple","list","dict"]
noncomputable def yt:Aa Ex:=["int","bool","tuple","list","str","dict"]
theorem FB:(yp.all λa=>yt.all λb=>decide (SQ a b=Ab (gV a b)))=true:=by decide +kernel
theorem RO {b:Ex}(Y:mQ b=true):b∈yt:=by simpa [mQ,yt,or_assoc] using Y
theorem FC {K:Ak}{a b:Ex}(Y:a∈yp)(J:mQ b=true):Ml K (.type a) (.type b)=Ab (gV a b):=
 Cq (p:=SQ a b=Ab (gV a b)) (Bb.mp (Bb.mp FB a Y) b (RO J))
def jA:DF:=λds S=>match ds with
 |[d,.ty b]=>if mQ b then match mh d S with
   |some a=>.ok (.bl (gV a b)) S
   |none=>.bad
  else .bad
 |_=>.bad
inductive TyV (X:Cx)(H:Hp)(v:V)(a:Ex):Prop
 |of (t:jh X.K H v (.type a))
 |tup (p:Af) (vs:Aa V) (e:v=.ref p) (q:iq X.K H p vs) (ea:a = "tuple")
 |lst (p:Af) (vs:Aa V) (e:v=.ref p) (q:ji X.K H p vs) (ea:a = "list")
theorem C9 {S:ak}{a:Ex}(h:mh d S=Ab a):a∈yp:=by
 cases d with
 |non=>cases h;exact .head _
 |bl b=>cases h;exact .tail _ (.head _)
 |int i=>cases h;exact .tail _ (.tail _ (.head _))
 |str x=>cases h;exact .tail _ (.tail _ (.tail _ (.head _)))
 |tup xs=>cases h;exact .tail _ (.tail _ (.tail _ (.tail _ (.head _))))
 |lst xs=>cases h;exact .tail _ (.tail _ (.tail _ (.tail _ (.tail _ (.head _)))))
 |dct0=>cases h;exact .tail _ (.tail _ (.tail _ (.tail _ (.tail _ (.tail _ (.head _))))))
 |loc i =>
  rcases lJ (f:=λ_=>Ab "list") (g:=λ_=>Ab "dict") h with⟨_,_,h⟩|⟨_,_,h⟩
  .cases h;exact .tail _ (.tail _ (.tail _ (.tail _ (.tail _ (.head _)))))
  .cases h;exact .tail _ (.tail _ (.tail _ (.tail _ (.tail _ (.tail _ (.head _))))))
 |_=>exact nn h
theorem OQ {H P:Hp}{α:ae}{S:ak}{a:Ex}(r:bf X.K H P α S)(p:aq X.K P α d v)(h:mh d S=Ab a):TyV X H v a:=by
 cases d with
 |non=>cases h;cases (show v=.non from p);exact .of .non
 |bl b=>cases h;cases (show v=.bl b from p);exact .of (.bl b)
 |int i=>cases h;cases (show v=.int i from p);exact .of (.int i)
 |str x=>cases h;cases (show v=.str x from p);exact .of (.str x)
 |tup xs =>
  cases h;simp only[aq] at p;obtain⟨a,vs,e,q,t⟩:=p;exact .tup a vs e (xY r.sub q) rfl
 |lst xs =>
  cases h;simp only[aq] at p;obtain⟨a,vs,e,q,t⟩:=p;exact .lst a vs e (xK r.sub q).l rfl
 |dct0 =>
  cases h;simp only[aq] at p;obtain⟨a,rfl,q⟩:=p;exact .of (.dK (r.sub _ _ q))
 |loc i =>
  simp only[aq] at p;obtain⟨a,rfl,q⟩:=p;rcases lJ (f:=λ_=>Ab "list") (g:=λ_=>Ab "dict") h with⟨xs,Y,h⟩|⟨kvs,Y,h⟩
  .cases h
   obtain⟨vs,z,t⟩:=r.at' i a _ q Y;exact .of (.lst z)
  .cases h
   obtain⟨vs,z,t⟩:=r.at' i a _ q Y;exact .of (.dK z)
 |_=>exact nn h
inductive zg (ds:Aa D)(S:ak):Prop
 |bad (e:jA ds S=.bad)
 |of (d:D) (b a:Ex) (ed:ds=[d,.ty b]) (hb:mQ b=true) (ha:mh d S=Ab a) (e:jA ds S=.ok (.bl (gV a b)) S)
theorem _O (ds:Aa D)(S:ak):zg ds S:=by
 cases ds with
 |nil=>exact .bad rfl
 |cons d ds =>
  cases ds with
  |nil=>exact .bad rfl
  |cons e ds =>
   cases ds with
   |cons _ _=>cases e <;> exact .bad rfl
   |nil =>
    cases e with
    |ty b =>
     have z:jA [d,.ty b] S=if mQ b then (match mh d S with|some a=>.ok (.bl (gV a b)) S|none=>.bad) else .bad:=rfl
     by_cases J:mQ b=true
     .rw[Bi J] at z
      cases Y:mh d S with
      |none=>rw[Y] at z;exact .bad z
      |some a=>rw[Y] at z;exact .of d b a rfl J Y z
     .rw[Bh J] at z
      exact .bad z
    |_=>exact .bad rfl
theorem L4:wM X (.builtin "isinstance") jA:=by
 intro ai σ H s P α S vs us ds Q I r k g G;cases _O ds S with
 |bad e=>rw[e] at G;exact Ar G
 |of d b a y l E e =>
  subst y;rw[e] at G;obtain⟨v,w,u,x,rfl,rfl,p,U,q,A⟩:=fM g k;simp only[aq] at U;subst U;cases (show x=Jr b from A)
  have J:=FC (K:=X.K) (C9 E) l;have Y:∀ T,EP X ai σ Q (.bool (gV a b)) { s with toks:=T }:=λT=>⟨.bl _,H,I.tok T,rfl,xr G r (by simp only[aq])⟩
  cases OQ r p E with
  |of j=>exact XY I q j J Y
  |tup U M e L B =>
   subst e B;cases (show u=Cy U from q)
   obtain⟨am,C,⟨o,N,O,_⟩,_⟩:=I.tuple L;exact Fi Yl I.kIn ⟨o,N,O⟩ J (λz=>nomatch z) Y
  |lst U M e L B =>
   subst e B;cases (show u=Cy U from q)
   obtain⟨am,C,⟨o,_,N,O,_⟩,_⟩:=I.list L;exact Fi So I.kIn ⟨o,N,O⟩ J (λz=>nomatch z) Y
noncomputable def y7:Aa D->An (Aa As)
 |[]=>Ab []
 |.bl b::r=>(y7 r).map (b::·)
 |_=>none
theorem gJ {P:Hp}{α:ae}:∀ {ds:Aa D} {Y:Aa As} {vs:Aa V} {us:ag},y7 ds=Ab Y->qC X.K P α ds vs->qI vs us->us=Y.map Hm
 |[],Y,vs,us,h,U,J=>by
  cases h;have:=U.nil_inv;subst this;cases J;rfl
 |d::ds,Y,vs,us,h,U,J=>by
  cases d with
  |bl b =>
   obtain⟨N,q,rfl⟩:=Ej.mp (show (y7 ds).map (b::·)=Ab Y from h)
   obtain⟨w,C,rfl,p,t⟩:=U.cons_inv;simp only[aq] at p;subst p;cases J with
   |cons O G =>
    cases (show _=Hm b from O)
    rw[gJ q t G];rfl
  |_=>exact nn h
def bG (Y:As):DF:=λds S=>match ds with
 |[d]=>match (zU d).bind y7 with
  |some J=>.ok (.bl (if Y then J.any id else J.all id)) S
  |none=>.bad
 |_=>.bad
theorem sA (Y:Aa As):((Cg Y.length).all λi=>Y.getD i false)=Y.all id:=by
 induction Y with
 |nil=>rfl
 |cons b Y J =>
  rw[Bv,Po,Sw,Ff,Sw,<- J];rfl
theorem sC (Y:Aa As):((Cg Y.length).any λi=>Y.getD i false)=Y.any id:=by
 induction Y with
 |nil=>rfl
 |cons b Y J =>
  rw[Bv,Po,Lr,Uf,Lr,<- J];rfl
theorem W2 {H:Hp}{o:Cw}{h':Cb}{J:Ag}(I:Inv X ai σ H s)(k:∀ b Y,b ∉ [s.heap.objs.size]->(s.heap.push o).get? b=Ab Y->h'.get? b=Ab Y):Inv X ai σ H { s with heap:=h',toks:=J }:=
 I.kept λb u e=>k b u (by simp;exact Cu (Bg e)) (Ai _ e)
theorem kB {J:Aa As}(hi:am=J.map Hm){A:Bu}:TruthOf X.prog X.w A (λi v=>am.toArray[i]? = Ab v) (λi=>J.getD i false):=λi v N G C hv O=>by
 subst hi;have Y:(J.map Hm)[i]? = Ab v:=by simpa using hv
 rw[Du] at Y;cases e:J[i]? with
 |none=>rw[e] at Y;exact nn Y
 |some b =>
  rw[e] at Y;cases Dc Y;have:J.getD i false=b:=by simp[Ie,e]
  have U:G (J.getD i false) N:=O;rw[this] at U;exact Zk U
theorem BV {J:As}{S:ak}{P:Hp}{α:ae}{Ok:D->ak->Prop}(h:qJ X P α (bG J ds S) Ok):∃ d xs Y,ds=[d]/\yk d xs/\y7 xs=Ab Y/\Ok (.bl (if J then Y.any id else Y.all id)) S:=by
 obtain⟨d,rfl,U⟩:=c7 (X:=X) (β:=D) (g:=λd=>match (zU d).bind y7 with|some Y=>.ok (D.bl (if J then Y.any id else Y.all id)) S|none=>.bad) h
 cases N:(zU d).bind y7 with
 |none=>rw[N] at U;exact Ar U
 |some Y =>
  rw[N] at U;obtain⟨xs,O,G⟩:=Hl.mp N;exact⟨d,xs,Y,rfl,xz O,G,U⟩
theorem L0 (U:As)(hc:X.calm=true):wM X (.builtin (if U then "any" else "all")) (bG U):=by
 intro ai σ H s P α S vs us ds Q I r l x i;obtain⟨d,xs,z,A,hd,M,ok⟩:=BV i;clear i;subst A;obtain⟨v,u,rfl,rfl,p,q⟩:=yX x l;clear x;have N:∀ {o:Cw} (J:Cb) (G:Ag),(∀ b m,b ∉ [s.heap.objs.size]->(s.heap.push o).get? b=Ab m->J.get? b=Ab m)->EP X ai σ Q (.bool (if U then z.any id else z.all id)) { s with heap:=J,toks:=G }:=
  λ{o} J G k=>⟨.bl _,H,W2 I k,rfl,xr ok r (by simp only[aq])⟩
 clear l ok;have g:X.A.in1.handled=none:=I.ok.hd hc;cases hd with
 |tup A =>
  subst A;obtain⟨a,h,am,rfl,sq,t,B,C,hl,_⟩:=jT I r p;cases (show u=Cy a from q)
  have O:=gJ M t B;have Y:am.toArray.size=z.length:=by rw[O];simp
  have L:a≠s.heap.objs.size:=by obtain⟨o,e,_⟩:=C;exact Cu (Bg e)
  have W:=Walks.tuple (prog:=X.prog) (w:=X.w) g s.heap.objs.size a L am.toArray;have j:∀ o,(s.heap.push o).IsTuple a am.toArray:=λo=>by obtain⟨o,e,c⟩:=C;exact⟨o,Ai _ e,c⟩
  have E:s.heap.IsTuple a am.toArray:=C;cases U with
  |false =>
   refine call_all_walk (Hb E ⟨s.heap.objs.size,_,_,_,_,_,_,rfl,W,⟨⟨_,Be _ rfl,rfl,rfl⟩,j _⟩,kB O,λJ G k=>?_⟩);rw[Y,sA];exact N J G k
  |true =>
   refine call_any_walk (Hb E ⟨s.heap.objs.size,_,_,_,_,_,_,rfl,W,⟨⟨_,Be _ rfl,rfl,rfl⟩,j _⟩,kB O,λJ G k=>?_⟩);rw[Y,sC];exact N J G k
 |lst A =>
  subst A;obtain⟨a,h,am,n,rfl,sq,t,B,C,hl,_⟩:=bO I r p;cases (show u=Cy a from q)
  have y:s.heap.IsList a am.toArray:=⟨_,C,rfl,n,rfl⟩;have O:=gJ M t B;have Y:am.toArray.size=z.length:=by rw[O];simp
  have L:a≠s.heap.objs.size:=Cu (Bg C);have W:=Walks.list (prog:=X.prog) (w:=X.w) g s.heap.objs.size a L am.toArray;have T:∀ o,(s.heap.push o).IsList a am.toArray:=λo=>⟨_,Ai _ C,rfl,n,rfl⟩;cases U with
  |false =>
   refine call_all_walk (Gn y ⟨s.heap.objs.size,_,_,_,_,_,_,rfl,W,⟨⟨_,Be _ rfl,rfl,rfl⟩,T _⟩,kB O,λJ G k=>?_⟩);rw[Y,sA];exact N J G k
  |true =>
   refine call_any_walk (Gn y ⟨s.heap.objs.size,_,_,_,_,_,_,rfl,W,⟨⟨_,Be _ rfl,rfl,rfl⟩,T _⟩,kB O,λJ G k=>?_⟩);rw[Y,sC];exact N J G k
def Q8:DF:=λds S=>match ds with
 |[.int i]=>.ok (.int i) S
 |[.bl b]=>.ok (.int (yd b)) S
 |_=>.bad
inductive zh (ds:Aa D)(S:ak):Prop
 |bad (e:Q8 ds S=.bad)
 |int (i:Aj) (e:ds=[.int i])
 |bl (b:As) (e:ds=[.bl b])
theorem _Q (ds:Aa D)(S:ak):zh ds S:=by
 cases ds with
 |nil=>exact .bad rfl
 |cons d ds =>
  cases ds with
  |cons _ _=>cases d <;> exact .bad rfl
  |nil =>
   cases d with
   |int i=>exact .int i rfl
   |bl b=>exact .bl b rfl
   |_=>exact .bad rfl
theorem L3:wM X (.type "int") Q8:=by
 intro ai σ H s P α S vs us ds Q I r Y U J;cases _Q ds S with
 |bad e=>rw[e] at J;exact Ar J
 |int i e =>
  subst e;obtain⟨v,u,rfl,rfl,p,q⟩:=yX U Y;exact dB ai s σ H _ _ Q I Y (.inl ⟨_,by rw[xG p],xr J r (by simp only[aq])⟩)
 |bl b e =>
  subst e;obtain⟨v,u,rfl,rfl,p,q⟩:=yX U Y;simp only[aq] at p;subst p;exact dB ai s σ H _ _ Q I Y (.inr ⟨_,rfl,xr J r (by simp only[aq];rfl)⟩)
def uB:DF:=λds S=>match ds with
 |[d]=>match zU d with
  |some xs=>.ok (.tup xs) S
  |none=>.bad
 |_=>.bad
theorem VD:wM X (.type "tuple") uB:=by
 intro ai σ H s P α S vs us ds Q I r O T B;obtain⟨d,rfl,Y⟩:=c7 (X:=X) (β:=D) (g:=λd=>match zU d with|some xs=>.ok (D.tup xs) S|none=>.bad) B
 obtain⟨xs,U,J⟩:∃ xs,zU d=Ab xs/\jj X P α Q (.tup xs) S:=by
  cases U:zU d with
  |none=>rw[U] at Y;exact Ar Y
  |some xs=>rw[U] at Y;exact⟨xs,rfl,Y⟩
 obtain⟨v,u,rfl,rfl,p,q⟩:=yX T O;cases xz U with
 |tup e =>
  subst e;have C:=p;simp only[aq] at p;obtain⟨a,G,rfl,N,t⟩:=p;exact pX ai s σ H _ _ Q I O ⟨a,G,rfl,.inr ⟨xY r.sub N,xr J r C⟩⟩
 |lst e =>
  subst e;simp only[aq] at p;obtain⟨a,G,rfl,N,t⟩:=p;exact pX ai s σ H _ _ Q I O ⟨a,G,rfl,.inl ⟨(xK r.sub N).l,λl L=>pC r L t J⟩⟩
def sV:DF:=λds S=>match ds with
 |[d]=>match zU d with
  |some xs=>.ok (.lst xs) S
  |none=>.bad
 |_=>.bad
theorem PY:wM X (.type "list") sV:=by
 intro ai σ H s P α S vs us ds Q I r O L B;obtain⟨d,rfl,Y⟩:=c7 (X:=X) (β:=D) (g:=λd=>match zU d with|some xs=>.ok (D.lst xs) S|none=>.bad) B
 obtain⟨xs,U,J⟩:∃ xs,zU d=Ab xs/\jj X P α Q (.lst xs) S:=by
  cases U:zU d with
  |none=>rw[U] at Y;exact Ar Y
  |some xs=>rw[U] at Y;exact⟨xs,rfl,Y⟩
 obtain⟨v,u,rfl,rfl,p,q⟩:=yX L O;cases xz U with
 |tup e =>
  subst e;simp only[aq] at p;obtain⟨a,G,rfl,N,t⟩:=p;exact b9 ai s σ H _ _ Q I O ⟨a,G,rfl,.inr (xY r.sub N),λl C=>wO r C t J⟩
 |lst e =>
  subst e;simp only[aq] at p;obtain⟨a,G,rfl,N,t⟩:=p;exact b9 ai s σ H _ _ Q I O ⟨a,G,rfl,.inl ((xK r.sub N).l),λl C=>wO r C t J⟩
end
section
variable {X:Cx}
structure xh (K:Ak)(cl:ae):Prop where
 ex:∀ C∈cl,zk K C
 one:∀ C∈cl,∀ B∈cl,Ml K (.ref C) (.ref B)=Ab (C == B)
 ve:∀ C∈cl,Ml K (.ref C) (.type "ValueError")=Ab true
def qBn (Y:ae):DF:=λds S=>match ds with
 |[.exn (.ref C),.obj B]=>if Y.contains C&&Y.contains B then .ok (.bl (C == B)) S else .bad
 |[.exn (.ref C),.ty b]=>if Y.contains C&&(b == "ValueError") then .ok (.bl true) S else .bad
 |_=>jA ds S
def wv (X:Cx)(id:Ex)(g:D->Aa D->ak->ba D):Prop:=
 ∀ (ai:aa) (σ : _L.St) (H:Hp) (s:Ah) (P:Hp) (α : Aa Af) (S:ak) (v:V) (Y:Ad) (vs:Aa V) (us:ag) (a:D) (ds:Aa D) (Q:VK),Inv X ai σ H s->bf X.K H P α S->qG v Y->aq X.K P α a v->qI vs us->qC X.K P α ds vs->qV X P α (g a ds S) Q ->
  Aq (Au X.prog X.w) X.A (call (.builtin id) (Y::us)) (EP X ai σ Q) X.xe s
def p_ (T:Ex)(g:D->Aa D->ak->ba D)(U:DE)(N:DA):DE:=λY S=>(U Y S).bind λa J=>if (mh a J == Ab T)=true then (N Y J).bind λds G=>g a ds G else .bad
theorem YN {H P:Hp}{α:ae}{S:ak}{a:D}{T:Ex}(r:bf X.K H P α S)(p:aq X.K P α a v)(h:mh a S=Ab T)(hT:T = "list" \/ T = "dict" \/ T = "int" \/ T = "str"):zu X.K T v H:=by
 cases a with
 |int i=>cases h;simp only[aq] at p;subst p;rfl
 |str x=>cases h;simp only[aq] at p;subst p;rfl
 |lst xs =>
  cases h;simp only[aq] at p;obtain⟨b,vs,rfl,q,t⟩:=p;exact .inl ⟨rfl,vs,(xK r.sub q).l⟩
 |dct0 =>
  cases h;simp only[aq] at p;obtain⟨b,rfl,q⟩:=p;exact .inr (.inr (.inl ⟨rfl,.inl ⟨[],r.sub _ _ q⟩⟩))
 |loc i =>
  simp only[aq] at p;obtain⟨b,rfl,q⟩:=p;rcases lJ (f:=λ_=>Ab "list") (g:=λ_=>Ab "dict") h with⟨xs,Y,h⟩|⟨kvs,Y,h⟩
  .cases h
   obtain⟨vs,z,t⟩:=r.at' i b _ q Y;exact .inl ⟨rfl,vs,ji.of z⟩
  .cases h
   obtain⟨vs,z,t⟩:=r.at' i b _ q Y;exact .inr (.inr (.inl ⟨rfl,.inl ⟨vs,z⟩⟩))
 |non=>cases h;exact absurd hT (by decide)
 |bl b=>cases h;exact absurd hT (by decide)
 |tup xs=>cases h;exact absurd hT (by decide)
 |_=>exact nn h
variable {o e:Bz}{es:Aa Bz}{fo:DE}{fa:DA}{name:Aw}{de cu:Fn}{T id:Ex}{g:D->Aa D->ak->ba D}
theorem LG {P:Hp}{α:ae}{a:D}{S:ak}{β:Type}{k:ba β}{Ok:β->ak->Prop}(h:qJ X P α (if (mh a S == Ab T)=true then k else .bad) Ok):mh a S=Ab T/\qJ X P α k Ok:=by
 by_cases z:(mh a S == Ab T)=true
 .rw[Bi z] at h;exact⟨Rf.mp z,h⟩
 .rw[Bh z] at h;exact Ar h
theorem CZ (pa:PlainAttrs T)(slot:Slot T name id)(w:typeOf (.builtin id)=pure (.type "method_descriptor"))(hT:T = "list" \/ T = "dict" \/ T = "int" \/ T = "str")(hm:wv X id g)(ho:PE X o (tD X fo))(n:PA X (e::es) (lv X fa))
  (G:Kb o name X.env (eval o X.env)=eval o X.env:=by rfl)
  (N:((Gi cu (Bs (e::es) X.env)).all (λx=>!x.1)&&(AaK cu (Vw [] X.env)).all (λx=>x.1.isSome)
   && decide ((e::es).length+([]:Aa Sx).length+(if ([] : Aa Sx).isEmpty then 0 else 1)<30))=true:=by rfl)
  (U:(de.endLine == cu.line)=true:=by rfl) (hs:Bs (e::es) X.env=(false,eval e X.env)::Bs es X.env:=by rfl) (J:(Gi cu (Bs es X.env)).any (·.1)=false:=by rfl) :
  PE X (.Call (.Attribute o name de) (e::es) [] cu) (tD X (p_ T g fo fa)):=by
 intro ai s σ H Q I h;obtain⟨P,α,M,S,r,t,af⟩:=h;refine Vb G N U rfl (bq (zX ho I r t af) λvv s1 ⟨v,H1,k,O,d,S1,Y,L⟩=>?_);obtain⟨i,C⟩:=LG L;obtain⟨c,m⟩:=YM Y.inv Y.val (YN Y.rel Y.rep i hT);refine⟨T,id,pa,slot,w,c,m,?_⟩;have j:=yM n Y.inv Y.rel Y.env (P:=k) (α:=O) (Ok:=jj X k O Q) (qV.base Y.same Y.pre (r:=(fa M S1).bind λds A=>g d ds A) C) cu;rw[hs] at j ⊢;refine Lv (by show (false||(Gi cu (Bs es X.env)).any (·.1))=false;rw[J] <;> rfl) (WP ?_)
 exact bq j λus p ⟨vs,H2,l,B,ds,A,q,a,r2,b,z,u,y,E⟩=>hm ai σ H2 p l B A v vv vs us d ds Q q r2 Y.val (aq.mono u y _ _ Y.rep) a z (qV.base u y E)
def xS:D->Aa D->ak->ba D:=λa ds S=>match a,ds with
 |.loc i,[d]=>match S[i]? with
  |some (.lst xs)=>if xs.length<bn then .ok .non (S.set i (.lst (xs++[d]))) else .bad
  |_=>.bad
 |_,_=>.bad
inductive ApV (a:D)(ds:Aa D)(S:ak):Prop
 |bad (e:xS a ds S=.bad)
 |of (i:Ag) (d:D) (xs:Aa D) (ea:a=.loc i) (ed:ds=[d]) (hS:S[i]? = Ab (.lst xs)) (hl:xs.length<bn) (e:xS a ds S=.ok .non (S.set i (.lst (xs++[d]))))
theorem apV (a:D)(ds:Aa D)(S:ak):ApV a ds S:=by
 cases a with
 |loc i =>
  cases ds with
  |nil=>exact .bad rfl
  |cons d ds =>
   cases ds with
   |cons _ _=>exact .bad rfl
   |nil =>
    have z:xS (.loc i) [d] S=(match S[i]? with|some (.lst xs)=>(if xs.length<bn then .ok .non (S.set i (.lst (xs++[d]))) else .bad)|_=>.bad):=rfl
    cases J:S[i]? with
    |none=>rw[J] at z;exact .bad z
    |some m =>
     rw[J] at z;cases m with
     |lst xs =>
      by_cases Y:xs.length<bn
      .exact .of i d xs rfl rfl J Y (z.trans (Bi Y))
      .exact .bad (z.trans (Bh Y))
     |_=>exact .bad z
 |_=>exact .bad rfl
theorem WG:wv X "list.append" xS:=by
 intro ai σ H s P α S v M vs us a ds Q I r E p U J Y;cases apV a ds S with
 |bad e=>rw[e] at Y;exact Ar Y
 |of i d xs B L N A e =>
  rw[e] at Y;subst B L;obtain⟨w,u,rfl,rfl,C,O⟩:=yX J U;simp only[aq] at p;obtain⟨b,rfl,q⟩:=p;obtain⟨G,z,t⟩:=r.at' i b _ q N;refine WK ai s σ H (.ref b) [w] M [u] Q I E (.cons O .nil) ⟨b,G,w,rfl,rfl,z,by rw[<- t.length,<- xN];exact A,?_⟩
  exact xr Y (r.put (m':=.lst (xs++[d])) q N (by intro z;cases z) ⟨G++[w],z9,t.append (.cons C .nil)⟩) (by simp only[aq])
end
def yI:D->An bo
 |.int i=>Ab (.inl i)
 |.str x=>Ab (.inr x)
 |_=>none
def xC (kvs:Aa (bo × D))(k:bo):An D:=(kvs.find? λY=>decide (Y.1=k)).map (·.2)
def wQ (kvs:Aa (bo × D))(k:bo)(v:D):Aa (bo × D):=
 if (kvs.any λY=>decide (Y.1=k))=true then kvs.map (λY=>if Y.1=k then (Y.1,v) else Y) else kvs++[(k,v)]
section
variable {K:Ak}{P:Hp}{α : Aa Af}
theorem lD {vs:Aa (bo × V)}(r:md K P α kvs vs):kvs.length=vs.length:=Paired.length r
theorem fD {k:bo}:∀ {kvs:Aa (bo × D)} {vs:Aa (bo × V)},md K P α kvs vs->(∀ d,xC kvs k=Ab d->∃ v,yJ vs k=Ab v/\aq K P α d v)/\(xC kvs k=none->yJ vs k=none)
 |_,_,.nil=>⟨λd h=>by simp[xC] at h,λ_=>rfl⟩
 |(U,d1)::kvs,(O,N)::vs,.cons z t=>by
  obtain⟨e,r⟩:=z;dsimp only at e r;subst e;obtain⟨J,G⟩:=fD (k:=k) t;unfold xC yJ at *;by_cases Y:U=k
  .subst Y
   constructor
   .intro d h
    simp at h;subst h;exact⟨N,by simp,r⟩
   .intro h
    simp at h
  .constructor
   .intro d h
    rw[Vc (by simpa using Y)] at h ⊢
    exact J d h
   .intro h
    rw[Vc (by simpa using Y)] at h ⊢
    exact G h
theorem FD {k:bo}{vs:Aa (bo × V)}(h:md K P α kvs vs):(kvs.any λY=>decide (Y.1=k))=(vs.any λY=>decide (Y.1=k)):=by
 induction h with
 |nil=>rfl
 |cons z t J=>rw[Lr,Lr,J,z.1]
theorem FF {k:bo}(q:aq K P α d v){kvs:Aa (bo × D)}{vs:Aa (bo × V)}(h:md K P α kvs vs):md K P α (kvs.map λY=>if Y.1=k then (Y.1,d) else Y) (vs.map λY=>if Y.1=k then (Y.1,v) else Y):=by
 induction h with
 |nil=>exact .nil
 |cons z t J =>
  rw[Df,Df];refine .cons ?_ J;rw[<- z.1]
  split
  .exact⟨rfl,q⟩
  .exact z
theorem FE {k:bo}(q:aq K P α d v){kvs:Aa (bo × D)}{vs:Aa (bo × V)}(h:md K P α kvs vs):md K P α (kvs++[(k,d)]) (vs++[(k,v)]):=by
 induction h with
 |nil=>exact .cons ⟨rfl,q⟩ .nil
 |cons z t Y=>exact .cons z Y
theorem iE {k:bo}(q:aq K P α d v){kvs:Aa (bo × D)}{vs:Aa (bo × V)}(r:md K P α kvs vs):md K P α (wQ kvs k d) (v3 vs k v):=by
 unfold wQ v3;rw[FD r]
 split
 .exact FF q r
 .exact FE q r
theorem tP {k:bo}(h:yI d=Ab k)(r:aq K P α d v):v=kV k:=by
 cases d with
 |int i=>cases h;simp only[aq] at r;exact r
 |str x=>cases h;simp only[aq] at r;exact r
 |_=>cases h
end
section
variable {X:Cx}{o i e:Bz}{ao:Fn}{fo fi:DE}
noncomputable def rY:DE:=λ_ S=>.ok (.loc S.length) (S++[.dct []])
theorem LJ:PE X (.Dict [] [] ao) (tD X rY):=by
 refine o_ JF λσ H Q ⟨P,α,U,S,r,O,G⟩ p N=>?_;have Y:α<+:α++[p]:=Ft _ _;have J:=r.new (o:=.dK []) (m:=.dct []) N ⟨[],z9,.nil⟩;refine G _ _ _ _ J (qF.refl _) Y ?_;simp only[aq];exact⟨p,rfl,by rw[<- r.len];simp⟩
def yS:G3:=λo i d S=>match o with
 |.loc n=>match S[n]? with
  |some (.dct kvs)=>match yI i with
   |some k=>if kvs.length<bn then .ok () (S.set n (.dct (wQ kvs k d))) else .bad
   |none=>.bad
  |_=>mJ o i d S
 |_=>mJ o i d S
inductive wo (a b d:D)(S:ak):Prop
 |bad (e:yS a b d S=.bad)
 |old (e:yS a b d S=mJ a b d S)
 |of (n:Ag) (kvs:Aa (bo × D)) (k:bo) (ea:a=.loc n) (hS:S[n]? = Ab (.dct kvs)) (hk:yI b=Ab k) (hl:kvs.length<bn) (e:yS a b d S=.ok () (S.set n (.dct (wQ kvs k d))))
theorem OJ (a b d:D)(S:ak):wo a b d S:=by
 cases a with
 |loc n =>
  have z:yS (.loc n) b d S=(match S[n]? with|some (.dct kvs)=>(match yI b with|some k=>(if kvs.length<bn then .ok () (S.set n (.dct (wQ kvs k d))) else .bad)|none=>.bad)|_=>mJ (.loc n) b d S):=rfl
  cases J:S[n]? with
  |none=>rw[J] at z;exact .old z
  |some m =>
   rw[J] at z;cases m with
   |dct kvs =>
    cases U:yI b with
    |none=>rw[U] at z;exact .bad z
    |some k =>
     rw[U] at z;by_cases Y:kvs.length<bn
     .exact .of n kvs k rfl J U Y (z.trans (Bi Y))
     .exact .bad (z.trans (Bh Y))
   |_=>exact .old z
 |_=>exact .old rfl
theorem HL (E:X.A.units+1<Ed):rC X (r0 X yS):=by
 intro ai s σ H o i v L A u Q I U G C h;obtain⟨P,α,S,a,b,d,r,J,B,N,Y⟩:=h;cases OJ a b d S with
 |bad e=>rw[e] at Y;exact Ar Y
 |old e =>
  rw[e] at Y;exact OK ai s σ H o i v L A u Q I U G C ⟨P,α,S,a,b,d,r,J,B,N,Y⟩
 |of n kvs k T O j M e =>
  rw[e] at Y;subst T;simp only[aq] at J;obtain⟨p,rfl,q⟩:=J;obtain⟨vs,z,t⟩:=r.at' n p _ q O;cases tP j B;cases (show L=Cy p from U)
  refine XB E I (nL.k (v:=v) z (by rw[<- lD t,<- xN];exact M)) G C λy w=>⟨_,w,?_⟩
  exact Y _ P α (r.put (m':=.dct (wQ kvs k d)) q O (by intro z;cases z) ⟨_,z9,iE N t⟩) (qF.refl _) (Bd _)
theorem NV {β:Type}{r:ba β}{P:Hp}{α:ae}{Ok:β->ak->Prop}(e:r=.bad)(h:qJ X P α r Ok):Ey:=by
 rw[e] at h;exact h
end
def uP (S:ak):ak:=S.map λ_=>.dead
noncomputable def oW:D->As
 |.non=>true
 |.bl _=>true
 |.int _=>true
 |.str _=>true
 |_=>false
noncomputable def mapO {β γ:Type}(f:β->An γ) : Aa β -> An (Aa γ)
 |[]=>Ab []
 |b::r=>match f b,mapO f r with
  |some c,Ab Y=>Ab (c::Y)
  |_,_=>none
noncomputable def xT:Ag->ak->D->An D
 |n+1,S,.tup xs=>(mapO (xT n S) xs).map .tup
 |n+1,S,.lst xs=>(mapO (xT n S) xs).map .lst
 |n+1,S,.loc i=>match S[i]? with
  |some (.lst xs)=>(mapO (xT n S) xs).map .lst
  |_=>none
 |_,_,.non=>Ab .non
 |_,_,.bl b=>Ab (.bl b)
 |_,_,.int i=>Ab (.int i)
 |_,_,.str x=>Ab (.str x)
 |_,_,.ty n=>Ab (.ty n)
 |_,_,.obj a=>Ab (.obj a)
 |_,_,.dct0=>Ab .dct0
 |_,_,.exn c=>Ab (.exn c)
 |_,_,_=>none
def vS (H P:Hp)(α : Aa Af):Hp:=λb=>if (P b).isSome then P b else if b∈α then H b else none
section
variable {K:Ak}{H P:Hp}{α : Aa Af}{S:ak}
theorem jB (H P:Hp)(α : Aa Af):qF P (vS H P α):=λb o e=>by
 unfold vS;rw[e];rfl
theorem UB (r:bf K H P α S):qF (vS H P α) H:=λb o e=>by
 unfold vS at e
 split at e
 .exact r.sub b o e
 .split at e
  .exact e
  .cases e
theorem nZ {a:Af}(h:P a=none)(Y:a∈α):vS H P α a=H a:=by
 unfold vS;rw[h];simp[Y]
theorem bf.frz (r:bf K H P α S):bf K H (vS H P α) α (uP S) where
 tb:=r.tb.keep (λ_ _ q _=>q) λb u q _ p n=>⟨by unfold vS;rw[p];simp[n],n⟩
 sub:=UB r
 len:=by rw[r.len];simp[uP]
 nd:=r.nd
 sep:=λi a o J Y U=>by
  unfold uP at Y;rw[Du] at Y;cases q:S[i]? with
  |none=>rw[q] at Y;cases Y
  |some m=>rw[q] at Y;cases Y;exact absurd rfl U
 at':=λi a o J Y=>by
  unfold uP at Y;rw[Du] at Y;cases q:S[i]? with
  |none=>rw[q] at Y;cases Y
  |some m=>rw[q] at Y;cases Y;trivial
 own:=r.own
theorem bf.unfrz {O P1:Hp}{B:ae}{S1:ak}(r:bf K H P α S)(G:bf K O P1 B S1)(e:qF (vS H P α) P1):bf K O P α S:=by
 have mem:∀ i a,α[i]? = Ab a->a∈α:=λi a h=>Cj h;have N:∀ (i:Ag) (a:Af) (o:MO) (u:HO),α[i]? = Ab a->S[i]? = Ab o->o≠MO.dead->H a=Ab u->O a=Ab u:=λi a o u Y J A p =>
  G.sub a u (e a u (by rw[nZ (r.sep i a o Y J A) (mem i a Y)];exact p))
 refine⟨λx E c T h=>let ⟨k,e,_,_,ok,I⟩:=G.tb x E c T h;let ⟨_,_,j,M,_,_⟩:=r.tb x E c T h;⟨k,e,j,M,ok,I⟩,(jB H P α).trans (e.trans G.sub),r.len,r.nd,r.sep,λi a o Y J=>?_,λi a Y=>?_⟩
 .have m:=r.at' i a o Y J
  cases o with
  |dead=>trivial
  |lst ds=>obtain⟨vs,q,t⟩:=m;exact⟨vs,N i a _ _ Y J (by intro z;cases z) q,t⟩
  |dct kvs=>obtain⟨vs,q,t⟩:=m;exact⟨vs,N i a _ _ Y J (by intro z;cases z) q,t⟩
  |dcT kvs=>obtain⟨vs,q,t⟩:=m;exact⟨vs,N i a _ _ Y J (by intro z;cases z) q,t⟩
  |ins C l=>obtain⟨y,vs,q,t⟩:=m;exact⟨y,vs,N i a _ _ Y J (by intro z;cases z) q,t⟩
 .have h:=r.own i a Y
  cases q:H a with
  |none=>exact absurd q h
  |some u =>
   have z:∃ U,vS H P α a=Ab U:=by
    cases L:P a with
    |none=>exact⟨u,by rw[nZ L (mem i a Y)];exact q⟩
    |some U=>exact⟨U,jB H P α a U L⟩
   obtain⟨U,z⟩:=z;rw[G.sub a U (e a U z)];intro w;cases w
set_option tactic.hygienic true in
theorem qC.mapO {f:D->An D}{J:Hp}(h:∀ d t v,f d=Ab t->aq K P α d v->aq K J α t v):∀ {ds Y:Aa D} {vs:Aa V},_D.mapO f ds=Ab Y->qC K P α ds vs->qC K J α Y vs
 |[],Y,vs,e,r=>by cases e;rw[r.nil_inv];exact .nil
 |d::ds,Y,vs,e,r=>by
  obtain⟨w,C,rfl,O,N⟩:=r.cons_inv;unfold _D.mapO at e
  split at e
  .rename_i c B U G
   cases e;exact .cons (h d c w U O) (qC.mapO h G N)
  .cases e
theorem iW (r:bf K H P α S):∀ (n:Ag) (d t:D) (v:V),xT n S d=Ab t->aq K P α d v->aq K (vS H P α) α t v:=by
 have Y:∀ (d:D) (v:V),aq K P α d v->aq K (vS H P α) α d v:=λd v=>aq.mono (jB H P α) (Bd _) d v;intro n
 induction n with
 |zero =>
  intro d t v h p;cases d <;> first|(cases h;exact Y _ _ p)|exact nn h
 |succ n G =>
  intro d t v h p;cases d with
  |tup xs =>
   obtain⟨N,J,rfl⟩:=Ej.mp h;simp only[aq] at p ⊢;obtain⟨a,vs,rfl,q,t⟩:=p;exact⟨a,vs,rfl,wC (jB H P α) q,qC.mapO (λd t v=>G d t v) J t⟩
  |lst xs =>
   obtain⟨N,J,rfl⟩:=Ej.mp h;simp only[aq] at p ⊢;obtain⟨a,vs,rfl,q,t⟩:=p;exact⟨a,vs,rfl,xK (jB H P α) q,qC.mapO (λd t v=>G d t v) J t⟩
  |loc i =>
   have h:(match S[i]? with|some (.lst xs)=>(_D.mapO (xT n S) xs).map D.lst|_=>none)=Ab t:=h
   cases U:S[i]? with
   |none=>rw[U] at h;exact nn h
   |some m =>
    rw[U] at h;cases m with
    |lst xs =>
     obtain⟨N,J,rfl⟩:=Ej.mp h;simp only[aq] at p ⊢;obtain⟨a,rfl,q⟩:=p;obtain⟨vs,z,t⟩:=r.at' i a _ q U;refine⟨a,vs,rfl,.inl (.inl ?_),qC.mapO (λd t v=>G d t v) J t⟩;rw[nZ (r.sep i a _ q U (by intro z;cases z)) (Cj q)]
     exact z
    |_=>exact nn h
  |fd O ds=>exact nn h
  |clo a vs ds=>exact nn h
  |_=>cases h;exact Y _ _ p
theorem V4 {J:Hp}{Y:ae}(h:oW d=true)(p:aq K P α d v):aq K J Y d v:=by
 cases d with
 |non=>simpa only [aq] using p
 |bl b=>simpa only [aq] using p
 |int i=>simpa only [aq] using p
 |str x=>simpa only [aq] using p
 |_=>cases h
end
def mC:Ag:=20
def QP (r:ba D)(S:ak):ba D:=match r with
 |.ok d _=>if oW d then .ok d S else .bad
 |_=>.bad
theorem QQ {X:Cx}{H P:Hp}{α:ae}{S:ak}{r:ba D}(G:bf X.K H P α S)(Y:qV X P α (QP r S) Q):qV X (vS H P α) α r Q:=by
 cases r with
 |ok d N =>
  obtain⟨O,Y⟩:=vI (X:=X) Y;exact λv J E U C B T L=>Y v J P α (G.unfrz C B) (qF.refl _) (Bd _) (V4 O L)
 |ex c x N=>exact Ar Y
 |bad=>exact Ar Y
section
variable {X:Cx}
def jZ (g:G2):G2:=λa b S=>match xT mC S a,xT mC S b with
 |some x,Ab y=>QP (g x y (uP S)) S
 |_,_=>.bad
set_option tactic.hygienic true in
theorem fv.look {g:G2}(h:fv X f g):fv X f (jZ g):=by
 intro ai σ H s P α S v u L G a b Q I r N J O C Y;unfold jZ at Y
 split at Y
 .rename_i x y B U
  exact h ai σ H s _ α (uP S) v u L G x y Q I r.frz N J (iW r mC a x v B O) (iW r mC b y u U C) (QQ r Y)
 .exact Ar Y
variable {cm:As}{k:Ag}{f:Af}{fd:Fu}{ps:Aa Aw}{F:DF}{x:Aw}{p ao:Fn}{e:Bz}{es:Aa Bz}{fa:DA}{n:Ag}
end
noncomputable def uE (t:DT)(f:DS):Ag->qB->ak->jf
 |0,_,_=>.bad
 |n+1,J,S=>(t J S).toS J λb G=>if b then (match f J G with
   |.nx Y U=>uE t f n Y U
   |.ct Y U=>uE t f n Y U
   |.bk Y U=>.nx Y U
   |o=>o) else .nx J G
theorem ZV:∃ n:Ag,n=2 ^ 60:=⟨_,rfl⟩
def big:Ag:=Kw ZV
theorem ZU:big=2 ^ 60:=Jn ZV
def gE (t:DT)(f:DS):DS:=λY S=>uE t f big Y S
section
variable {X:Cx}{ao:Fn}
inductive yz (X:Cx)(P:Hp)(α : Aa Af)(t:DT)(f:DS)(D:Ends)(m:Ag)(σ : _L.St)(H:Hp):Prop
 |mk (P2:Hp) (α2:ae) (env2:qB) (S2:ak) (r:bf X.K H P2 α2 S2) (re:zJ X.K P2 α2 σ env2) (e1:qF P P2) (e2:α<+:α2) (af:qX X P2 α2 (uE t f m env2 S2) D):yz X P α t f D m σ H
theorem VY {c:Bz}{i:Aa Fz}{t:DT}{f:DS}(hp:Qu (Au X.prog X.w) X.A X.env X.xe)(hc:PT X c (ma X t))(hb:ir X i (iu X f)):PS X (.While c i [] ao) (iu X (gE t f)):=
 xu (JJ hp hc hb) λD σ H ⟨P,α,g,S,r,re,af⟩=>by
  refine⟨yz X P α t f D,⟨big,P,α,g,S,r,re,qF.refl _,Bd _,af⟩,?_⟩;rintro m n H2 ⟨P2,p,Y,N,r2,C,e,a,I⟩;cases m with
  |zero=>exact Ar I
  |succ m =>
   have G:=w9 I;refine⟨P2,p,Y,N,r2,C,?_⟩;cases q:t Y N with
   |bad=>rw[q] at G;exact G
   |ex c x S'=>rw[q] at G;exact G
   |ok b y =>
    rw[q] at G;intro H3 P3 O h j z;have J:qX X P3 O (if b then (match f Y y with|.nx Y N=>uE t f m Y N|.ct Y N=>uE t f m Y N|.bk Y N=>.nx Y N|o=>o) else .nx Y y) D:=qX.base j z G
    cases b with
    |false=>exact J n H3 P3 O h (C.mono j z) (qF.refl _) (Bd _)
    |true =>
     simp only[Dp] at J ⊢;refine⟨yz X P α t f D m,λzb H' w=>⟨m,Kx _,w⟩,P3,O,Y,y,h,C.mono j z,?_⟩;cases E:f Y y with
     |bad=>rw[E] at J;exact J
     |ex c x U T=>rw[E] at J;exact J
     |rt d4 T=>rw[E] at J;exact J
     |bk U T=>rw[E] at J;exact J
     |nx U T =>
      rw[E] at J;exact λu H5 k L l B A M=>⟨k,L,U,T,l,B,(e.trans j).trans A,(a.trans z).trans M,qX.base A M J⟩
     |ct U T =>
      rw[E] at J;exact λu H5 k L l B A M=>⟨k,L,U,T,l,B,(e.trans j).trans A,(a.trans z).trans M,qX.base A M J⟩
end
section
variable {X:Cx}{a b c e:Bz}{ao:Fn}{fa fe:DE}
def z_ (i:Ag)(g:G2)(fe:DE):DS:=λY S=>match Y[i]? with
 |some (Ab x)=>(fe Y S).toS Y λy J=>(g x y J).toS Y λz U=>.nx (Y.set i (Ab z)) U
 |_=>.bad
def A_:G2:=i2 (λ_ _=>true) λi j=>.int (i+j)
def wG (xs:Aa D)(lo hi:An Aj):Aa D:=(xs.drop (_H.cg xs.length 0 lo)).take (_H.cg xs.length xs.length hi-_H.cg xs.length 0 lo)
abbrev DO:=qB->ak->ba (An Aj)
def O_ (X:Cx)(P:Hp)(α : Aa Af)(Q:An Aj->Hp->Prop)(o:An Aj)(G:ak):Prop:=∀ J U Y,bf X.K J U Y G->qF P U->α<+:Y->Q o J
def wa (X:Cx)(f:DO):TO:=λσ H Q=>∃ P α Y S,bf X.K H P α S/\zJ X.K P α σ Y/\qJ X P α (f Y S) (O_ X P α Q)
def uA:DO:=λ_ S=>.ok none S
def wU (f:DE):DO:=λY S=>(f Y S).bind λd J=>match d with
 |.int i=>.ok (Ab i) J
 |_=>.bad
theorem BI:PO X none (wa X uA):=λai s σ H Q I ⟨P,α,Y,S,r,U,J⟩=>M8 ai s σ H Q I (J H P α r (qF.refl _) (Bd _))
theorem BJ (N:PE X e (tD X fe)):PO X (Ab e) (wa X (wU fe)):=by
 intro ai s σ H Q I h;obtain⟨P,α,J,S,r,B,E⟩:=h;refine M9 (te:=tD X fe) N ai s σ H Q I ⟨P,α,J,S,r,B,?_⟩;have Y:qJ X P α ((fe J S).bind λd G=>match d with|.int i=>.ok (Ab i) G|_=>.bad) (O_ X P α Q):=E
 cases q:fe J S with
 |bad=>rw[q] at Y;exact Y
 |ex c x w=>rw[q] at Y;exact Y
 |ok d G =>
  rw[q] at Y;intro v T C U M L O A;cases d with
  |int i=>exact⟨i,xG A,Y T C U M L O⟩
  |_=>exact Ar Y
theorem qC.cut {K:Ak}{P:Hp}{α:ae}(r:qC K P α ds vs)(lo hi:An Aj):qC K P α (wG ds lo hi) (bC vs lo hi):=by
 unfold wG bC;rw[r.length];exact(r.drop _).take _
def s_ (d:D)(lo hi:An Aj)(S:ak):ba D:=match d with
 |.lst xs=>.ok (.lst (wG xs lo hi)) S
 |.loc i=>match S[i]? with
  |some (.lst xs)=>.ok (.lst (wG xs lo hi)) S
  |_=>.bad
 |.tup xs=>.ok (.tup (wG xs lo hi)) S
 |_=>.bad
def pc (fe:DE)(G U:DO):DE:=λY S=>(fe Y S).bind λd N=>(G Y N).bind λlo O=>(U Y O).bind λC J=>s_ d lo C J
end
end _D
namespace _D
open _L _H
section
variable {prog:Bo}{w:Cd}{A:Bu}{E:ab}{s:Ah}
theorem pZ {t sl:Af}{items:Ay Ad}{N O:Ad}{lo hi:An Aj}{Q:ab}(Y:Ri s.heap t items)(hs:s.heap.IsSliceOf sl N O .none)(pl:Sd N lo)(C:Sd O hi)
  (hw:cg items.size 0 lo=0/\cg items.size items.size hi=items.size) (h:Q (.ref t) s):Aq (Au prog w) A (Op (.ref t) (.ref sl)) Q E s:=by
 obtain⟨B,J,U,_⟩:=id hs;have G:s.TypeIs (.ref sl) "slice":=⟨B,J,U⟩;unfold Op
 try with_reducible refine EQ ?_
 first|refine Ac (Am ?_)|skip
 refine Ac (Zo Y.typeIs (by decide) ?_)
 refine Ac (Dw (name:=Hk "__getitem__") Y.typeIs Fk
  (Dv Fk Y.typeIs Xs ?_ (Yo _ _)))
 show Aq _ _ (Ms (.ref t) >>= _) _ _ s;refine Ac (tupleItemsOf_ Y ?_);refine Ac (Oq G ?_);rw[Bi (by decide)]
 refine Ac (jP hs pl C ?_);show Aq _ _ (if (((cg items.size 0 lo:Ag):Aj) == 0&&(1:Aj) == 1&&(cg items.size items.size hi-cg items.size 0 lo) == items.size)=true then _ else _) _ _ s
 rw[hw.1,hw.2,Bi (by simp)]
 unfold Builtin.Tuple.tupleIsExact;refine Ac (Ac (Oq Y.typeIs (Am ?_)));rw[Bi (by decide)]
 exact Ac (Gf (Am ⟨_,rfl,Am h⟩))
end
section
variable {X:Cx}{e:Bz}{fe:DE}{ao p2:Fn}
def _E (X:Cx):V->An Aj->An Aj->Hp->VK->Prop:=λx lo Y H Q=>∃ P α S d,bf X.K H P α S/\aq X.K P α d x/\qV X P α (s_ d lo Y S) Q
theorem _z:ue X (_E X):=by
 intro E s σ H x v T A lo J sl Q I B hs pl C h;obtain⟨P,α,S,d,r,p,U⟩:=h;cases d with
 |lst G =>
  simp only[aq] at p;obtain⟨a,Y,rfl,q,t⟩:=p;exact o6 E s σ H _ v T A lo J sl Q I B hs pl C ⟨a,Y,rfl,(xK r.sub q).l,λb O=>wO r O (qC.cut t lo J) U⟩
 |loc i =>
  obtain⟨G,w,U⟩:=jK (X:=X) (f:=λG=>ba.ok (D.lst (wG G lo J)) S) U;simp only[aq] at p;obtain⟨a,rfl,q⟩:=p;obtain⟨Y,z,t⟩:=r.at' i a _ q w;exact o6 E s σ H _ v T A lo J sl Q I B hs pl C ⟨a,Y,rfl,ji.of z,λb O=>wO r O (qC.cut t lo J) U⟩
 |tup G =>
  have j:=p;simp only[aq] at p;obtain⟨a,Y,rfl,q,t⟩:=p;by_cases L:cg Y.length 0 lo=0/\cg Y.length Y.length J=Y.length
  .cases B
   obtain⟨k,y,M,u⟩:=I.tuple (xY r.sub q);have N:k.toArray.size=Y.length:=by rw[Bt];exact y.length.symm
   refine⟨"tuple",_,Fk.lookup,M.typeIs,pZ M hs pl C (by rw[N];exact L) ⟨.ref a,H,I,rfl,xr U r ?_⟩⟩
   have e:wG G lo J=G:=by
    unfold wG;rw[t.length,L.1,L.2,<- t.length];simp
   rw[e];exact j
  .exact HN E s σ H _ v T A lo J sl Q I B hs pl C ⟨a,Y,rfl,xY r.sub q,L,λb O=>pC r O (qC.cut t lo J) U⟩
 |_=>exact Ar U
theorem VQ {lo hi:An Bz}{T L:DO}(m:PE X e (tD X fe))(s:PO X lo (wa X T))(n:PO X hi (wa X L)):PE X (.Subscript e (.Slice lo hi none p2) ao) (tD X (pc fe T L)):=
 o_ (JG _z m s n) λσ H Q ⟨P,α,Y,S,r,A,af⟩=>by
  refine⟨P,α,Y,S,r,A,?_⟩;have U:qJ X P α ((fe Y S).bind λd E=>(T Y E).bind λlo N=>(L Y N).bind λhi O=>s_ d lo hi O) (jj X P α Q):=af;cases q:fe Y S with
  |bad=>rw[q] at U;exact U
  |ex c x g=>rw[q] at U;exact U
  |ok d E =>
   rw[q] at U;intro v H1 I C a M y b;refine⟨I,C,Y,E,a,A.mono M y,?_⟩;have J:qJ X I C ((T Y E).bind λlo N=>(L Y N).bind λhi O=>s_ d lo hi O) (jj X I C Q):=qV.base M y U;cases p:T Y E with
   |bad=>rw[p] at J;exact J
   |ex c x g=>rw[p] at J;exact J
   |ok l N =>
    rw[p] at J;intro H2 k B i o j;refine⟨k,B,Y,N,i,(A.mono M y).mono o j,?_⟩;have G:qJ X k B ((L Y N).bind λhi O=>s_ d l hi O) (jj X k B Q):=qV.base o j J;cases w:L Y N with
    |bad=>rw[w] at G;exact G
    |ex c x g=>rw[w] at G;exact G
    |ok u O =>
     rw[w] at G;intro H3 P3 z h t f;exact⟨P3,z,O,d,h,aq.mono (o.trans t) (j.trans f) _ _ b,qV.base t f G⟩
end
end _D
namespace _D
open _L
variable {α:ae}{ns:Aa Aj}{N:Aa Aw}{am ds rh:Aa D}{cf:Aa Fz}{vs:Aa V}{Q:ab}{m:Ag}{Qa Qd:Ah->Prop}{o':An (Ag × MO)}{tp:As}{xs ys:Ay Ad}{h':Cb}{R:It->Hp->Prop}{S SF:ak}{env fw:qB}
def zO (tp:As)(h:Cb)(it l:Af)(k:Ag):Prop:=if tp then h.IsTupleIter it l k else h.IsListIter it l k
def xZ (tp:As)(h:Cb)(l:Af)(xs:Ay Ad):Prop:=if tp then h.IsTuple l xs else h.IsList l xs
theorem zO.keep {h:Cb}{it l:Af}{k:Ag}(x:zO tp h it l k)(q:∀ o,h.get? it=Ab o->h'.get? it=Ab o):zO tp h' it l k:=by
 cases tp <;> (obtain⟨o,e,r⟩:=x;exact⟨o,q o e,r⟩)
theorem xZ.keep {h:Cb}{l:Af}(x:xZ tp h l xs)(q:∀ o,h.get? l=Ab o->h'.get? l=Ab o):xZ tp h' l xs:=by
 cases tp <;> (obtain⟨o,e,r⟩:=x;exact⟨o,q o e,r⟩)
theorem zO.there {h:Cb}{it l:Af}{k:Ag}(x:zO tp h it l k):∃ o,h.get? it=Ab o/\∀ v,o.data≠.cell v:=by
 cases tp <;> (obtain⟨o,e,_,d⟩:=x;exact⟨o,e,λv z=>by rw[d] at z;cases z⟩)
section
variable {prog:Bo}{w:Cd}{A:Bu}{E:ab}{s:Ah}
theorem J7 {it t:Af}{i:Ag}{items:Ay Ad}{x:Ad}(Y:s.heap.IsTupleIter it t i)(G:s.heap.IsTuple t items)(C:items[i]? = Ab x)
  (U:∀ h',h'.IsTupleIter it t (i+1)->El it s.heap h'->Q x { s with heap:=h' }) : Aq (Au prog w) A (Ea (.ref it)) Q E s:=by
 obtain⟨o,e,c,d⟩:=id Y;obtain⟨u,J,_,m,O⟩:=G;unfold Ea;refine Ac (Dw (name:=Hk "__next__") Y.typeIs Jo (Dv Jo Y.typeIs Rk ?_ (Rg _)));show Aq _ _ (field (.ref it) 0 >>= _) _ _ s;refine Ac (Ei e d (x:=.ref t) rfl ?_);show Aq _ _ (if (Cy t == Dd)=true then _ else _) _ _ s;rw[Bh (show ¬ ((Cy t == Dd)=true) from Es)]
 show Aq _ _ (field (.ref it) 1 >>= _) _ _ s;refine Ac (Ei e d (x:=.int i 0) rfl ?_);show Aq _ _ (seqItems? (.ref t) >>= _) _ _ s;refine Ac (Gu J O ?_);simp only[Ez,C];refine Ac (Kn e d (by simp) (Am ⟨x,rfl,Am (U _ ⟨_,Ev _ e (Vx (Og d _)),(Zt ..).trans c,?_⟩ (Fl ..))⟩))
 rw[Og d];simp[Ks]
theorem hJ {it t:Af}{i:Ag}{items:Ay Ad}{Q:ab}(J:A.handled=none)(Y:s.heap.IsTupleIter it t i)(G:s.heap.IsTuple t items)(B:items[i]? = none)
  (C:∀ h' e,Aa2 it s.heap h'->(∃ o,h'.get? e=Ab o/\o.cls=.type "StopIteration")->E (.ref e) { s with heap:=h' }) : Aq (Au prog w) A (Ea (.ref it)) Q E s:=by
 obtain⟨o,e,c,d⟩:=id Y;obtain⟨u,U,_,m,O⟩:=G;unfold Ea;refine Ac (Dw (name:=Hk "__next__") Y.typeIs Jo (Dv Jo Y.typeIs Rk ?_ (Rg _)));show Aq _ _ (field (.ref it) 0 >>= _) _ _ s;refine Ac (Ei e d (x:=.ref t) rfl ?_);show Aq _ _ (if (Cy t == Dd)=true then _ else _) _ _ s;rw[Bh (show ¬ ((Cy t == Dd)=true) from Es)]
 show Aq _ _ (field (.ref it) 1 >>= _) _ _ s;refine Ac (Ei e d (x:=.int i 0) rfl ?_);show Aq _ _ (seqItems? (.ref t) >>= _) _ _ s;refine Ac (Gu U O ?_);simp only[Ez,B];refine Ac (Gf (Ac (Kn e d (by simp) ?_)))
 show Aq _ _ (Aa3 (.type "StopIteration") [] >>= _) _ _ _;refine Ac ?_;simp only[Aa3,AaL];refine Ac (Dt ?_ (by size_fits))
 refine Ac (m:=Mn _ _) (Vy (a:=Dd) (by first|rfl|(simp only[Mn];rfl)) (Dt ?_ (by size_fits)))
 simp only[AaM];refine Ac (Xv ?_)
 first|rw[show A.in1.handled=none from J]|rw[J]
 exact Ac (Am (Aa4 (C _ _ (((Fl ..).extBut.push _).push _) ⟨_,Be _ rfl,rfl⟩)))
theorem p9 {it l:Af}{k:Ag}{x:Ad}(Y:zO tp s.heap it l k)(U:xZ tp s.heap l xs)(G:xs[k]? = Ab x)
  (J:∀ h',zO tp h' it l (k+1)->El it s.heap h'->Q x { s with heap:=h' }) : Aq (Au prog w) A (Ea (.ref it)) Q E s:=by
 cases tp with
 |false=>exact wpAny_nextOf_list_item Y U G J
 |true=>exact J7 Y U G J
theorem jH {it l:Af}{k:Ag}{Q:ab}(O:A.handled=none)(Y:zO tp s.heap it l k)(U:xZ tp s.heap l xs)(G:xs[k]? = none)
  (J:∀ h' e,Aa2 it s.heap h'->(∃ o,h'.get? e=Ab o/\o.cls=.type "StopIteration")->E (.ref e) { s with heap:=h' }) : Aq (Au prog w) A (Ea (.ref it)) Q E s:=by
 cases tp with
 |false=>exact wpAny_nextOf_list_end O Y U G J
 |true=>exact hJ O Y U G J
structure ZA (z I O i j:Af):Prop where
 Iz:I≠z
 Oz:O≠z
 iz:i≠z
 jz:j≠z
 IO:I≠O
 Ii:I≠i
 Ij:I≠j
 Oi:O≠i
 Oj:O≠j
 ij:i≠j
structure Off (z O i j a:Af):Prop where
 z:a≠z
 O:a≠O
 i:a≠i
 j:a≠j
abbrev V0 (z O i j:Af)(h h':Cb):Prop:=∀ c o,c≠z->c≠O->c≠i->c≠j->h.get? c=Ab o->h'.get? c=Ab o
theorem KU {g:As}{z I O i j a b:Af}{k:Ag}{x y p q:Ad}(D:ZA z I O i j)(Da:Off z O i j a)(f:Off z O i j b)
  (hz:Rl s.heap z I O .none) (hI:Jp s.heap I (.ref i) (.ref j)) (hO:Jp s.heap O p q) (h1:zO tp s.heap i a k) (h2:zO g s.heap j b k) (ha:xZ tp s.heap a xs) (hb:xZ g s.heap b ys) (hx:xs[k]? = Ab x) (hy:ys[k]? = Ab y)
  (hQ:∀ h',Rl h' z I O (Ks s.heap.objs.size)->Jp h' O x y->zO tp h' i a (k+1)->zO g h' j b (k+1)->Jp h' s.heap.objs.size x y->h'.objs.size=s.heap.objs.size+1->V0 z O i j s.heap h'->Q (.ref s.heap.objs.size) { s with heap:=h' }) :
  Aq (Au prog w) A (Hr.«zip.__next__» ⟨[.ref z],[]⟩) (λfin s'=>∃ v,fin=.done (.ret v)/\Q v s') E s:=by
 show Aq _ _ (field (.ref z) 2 >>= _) _ _ _;refine Ac (Ei hz rfl (x:=.bool false) rfl ?_);show Aq _ _ (field (.ref z) 3 >>= _) _ _ _;refine Ac (Ei hz rfl (x:=.ref I) rfl (Ac (Gu hI rfl ?_)));show Aq _ _ (Et (.ref z) >>= _) _ _ _;refine Ac ?_;unfold Et;refine Ac (Ei hz rfl (x:=.none) rfl (Am ?_));simp only[Dp];refine Ac (Gf (Ac (Ei hz rfl (x:=.ref O) rfl (Ac (Fg hz (by simp) λg1 z1 U=>?_)))))
 replace z1:Rl g1 z I O .ellipsis:=z1
 refine Ac ?_;simp only[T0,AaN,Nr,Ow];refine Ac (Ac (Sy ?_));show Aq _ _ (Ea (.ref i) >>= _) _ _ _;refine Ac (p9 (h1.keep λo e=>U.extBut _ _ D.iz e) (ha.keep λo e=>U.extBut _ _ Da.z e) hx λg2 i2 G=>Am ?_);have O2:Jp g2 O p q:=G.extBut _ _ D.Oi (U.extBut _ _ D.Oz hO);refine Ac (Gu O2 rfl (Ac (Qp O2 λg3 t C=>Ac (Vz (Am ?_)))))
 replace t:Jp g3 O x q:=t
 refine Ac (Ac (Sy ?_));show Aq _ _ (Ea (.ref j) >>= _) _ _ _;refine Ac (p9 (h2.keep λo e=>C.extBut _ _ D.Oj.symm (G.extBut _ _ D.ij.symm (U.extBut _ _ D.jz e))) (hb.keep λo e=>C.extBut _ _ f.O (G.extBut _ _ f.i (U.extBut _ _ f.z e))) hy λg4 j4 T=>Am ?_);have O4:Jp g4 O x q:=T.extBut _ _ D.Oj t;refine Ac (Gu O4 rfl (Ac (Qp O4 λY l L=>Ac (Vz (Am (Am ?_))))))
 replace l:Jp Y O x y:=l
 refine Ac (Gu l rfl (Ac (Wr ?_)));have sz:Y.objs.size=s.heap.objs.size:=by rw[L.1,T.1,C.1,G.1,U.1]
 have z5:Rl Y z I O .ellipsis:=L.extBut _ _ D.Oz.symm (T.extBut _ _ D.jz.symm (C.extBut _ _ D.Oz.symm (G.extBut _ _ D.iz.symm z1)));have k5:V0 z O i j s.heap Y:=λc o J u h d e=>L.extBut _ _ u (T.extBut _ _ d (C.extBut _ _ u (G.extBut _ _ h (U.extBut _ _ J e))));have i5:zO tp Y i a (k+1):=i2.keep λo e=>L.extBut _ _ D.Oi.symm (T.extBut _ _ D.ij (C.extBut _ _ D.Oi.symm e));have j5:zO g Y j b (k+1):=j4.keep λo e=>L.extBut _ _ D.Oj.symm e;have zl:z<Y.objs.size:=Bg z5;show Aq _ _ (Gx (.ref z) (.ref Y.objs.size) >>= _) _ _ _;refine Ac ?_;unfold Gx;have z6:Rl (Y.push { cls:=.type "tuple",data:=.seq #[x,y] }) z I O .ellipsis:=Ai _ z5;refine Ac (Fg z6 (by simp) λg7 n r=>?_)
 replace n:Rl g7 z I O (Ks Y.objs.size):=n
 refine Fg n (by simp) λH M s8=>?_
 replace M:Rl H z I O (Ks Y.objs.size):=M
 have up:∀ c o,c≠z->Y.get? c=Ab o->H.get? c=Ab o:=λc o J e=>s8.extBut _ _ J (r.extBut _ _ J (Ai _ e));have T8:Jp H Y.objs.size x y:=s8.extBut _ _ (Hj zl) (r.extBut _ _ (Hj zl) (Be _ rfl));have B:H.objs.size=Y.objs.size+1:=by rw[s8.1,r.1,Em]
 rw[sz] at M T8 B;refine Am ⟨_,rfl,?_⟩;show Q (.ref Y.objs.size) _;rw[sz];exact hQ H M (up _ _ D.Oz l) (i5.keep λo e=>up _ o D.iz e) (j5.keep λo e=>up _ o D.jz e) T8 B λc o J u h d e=>up c o J (k5 c o J u h d e)
end
section
variable {prog:Bo}{w:Cd}{A:Bu}{E:ab}{s:Ah}
theorem KW {tq:As}{z I O i j a b:Af}{k:Ag}{p q:Ad}{Q:Fin->Ah->Prop}(hh:A.handled=none)(D:ZA z I O i j)(Da:Off z O i j a)(g:Off z O i j b)
  (hz:Rl s.heap z I O .none) (hI:Jp s.heap I (.ref i) (.ref j)) (hO:Jp s.heap O p q) (h1:zO tp s.heap i a k) (h2:zO tq s.heap j b k) (ha:xZ tp s.heap a xs) (hb:xZ tq s.heap b ys) (L:xs[k]? = none\/ys[k]? = none)
  (hE:∀ h' e,V0 z O i j s.heap h'->(∃ o,h'.get? e=Ab o/\o.cls=.type "StopIteration")->E (.ref e) { s with heap:=h' }) : Aq (Au prog w) A (Hr.«zip.__next__» ⟨[.ref z],[]⟩) Q E s:=by
 show Aq _ _ (field (.ref z) 2 >>= _) _ _ _;refine Ac (Ei hz rfl (x:=.bool false) rfl ?_);show Aq _ _ (field (.ref z) 3 >>= _) _ _ _;refine Ac (Ei hz rfl (x:=.ref I) rfl (Ac (Gu hI rfl ?_)));show Aq _ _ (Et (.ref z) >>= _) _ _ _;refine Ac ?_;unfold Et;refine Ac (Ei hz rfl (x:=.none) rfl (Am ?_));simp only[Dp];refine Ac (Gf (Ac (Ei hz rfl (x:=.ref O) rfl (Ac (Fg hz (by simp) λd M Y=>?_)))))
 replace M:Rl d z I O .ellipsis:=M
 refine Ac ?_;simp only[T0,AaN,Nr,Ow];refine Ac (Ac (Sy ?_));show Aq _ _ (Ea (.ref i) >>= _) _ _ _;have T:zO tp d i a k:=h1.keep λo e=>Y.extBut _ _ D.iz e;have B:xZ tp d a xs:=ha.keep λo e=>Y.extBut _ _ Da.z e;cases r:xs[k]? with
 |none =>
  refine Ac (jH hh T B r λf e x2 u=>?_);obtain⟨v,J,H⟩:=u;have z2:Rl f z I O .ellipsis:=x2 _ _ D.iz.symm M;have l:e≠z:=λy=>by subst y;rw[z2] at J;cases J;simp at H
  exact Fg z2 (by simp) λn _ U=>hE n e (λc o G _ t _ y=>U.extBut _ _ G (x2 _ _ t (Y.extBut _ _ G y))) ⟨v,U.extBut _ _ l J,H⟩
 |some x =>
  have hy:ys[k]? = none:=by
   rcases L with y|y
   .rw[r] at y;cases y
   .exact y
  refine Ac (p9 T B r λf i2 C=>Am ?_);have O2:Jp f O p q:=C.extBut _ _ D.Oi (Y.extBut _ _ D.Oz hO);refine Ac (Gu O2 rfl (Ac (Qp O2 λn O3 U=>Ac (Vz (Am ?_)))));refine Ac (Ac (Sy ?_));show Aq _ _ (Ea (.ref j) >>= _) _ _ _;refine Ac (jH hh (h2.keep λo e=>U.extBut _ _ D.Oj.symm (C.extBut _ _ D.ij.symm (Y.extBut _ _ D.jz e))) (hb.keep λo e=>U.extBut _ _ g.O (C.extBut _ _ g.i (Y.extBut _ _ g.z e))) hy λg4 e x4 u=>?_);obtain⟨v,J,H⟩:=u;have z4:Rl g4 z I O .ellipsis:=x4 _ _ D.jz.symm (U.extBut _ _ D.Oz.symm (C.extBut _ _ D.iz.symm M));have l:e≠z:=λy=>by subst y;rw[z4] at J;cases J;simp at H
  exact Fg z4 (by simp) λg5 _ h=>hE g5 e (λc o G c2 t c4 y=>h.extBut _ _ G (x4 _ _ c4 (U.extBut _ _ c2 (C.extBut _ _ t (Y.extBut _ _ G y))))) ⟨v,h.extBut _ _ l J,H⟩
noncomputable abbrev u6 (tp:As)(l:Af):Cw:={ cls:=.type (if tp then "tuple_iterator" else "list_iterator"),data:=.fields #[.ref l,.int 0 0] }
abbrev xn (tp:As)(h:Cb)(a:Af):Cb:=h.push (u6 tp a)
abbrev xm (tp Y:As)(h:Cb)(a b:Af):Cb:=(xn tp h a).push (u6 Y b)
abbrev xk (tp Y:As)(h:Cb)(a b:Af):Cb:=(xm tp Y h a b).push { cls:=.type "tuple",data:=.seq #[.ref h.objs.size,.ref (xn tp h a).objs.size] }
abbrev xj (tp Y:As)(h:Cb)(a b:Af):Cb:=(xk tp Y h a b).push { cls:=.type "tuple",data:=.seq #[.none,.none] }
abbrev sn (tp Y:As)(h:Cb)(a b:Af):Cb:=(xj tp Y h a b).push { cls:=.type "zip",data:=.fields #[.none,.bool false,.bool false,.ref (xm tp Y h a b).objs.size,.ref (xk tp Y h a b).objs.size] }
set_option maxHeartbeats 4000000 in
theorem NM (tp:As)(a b:Af)(xs ys:Ay Ad) :
  Meets (Hr.«zip.__new__» ⟨[.type "zip",.ref a,.ref b],[]⟩) (λ_ R s=>xZ tp s.heap a xs/\xZ tp s.heap b ys/\R (.ok (.ret (.ref (xj tp tp s.heap a b).objs.size))) { s with heap:=sn tp tp s.heap a b }):=
 .of_wp λprog w A R s h=>by
  obtain⟨Y,g,d,J,os⟩:=s;obtain⟨L,T,h⟩:=h;have C:=sub_zip;have O:∀ B:Cw,xZ tp (Y.push B) b ys:=λB=>T.keep λo e=>Ai _ e;cases tp
  .have U:Aa5 (Qb ⟨Y,g,d,J,os⟩) a xs:=L
   have G:Aa5 (Qb ⟨Y.push { cls:=.type "list_iterator",data:=.fields #[.ref a,.int 0 0] },g,d,J,os⟩) b ys:=O _
   wp_walk using Gn U,Gn G
   exact⟨_,rfl,h⟩
  .have U:Za (Qb ⟨Y,g,d,J,os⟩) a xs:=L
   have G:Za (Qb ⟨Y.push { cls:=.type "tuple_iterator",data:=.fields #[.ref a,.int 0 0] },g,d,J,os⟩) b ys:=O _
   wp_walk using Hb U,Hb G
   exact⟨_,rfl,h⟩
theorem gW {h:Cb}{it l:Af}(e:h.get? it=Ab (u6 tp l)):zO tp h it l 0:=by
 cases tp
 .exact⟨_,e,rfl,rfl⟩
 .exact⟨_,e,rfl,rfl⟩
theorem VB {a b:Af}(H:xZ tp s.heap a xs)(z:xZ tp s.heap b ys)
  (h:∀ h',Rl h' (s.heap.objs.size+4) (s.heap.objs.size+2) (s.heap.objs.size+3) .none->Jp h' (s.heap.objs.size+2) (.ref s.heap.objs.size) (.ref (s.heap.objs.size+1)) ->
   Jp h' (s.heap.objs.size+3) .none .none->zO tp h' s.heap.objs.size a 0->zO tp h' (s.heap.objs.size+1) b 0->h'.objs.size=s.heap.objs.size+5->(∀ c o,s.heap.get? c=Ab o->h'.get? c=Ab o)->Q (.ref (s.heap.objs.size+4)) { s with heap:=h' }) :
  Aq (Au prog w) A (call (.type "zip") [.ref a,.ref b]) Q E s:=by
 refine callType_new F.called_zip (by decide) (F.typeCall_zip_2 _ _) (F.newCall_zip_2 _ _) (λO=>F.args_object_init_3 O _ _) F.entry_zip_new (NM tp a b xs ys) ⟨H,z,?_⟩
 have G:(xn tp s.heap a).objs.size=s.heap.objs.size+1:=Em ..;have J:(xm tp tp s.heap a b).objs.size=s.heap.objs.size+2:=by rw[Em,G]
 have Y:(xk tp tp s.heap a b).objs.size=s.heap.objs.size+3:=by rw[Em,J]
 have C:(xj tp tp s.heap a b).objs.size=s.heap.objs.size+4:=by rw[Em,Y]
 have j:(sn tp tp s.heap a b).objs.size=s.heap.objs.size+5:=by rw[Em,C]
 have U:(sn tp tp s.heap a b).get? (xj tp tp s.heap a b).objs.size=Ab _:=Be _ rfl;have T:(sn tp tp s.heap a b).get? (xk tp tp s.heap a b).objs.size=Ab _:=Ai _ (Be _ rfl);have B:(sn tp tp s.heap a b).get? (xm tp tp s.heap a b).objs.size=Ab _:=Ai _ (Ai _ (Be _ rfl));have L:(sn tp tp s.heap a b).get? (xn tp s.heap a).objs.size=Ab (u6 tp b):=Ai _ (Ai _ (Ai _ (Be _ rfl)));have M:(sn tp tp s.heap a b).get? s.heap.objs.size=Ab (u6 tp a):=Ai _ (Ai _ (Ai _ (Ai _ (Be _ rfl))));have I:∀ c o,s.heap.get? c=Ab o->(sn tp tp s.heap a b).get? c=Ab o:=λc o e=>Ai _ (Ai _ (Ai _ (Ai _ (Ai _ e))));show _/\_;rw[J,Y,C] at U;rw[G,J] at B;rw[Y] at T;rw[G] at L;rw[C];exact⟨⟨_,U,rfl⟩,h _ U B T (gW M) (gW L) j I⟩
end
def Sq (tp:As)(K:Ak)(H:Hp)(a:Af)(xs:Aa V):Prop:=if tp then iq K H a xs else ji K H a xs
section
variable {X:Cx}{ai:aa}{σ : _L.St}{H:Hp}{s:Ah}
theorem Sq.at {a:Af}{xs:Aa V}(I:Inv X ai σ H s)(q:Sq tp X.K H a xs):∃ am,qI xs am/\xZ tp s.heap a am.toArray:=by
 cases tp with
 |true =>
  obtain⟨am,Y,p,_⟩:=I.tuple q;exact⟨am,Y,p⟩
 |false =>
  obtain⟨am,Y,p,_⟩:=I.list q;exact⟨am,Y,p.isList⟩
theorem Sq.inj {a:Af}{xs ys:Aa V}(I:Inv X ai σ H s)(q:Sq tp X.K H a xs)(Y:Sq tp X.K H a ys):xs=ys:=by
 cases tp with
 |true=>exact I.tuple_inj q Y
 |false=>exact I.list_inj q Y
theorem Sq.off {a b:Af}{xs:Aa V}(I:Inv X ai σ H s)(q:Sq tp X.K H a xs)(f:xJ X ai H b):a≠b:=by
 have Y:H a≠none\/∃ o,X.K.lookup a=Ab o:=by
  cases tp with
  |true =>
   rcases q with (q|⟨o,q⟩)|⟨o,_,_,q,_⟩
   .exact .inl (by rw[q];intro z;cases z)
   .exact .inl (by rw[q];intro z;cases z)
   .exact .inr ⟨_,q⟩
  |false =>
   rcases q with (q|⟨o,q⟩)|⟨o,_,_,q,_⟩
   .exact .inl (by rw[q];intro z;cases z)
   .exact .inl (by rw[q];intro z;cases z)
   .exact .inr ⟨_,q⟩
 rintro rfl;rcases Y with k|⟨o,k⟩
 .exact k f.1
 .have e:=I.mod.kin a o k
  rcases f.2.2.2.1 with z|z
  .exact I.ok.noex a o e z
  .exact absurd (Bg (I.ok.bs a o e).1) (Pm.mpr z)
theorem Inv.turnLay {fp:ae}{T:Af}{xs:Aa V}{am:ag}(I:Inv X ai σ H s)(J:∀ b∈fp,xJ X ai H b)(k:∀ b o,b ∉ fp->s.heap.get? b=Ab o->h'.get? b=Ab o)(j:∀ b∈fp,∃ o,h'.get? b=Ab o)
  (hT:s.heap.objs.size<=T) (B:qI xs am) (A:Ri h' T am.toArray) (hz:xs.length<=sizeLine):Inv X ai σ (b_ H T (.tup xs)) { s with heap:=h' }:=by
 have G:H T=none:=I.hok.fresh hT;have O:∀ b o,s.heap.get? b=Ab o->b≠T:=λb o e=>Cu (Bl (Bg e) hT);refine I.step (g':=s.gens) (d':=s.drawn) (t':=s.toks) (ch:=fp) (λb Y=>⟨(J b Y).2.2.2.1,(J b Y).2.1,(J b Y).2.2.2.2.1,(J b Y).2.2.2.2.2⟩) (λb o _ _ hc e _=>k b o hc e) (λb o _ _ hc e _=>⟨o.slots,k b o hc e⟩)
  (λb o _ e n=>by rw[qP (O b o e)];exact n) (λb o hc e=>⟨o,k b o hc e⟩) (λb ys e=>by rw[qP (zG e G)];exact e) (λb o u e=>by rw[qP (zG e G)];exact e)
  (λb w e=>⟨#[],by rw[qP (zG e G),e];simp⟩) (λm C=>?_) (λb u e=>?_) I.bare
 .obtain⟨o,M,E,L,r⟩:=C
  exact⟨o,M,E,k _ o (λz=>(J _ z).2.1 rfl) L,r⟩
 .by_cases Y:b=T
  .subst Y
   rw[z9] at e;cases e;exact⟨hz,am,B,A⟩
  .rw[qP Y] at e
   refine(I.hok b u e).stay (λc v hc q=>k c v (λz=>?_) q) (λc q=>by rw[qP (zG q G)];exact q) λc ys q=>by rw[qP (zG q G)];exact q
   have U:=(J c z).1;rcases hc with rfl|hc
   .rw[U] at e;cases e
   .rw[U] at hc;cases hc
theorem Inv.turnL {fp:ae}(I:Inv X ai σ H s)(Y:∀ b∈fp,xJ X ai H b)(k:∀ b o,b ∉ fp->s.heap.get? b=Ab o->h'.get? b=Ab o):Inv X ai σ H { s with heap:=h' }:=by
 refine I.step (g':=s.gens) (d':=s.drawn) (t':=s.toks) (ch:=fp) (λb U=>⟨(Y b U).2.2.2.1,(Y b U).2.1,(Y b U).2.2.2.2.1,(Y b U).2.2.2.2.2⟩) (λb o _ _ hc e _=>k b o hc e) (λb o _ _ hc e _=>⟨o.slots,k b o hc e⟩)
  (λb o _ e n=>n) (λb o hc e=>⟨o,k b o hc e⟩) (λb ys e=>e) (λb o u e=>e) (λb L e=>⟨#[],by rw[e];simp⟩) (λm G=>?_) (λb u e=>?_) I.bare
 .obtain⟨o,B,C,O,r⟩:=G
  exact⟨o,B,C,k _ o (λz=>(Y _ z).2.1 rfl) O,r⟩
 .refine(I.hok b u e).stay (λc v hc q=>k c v (λz=>?_) q) (λc q=>q) λc ys q=>q
  have J:=(Y c z).1;rcases hc with rfl|hc
  .rw[J] at e;cases e
  .rw[J] at hc;cases hc
end
def T_ (tp:As)(K:Ak)(a b:Af):It:=
  ⟨λi H=>∃ xs ys x y,Sq tp K H a xs/\Sq tp K H b ys/\xs[i]? = Ab x/\ys[i]? = Ab y,
   λi H v Y=>∃ T x y,v=.ref T/\H T=none/\Y=b_ H T (.tup [x,y])/\(∀ xs,Sq tp K H a xs->xs[i]? = Ab x)/\∀ ys,Sq tp K H b ys->ys[i]? = Ab y,
   λi H=>∃ xs ys,Sq tp K H a xs/\Sq tp K H b ys/\(xs.length<=i\/ys.length<=i)⟩
def oT (tp:As)(z I O i j a b:Af)(k:Ag)(h:Cb):Prop:=∃ p q,Rl h z I O .none/\Jp h I (.ref i) (.ref j)/\Jp h O p q/\zO tp h i a k/\zO tp h j b k
theorem bX {z I O i j a b:Af}{k:Ag}{h:Cb}(st:oT tp z I O i j a b k h):∀ c∈[z,I,O,i,j],∃ o,h.get? c=Ab o/\∀ v,o.data≠.cell v:=λc Y=>by
 obtain⟨p,q,U,J,C,B,G⟩:=st;simp only[Bc,Do,Gy] at Y;rcases Y with rfl|rfl|rfl|rfl|rfl
 .exact⟨_,U,λv y=>by cases y⟩
 .exact⟨_,J,λv y=>by cases y⟩
 .exact⟨_,C,λv y=>by cases y⟩
 .exact B.there
 .exact G.there
theorem GU {c z I O i j:Af}(h:c ∉ [z,I,O,i,j]):c≠z/\c≠O/\c≠i/\c≠j:=by
 simp only[Bc,Do,Gy,Aa6] at h;exact⟨h.1,h.2.2.1,h.2.2.2.1,h.2.2.2.2⟩
theorem KL {P:Bo}{w:Cd}{K:Ak}{gj:Aa Bz}{x1:Ag}{gh:Fn}{z I O i j a b:Af}(D:ZA z I O i j):kz P w K (.Tuple gj x1 gh) (T_ tp K a b) [z,I,O,i,j] z (oT tp z I O i j a b) where
 mem:=.head _
 obj:=λk h st=>bX st
 keep:=λk h h' st M=>by
  obtain⟨p,q,G,L,f,d,v⟩:=st;exact⟨p,q,M z (.head _) _ G,M I (.tail _ (.head _)) _ L,M O (.tail _ (.tail _ (.head _))) _ f,d.keep λo e=>M i (.tail _ (.tail _ (.tail _ (.head _)))) o e,v.keep λo e=>M j (.tail _ (.tail _ (.tail _ (.tail _ (.head _))))) o e⟩
 item:=by
  intro X hP hw hK Y k ai s σ H E J U st hg;subst hP hw hK;obtain⟨p,q,G,L,f,d,v⟩:=st;obtain⟨xs,ys,x,y,g,l,hx,hy⟩:=hg;obtain⟨ia,ra,ha⟩:=g.at J;obtain⟨ib,rb,hb⟩:=l.at J;obtain⟨u,hu,ru⟩:=ra.get hx;obtain⟨u',zv,zb⟩:=rb.get hy;have C:∀ {c:Af} {A:Aa V},Sq tp X.K H c A->Off z O i j c:=λ{c A} B=>⟨B.off J (U z (.head _)),B.off J (U O (.tail _ (.tail _ (.head _)))),B.off J (U i (.tail _ (.tail _ (.tail _ (.head _))))),B.off J (U j (.tail _ (.tail _ (.tail _ (.tail _ (.head _))))))⟩;have hT:s.TypeIs (.ref z) "zip":=⟨_,G,rfl⟩;unfold Li;refine Ac (Je (Dw (name:=Hk "__next__") hT Qw (Dv Qw hT Aa7
   (KU D (C g) (C l) G L f d v ha hb (by simpa using hu) (by simpa using zv) λh' a1 a2 a3 a4 a5 a6 a7=>Am ?_) (Zu _))))
  refine⟨_,rfl,wpAny_letOwnedTupleGo_zip (s:={ s with heap:=h' }) a1 λh2 b1 b2=>?_⟩
  have up:∀ c o,c≠z->h'.get? c=Ab o->h2.get? c=Ab o:=λc o n e=>(b2.2 c n).trans e;have zl:z<s.heap.objs.size:=Bg G;have T2:Jp h2 s.heap.objs.size u u':=up _ _ (Hj zl) a5;have r:oT tp z I O i j a b (k+1) h2:=⟨u,u',b1,up _ _ D.Iz (a7 I _ D.Iz D.IO D.Ii D.Ij L),up _ _ D.Oz a2,a3.keep λo e=>up _ o D.iz e,a4.keep λo e=>up _ o D.jz e⟩;refine⟨.ref s.heap.objs.size,b_ H s.heap.objs.size (.tup [x,y]),?_,rfl,⟨_,x,y,rfl,J.hok.fresh (Av _),rfl,λA qz=>by rw[qz.inj J g];exact hx,λA qz=>by rw[qz.inj J l];exact hy⟩,r,λc Y=>?_⟩
  .show _L.Inv X ai σ (b_ H s.heap.objs.size (.tup [x,y])) { s with heap:=h2 }
   refine Inv.turnLay (fp:=[z,I,O,i,j]) (am:=[u,u']) J U (λc o Y e=>?_) (λc Y=>?_) (Av _) (.cons ru (.cons zb .nil)) ⟨_,T2,rfl,_,rfl⟩ (by show 2<=sizeLine;decide)
   .have Y:=GU Y
    exact up c o Y.1 (a7 c o Y.1 Y.2.1 Y.2.2.1 Y.2.2.2 e)
   .obtain⟨o,e,_⟩:=bX r c Y
    exact⟨o,e⟩
  .have hn:=(U c Y).1
   rw[qP ?_]
   .exact hn
   .rintro rfl
    obtain⟨o,e,_⟩:=bX ⟨p,q,G,L,f,d,v⟩ _ Y;exact absurd (Bg e) (Ep _)
 done:=by
  intro X hP hw hK Y k ai s σ H E J U st hg;subst hP hw hK;obtain⟨p,q,G,L,f,d,v⟩:=st;obtain⟨xs,ys,g,l,t⟩:=hg;obtain⟨ia,ra,ha⟩:=g.at J;obtain⟨ib,rb,hb⟩:=l.at J;have C:∀ {c:Af} {A:Aa V},Sq tp X.K H c A->Off z O i j c:=λ{c A} B=>⟨B.off J (U z (.head _)),B.off J (U O (.tail _ (.tail _ (.head _)))),B.off J (U i (.tail _ (.tail _ (.tail _ (.head _))))),B.off J (U j (.tail _ (.tail _ (.tail _ (.tail _ (.head _))))))⟩;have hT:s.TypeIs (.ref z) "zip":=⟨_,G,rfl⟩;have l1:=ra.length;have l2:=rb.length;unfold Li;refine Ac (Je (Dw (name:=Hk "__next__") hT Qw (Dv Qw hT Aa7
   (KW (J.ok.hd Y) D (C g) (C l) G L f d v ha hb ?_ λh' e M he=>?_) (Zu _))))
  .rcases t with y|y
   .exact .inl (by simp;lia)
   .exact .inr (by simp;lia)
  .obtain⟨o,ho,zc⟩:=he
   refine Ac (Ky (T:="StopIteration") (b:=true) ⟨o,ho,zc⟩ Rm (Am ⟨rfl,Inv.turnL (fp:=[z,I,O,i,j]) J U λc o Y e=>?_⟩));have Y:=GU Y;exact M c o Y.1 Y.2.1 Y.2.2.1 Y.2.2.2 e
 self:=λ_ _ _ _ _ st h=>by
  obtain⟨p,q,G,_⟩:=st;exact wpAny_pyIter_zip G h
noncomputable def vX (xs ys:Aa D):Aa D:=List.zipWith (λx y=>D.tup [x,y]) xs ys
def CK (ds:Aa D):An (Aa D):=match ds with
 |[.tup xs,.tup ys]=>Ab (vX xs ys)
 |[.lst xs,.lst ys]=>Ab (vX xs ys)
 |_=>none
def Q4 (f:DA):DI:=λenv S=>(f env S).bind λds Y=>v7 (CK ds) Y
theorem KS {xs ys:Aa D}{i:Ag}:(vX xs ys)[i]? = match xs[i]?,ys[i]? with|some x,Ab y=>Ab (D.tup [x,y])|_,_=>none:=by
 unfold vX;rw[List.getElem?_zipWith];cases xs[i]? <;> cases ys[i]? <;> rfl
theorem mX (xs ys:Aa D):(vX xs ys).length=min xs.length ys.length:=by simp[vX]
section
variable {K:Ak}
theorem Sq.mono {P Y:Hp}(e:qF P Y){a:Af}{xs:Aa V}(q:Sq tp K P a xs):Sq tp K Y a xs:=by
 cases tp with
 |true=>exact wC e q
 |false=>exact e.seq q
theorem F8 {P:Hp}{a b:Af}{xs ys:Aa D}{Y:Aa V}(I:Sq tp K P a vs)(E:Sq tp K P b Y)(B:qC K P α xs vs)(L:qC K P α ys Y):sd K (T_ tp K a b) P α (vX xs ys) where
 go:=λi H z U S J r e _=>by
  rw[mX] at J;have O:i<vs.length:=by rw[<- B.length];lia
  have C:i<Y.length:=by rw[<- L.length];lia
  exact⟨vs,Y,vs[i],Y[i],I.mono (e.trans r.sub),E.mono (e.trans r.sub),by simp,by simp⟩
 yld:=λi H x f z U S J r e M y=>by
  obtain⟨T,u,w,rfl,l,rfl,c,p⟩:=y;rw[mX] at J;have O:i<xs.length:=by lia
  have C:i<ys.length:=by lia
  obtain⟨n,v,q⟩:=B.get (Ap O);obtain⟨s,g,k⟩:=L.get (Ap C);have A:=c vs (I.mono (e.trans r.sub));have j:=p Y (E.mono (e.trans r.sub));rw[v] at A;cases A;rw[g] at j;cases j;obtain⟨d,G⟩:=r.pure (o:=.tup [u,w]) l;refine⟨_,.tup [xs[i],ys[i]],?_,d,G,?_⟩
  .rw[KS,Ap O,Ap C]
  .exact fL (.of z9) (.cons (aq.mono (e.trans G) M _ _ q) (.cons (aq.mono (e.trans G) M _ _ k) .nil))
 stop:=λi H z U S J r e _=>by
  rw[mX] at J;have t:=B.length;have h:=L.length;exact⟨vs,Y,I.mono (e.trans r.sub),E.mono (e.trans r.sub),by lia⟩
end
section
variable {X:Cx}{e1 e2:Bz}{gj:Aa Bz}{x1:Ag}{gh:Fn}{f:DA}{p ao:Fn}
theorem YY {ai:aa}{σ:_L.St}{H P:Hp}{s:Ah}{a b:Af}{xs ys:Aa D}{Y:Aa V}(I:Inv X ai σ H s)(r:bf X.K H P α S)(U:Sq tp X.K P a vs)(J:Sq tp X.K P b Y)(E:qC X.K P α xs vs)(A:qC X.K P α ys Y)
  (q:vm X P α R (vX xs ys) S):Aq (Au X.prog X.w) X.A (call (.type "zip") [.ref a,.ref b]) (λv B=>Aq (Au X.prog X.w) X.A (Px v) (vj X ai σ (.Tuple gj x1 gh) R) X.xe B) X.xe s:=by
 obtain⟨l,o,T⟩:=(U.mono r.sub).at I;obtain⟨u,g,y⟩:=(J.mono r.sub).at I;refine VB T y λh' C M w L k d j=>?_;refine wpAny_pyIter_zip (s:={ s with heap:=h' }) C ?_
 have D:ZA (s.heap.objs.size+4) (s.heap.objs.size+2) (s.heap.objs.size+3) s.heap.objs.size (s.heap.objs.size+1):=by constructor <;> (intro z;simp at z)
 refine⟨_,[s.heap.objs.size+4,s.heap.objs.size+2,s.heap.objs.size+3,s.heap.objs.size,s.heap.objs.size+1],_,_,H,rfl,I.kept (t':=s.toks) j,KL (a:=a) (b:=b) D,⟨_,_,C,M,w,L,k⟩,λc G=>?_,q _ _ P α r (qF.refl _) (Bd _) (F8 U J E A)⟩;have O:s.heap.objs.size<=c:=by
  simp only[Bc,Do,Gy] at G;rcases G with rfl|rfl|rfl|rfl|rfl <;> simp
 exact I.fpOk O (I.hok.fresh O)
inductive yy (ds:Aa D)(its:Aa D):Prop
 |tup (xs ys:Aa D) (ed:ds=[.tup xs,.tup ys]) (e:its=vX xs ys)
 |lst (xs ys:Aa D) (ed:ds=[.lst xs,.lst ys]) (e:its=vX xs ys)
theorem NL (h:CK ds=Ab am):yy ds am:=by
 cases ds with
 |nil=>exact nn h
 |cons a ds =>
  cases a with
  |tup xs =>
   cases ds with
   |nil=>exact nn h
   |cons b ds =>
    cases b with
    |tup ys =>
     cases ds with
     |nil=>exact .tup xs ys rfl (Dc h).symm
     |cons _ _=>exact nn h
    |_=>exact nn h
  |lst xs =>
   cases ds with
   |nil=>exact nn h
   |cons b ds =>
    cases b with
    |lst ys =>
     cases ds with
     |nil=>exact .lst xs ys rfl (Dc h).symm
     |cons _ _=>exact nn h
    |_=>exact nn h
  |_=>exact nn h
theorem LX (g:Gl X "zip")(hm:X.mg "zip" = none)(o:PA X [e1,e2] (lv X f))(hs:Bs [e1,e2] X.env=(false,eval e1 X.env)::Bs [e2] X.env:=by rfl)(T:(Gi ao (Bs [e2] X.env)).any (·.1)=false:=by rfl) :
  PI X (.Tuple gj x1 gh) (.Call (.Name "zip" p) [e1,e2] [] ao) (qw X (Q4 f)):=by
 intro ai s σ H R I h;obtain⟨P,α,env,S,r,k,i⟩:=h;refine Call_ (vL I g hm boot_zip (Gc (bq (yM o I r k i ao) λus s1 ⟨vs,H1,P1,c,ds,S1,y,j,z,d,M,e1,e2,G⟩=>?_) hs T));obtain⟨am,n,q⟩:=vU G;cases NL n with
 |tup xs ys A e =>
  subst A e;obtain⟨v,w,u,x,rfl,rfl,J,Y,O,E⟩:=fM M j;simp only[aq] at J Y;obtain⟨a,l,rfl,L,U⟩:=J;obtain⟨b,t,rfl,B,C⟩:=Y;cases (show u=Cy a from O)
  cases (show x=Cy b from E)
  exact YY (tp:=true) y z L B U C (q.base e1 e2)
 |lst xs ys A e =>
  subst A e;obtain⟨v,w,u,x,rfl,rfl,J,Y,O,E⟩:=fM M j;simp only[aq] at J Y;obtain⟨a,l,rfl,L,U⟩:=J;obtain⟨b,t,rfl,B,C⟩:=Y;cases (show u=Cy a from O)
  cases (show x=Cy b from E)
  exact YY (tp:=false) y z L.l B.l U C (q.base e1 e2)
end
def ud (K:Ak)(J:ah)(x:Aw)(st:Fz)(ps:Aa Aw):Prop:=∃ f Y,J x=Ab (.ref f)/\se K x x st f Y/\uM K Y ps []
def Lk (K:Ak)(f:Af)(fd:Fu):Prop:=∃ U J Y,K.lookup f=Ab ⟨U,J,.func fd,Y⟩
theorem tR {K:Ak}{x q:Aw}{st:Fz}{f:Af}{fd:Fu}(F:se K x q st f fd):Lk K f fd:=by
 obtain⟨G,O,kV,U,L,C,J,B,Y,_,lk,_⟩:=F.ex;exact⟨G,O,Y,lk⟩
theorem Lk.one {K:Ak}{f:Af}{fd Y:Fu}(h:Lk K f fd)(h':Lk K f Y):fd=Y:=by
 obtain⟨B,L,C,e⟩:=h;obtain⟨G,O,J,U⟩:=h';rw[e] at U;cases U;rfl
def qv (P:Bo)(w:Cd)(K:Ak)(U:ah)(base:Cb)(cm:As)(k:Ag)(x:Aw)(n:Ag)(F:DF):Prop:=
 ∃ f Y J,J.length=n/\U x=Ab (.ref f)/\Gs K (.ref f)=true/\uM K Y J [] /\ Lk K f Y/\nw P w K U base cm k f Y J (so K n F)
def rB (P:Bo)(w:Cd)(K:Ak)(J:ah)(base:Cb)(cm:As)(k:Ag)(x:Aw)(ps:Aa Aw)(F:DF):Prop:=
 ∃ f Y,J x=Ab (.ref f)/\Gs K (.ref f)=true/\uM K Y ps [] /\ Lk K f Y/\nw P w K J base cm k f Y ps (so K ps.length F)
section
variable {P:Bo}{w:Cd}{K:Ak}{mg:ah}{base:Cb}{cm:As}
theorem GC {x:Aw}{f:Af}{fd:Fu}{Y:Ad}(hm:mg x=Ab (.ref f))(lk:Lk K f fd)(h:fd.code=Y/\Mod K mg base):fV K x Y:=λc T e=>by
 obtain⟨U,G,J,lk⟩:=lk;rw[<- h.1];exact PySem.W.law_code h.2.kin h.2.glob e hm (h.2.kin _ _ lk) rfl
theorem LS {x:Aw}{st:Fz}{ps:Aa Aw}{k:Ag}{g:DS}(h:ud K mg x st ps)(S:cy N ps (qK st))
  (J:∀ (f:Af) (Y:Ad) (A:Bu) (U:Aa Kh) (s:Ah) (H:Hp) (E:XK),fV K x Y->az cm k (A.deeper (He x (qK st) s.heap.objs.size f Y)) ->
   ir (ly cm P w K mg base N x (qK st) f Y A U s H E) (zZ st) (iu (ly cm P w K mg base N x (qK st) f Y A U s H E) g)):qv P w K mg base cm (k+1) x ps.length (qL N.length g):=by
 obtain⟨f,O,G,F,L⟩:=h;exact⟨f,O,ps,rfl,G,F.kp,L,tR F,fnX F S λY A U s H E B C=>J f Y A U s H E (GC G (tR F) B) C⟩
theorem BD {x:Aw}{st:Fz}{ps:Aa Aw}{k:Ag}{g:DS}(h:ud K mg x st ps)(S:cy N ps (qK st))
  (J:∀ (f:Af) (Y:Ad) (A:Bu) (U:Aa Kh) (s:Ah) (H:Hp) (E:XK),fV K x Y->az cm k (A.deeper (He x (qK st) s.heap.objs.size f Y)) ->
   ir (ly cm P w K mg base N x (qK st) f Y A U s H E) (zZ st) (iu (ly cm P w K mg base N x (qK st) f Y A U s H E) g)):rB P w K mg base cm (k+1) x ps (qL N.length g):=by
 obtain⟨f,O,G,F,L⟩:=h;exact⟨f,O,G,F.kp,L,tR F,fnX F S λY A U s H E B C=>J f Y A U s H E (GC G (tR F) B) C⟩
theorem qv.any {x:Aw}{k n:Ag}{F:DF}(h:qv P w K mg base false k x n F):qv P w K mg base cm k x n F:=by
 obtain⟨f,Y,B,C,J,U,G,O,X⟩:=h;exact⟨f,Y,B,C,J,U,G,O,X.any⟩
end
section
variable {X:Cx}{cm:As}{k n:Ag}{F:DF}{x:Aw}{p ao:Fn}{e:Bz}{es:Aa Bz}{fa:DA}
theorem dcN (G:qv X.prog X.w X.K X.mg X.base cm k x n F)(B:az cm k X.A)(O:oq X)(I:Gl X x)(U:PA X (e::es) (lv X fa))(J:(x == ("__debug__" : Aw))=false:=by decide)(C:Bs (e::es) X.env=(false,eval e X.env)::Bs es X.env:=by rfl)(Y:(Gi ao (Bs es X.env)).any (·.1)=false:=by rfl) :
  PE X (.Call (.Name x p) (e::es) [] ao) (tD X (qD n F fa)):=by
 obtain⟨f,H,A,w,L,E,T,M,G⟩:=G;exact B9 G B O I L E T U J C Y
end
def xE:DF:=λds S=>match ds with
 |[.dct0]=>.bad
 |_=>eG ds S
theorem PV {X:Cx}:wM X (.builtin "len") xE:=L5 trivial
theorem GB:∃ C:Aj->Aj->As,C=rK:=⟨_,rfl⟩
def GA:Aj->Aj->As:=Kw GB
theorem rL:GA=rK:=Jn GB
def zK:G2:=i2 GA λi j=>.int (i*j)
theorem FW {X:Cx}:fv X (Ew .Mult) zK:=by
 unfold zK;rw[rL];exact FV
theorem sy {cm:As}{k:Ag}{A:Bu}(Y:az cm k A):A.units+1<Ed:=by have:=Y.units;lia
def l_ (F:DF):DF:=λds S=>match F ds S with
 |.ok d Y=>.ok d Y
 |_=>.bad
theorem WU {F:DF}{Y:ak}{d:D}(h:F ds S=.ok d Y):l_ F ds S=.ok d Y:=by unfold l_;rw[h]
section
variable {X:Cx}{cm:As}{k n:Ag}{F:DF}{x:Aw}{p ao:Fn}{e:Bz}{es:Aa Bz}{fa:DA}{f:Af}{fd:Fu}{ps:Aa Aw}
theorem TB {ai:aa}{σ:_L.St}{H:Hp}{s:Ah}{Q:VK}{us:ag}{P:Hp}(G:nw X.prog X.w X.K X.mg X.base cm k f fd ps (so X.K n F))(T:az cm k X.A)(w:uM X.K fd ps [])
  (I:Inv X ai σ H s) (r:bf X.K H P α S) (B:qI vs us) (L:qC X.K P α ds vs) (A:ds.length=n) (Y:qV X P α (l_ F ds S) Q):Aq (Au X.prog X.w) X.A (call (.ref f) us) (EP X ai σ Q) X.xe s:=by
 have C:vs.length=n:=by rw[<- L.length];exact A
 have O:so X.K n F vs H Q λ_ _ _=>Ey:=by
  refine⟨C,P,α,ds,S,r,L,?_⟩;unfold l_ at Y;cases q:F ds S with
  |ok d M=>rw[q] at Y;exact Y
  |ex c x M=>rw[q] at Y;exact Ar Y
  |bad=>rw[q] at Y;exact Y
 have j:us.length=ps.length:=by rw[<- B.length];exact G.len _ _ _ _ O
 have J:=w s us I.kIn (by rw[Hq];exact j)
 rw[Hq] at J;refine wpAny_call (Mq (G.run X.A X.stack s H ⟨us,[]⟩ us vs Q _ T I.env0 J B O) λr y U=>?_);cases r with
 |error u =>
  obtain⟨_,_,_,_,_,_,_,_,_,_,_,_,z⟩:=U;exact Ar z
 |ok E =>
  cases E with
  |ret u=>exact I.after U
  |next=>exact Ar U
  |brk=>exact Ar U
  |cont=>exact Ar U
theorem dcO (G:qv X.prog X.w X.K X.mg X.base cm k x n F)(L:az cm k X.A)(y:Gl X x)(A:PA X (e::es) (lv X fa))(U:(x == ("__debug__" : Aw))=false:=by decide)(B:Bs (e::es) X.env=(false,eval e X.env)::Bs es X.env:=by rfl)(O:(Gi ao (Bs es X.env)).any (·.1)=false:=by rfl) :
  PE X (.Call (.Name x p) (e::es) [] ao) (tD X (qD n (l_ F) fa)):=by
 obtain⟨f,fd,ps,c,z,v,l,hl,G⟩:=G;intro a s σ H Q I h;obtain⟨P,α,env,S,r,E,g⟩:=h;refine Lj (lE I y z ?_ U);refine Yr (h₀:=X.base) I.ok.mod.kin v (bq (yM A I r E g ao) λb i ⟨vs,H1,t,q,ds,S1,C,j,u,o,d,M,T,J⟩=>⟨C.kIn,?_⟩) B O;obtain⟨w,Y⟩:=dG (env:=env) (S:=S) J;exact TB G L l C u j d w (qV.base M T Y)
end
structure QE (X:Cx)(e:Bz)(f:DE):Prop where
 get:PE X e (tD X f)
structure QT (X:Cx)(e:Bz)(t:DT):Prop where
 get:PT X e (ma X t)
structure QW (X:Cx)(e:Bz)(t:DT):Prop where
 get:qu X e t
structure QA (X:Cx)(es:Aa Bz)(f:DA):Prop where
 get:PA X es (lv X f)
structure QO (X:Cx)(e:An Bz)(f:DO):Prop where
 get:PO X e (wa X f)
structure QG (X:Cx)(t:Bz)(g:DG):Prop where
 get:PG X t (nj X g)
structure yi (X:Cx)(ts:Aa Bz)(g:pf):Prop where
 get:rk X ts (cL X g)
structure QI (X:Cx)(tg it:Bz)(f:DI):Prop where
 get:PI X tg it (qw X f)
structure QS (X:Cx)(s:Fz)(f:DS):Prop where
 get:PS X s (iu X f)
structure QB (X:Cx)(ss:Aa Fz)(f:DS):Prop where
 get:ir X ss (iu X f)
structure ip (X:Cx)(f:Ad->Ad->Kr Ad)(g:G2):Prop where
 get:fv X f g
structure L_ (X:Cx)(f:Ad->Kr Ad)(g:D->ak->ba D):Prop where
 get:y_ X f g
structure M_ (X:Cx)(g:G2):Prop where
 get:ze X g
structure fg (X:Cx)(f:Ad)(F:DF):Prop where
 get:wM X f F
structure yf (X:Cx)(id:Ex)(g:D->Aa D->ak->ba D):Prop where
 get:wv X id g
structure wj (X:Cx)(g:G3):Prop where
 get:rC X (r0 X g)
structure mw (X:Cx):Prop where
 get:Qu (Au X.prog X.w) X.A X.env X.xe
section
variable {X:Cx}{a b c e e1 e2 o i:Bz}{es av:Aa Bz}{fa fb fc fe fo fi:DE}{ta tb:DT}{fA:DA}{f g:DS}{st:Fz}{zv:Aa Fz}{x:Aw}{p ao:Fn}{n k:Ag}{cm:As}{F:DF}{oy:G2}
theorem EI:QE X (.Constant .none j ao) (dC .non):=⟨LN⟩
theorem O0:QE X (.Constant (.bool v) j ao) (dC (.bl v)):=⟨CY⟩
theorem EF:QE X (.Constant (.int v) j ao) (dC (.int v)):=⟨LK⟩
theorem EN (m:Ag)(J:X.N[m]? = Ab x)(hv:tz X.env.scope x)(U:(x == ("__debug__" : Aw))=false)(Y:(x == ("__classdict__" : Aw))=false):QE X (.Name x ao) (q9 m):=⟨dv m J hv U Y⟩
theorem MG {Y:Ex}(G:Gl X x)(hm:X.mg x=none)(hv:Fy x=Ab (.type Y))(J:x ≠ "__name__")(U:(x == ("__debug__" : Aw))=false):QE X (.Name x ao) (dC (.ty Y)):=⟨B8 G hm hv J U⟩
theorem MK {v:Aj}(J:Gl X x)(hm:∃ t,X.mg x=Ab (.int v t))(Y:(x == ("__debug__" : Aw))=false):QE X (.Name x ao) (dC (.int v)):=⟨let ⟨_,h⟩:=hm;BB (v:=.int v) J h ⟨_,rfl⟩ (λ_ _=>by simp only[aq]) Y⟩
theorem O8 {op:UnaryOp}{h:D->ak->ba D}(Y:L_ X (v4 op) h)(J:QE X a fa):QE X (.UnaryOp op a ao) (d1 h fa):=⟨A5 Y.1 J.1⟩
theorem EJ (Y:QE X a fa):QE X (.UnaryOp .Not a ao) (VM fa):=⟨LO Y.1⟩
theorem O7 {op:Operator}(Y:ip X (Ew op) oy)(J:QE X a fa)(U:QE X b fb):QE X (.BinOp a op b ao) (d2 oy fa fb):=⟨A4 Y.1 J.1 U.1⟩
theorem ED {op:Xm}(Y:ip X (Ci op) oy)(J:QE X a fa)(U:QE X b fb)(hm:Nd op b=false:=by first|exact bP _|with_unfolding_all rfl):QE X (.Compare a [op] [b] ao) (d2 oy fa fb):=⟨LI Y.1 J.1 U.1 hm⟩
theorem JM {op Y:Xm}{g':G2}(C:ip X (Ci op) oy)(J:ip X (Ci Y) g')(U:QE X a fa)(O:QE X b fb)(G:QE X c fc)(hm:Zs [op,Y] [b,c]=false:=by with_unfolding_all rfl):QE X (.Compare a [op,Y] [b,c] ao) (w4 oy g' fa fb fc):=⟨VO C.1 J.1 U.1 O.1 G.1 hm⟩
theorem EK  (h:QE X a fa):QE X (.BoolOp op [a] ao) fa:=⟨LP h.1⟩
theorem EC (Y:QE X a fa)(J:QE X (.BoolOp .And (b::av) ao) fb):QE X (.BoolOp .And (a::b::av) ao) (mB fa fb):=⟨LH Y.1 J.1⟩
theorem O1 (U:QT X c ta)(J:QE X a fa)(Y:QE X b fb):QE X (.IfExp c a b ao) (vz ta fa fb):=⟨A0 U.1 J.1 Y.1⟩
theorem EM  (h:QA X es fA):QE X (.Tuple es x1 ao) (zD fA):=⟨LR h.1⟩
theorem EH (h:QA X es fA):QE X (.List es ao) (wA fA):=⟨LM h.1⟩
theorem MM (h:QA X es fA):QE X (.List es ao) (vY fA):=⟨BC h.1⟩
theorem EE:QE X (.Dict [] [] ao) rY:=⟨LJ⟩
theorem O6 (Y:M_ X oy)(J:QE X a fa)(U:QE X b fb)(hs:nM b:=by intro _ _;rfl):QE X (.Subscript a b ao) (d2 oy fa fb):=⟨A3 Y.1 J.1 U.1 hs⟩
theorem JO {lo hi:An Bz}{J Y:DO}{G:Fn}(O:QE X e fe)(C:QO X lo J)(U:QO X hi Y):QE X (.Subscript e (.Slice lo hi none G) ao) (pc fe J Y):=⟨VQ O.1 C.1 U.1⟩
theorem MT:QO X none uA:=⟨BI⟩
theorem MU (Y:QE X e fe):QO X (Ab e) (wU fe):=⟨BJ Y.1⟩
theorem EA:QA X [] qA:=⟨LF⟩
theorem MF (Y:QE X e fa)(J:QA X es fA)(hs:Bs (e::es) X.env=(false,eval e X.env)::Bs es X.env:=by rfl):QA X (e::es) (q8 fa fA):=⟨B6 Y.1 J.1 hs⟩
theorem _j (G:qv X.prog X.w X.K X.mg X.base cm k x n F)(B:az cm k X.A)(O:oq X)(L:Gl X x)(U:QA X (e::es) fA)(J:(x == ("__debug__" : Aw))=false)(C:Bs (e::es) X.env=(false,eval e X.env)::Bs es X.env:=by rfl)(Y:(Gi ao (Bs es X.env)).any (·.1)=false:=by rfl):QE X (.Call (.Name x p) (e::es) [] ao) (qD n F fA):=⟨dcN G B O L U.1 J C Y⟩
theorem JL {id:Ex}(G:fg X (.builtin id) F)(B:Gl X x)(hm:X.mg x=none)(hv:Fy x=Ab (.builtin id))(U:QA X (e::es) fA)(C:x ≠ "__name__")(J:(x == ("__debug__" : Aw))=false)(O:Bs (e::es) X.env=(false,eval e X.env)::Bs es X.env:=by rfl)(Y:(Gi ao (Bs es X.env)).any (·.1)=false:=by rfl):QE X (.Call (.Name x p) (e::es) [] ao) (qM F fA):=⟨VN G.1 B hm hv U.1 C J O Y⟩
theorem Y4 {T:Ex}(G:fg X (.type T) F)(B:Gl X x)(hm:X.mg x=none)(hv:Fy x=Ab (.type T))(U:QA X (e::es) fA)(C:x ≠ "__name__")(J:(x == ("__debug__" : Aw))=false)(O:Bs (e::es) X.env=(false,eval e X.env)::Bs es X.env:=by rfl)(Y:(Gi ao (Bs es X.env)).any (·.1)=false:=by rfl):QE X (.Call (.Name x p) (e::es) [] ao) (qM F fA):=⟨XE G.1 B hm hv U.1 C J O Y⟩
theorem Z9 {T id:Ex}{name:Aw}{C:Fn}{h:D->Aa D->ak->ba D}(L:PlainAttrs T)(slot:Slot T name id)(O:typeOf (.builtin id)=pure (.type "method_descriptor"))(hT:T = "list" \/ T = "dict" \/ T = "int" \/ T = "str")(hm:yf X id h)(B:QE X o fo)(E:QA X (e::es) fA)
  (U:Kb o name X.env (eval o X.env)=eval o X.env:=by rfl)
  (G:((Gi ao (Bs (e::es) X.env)).all (λx=>!x.1)&&(AaK ao (Vw [] X.env)).all (λx=>x.1.isSome)&&decide ((e::es).length+([]:Aa Sx).length+(if ([] : Aa Sx).isEmpty then 0 else 1)<30))=true:=by rfl)
  (J:(C.endLine == ao.line)=true:=by rfl) (hs:Bs (e::es) X.env=(false,eval e X.env)::Bs es X.env:=by rfl) (Y:(Gi ao (Bs es X.env)).any (·.1)=false:=by rfl):QE X (.Call (.Attribute o name C) (e::es) [] ao) (p_ T h fo fA):=⟨CZ L slot O hT hm.1 B.1 E.1 U G J hs Y⟩
theorem OB (h:QW X e ta):QT X e ta:=⟨qu.pt h.1⟩
theorem iU (Y:QT X a ta):QW X (.BoolOp .And [a] ao) ta:=⟨BQ Y.1⟩
theorem Y6 (Y:QT X a ta):QW X (.BoolOp .Or [a] ao) ta:=⟨DC Y.1⟩
theorem Y5 (Y:QT X a ta)(J:QW X (.BoolOp .And (b::av) ao) tb):QW X (.BoolOp .And (a::b::av) ao) (zS ta tb):=⟨DB Y.1 J.1⟩
theorem PD (Y:QT X a ta)(J:QW X (.BoolOp .Or (b::av) ao) tb):QW X (.BoolOp .Or (a::b::av) ao) (bD ta tb):=⟨AA Y.1 J.1⟩
theorem HB (Y:QT X a ta):QT X (.UnaryOp .Not a ao) (yQ ta):=⟨D7 Y.1⟩
theorem HA {op:Xm}(Y:ip X (Ci op) oy)(J:QE X a fa)(U:QE X b fb)(hm:Nd op b=false:=by first|exact bP _|with_unfolding_all rfl):QT X (.Compare a [op] [b] ao) (ci (d2 oy fa fb)):=⟨D6 Y.1 J.1 U.1 hm⟩
theorem JV {op Y:Xm}{g':G2}(C:ip X (Ci op) oy)(J:ip X (Ci Y) g')(U:QE X a fa)(O:QE X b fb)(G:QE X c fc)(hm:Zs [op,Y] [b,c]=false:=by with_unfolding_all rfl):QT X (.Compare a [op,Y] [b,c] ao) (ci (w4 oy g' fa fb fc)):=⟨VZ C.1 J.1 U.1 O.1 G.1 hm⟩
theorem HC (J:QE X a fa)(U:∀ Y,isTrue a X.env Y=(do let v <- Y;Sv a.pos;holding [v] (truthy v)):=by intro _;rfl):QT X a (ci fa):=⟨D8 J.1 U⟩
theorem MN (U:X.N.Nodup)(hi:X.N[m]? = Ab x)(J:Loc X.env.scope x)(Y:X.fn x=true\/X.env.scope.names.lookup x=Ab .local):QG X (.Name x ao) (bi m):=⟨BE U hi J Y⟩
theorem MP:yi X [] yT:=⟨BF⟩
theorem JQ {h:DG}{Y:pf}(h1:QG X e h)(h2:yi X es Y)(hs:(Hd (e::es) X.env).map (·.2)=assign e X.env::(Hd es X.env).map (·.2):=by rfl):yi X (e::es) (x8 h Y):=⟨VS h1.1 h2.1 hs⟩
theorem ER {kk:Ag}{J:pf}(U:X.calm=true)(h:yi X es J)(G:(Hd es X.env).length=n:=by rfl)(Y:(Hd es X.env).findIdx? (·.1)=none:=by rfl):QG X (.Tuple es kk ao) (nq n J):=⟨LV U h.1 G Y⟩
theorem EO {h:G3}(Y:QE X o fo)(hi:QE X i fi)(hs:wj X h)
  (J:∀ v,assign (.Subscript o i ao) X.env v=(do
   let ov <- holding [v] (eval o X.env)
   let iv <- holding [v,ov] (eval i X.env)
   Sv ao
   holding [v,ov,iv] (setItem ov iv v)
   release [v,ov,iv] []):=by intro _;rfl):QG X (.Subscript o i ao) (tj fo fi h):=⟨LU Y.1 hi.1 hs.1 J⟩
theorem EU {J:Bz}(Y:QE X e fa):QI X J e (yL fa):=⟨LW Y.1⟩
theorem JS {U:Bz}(G:Gl X "range")(hm:X.mg "range" = none)(J:QA X (e::es) fA)(hs:Bs (e::es) X.env=(false,eval e X.env)::Bs es X.env:=by rfl)(Y:(Gi ao (Bs es X.env)).any (·.1)=false:=by rfl):QI X U (.Call (.Name "range" p) (e::es) [] ao) (wB fA):=⟨VU G hm J.1 hs Y⟩
theorem EV {J:Aa Bz}{C:Ag}{G:Fn}(O:Gl X "zip")(hm:X.mg "zip" = none)(U:QA X [e1,e2] fA)(hs:Bs [e1,e2] X.env=(false,eval e1 X.env)::Bs [e2] X.env:=by rfl)(Y:(Gi ao (Bs [e2] X.env)).any (·.1)=false:=by rfl):QI X (.Tuple J C G) (.Call (.Name "zip" p) [e1,e2] [] ao) (Q4 fA):=⟨LX O hm U.1 hs Y⟩
theorem EB:QB X [] zQ:=⟨D1⟩
theorem Y3 (h:QS X st f):QB X [st] f:=⟨D2 h.1⟩
theorem iT (h1:QS X st f)(h2:QB X zv g):QB X (st::zv) (qH f g):=⟨BK h1.1 h2.1⟩
theorem MV (Y:QE X e fa)(hs:Pc e none ao.line X.env=pure false:=by rfl):QS X (.Expr e ao) (xH fa):=⟨BL Y.1 hs⟩
theorem H8 (Y:QE X e fa):QS X (.Return (Ab e) ao) (qU fa):=⟨D4 Y.1⟩
theorem OA {as Y:Aa Fz}(U:QT X c ta)(J:QB X as f)(G:QB X Y g):QS X (.If c as Y ao) (gq ta f g):=⟨A8 U.1 J.1 G.1⟩
theorem JU (hp:mw X)(Y:QT X c ta)(J:QB X cf f):QS X (.While c cf [] ao) (gE ta f):=⟨VY hp.1 Y.1 J.1⟩
theorem EZ {Y J:Bz}{U:DI}{h:DG}(hp:mw X)(G:X.calm=true)(hi:QI X Y J U)(O:QG X Y h)(C:QB X cf f)(hs:∀ x,Eg J X.env x=pure x:=by intro _;rfl):QS X (.For Y J cf [] ao) (v8 U h f):=⟨D0 hp.1 G hi.1 O.1 C.1 hs⟩
theorem H9 {Y:Fn}(J:X.N.Nodup)(G:QE X e fa)(hi:X.N[m]? = Ab x)(U:Loc X.env.scope x)(hs:Pc e (Ab (.Name x Y)) ao.line X.env=pure false)(O:X.fn x=true\/X.env.scope.names.lookup x=Ab .local):QS X (.Assign [.Name x Y] e ao) (qT fa (bi m)):=⟨D5 J G.1 hi U hs O⟩
theorem EW {Y:Bz}{h:DG}(J:QE X e fa)(U:QG X Y h)(hs:Nb [Y] e ao.line X.env=pure false:=by rfl)(hw:Na [Y] e X.env=pure none:=by rfl)(h1:(Hd [Y] X.env).map (·.2)=[assign Y X.env]:=by rfl):QS X (.Assign [Y] e ao) (qT fa h):=⟨LY J.1 U.1 hs hw h1⟩
theorem H0 {l:Ag}{y:Aw}{Y J pt:Fn} {kt k2 pt2} (B:X.calm=true) (C:X.N.Nodup) (L:QA X [a,b] fA) (hi:X.N[m]? = Ab x) (G:X.N[l]? = Ab y) (U:m≠l) (T:X.env.scope.names.lookup x=Ab .local) (O:X.env.scope.names.lookup y=Ab .local)
  (hw:Na [.Tuple [.Name x Y,.Name y J] kt pt] (.Tuple [a,b] k2 pt2) X.env=pure (Ab [x,y]):=by rfl) (hs:Nb [.Tuple [.Name x Y,.Name y J] kt pt] (.Tuple [a,b] k2 pt2) ao.line X.env=pure false:=by rfl) :
  QS X (.Assign [.Tuple [.Name x Y,.Name y J] kt pt] (.Tuple [a,b] k2 pt2) ao) (jO m l fA):=⟨D3 B C L.1 hi G U T O hw hs⟩
theorem OY:ip X (Ew .Add) zP:=⟨RF⟩
theorem qAP:ip X (Ew .Sub) zV:=⟨RN⟩
theorem qAK:ip X (Ew .Mult) zK:=⟨FW⟩
theorem qAA:ip X (Ew .FloorDiv) kH:=⟨RG⟩
theorem qAJ:ip X (Ew .Mod) uF:=⟨RL⟩
theorem qAN:ip X (Ew .Pow) eO:=⟨RM⟩
theorem _l:ip X (Ci .Lt) mj:=⟨P8⟩
theorem _m:ip X (Ci .LtE) lq:=⟨IQ⟩
theorem _o:ip X (Ci .Gt) tm:=⟨P7⟩
theorem _p:ip X (Ci .GtE) vy:=⟨IP⟩
theorem NG:ip X (Ci .IsNot) eM:=⟨JA⟩
theorem _q (Y:az cm k X.A):ip X (Ci .Eq) jy:=⟨GZ Y.units⟩
theorem _k (Y:az cm k X.A):ip X (Ci .NotEq) im:=⟨P9 Y.units⟩
theorem qAB (Y:az cm k X.A):ip X (Ci .Eq) (jZ jy):=⟨fv.look (GZ Y.units)⟩
theorem qAL (Y:az cm k X.A):ip X (Ci .NotEq) (jZ im):=⟨fv.look (P9 Y.units)⟩
theorem qAM:L_ X (v4 .USub) kI:=⟨CA⟩
theorem _n:M_ X dy:=⟨_J⟩
theorem qAG:fg X (.builtin "isinstance") jA:=⟨L4⟩
theorem qAH:fg X (.builtin "len") xE:=⟨PV⟩
theorem OZ (Y:X.calm=true):fg X (.builtin "all") (bG false):=⟨L0 false Y⟩
theorem qAE:fg X (.type "int") Q8:=⟨L3⟩
theorem NK:fg X (.type "tuple") uB:=⟨VD⟩
theorem CI:fg X (.type "list") sV:=⟨PY⟩
theorem KP:yf X "list.append" xS:=⟨WG⟩
theorem qAO (Y:az cm k X.A):wj X yS:=⟨HL (sy Y)⟩
end
section
variable {P:Bo}{w:Cd}{K:Ak}{mg:ah}{base:Cb}{cm:As}
theorem NN {U:Aw}{aj:Fd}{f:Af}{Y:Ad}{A:Bu}{J:Aa Kh}{s:Ah}{H:Hp}{E:XK}:mw (ly cm P w K mg base N U aj f Y A J s H E):=⟨VI⟩
theorem _W {x:Aw}{st:Fz}{ps:Aa Aw}{k:Ag}{g:DS}(h:ud K mg x st ps)(S:cy N ps (qK st))(G:zZ st=cf)
  (J:∀ (f:Af) (Y:Ad) (A:Bu) (U:Aa Kh) (s:Ah) (H:Hp) (E:XK),fV K x Y->az cm k (A.deeper (He x (qK st) s.heap.objs.size f Y)) ->
   QB (ly cm P w K mg base N x (qK st) f Y A U s H E) cf g):qv P w K mg base cm (k+1) x ps.length (qL N.length g):=
 LS h S λf Y A U s H E C O=>G▸(J f Y A U s H E C O).1
theorem A6 {x:Aw}{st:Fz}{ps:Aa Aw}{k:Ag}{g:DS}(h:ud K mg x st ps)(S:cy N ps (qK st))(G:zZ st=cf)
  (J:∀ (f:Af) (Y:Ad) (A:Bu) (U:Aa Kh) (s:Ah) (H:Hp) (E:XK),fV K x Y->az cm k (A.deeper (He x (qK st) s.heap.objs.size f Y)) ->
   QB (ly cm P w K mg base N x (qK st) f Y A U s H E) cf g):rB P w K mg base cm (k+1) x ps (qL N.length g):=
 BD h S λf Y A U s H E C O=>G▸(J f Y A U s H E C O).1
end
structure uf (X:Cx)(ifs:Aa Bz)(t:DT):Prop where
 get:qf X ifs t
section
variable {X:Cx}{cb tg a_ e:Bz}{cw es:Aa Bz}{aj:Fd}{ao p:Fn}{N':Aa Aw}{bu:Aa (An Ag)}{fi:DI}{g:DG}{t u:DT}{fe:DE}{fa:DA}{x:Aw}{cm:As}{k n:Ag}{F:DF}
theorem MX:uf X [] zN:=⟨BP⟩
theorem JW (h1:QT X e t)(h2:uf X es u):uf X (e::es) (zS t u):=⟨U0 h1.1 h2.1⟩
theorem _i (G:qv X.prog X.w X.K X.mg X.base cm k x n F)(C:az cm k X.A)(B:Gl X x)(U:QA X (e::es) fa)(J:(x == ("__debug__" : Aw))=false)(O:Bs (e::es) X.env=(false,eval e X.env)::Bs es X.env:=by rfl)(Y:(Gi ao (Bs es X.env)).any (·.1)=false:=by rfl) :
  QE X (.Call (.Name x p) (e::es) [] ao) (qD n (l_ F) fa):=⟨dcO G C B U.1 J O Y⟩
end
def ke (o:An (Ag × MO))(S:ak):Prop:=match o with
 |none=>Rc
 |some p=>S[p.1]? = Ab p.2
open Classical in
def mU (o:An (Ag × MO))(S:ak):As:=decide (ke o S)
theorem wD {o:An (Ag × MO)}:mU o S=true↔ke o S:=by simp[mU]
structure lm (K:Ak)(J:It)(P:Hp)(α : Aa Af)(o:An (Ag × MO))(ds:Aa D):Prop where
 go:∀ i H P1 α1 S,i<ds.length->bf K H P1 α1 S->ke o S->qF P P1->α<+:α1->J.go i H
 yld:∀ i H x H' P1 α1 S,i<ds.length->bf K H P1 α1 S->ke o S->qF P P1->α<+:α1->J.yld i H x H'->∃ P2 d,ds[i]? = Ab d/\bf K H' P2 α1 S/\qF P1 P2/\aq K P2 α1 d x
 stop:∀ i H P1 α1 S,ds.length<=i->bf K H P1 α1 S->ke o S->qF P P1->α<+:α1->J.stop i H
theorem sd.two {K:Ak}{J:It}{P:Hp}(h:sd K J P α ds):lm K J P α none ds:=
 ⟨λi H U Y S a b _ c d=>h.go i H U Y S a b c d,λi H x G U Y S a b _ c d e=>h.yld i H x G U Y S a b c d e,λi H U Y S a b _ c d=>h.stop i H U Y S a b c d⟩
abbrev me:=qB->ak->ba (An (Ag × MO) × Aa D)
inductive mi (X:Cx)(f:me)(σ : _L.St)(H:Hp)(R:It->Hp->Prop):Prop
 |mk (P:Hp) (α : Aa Af) (env:qB) (S:ak) (r:bf X.K H P α S) (re:zJ X.K P α σ env) (af:qJ X P α (f env S) (λp S'=>∀ J H' P' α',bf X.K H' P' α' S'->qF P P'->α<+:α'->lm X.K J P' α' p.1 p.2->R J H')):mi X f σ H R
def xQ (f:DI):me:=λenv S=>(f env S).bind λds Y=>.ok (none,ds) Y
section
variable {X:Cx}{K:Ak}{tg e:Bz}{fa:DE}{ao:Fn}
theorem BH {f:DI}(h:PI X tg e (qw X f)):PI X tg e (mi X (xQ f)):=PI.weak h λσ H R ⟨P,α,env,S,r,C,Y⟩=>by
 refine⟨P,α,env,S,r,C,?_⟩;unfold xQ at Y;cases q:f env S with
 |bad=>rw[q] at Y;exact Y
 |ex c x E=>rw[q] at Y;exact Y
 |ok ds I =>
  rw[q] at Y;exact λJ G T U B L O it=>Y J G T U B L O it.two
theorem F6 {P:Hp}{a:Af}{n:Ag}(Y:α[n]? = Ab a):lm K (zf K a) P α (Ab (n,.lst ds)) ds where
 go:=λi H O G S J r st e U=>by
  obtain⟨vs,z,t⟩:=r.at' n a _ (fJ U Y) st;exact⟨vs,vs[i]'(by rw[<- t.length];exact J),.of z,by simp⟩
 yld:=λi H x T O G S J r st e U y=>by
  obtain⟨rfl,y⟩:=y;obtain⟨vs,z,t⟩:=r.at' n a _ (fJ U Y) st;have L:=y vs (.of z);obtain⟨v,C,B⟩:=t.get (Ap J);rw[L] at C;cases C;exact⟨O,_,Ap J,r,qF.refl _,B⟩
 stop:=λi H O G S J r st e U=>by
  obtain⟨vs,z,t⟩:=r.at' n a _ (fJ U Y) st;exact⟨vs,.of z,by rw[<- t.length];exact J⟩
noncomputable def itD (d:D)(S:ak):ba (An (Ag × MO) × Aa D):=match d with
 |.tup xs=>.ok (none,xs) S
 |.lst xs=>.ok (none,xs) S
 |.loc n=>match S[n]? with
  |some (.lst xs)=>.ok (Ab (n,.lst xs),xs) S
  |_=>.bad
 |_=>.bad
def ge (f:DE):me:=λenv S=>(f env S).bind λd Y=>itD d Y
theorem A7 (T:PE X e (tD X fa)):PI X tg e (mi X (ge fa)):=by
 intro i s σ H R I h;obtain⟨P,α,env,S,r,k,af⟩:=h;refine bq (zX T I r k af) λw O ⟨v,x,j,E,d,A,Y,U⟩=>?_;have C:∀ ds,zU d=Ab ds->(∀ J L B G,bf X.K L B G A->qF P B->α<+:G->lm X.K J B G none ds->R J L)->Aq (Au X.prog X.w) X.A (Px w) (vj X i σ tg R) X.xe O:=λds g q =>
  eQ Y.inv Y.rel Y.val Y.rep g λJ L B G l y u it=>q J L B G l (Y.same.trans y) (Y.pre.trans u) it.two
 cases d with
 |tup xs=>exact C xs rfl U
 |lst xs=>exact C xs rfl U
 |loc n =>
  obtain⟨xs,c,U⟩:=jK (X:=X) (f:=λxs=>ba.ok (Ab (n,MO.lst xs),xs) A) U;have M:=Y.rep;simp only[aq] at M;obtain⟨a,rfl,T⟩:=M;cases (show w=Cy a from Y.val)
  obtain⟨vs,z,t⟩:=Y.rel.at' n a _ T c;obtain⟨am,rv,p,hz⟩:=Y.inv.list (ji.of z);refine Gn p.isList ?_;refine⟨O.heap.objs.size,[O.heap.objs.size],_,_,x,rfl,Y.inv.kept (t':=O.toks) λb o e=>Ai _ e,sI a _,⟨_,Be _ rfl,rfl,rfl⟩,λb hb=>?_,U _ _ j E Y.rel Y.same Y.pre (F6 T)⟩;have e:b=O.heap.objs.size:=by simpa using hb
  subst e;exact Y.inv.fpOk (Av _) (Y.inv.hok.fresh (Av _))
 |_=>exact Ar U
end
def wH (o:An (Ag × MO))(g:DG)(f:DS):Aa D->qB->ak->jf
 |[],env,S=>if mU o S then .nx env S else .bad
 |d::ds,env,S=>if mU o S then (g d env S).toS env λJ G=>match f J G with
  |.nx Y U=>wH o g f ds Y U
  |.ct Y U=>wH o g f ds Y U
  |.bk Y U=>.nx Y U
  |o=>o
  else .bad
def nH (fi:me)(g:DG)(f:DS):DS:=λenv S=>(fi env S).toS env λp Y=>wH p.1 g f p.2 env Y
inductive nu (X:Cx)(P1:Hp)(α1:ae)(o:An (Ag × MO))(g:DG)(f:DS)(ds:Aa D)(D:Ends)(i m:Ag)(σ : _L.St)(H:Hp):Prop
 |mk (hi:i<=ds.length) (hm:m=ds.length-i) (P2:Hp) (α2:ae) (env2:qB) (S2:ak) (r:bf X.K H P2 α2 S2) (re:zJ X.K P2 α2 σ env2) (e1:qF P1 P2) (e2:α1<+:α2) (af:qX X P2 α2 (wH o g f (ds.drop i) env2 S2) D):nu X P1 α1 o g f ds D i m σ H
section
variable {X:Cx}{tg:Bz}{ao:Fn}
theorem BM {a_:Bz}{fi:me}{g:DG}{f:DS}(hp:Qu (Au X.prog X.w) X.A X.env X.xe)(hc:X.calm=true)(hi:PI X tg a_ (mi X fi))(hg:PG X tg (nj X g))(hb:ir X cf (iu X f))
  (hs:∀ x,Eg a_ X.env x=pure x:=by intro _;rfl):PS X (.For tg a_ cf [] ao) (iu X (nH fi g f)):=xu (Y1 hp hc hi hg hb hs) λD σ H ⟨P,α,env,S,r,re,af⟩=>by
 refine⟨P,α,env,S,r,re,?_⟩;have O:=w9 af;cases q:fi env S with
 |bad=>rw[q] at O;exact O
 |ex c x S'=>rw[q] at O;exact O
 |ok p S1 =>
  obtain⟨o,ds⟩:=p;rw[q] at O;have zb:qX X P α (wH o g f ds env S1) D:=O;intro J H1 h I r1 e1 e2 it;have it:lm X.K J h I o ds:=it;refine⟨nu X h I o g f ds D,
   ⟨ds.length,Gh _,rfl,h,I,env,S1,r1,re.mono e1 e2,qF.refl _,Bd _,qX.base e1 e2 zb⟩,?_⟩
  rintro i m zv H2 ⟨hi,rfl,a,E,A,l,r2,t,e,n,Y⟩;by_cases T:mU o l=true
  .have z:=wD.mp T
   by_cases B:i<ds.length
   .refine .inr ⟨it.go i H2 a E l B r2 z e n,nu X h I o g f ds D (i+1) (ds.length-(i+1)),λzx H' w=>⟨_,?_,w⟩,λx H3 y=>?_⟩
    .omega
    .obtain⟨P3,d,hd,r3,e5,rp⟩:=it.yld i H2 x H3 a E l B r2 z e n y
     have C:ds.drop i=d::ds.drop (i+1):=by
      rw[Fa B];rw[Ap B] at hd;rw[Dc hd]
     rw[C] at Y;unfold wH at Y;rw[Bi T] at Y;have L:=w9 (qX.base e5 (Bd _) Y);refine⟨P3,E,A,l,d,r3,t.mono e5 (Bd _),rp,?_⟩;cases q2:g d A l with
     |bad=>rw[q2] at L;exact L
     |ex c x S'=>rw[q2] at L;exact L
     |ok M S3 =>
      rw[q2] at L;intro zw H4 P4 zc r4 zl e6 e7;refine⟨P4,zc,M,S3,r4,zl,?_⟩;have U:=qX.base e6 e7 L;cases u:f M S3 with
      |bad=>simp only[u] at U;exact U
      |ex c x G v=>simp only[u] at U;exact U
      |rt d4 v=>simp only[u] at U;exact U
      |bk G v=>simp only[u] at U;exact U
      |nx G v =>
       simp only[u] at U;exact λzs H5 P5 k r5 j s b=>⟨B,rfl,P5,k,G,v,r5,j,((e.trans e5).trans e6).trans s,(n.trans e7).trans b,qX.base s b U⟩
      |ct G v =>
       simp only[u] at U;exact λzs H5 P5 k r5 j s b=>⟨B,rfl,P5,k,G,v,r5,j,((e.trans e5).trans e6).trans s,(n.trans e7).trans b,qX.base s b U⟩
   .have C:ds.drop i=[]:=Ji om
    rw[C] at Y;unfold wH at Y;rw[Bi T] at Y;exact .inl ⟨it.stop i H2 a E l om r2 z e n,Y zv H2 a E r2 t (qF.refl _) (Bd _)⟩
  .cases C:ds.drop i with
   |nil=>rw[C] at Y;unfold wH at Y;rw[Bh T] at Y;exact Ar Y
   |cons d r=>rw[C] at Y;unfold wH at Y;rw[Bh T] at Y;exact Ar Y
end
noncomputable def yw (m:As)(Y:Bz)(ar:Ad)(env:Kh):Kr Uv:=match m with
 |false=>do let _ <- call (.builtin "list.append") [ar,<- eval Y env]
 |true=>do let v <- eval Y env;Sv Y.pos;let _ <- call (.builtin "set.add") [ar,v]
def xA (m:As)(U:Bz)(J:Aa DL)(aj:Fd)(G:Fn)(k:Ag)(ar:Ad)(env:Kh):Kr Uv:=
 match J[k+1]? with
 |some Y=>do
  let x <- eval Y.iter env
  Sv Y.iter.pos
  let x <- Eg Y.iter env x
  let it <- holding [x] (Px x)
  let _ <- runOwn (.compStart (xW m U J aj G) (k+1) it ar env) env
 |none=>yw m U ar env
theorem KJ (m:As)(G Y O:Bz)(C:Aa Bz)(J:Aa DL)(aj:Fd)(U:Fn)(it ar:Ad)(env:Kh)(k:Ag)(E:J[k]? = Ab ⟨Y,O,C,0⟩)(L:∀ g',J[k+1]? = Ab g'->g'.is_async=0) :
  AaO (xW m G J aj U) k it ar env=(do
   Sv O.pos
   match <- Li it with
   |none=>pure (.done .next)
   |some v =>
    Lp Y it v
    assign Y env v
    let mut ok:=true
    for c in C do
     if ok then ok <- isTrue c env (eval c env)
    if ok then xA m G J aj U k ar env
    again (.compLoop (xW m G J aj U) k it ar env)):=by
 cases m <;>
 .unfold AaO xA xW yw
  simp only[E];cases q:J[k+1]? with
  |none=>rfl
  |some g' =>
   have B:=L g' q;have T:(g'.is_async != 0)=false:=by rw[B];rfl
   simp only[T,Bn,Ds,bind_assoc,pure_bind];rfl
abbrev DK:=qB->ak->Aa D->ba (qB × Aa D)
def ik (o:An (Ag × MO))(g:DG)(t:DT)(k:DK):Aa D->DK
 |[],env,S,J=>if mU o S then .ok (env,J) S else .bad
 |d::ds,env,S,J=>if mU o S then (g d env S).bind λY O=>(t Y O).bind λb U =>
   if b then (k Y U J).bind λp G=>ik o g t k ds p.1 G p.2 else ik o g t k ds Y U J
  else .bad
def z0 (fe:DE):DK:=λenv S Y=>(fe env S).bind λx J=>if Y.length<bn then .ok (env,Y++[x]) J else .bad
def kIn (fi:me)(g:DG)(t:DT)(k:DK):DK:=λenv S Y=>(fi env S).bind λp J=>ik p.1 g t k p.2 env J Y
def oG (B:Acc)(Y:Cx)(ai:aa)(P1:Hp)(J:ae)(ar:Af)(env:qB)(S:ak)(ds:Aa D)(s:Ah):Prop:=
 ∃ σ H P α o,ft B Y ai P1 J [] ar env S ds s σ H P α o
def PK (B:Acc)(Y:Cx)(step:Ad->Kr Uv)(k:DK):Prop:=
 ∀ (C:aa) (L:Hp) (G:ae) (O:Af) (env J:qB) (S T:ak) (ds U:Aa D) (s:Ah),(∀ H:Hp,H O=none->xJ Y C H O)->oG B Y C L G O env S ds s->k env S ds=.ok (J,U) T ->
  Aq (Au Y.prog Y.w) Y.A (step (.ref O)) (λ_ E=>oG B Y C L G O J T U E) (λ_ _=>Ey) s
section
variable {B:Acc}{Y:Cx}{cb tg a_:Bz}{cw:Aa Bz}{bh:Aa DL}{aj:Fd}{ao:Fn}{k:Ag}{g:DG}{t:DT}{fe:DE}{it ar:Af}{fp:ae}{J:It}{tn:Ag->Cb->Prop}{items:Aa D}{P1:Hp}{α1:ae}{ai:aa}
theorem XT {X:Cx}{H:Hp}{b:Af}{h:Cb}(f:xJ X ai H b)(I:b ∉ fp):xJ X (ai++vO fp h) H b:=by
 obtain⟨E,O,C,T,G,U⟩:=f;refine⟨E,O,C,T,G,λp L=>?_⟩;rcases Bq.mp L with z|z
 .exact U p (Dm _ z)
 .rcases Bq.mp z with z|z
  .exact U p (Ca _ z)
  .rintro rfl
   exact I (dZ z).1
theorem ba.bind_inv {β γ:Type}{r:ba β}{f:β->ak->ba γ}{x:γ}(h:r.bind f=.ok x S):∃ b S1,r=.ok b S1/\f b S1=.ok x S:=by
 cases r with
 |ok b S1=>exact⟨b,S1,rfl,h⟩
 |_=>cases h
inductive zj (o:An (Ag × MO))(g:DG)(t:DT)(k:DK)(d:D)(ds acc:Aa D)(env:qB)(S SF:ak)(x:qB × Aa D):Prop
 |no (env1:qB) (S1 S2:ak) (z:ke o S) (q1:g d env S=.ok env1 S1) (q2:t env1 S1=.ok false S2) (r:ik o g t k ds env1 S2 acc=.ok x SF):zj o g t k d ds acc env S SF x
 |yes (env1:qB) (S1 S2:ak) (env5:qB) (ds5:Aa D) (S5:ak) (z:ke o S) (q1:g d env S=.ok env1 S1) (q2:t env1 S1=.ok true S2) (q3:k env1 S2 acc=.ok (env5,ds5) S5) (r:ik o g t k ds env5 S5 ds5=.ok x SF):zj o g t k d ds acc env S SF x
set_option tactic.hygienic true in
theorem UF {o:An (Ag × MO)}{k:DK}{d:D}{ar:Aa D}{x:qB × Aa D}(h:ik o g t k (d::ds) env S ar=.ok x SF):zj o g t k d ds ar env S SF x:=by
 simp only[ik] at h
 split at h
 .rename_i z
  obtain⟨U,T,L,h⟩:=ba.bind_inv h;obtain⟨b,E,C,h⟩:=ba.bind_inv h;cases b with
  |false=>exact .no U T E (wD.mp z) L C h
  |true =>
   obtain⟨⟨G,O⟩,I,H,h⟩:=ba.bind_inv h;exact .yes U T E G O I (wD.mp z) L C H h
 .cases h
set_option tactic.hygienic true in
theorem BZ {o:An (Ag × MO)}{k:DK}{ar:Aa D}(h:ik o g t k [] env S ar=.ok (fw,rh) SF):ke o S/\env=fw/\ar=rh/\S=SF:=by
 simp only[ik] at h
 split at h
 .rename_i z
  cases h;exact⟨wD.mp z,rfl,rfl,rfl⟩
 .cases h
inductive zd (B:Acc)(Y:Cx)(pins:aa)(P1:Hp)(α1:ae)(fp:ae)(acc:Af)(tn:Ag->Cb->Prop)(G:Aa D->DK)(items:Aa D)(x:qB × Aa D)(SF:ak)(n:Ag)(s:Ah):Prop
 |mk (i:Ag) (σ : _L.St) (H P:Hp) (α : Aa Af) (o:Cw) (env:qB) (S:ak) (ds:Aa D) (hn:n=items.length-i) (hi:i<=items.length) (st:ft B Y pins P1 α1 fp acc env S ds s σ H P α o) (st1:tn i s.heap) (run:G (items.drop i) env S ds=.ok x SF):zd B Y pins P1 α1 fp acc tn G items x SF n s
theorem N4 {m:As}{M:Pw}{A:Bu}{Q:Fin->Ah->Prop}{E:ab}{s:Ah}{it ar:Ad}{U:Kh}(O:bh[k]? = Ab ⟨tg,a_,cw,0⟩)(has:∀ g',bh[k+1]? = Ab g'->g'.is_async=0)
  (T:∀ s,Qa s->Q (.again (.compLoop (xW m cb bh aj ao) k it ar U)) s) (u:∀ s,Qd s->Q (.done .next) s)
  (h:Aq M A (Li it) (λr G=>(r=none->Qd G)/\∀ v,r=Ab v->Aq M A (Lp tg it v) (λ_ C=>Aq M A (assign tg U v) (λ_ I=>Aq M A (jS cw U) (λb s4=>(b=false->Qa s4)/\(b=true->Aq M A (xA m cb bh aj ao k ar U) (λ_ L=>Qa L) E s4)) E I) E C) E G) E s) :
  Aq M A (AaO (xW m cb bh aj ao) k it ar U) Q E s:=by
 rw[KJ m cb tg a_ cw bh aj ao it ar U k O has];refine Ac (Nc (Ac (bq h λr G ⟨w,z⟩=>?_)));cases r with
 |none=>exact Am (u _ (w rfl))
 |some v =>
  refine Ac (bq (z v rfl) λ_ C j=>Ac (bq j λ_ I q=>Ac (bq q λb s4 H=>?_)));cases b with
  |false=>exact Am (T _ (H.1 rfl))
  |true=>exact Ac (bq (H.2 rfl) λ_ L y=>Am (T _ y))
theorem BW (O:∀ H:Hp,(∀ b∈fp,H b=none)->∀ b∈fp,xJ Y ai H b)(G:ar ∉ fp)(o:Cw)(U:Hp)(j:∀ b∈fp,U b=none):∀ b∈fp,xJ Y (ai++[(ar,o)]) U b:=λb C=>by
 obtain⟨w,E,I,M,T,L⟩:=O U j b C;refine⟨w,E,I,M,T,λp A=>?_⟩;rcases Bq.mp A with z|z
 .exact L p (Dm _ z)
 .rcases Bq.mp z with z|z
  .exact L p (Ca _ z)
  .rw[Cz.mp z]
   rintro rfl;exact G C
theorem kE {i:Ag}{h:Cb}(T:kz Y.prog Y.w Y.K tg J fp it tn)(G:tn (i+1) h)(pl:∀ b∈fp,∃ o,h.get? b=Ab o/\∀ v,o.data≠.cell v){C:Ah}{O:_L.St}{L:Hp}(E:Inv Y (ai++vO fp h) O L C):tn (i+1) C.heap/\(∀ b∈fp,L b=none):=by
 refine⟨T.keep _ _ _ G λb U o' e=>(E.pin (b,o') (Ca _ (Ca _ (uQ U e)))).1,λb U=>?_⟩;obtain⟨o',e,I⟩:=pl b U;exact(E.pin (b,o') (Ca _ (Ca _ (uQ U e)))).2.1
theorem Q2 {kk:DK}{E:ab}{s:Ah}{σ:_L.St}{H P:Hp}{o:Cw}{i:Ag}(hc:Y.calm=true)(hx:Y.xe=λ_ _=>Ey)
  (T:kz Y.prog Y.w Y.K tg J fp it tn) (zc:lm Y.K J P1 α1 o' items) (hg:PG Y tg (nj Y g)) (ht:qf Y cw t) (he:PK B Y (λar=>xA B.m cb bh aj ao k ar Y.env) kk) (l:∀ H:Hp,H ar=none->xJ Y ai H ar) (z5:∀ H:Hp,(∀ b∈fp,H b=none)->∀ b∈fp,xJ Y ai H b) (zx:ar ∉ fp)
  (hi:i<=items.length) (st:ft B Y ai P1 α1 fp ar env S ds s σ H P α o) (zy:tn i s.heap) (run:ik o' g t kk (items.drop i) env S ds=.ok (fw,rh) SF)
  (hA:∀ s' n H' P' c o1 U S' zz,i<items.length->ft B Y ai P1 α1 fp ar U S' zz s' n H' P' c o1->tn (i+1) s'.heap->ik o' g t kk (items.drop (i+1)) U S' zz=.ok (fw,rh) SF->Qa s')
  (hD:∀ s' n H' P' c o',ft B Y ai P1 α1 fp ar fw SF rh s' n H' P' c o'->Qd s') :
  Aq (Au Y.prog Y.w) Y.A (Li (.ref it)) (λr s1=>(r=none->Qd s1)/\∀ v,r=Ab v->Aq (Au Y.prog Y.w) Y.A (Lp tg (.ref it) v) (λ_ s2=>Aq (Au Y.prog Y.w) Y.A (assign tg Y.env v) (λ_ s3=>Aq (Au Y.prog Y.w) Y.A (jS cw Y.env) (λb s4=>(b=false->Qa s4)/\(b=true->Aq (Au Y.prog Y.w) Y.A (xA B.m cb bh aj ao k (.ref ar) Y.env) (λ_ f=>Qa f) E s4)) E s3) E s2) E s1) E s:=by
 have I1:=_D.Inv.pin1 st.inv (l H st.acn) st.at' (B.cell st.acc);have zb:=BW z5 zx o;by_cases L:i<items.length
 .have z4:items.drop i=items[i]::items.drop (i+1):=Fa L
  rw[z4] at run;have run:=UF run;have zw:ke o' S:=by cases run with|no _ _ _ z=>exact z|yes _ _ _ _ _ _ z=>exact z
  refine pJ (T.item Y rfl rfl rfl hc i _ s σ H (λ_ _=>Ey) I1 (zb H st.fpn) zy (zc.go i H P α S L st.rel zw st.same st.pre)) λr s1 ⟨u,hr,h1⟩=>⟨λz=>(by rw[hr] at z;cases z),λv hv=>?_⟩
  obtain rfl:v=u:=Dc (hv.symm.trans hr);refine pJ h1 λ_ s2 ⟨x,H2,I2,rx,y,I,z8⟩=>?_;obtain⟨P2,d,hd,r2,e2,rp⟩:=zc.yld i H x H2 P α S L st.rel zw st.same st.pre y;cases (Ap L).symm.trans hd;have pl:=T.obj _ _ I;have y0:=I2.pinned (zb _ z8) pl;have zl:∀ U e b M,g items[i] env S=.ok U e->t U e=.ok b M->(∀ s4 O j h C (I4:Inv Y (ai++vO fp s2.heap) O j s4),ft B Y ai P1 α1 fp ar U M ds s4 O j h C o->tn (i+1) s4.heap->(b=false->Qa s4)/\(b=true->Aq (Au Y.prog Y.w) Y.A (xA B.m cb bh aj ao k (.ref ar) Y.env) (λ_ f=>Qa f) E s4))->Aq (Au Y.prog Y.w) Y.A (assign tg Y.env v) (λ_ s3=>Aq (Au Y.prog Y.w) Y.A (jS cw Y.env) (λb s4=>(b=false->Qa s4)/\(b=true->Aq (Au Y.prog Y.w) Y.A (xA B.m cb bh aj ao k (.ref ar) Y.env) (λ_ f=>Qa f) E s4)) E s3) E s2:=by
   intro U e b M q1 q2 next;refine pJ (hx▸qA7 hg y0 r2 (st.env.mono e2 (Bd _)) rx rp q1) λ_ s3 ⟨O,H3,P3,y2,I3,r3,z7,e3,z1⟩=>?_;refine pJ (hx▸IZ ht I3 r3 z7 q2) λb' s4 ⟨hb,j,h,C,I4,r4,z3,e4,zv⟩=>?_;have w:Inv Y (ai++vO fp s2.heap) O j s4:=I4.pins_of λp hp=>I4.pin p (Ca _ ((Bq.mp hp).elim (λz=>Dm _ (Dm _ z)) λz=>Ca _ z));have a4:=I4.pin (ar,o) (Ca _ (Dm _ (Ca _ (Cz.mpr rfl))));rw[hb];exact next s4 O j h C w ⟨w.unpinned,r4,z3,((st.same.trans e2).trans e3).trans e4,(st.pre.trans z1).trans zv,(kE T I pl w).2,a4.2.1,a4.1,B.mono ((e2.trans e3).trans e4) (z1.trans zv) st.acc⟩ (kE T I pl w).1
  cases run with
  |no U e M _ q1 q2 run=>exact zl U e false M q1 q2 λs4 O j h C I4 G z2=>⟨λ_=>hA s4 O j h C o U M ds L G z2 run,λz=>(by cases z)⟩
  |yes U e M q zs S5 _ q1 q2 q3 run =>
   refine zl U e true M q1 q2 λs4 O j h C I4 G z2=>⟨λz=>(by cases z),λ_=>?_⟩
   refine pJ (he (ai++vO fp s2.heap) P1 α1 ar U q M S5 ds zs s4 (λH hn=>XT (l H hn) zx) ⟨O,j,h,C,o,I4,G.rel,G.env,G.same,G.pre,λb hb=>(by cases hb),G.acn,G.at',G.acc⟩ q3) λ_ f ⟨z6,H5,P5,y1,o5,A⟩=>?_
   exact hA f z6 H5 P5 y1 o5 q S5 zs L ⟨A.inv.unpinned,A.rel,A.env,A.same,A.pre,(kE T I pl A.inv).2,A.acn,A.at',A.acc⟩ (kE T I pl A.inv).1 run
 .rw[Ji li] at run
  obtain⟨z,rfl,rfl,rfl⟩:=BZ run;refine pJ (T.done Y rfl rfl rfl hc i _ s σ H (λ_ _=>Ey) I1 (zb H st.fpn) zy (zc.stop i H P α _ li st.rel z st.same st.pre)) λr s1 ⟨hr,I2⟩=>⟨λ_=>?_,λv hv=>(by rw[hr] at hv;cases hv)⟩
  have a:=_D.Inv.pinned1 I2;exact hD s1 σ H P α o ⟨I2.unpinned,st.rel,st.env,st.same,st.pre,st.fpn,a.2,a.1,st.acc⟩
theorem UX (P:Bo)(w:Cd)(m:As)(cb:Bz)(bh:Aa DL)(aj:Fd)(ao:Fn)(k:Ag)(it ar:Ad)(env:Kh):(Au P w).den (.compLoop (xW m cb bh aj ao) k it ar env)=(AaO (xW m cb bh aj ao) k it ar env).onRaise (λx=>do noteFrame x env;theTreesLotGoes x):=by cases m <;> rfl
theorem UY (A:Bu)(m:As)(cb:Bz)(bh:Aa DL)(aj:Fd)(ao:Fn)(k:Ag)(it ar:Ad)(env:Kh):A.under (.compLoop (xW m cb bh aj ao) k it ar env)=A:=by cases m <;> rfl
theorem t8 {kk:DK}{R:Result->Ah->Prop}{s:Ah}{σ:_L.St}{H P:Hp}{O:Aa D}{o:Cw}(hc:Y.calm=true)(hx:Y.xe=λ_ _=>Ey)(l:bh[k]? = Ab ⟨tg,a_,cw,0⟩)(has:∀ g',bh[k+1]? = Ab g'->g'.is_async=0)
  (T:kz Y.prog Y.w Y.K tg J fp it tn) (c:lm Y.K J P1 α1 o' items) (hg:PG Y tg (nj Y g)) (r:qf Y cw t) (d:PK B Y (λar=>xA B.m cb bh aj ao k ar Y.env) kk) (E:∀ H:Hp,H ar=none->xJ Y ai H ar) (p:∀ H:Hp,(∀ b∈fp,H b=none)->∀ b∈fp,xJ Y ai H b) (q:ar ∉ fp)
  (st:ft B Y ai P1 α1 fp ar env S O s σ H P α o) (z:tn 0 s.heap) (run:ik o' g t kk items env S O=.ok (fw,rh) SF)
  (a:∀ s' G A u U o',ft B Y ai P1 α1 fp ar fw SF rh s' G A u U o'->R (.ok .next) s') :
  Jy (Au Y.prog Y.w) Y.A (.compLoop (xW B.m cb bh aj ao) k (.ref it) (.ref ar) Y.env) R s:=by
 refine codeAny_loop rfl (zd B Y ai P1 α1 fp ar tn (ik o' g t kk) items (fw,rh) SF) (λn s v=>?_) items.length ⟨0,σ,H,P,α,o,env,S,O,rfl,Gh _,st,z,run⟩;obtain⟨i,σ,H,P,α,o,env,S,ds,e,f,st,M,run⟩:=v;subst e;rw[UX,UY];refine wpAny_noted (N4 (m:=B.m) l has (Qa:=λs'=>∃ m,m<items.length-i/\zd B Y ai P1 α1 fp ar tn (ik o' g t kk) items (fw,rh) SF m s') (Qd:=R (.ok .next)) (λ_ h=>⟨rfl,h⟩) (λ_ h=>h) ?_);exact Q2 hc hx T c hg r d E p q f st M run (λs' G A u U x C S' j L w y I=>⟨_,Nat.sub_succ_lt_self _ _ L,i+1,G,A,u,U,x,C,S',j,rfl,L,w,y,I⟩) a
set_option tactic.hygienic true in
theorem M6 (hx:Y.xe=λ_ _=>Ey)(C:bh[k+1]? = none)(r:PE Y cb (tD Y fe)):PK j_ Y (λar=>xA false cb bh aj ao k ar Y.env) (z0 fe):=by
 intro ai P1 α1 ar env d S S' ds x s O ⟨σ,H,P,α,o,st⟩ run;show Aq _ _ (xA false cb bh aj ao k (.ref ar) Y.env) _ _ s;unfold xA;rw[C];dsimp only[yw];unfold z0 at run;cases A:fe env S with
 |bad=>rw[A] at run;cases run
 |ex c z S'=>rw[A] at run;cases run
 |ok d5 S5 =>
  rw[A,ba.bind_ok] at run
  split at run
  .rename_i l
   cases run;have h:=O H st.acn;have I1:=_D.Inv.pin1 st.inv h st.at' (j_.cell st.acc);refine Ac (pJ (hx▸qA5 r I1 st.rel st.env A) λM I ⟨v5,v,P5,j,U⟩=>?_);have J:=_D.Inv.pinned1 U.inv;have f:=U.inv.unpinned;obtain⟨w,y⟩:=J;obtain⟨am,n,vs,ho,E,L,hz⟩:=st.acc;subst ho;have p:vs.length=ds.length:=L.length.symm;have i:=E.length;refine Ac (call_meets Yp ⟨_,w,rfl⟩ Xt (WF _ _) (Zr ar am.toArray n M (by rw[Bt];rw[<- xN];lia)) ⟨w,?_⟩)
   have q:=xL w (·.push M)
   have G:=O v y;have T:∀ b o,b≠ar->I.heap.get? b=Ab o->(I.heap.update ar (Fc (·.push M))).get? b=Ab o:=λb o u e=>(Dq I.heap _ (Gb u)).trans e
   have a:=f.turned (t':=I.toks) T y G.2.1 G.2.2.2.1 G.2.2.2.2.1 G.2.2.2.2.2;refine Am ⟨σ,v,P5,j,_,a,U.rel,U.env,st.same.trans U.same,st.pre.trans U.pre,λb u=>(by simp at u),y,q,?_⟩
   refine⟨am++[M],_,vs++[v5],by simp <;> rfl,E.append (.cons U.val .nil),?_,by simp;lia⟩
   exact(qC.mono U.same U.pre _ _ L).append (.cons U.rep .nil)
  .cases run
end
theorem bB {prog:Bo}{w:Cd}{A:Bu}{R:Result->Ah->Prop}{s:Ah}{G:Bz}{Y:Aa DL}{aj:Fd}{U:Fn}{k:Ag}{it ar:Ad}{env:Kh}{g:DL}{m:As}(T:Y[k]? = Ab g)(E:g.is_async=0)
  (h0:Jy (Au prog w) A (.compLoop (xW m G Y aj U) k it ar env) R s)
  (h:Aq (Au prog w) A (Px it) (λJ s'=>Jy (Au prog w) A (.compLoop (xW m G Y aj U) k J ar env) R s') (notedBy (Au prog w) A env λx s'=>R (.error x) s') s) :
  Jy (Au prog w) A (.compStart (xW m G Y aj U) k it ar env) R s:=by
 refine Vd ?_;have I:(Au prog w).den (.compStart (xW m G Y aj U) k it ar env)=(compStart (xW m G Y aj U) k it ar env).onRaise (λx=>do noteFrame x env;Sv theWindowsPlace):=by cases m <;> rfl
 have L:A.under (.compStart (xW m G Y aj U) k it ar env)=A:=by cases m <;> rfl
 have C:(Ab6 (xW m G Y aj U) k it ar env).quiet=true/\∀ J,(Ab6 (xW m G Y aj U) k J ar env).quiet=true:=by cases m <;> exact⟨rfl,λ_=>rfl⟩
 rw[I,L];refine wpAny_notedAt ?_;have O:clausesOf (xW m G Y aj U)=Y:=by cases m <;> rfl
 have B:(g.is_async != 0)=false:=by rw[E];rfl
 unfold compStart;simp only[O,T,Option.elim,B,Bn,Ds];refine Ac (Kz (wpAny_ite ?_))
 split
 .exact Am (And.intro C.1 h0)
 .refine Ac (Gf ?_)
  exact Ac (Nc (Ac (Ho h (λJ s' h'=>Am (And.intro (C.2 _) h')) λ_ _ x=>x)))
section
variable {B:Acc}{Y:Cx}{cb tg a_:Bz}{cw:Aa Bz}{bh:Aa DL}{aj:Fd}{ao:Fn}{k:Ag}{g:DG}{t:DT}{fi:me}{kk:DK}
theorem XS {X:Cx}{ai pl:aa}{H:Hp}{b:Af}(f:xJ X (ai++pl) H b):xJ X ai H b:=by
 obtain⟨L,U,G,C,J,T⟩:=f;refine⟨L,U,G,C,J,λp O=>T p ?_⟩;rcases Bq.mp O with z|z
 .exact Dm _ z
 .exact Ca _ (Dm _ z)
theorem IY (hc:Y.calm=true)(hx:Y.xe=λ_ _=>Ey)(E:bh[k+1]? = Ab ⟨tg,a_,cw,0⟩)(has:∀ g',bh[k+1+1]? = Ab g'->g'.is_async=0)(hi:PI Y tg a_ (mi Y fi))(hg:PG Y tg (nj Y g))(ht:qf Y cw t)
  (he:PK B Y (λar=>xA B.m cb bh aj ao (k+1) ar Y.env) kk) (hs:∀ x,Eg a_ Y.env x=pure x):PK B Y (λar=>xA B.m cb bh aj ao k ar Y.env) (kIn fi g t kk):=by
 intro ai P1 α1 ar env M S S' ds i s O ⟨σ,H,P,α,o,st⟩ run;show Aq _ _ (xA B.m cb bh aj ao k (.ref ar) Y.env) _ _ s;unfold xA;rw[E];dsimp only;unfold kIn at run;cases q:fi env S with
 |bad=>rw[q] at run;cases run
 |ex c z S'=>rw[q] at run;cases run
 |ok p S1 =>
  rw[q,ba.bind_ok] at run;have fA:=O H st.acn;have I1:=_D.Inv.pin1 st.inv fA st.at' (B.cell st.acc);have j:=hi (ai++[(ar,o)]) s σ H (λJ H1=>∃ L U,bf Y.K H1 L U S1/\qF P L/\α<+:U/\lm Y.K J L U p.1 p.2) I1 ⟨P,α,env,S,st.rel,st.env,by rw[q];exact λJ H' L U r' w y it=>⟨L,U,r',w,y,it⟩⟩
  rw[hx] at j;refine Ac (pJ j λv s1 h1=>Ac (Nc ?_));rw[hs];refine Ac (Am (Ac (EQ (pJ h1 λzb s2 h2=>?_))));obtain⟨it,fp,tn,J,H2,rfl,I2,T,A,u,L,U,r2,w,y,a⟩:=h2;have a2:=_D.Inv.pinned1 I2;have l:ar ∉ fp:=λhm=>(u ar hm).2.2.2.2.2 (ar,o) (Ca _ (Ca _ (by simp))) rfl
  have C:Jy (Au Y.prog Y.w) Y.A (.compLoop (xW B.m cb bh aj ao) (k+1) (.ref it) (.ref ar) Y.env) (λr e=>match r with
    |.ok f=>oG B Y ai P1 α1 ar M S' i e
    |.error _=>Ey) s2:=by
   refine t8 (ai:=ai) (fp:=fp) (P1:=L) (α1:=U) (σ:=σ) (H:=H2) (P:=L) (α:=U) (o:=o) hc hx E has T a hg ht he O (λH hn b I=>?_) l
    ⟨I2.unpinned,r2,st.env.mono w y,qF.refl _,Bd _,λb I=>(u b I).1,a2.2,a2.1,B.mono w y st.acc⟩ A run λe n H' Pf d o' G=>?_
   .obtain⟨_,g1,g2,g3,g4,g5⟩:=XS (u b I)
    exact⟨hn b I,g1,g2,g3,g4,g5⟩
   .exact⟨n,H',Pf,d,o',G.inv,G.rel,G.env,(st.same.trans w).trans G.same,(st.pre.trans y).trans G.pre,λb I=>(by simp at I),G.acn,G.at',G.acc⟩
  refine Ac (wpAny_runOwn (Mq (bB E rfl C (T.self Y.A 0 _ _ _ A C)) λr e h=>?_));cases r with
  |error x=>exact Ar h
  |ok f=>exact Am h
end
noncomputable def ur (m:As)(r:ba (qB × Aa D)):ba D:=match r with
 |.ok p Y=>if m then .ok (.loc Y.length) (Y++[.lst p.2]) else .ok (.lst p.2) Y
 |_=>.bad
def qW (m:As)(bu:Aa (An Ag))(fi:me)(g:DG)(t:DT)(k:DK):DE:=λenv S=>(fi env S).bind λp Y=>ur m (ik p.1 g t k p.2 (xF bu env) Y [])
section
variable {X:Cx}{cb tg a_:Bz}{cw:Aa Bz}{aj:Fd}{ao:Fn}{N':Aa Aw}{bu:Aa (An Ag)}{fi:me}{g:DG}{t:DT}{kk:DK}{av:Aa DL}{mm:As}
theorem WJ {P:Hp}{r:ba (qB × Aa D)}{Ok:D->ak->Prop}(h:qJ X P α (ur mm r) Ok):∃ fw ds SF,r=.ok (fw,ds) SF/\(if mm then Ok (.loc SF.length) (SF++[.lst ds]) else Ok (.lst ds) SF):=by
 cases r with
 |ok p S =>
  obtain⟨fw,ds⟩:=p;refine⟨fw,ds,S,rfl,?_⟩;cases mm <;> exact h
 |ex c x S=>exact Ar h
 |bad=>exact Ar h
theorem U2 {ai:aa}{σ:_L.St}{P1:Hp}{Y:ae}{ar C:Af}{s:Ah}{Q:VK}(c:kM X ai σ P1 Y ds SF ar C s)(ok:if mm then jj X P1 Y Q (.loc SF.length) (SF++[.lst ds]) else jj X P1 Y Q (.lst ds) SF):EP X ai σ Q (.ref ar) s:=by
 cases mm with
 |false=>exact BS c ok
 |true =>
  obtain⟨z,j,O,vs,I,r,E,L,U,w,_⟩:=c;exact⟨.ref ar,_,I,rfl,lK r E w λv A G J M B H T=>ok v A G J M (L.trans B) (U.trans H) T⟩
theorem XO {M:Pw}{A:Bu}{E:ab}{s:Ah}{J:Af}{Y:Aa (Aw × Af)}{C:Aw}{env:Kh}{Q:Kh->Ah->Prop}
  (B:Q (newEnv aj s.heap.objs.size J (Hz (s.heap.objs.size+1) aj.names Y) C none .none (Ab env) Re) { s with heap:=Zv (s.heap.push { cls:=.type "dict",data:=.dict #[] }) aj.names }) :
  Aq M A (Ws aj J Y [] C none .none (Ab env)) Q E s:=by
 simp only[Ws,Yq,Dp];refine Ac (wpAny_alloc ?_);refine Ac (wpAny_layCells _ (λO U L=>by cases G:U == Pz <;> simp[G]) _ _ _ _ ?_)
 rw[show ({ s with heap:=s.heap.push { cls:=.type "dict",data:=.dict #[] } } : Ah).heap.objs.size=s.heap.objs.size+1 from Em ..]
 refine Ac ?_;rw[Ow];exact Am (Am B)
theorem fR {B:Acc}{o0:Cw}{ai:aa}{σ:_L.St}{d P1:Hp}{α1:ae}{U:Ah}{S1:ak}{items:Aa D}{it:Af}{fp:ae}{tn:Ag->Cb->Prop}{J:It}{E:ab}{RR:Ad->Af->Result->Ah->Prop}
  (hc:X.calm=true) (S:df X.env.scope X.N aj N' bu) (has:∀ g',(⟨tg,a_,cw,0⟩::av:Aa DL)[0+1]? = Ab g'->g'.is_async=0)
  (hg:∀ y C a O G,PG (qY X N' aj y C a O G) tg (nj (qY X N' aj y C a O G) g))
  (ht:∀ y C a O G,qf (qY X N' aj y C a O G) cw t) (he:∀ y C a O G,PK B (qY X N' aj y C a O G) (λar=>xA B.m cb (⟨tg,a_,cw,0⟩::av) aj ao 0 ar (qY X N' aj y C a O G).env) kk)
  (i:Inv X ai σ d U) (r:bf X.K d P1 α1 S1) (re:zJ X.K P1 α1 σ env) (T:kz X.prog X.w X.K tg J fp it tn) (f:tn 0 U.heap) (hf:∀ b∈fp,xJ X ai d b) (z2:lm X.K J P1 α1 o' items) (run:ik o' g t kk items (xF bu env) S1 [] = .ok (fw,ds) SF)
  (h0:B.O X.K P1 α1 [] o0) (zy:o0.isFreed=false) (z1:∀ ar C s',U.heap.objs.size<=ar->(∃ m,s'.heap.Ns C m)->U.heap.objs.size<=C->ar≠C->(∃ y zv H' P' zs o',ft B (qY X N' aj y C fp U d) [] P1 α1 fp ar fw SF ds s' zv H' P' zs o')->RR (.ref ar) C (.ok .next) s') :
  Aq (Au X.prog X.w) X.A (Ws aj X.env.globals (vF X.env.cells aj.names []) [] X.env.qual none .none (Ab X.env)) (λq zx =>
   Jy (Au X.prog X.w) X.A (.compStart (xW B.m cb (⟨tg,a_,cw,0⟩::av) aj ao) 0 (.ref it) (.ref U.heap.objs.size) { q with scope:=relabel aj X.env }) (RR (.ref U.heap.objs.size) q.locals) zx) E { U with heap:=U.heap.push o0 }:=by
 have u:∀ b∈fp,b<U.heap.objs.size:=λb M=>by
  obtain⟨o,e,_⟩:=T.obj 0 _ f b M;exact Bg e
 refine XO ?_;dsimp only;generalize s:U.heap.push o0=L;have zl:L.objs.size=U.heap.objs.size+1:=by rw[<- s,Em]
 have hC:U.heap.objs.size<=L.objs.size:=by rw[zl];exact Sf _
 have zc:U.heap.objs.size≠L.objs.size:=by rw[zl];exact Cu (Kx _)
 have kp:∀ b o,L.get? b=Ab o->(Zv (L.push { cls:=.type "dict",data:=.dict #[] }) aj.names).get? b=Ab o:=λb o e=>pushCells_keeps _ _ b o (Ai _ e);have A:(Zv (L.push { cls:=.type "dict",data:=.dict #[] }) aj.names).Ns L.objs.size (λ_=>none):=(Heap.Ns.new L (.type "dict")).keeps (pushCells_keeps _ _);have co:=cellsFrom_ok aj.names (L.push { cls:=.type "dict",data:=.dict #[] }) (L.objs.size+1) [] ⟨λ_ _ j=>(nomatch j),Pb⟩ (by rw[Em];exact Av _)
 rw[Em] at co;generalize zz:Zv (L.push { cls:=.type "dict",data:=.dict #[] }) aj.names=I at kp A co ⊢;have w:∀ b o,U.heap.get? b=Ab o->I.get? b=Ab o:=λb o e=>kp b o (s▸Ai _ e);have zw:I.get? U.heap.objs.size=Ab o0:=kp _ _ (s▸Be _ zy);have I4:∀ n,Inv (qY X N' aj (gK X aj L.objs.size) L.objs.size fp U d) [] (vQ bu σ) d { U with heap:=I,toks:=n }:=λn =>
  VG (s4:={ U with heap:=I,toks:=n }) S i hf u hC A rfl rfl w co
 have l:∀ n,Jy (Au X.prog X.w) X.A (.compLoop (xW B.m cb (⟨tg,a_,cw,0⟩::av) aj ao) 0 (.ref it) (.ref U.heap.objs.size) (compEnvC aj (gK X aj L.objs.size) L.objs.size X.env)) (RR (.ref U.heap.objs.size) L.objs.size) { U with heap:=I,toks:=n }:=λn=>by
  refine t8 (B:=B) (kk:=kk) (o':=o') (Y:=qY X N' aj (gK X aj L.objs.size) L.objs.size fp U d) (ai:=[]) (fp:=fp) (ar:=U.heap.objs.size) (P1:=P1) (α1:=α1) (σ:=vQ bu σ) (H:=d) (P:=P1) (α:=α1) (o:=o0) hc rfl rfl has T z2
   (hg _ _ _ _ _) (ht _ _ _ _ _) (he _ _ _ _ _) (λH hn=>?_) (λH hn b M=>?_) (λj=>Ep _ (u _ j)) ⟨I4 n,r,Y7 re bu,qF.refl _,Bd _,λb M=>(hf b M).1,i.hok.fresh (Av _),zw,h0⟩ (T.keep _ _ _ f λb M o e=>w b o e) run λs' zv H' P' zs o' st=>?_
  .refine⟨hn,zc,λj=>?_,.inr (Av _),λx c h z=>?_,λp hp=>absurd (show p∈([]:aa) from hp) (by simp)⟩
   .obtain⟨_,o,ho,_⟩:=i.stack.mem j
    exact Ep _ (Bg ho)
   .rcases xP S i.ok h with⟨m,_⟩|⟨m,_⟩
    .exact Ep _ (Ll hC (z▸(co.empty x c m).2))
    .obtain⟨v,ob,zb,_⟩:=i.cell x c m
     rw[z] at zb;exact Ep _ (Bg zb)
  .obtain⟨_,h1,h2,h3,h4,h5⟩:=hf b M
   refine⟨hn b M,Cu (Bl (u b M) hC),λj=>?_,.inl M,λx c h=>(by
    rcases xP S i.ok h with⟨m,_⟩|⟨m,_⟩
    .exact Gb (Cu (Hw (Bl (u b M) hC) (co.empty x c m).2))
    .exact h4 x c m),λp hp=>absurd (show p∈([]:aa) from hp) (by simp)⟩
   rcases Bc.mp (i.stkSub b j) with z|z
   .exact h1 z
   .exact h2 z
  .obtain⟨m,j,_⟩:=st.inv.loc
   exact z1 _ _ s' (Av _) ⟨m,j⟩ hC zc ⟨_,_,_,_,_,_,st⟩
 exact bB (k:=0) rfl rfl (l _) (T.self X.A 0 _ _ _ (T.keep _ _ _ f λb M o e=>w b o e) (l _))
theorem VP (hc:X.calm=true)(S:df X.env.scope X.N aj N' bu)(hi:PI X tg a_ (mi X fi))
  (hg:∀ L C ex U Y,PG (qY X N' aj L C ex U Y) tg (nj (qY X N' aj L C ex U Y) g))
  (ht:∀ L C ex U Y,qf (qY X N' aj L C ex U Y) cw t) (has:∀ g',(⟨tg,a_,cw,0⟩::av:Aa DL)[0+1]? = Ab g'->g'.is_async=0) (he:∀ L C ex U Y,PK j_ (qY X N' aj L C ex U Y) (λar=>xA false cb (⟨tg,a_,cw,0⟩::av) aj ao 0 ar (qY X N' aj L C ex U Y).env) kk)
  (hs:∀ x,Eg a_ X.env x=pure x:=by intro _;rfl):PE X (.ListComp cb (⟨tg,a_,cw,0⟩::av) aj ao) (tD X (qW mm bu fi g t kk)):=by
 intro ai s σ H Q I h;obtain⟨P,α,env,u,r,re,af⟩:=h;rw[eval_ListComp];have O:qJ X P α ((fi env u).bind λp M=>ur mm (ik p.1 g t kk p.2 (xF bu env) M [])) (jj X P α Q):=af;refine Tl (use:=none) rfl hs (aQ S I.ok) S.kind S.names ?_;refine bq (hi ai s σ H (λJ H1=>∃ (A:Hp) (G:ae) (p:An (Ag × MO) × Aa _D.D) (M:ak),bf X.K H1 A G M/\qF P A/\α<+:G/\lm X.K J A G p.1 p.2/\qJ X P α (ur mm (ik p.1 g t kk p.2 (xF bu env) M [])) (jj X P α Q)) I ⟨P,α,env,u,r,re,?_⟩) λxv s1 h1=>bq h1 λzl s2 h2=>?_
 .cases q:fi env u with
  |bad=>rw[q] at O;exact O
  |ex c x S'=>rw[q] at O;exact O
  |ok p M=>rw[q] at O;exact λJ H1 A G e w z it=>⟨A,G,p,M,e,w,z,it,O⟩
 obtain⟨it,fp,tn,J,H2,rfl,I2,T,o,hf,A,G,p,M,e,w,z,zb,j⟩:=h2;obtain⟨fw,ds,SF,run,ok⟩:=WJ j;refine Dt (fR (B:=j_) (o0:={ cls:=.type "list",dict:=none,data:=.seq ([] : Aa Ad).toArray }) (RR:=λar C=>compPost (Au X.prog X.w) X.A X.xe none (EP X ai σ Q) ar C) hc S has hg ht he I2 e (re.mono w z) T o hf zb run ⟨[],0,[],rfl,.nil,.nil,Gh _⟩ rfl ?_);intro ar C s' hA ⟨m,hm⟩ hC f ⟨L,zs,Hf,Pf,zc,of,i⟩;have l:∀ h',El C s'.heap h'->kM X ai σ A G ds SF ar C { s' with heap:=h' }:=λh' b=>rS I2 hf rfl hC hA f i b
 refine⟨m,hm,λh' b=>U2 (mm:=mm) (l h' b) ?_⟩;cases mm with
 |false=>exact λv k P3 E a n d y=>ok v k P3 E a (w.trans n) (z.trans d) y
 |true=>exact λv k P3 E a n d y=>ok v k P3 E a (w.trans n) (z.trans d) y
theorem VX {i:Ag}{y:Aw}{n j:Fn}(hc:X.calm=true)(hN:X.N.Nodup)(S:df X.env.scope X.N aj N' bu)(hi:PI X tg a_ (mi X fi))
  (hg:∀ w C ex U Y,PG (qY X N' aj w C ex U Y) tg (nj (qY X N' aj w C ex U Y) g))
  (ht:∀ w C ex U Y,qf (qY X N' aj w C ex U Y) cw t) (has:∀ g',(⟨tg,a_,cw,0⟩::av:Aa DL)[0+1]? = Ab g'->g'.is_async=0) (he:∀ w C ex U Y,PK j_ (qY X N' aj w C ex U Y) (λar=>xA false cb (⟨tg,a_,cw,0⟩::av) aj ao 0 ar (qY X N' aj w C ex U Y).env) kk)
  (hy:X.N[i]? = Ab y:=by rfl) (z2:Loc X.env.scope y:=by first|exact Ab2 rfl|exact Aa1 rfl) (hf:X.fn y=true\/X.env.scope.names.lookup y=Ab .local:=by first|exact .inl rfl|exact .inr rfl|assumption)
  (hsw:Pc (.ListComp cb (⟨tg,a_,cw,0⟩::av) aj ao) (Ab (.Name y n)) j.line X.env=pure true:=by rfl)
  (hs:∀ x,Eg a_ X.env x=pure x:=by intro _;rfl):PS X (.Assign [.Name y n] (.ListComp cb (⟨tg,a_,cw,0⟩::av) aj ao) j) (iu X (qT (qW mm bu fi g t kk) (bi i))):=by
 intro ai s σ H D I h;obtain⟨P,α,env,S0,r,re,af⟩:=h;have zw:=w9 af;have O:qJ X P α ((fi env S0).bind λp l=>ur mm (ik p.1 g t kk p.2 (xF bu env) l [])) (λd S=>qX X P α (.nx (env.set i (Ab d)) S) D):=zw;rw[exec_Assign_Name_used _ _ _ _ hsw];refine Ac (Nc (Ac ?_));show Aq _ X.A (do let _ <- comprehension (.ListComp cb (⟨tg,a_,cw,0⟩::av) aj ao) aj X.env _ (newList []) false (eval a_ X.env) (Ab (assign (.Name y n) X.env))) _ _ s
 refine Ac (Ho (Tl (use:=Ab (assign (.Name y n) X.env)) (Q:=λ_ A=>SP X ai D .next A) rfl hs (aQ S I.ok) S.kind S.names ?_) (λ_ A hq=>Am (Am hq)) λ_ _ e=>e);refine bq (hi ai s σ H (λJ H1=>∃ (k:Hp) (G:ae) (p:An (Ag × MO) × Aa _D.D) (l:ak),bf X.K H1 k G l/\qF P k/\α<+:G/\lm X.K J k G p.1 p.2/\qJ X P α (ur mm (ik p.1 g t kk p.2 (xF bu env) l [])) (λd S=>qX X P α (.nx (env.set i (Ab d)) S) D)) I ⟨P,α,env,S0,r,re,?_⟩) λxv s1 h1=>bq h1 λz6 s2 h2=>?_
 .cases q:fi env S0 with
  |bad=>rw[q] at O;exact O
  |ex c x S'=>rw[q] at O;exact O
  |ok p l=>rw[q] at O;exact λJ H1 k G r1 u v it=>⟨k,G,p,l,r1,u,v,it,O⟩
 obtain⟨it,fp,tn,J,H2,rfl,I2,T,zz,zb,k,G,p,l,r1,u,v,z4,zv⟩:=h2;obtain⟨fw,ds,SF,run,ok⟩:=WJ zv;refine Dt (fR (B:=j_) (o0:={ cls:=.type "list",dict:=none,data:=.seq ([] : Aa Ad).toArray }) (RR:=λar C=>compPost (Au X.prog X.w) X.A X.xe (Ab (assign (.Name y n) X.env)) (λ_ A=>SP X ai D .next A) ar C) hc S has hg ht he I2 r1 (re.mono u v) T zz zb z4 run ⟨[],0,[],rfl,.nil,.nil,Gh _⟩ rfl ?_);intro ar C A hA ⟨m,hm⟩ hC zc ⟨w,z7,Hf,Pf,z5,of,z3⟩;have z1:∀ h',El C A.heap h'->kM X ai σ k G ds SF ar C { A with heap:=h' }:=λh' sb=>rS I2 zb rfl hC hA zc z3 sb
 show Aq _ X.A (assign (.Name y n) X.env (.ref ar)) _ _ A;obtain⟨H3,P3,E,vs,I3,r3,zl,q1,q2,rp,zs⟩:=z1 A.heap (Zw _ _);obtain⟨r4,e4⟩:=r3.pure (o:=.lst vs) zl;have M:(b_ H3 ar (.lst vs)) C=none:=by rw[qP (Gb zc)];exact zs
 have f:=I2.fpOk hC M;refine Zh (sG I3 hN hy z2 (show qG (V.ref ar) (Cy ar) from rfl) (λs5 I5 ⟨a,sb,ha⟩=>?_) hf)
 have zx:C≠a:=by
  rcases ha with rfl|ha
  .exact f.2.1
  .exact λz=>f.2.2.2.2.1 _ _ ha z.symm
 refine⟨m,hm.sameBut sb zx,λh' zy=>?_⟩;have I6:Inv X ai (σ.set i (Ab (V.ref ar))) (b_ H3 ar (.lst vs)) { s5 with heap:=h' }:=I5.turned (t':=s5.toks) (λb o hb e=>(zy.2 b hb).trans e) M f.2.1 f.2.2.2.1 f.2.2.2.2.1 f.2.2.2.2.2
 cases mm with
 |false =>
  refine⟨_,_,I6,ok _ _ (b_ P3 ar (.lst vs)) E r4 ?_ ((u.trans q1).trans e4) (v.trans q2)⟩;exact((re.mono u v).mono (q1.trans e4) q2).set i (fK (.inl (.inl z9)) (qC.mono e4 (Bd _) _ _ rp))
 |true =>
  have L:E<+:E++[ar]:=Ft _ _;have r5:=r3.new (o:=.lst vs) (m:=.lst ds) zl ⟨vs,z9,qC.mono (qF.refl _) L _ _ rp⟩;refine⟨_,_,I6,ok _ _ P3 (E++[ar]) r5 ?_ (u.trans q1) ((v.trans q2).trans L)⟩;refine((re.mono u v).mono q1 (q2.trans L)).set i ?_;simp only[aq];exact⟨ar,rfl,by rw[<- r3.len];simp⟩
end
section
variable {prog:Bo}{w:Cd}{A:Bu}{E:ab}{s:Ah}
theorem XN {e it l:Af}{i:Ag}{x Y:Ad}(r:Wa s.heap e it i Y)(zb:zO tp s.heap it l i)(hl:xZ tp s.heap l xs)(hx:xs[i]? = Ab x)(p:e≠it)
  (hQ:∀ g,IsEnumOut g e it ((i:Aj)+1) x s.heap.objs.size->zO tp g it l (i+1)->Jp g s.heap.objs.size (.int i s.toks) x->g.objs.size=s.heap.objs.size+1->(∀ b o,b≠e->b≠it->s.heap.get? b=Ab o->g.get? b=Ab o)->Q (.ref s.heap.objs.size) { s with heap:=g,toks:=s.toks+1 }) :
  Aq (Au prog w) A (Hr.«enumerate.__next__» ⟨[.ref e],[]⟩) (λfin s'=>∃ v,fin=.done (.ret v)/\Q v s') E s:=by
 obtain⟨U,C,O,J,os⟩:=s;show Aq _ _ (field (.ref e) 2 >>= _) _ _ _;refine Ac (Ei r rfl (x:=.ref it) rfl (Ac (p9 zb hl hx λB i1 H=>?_)))
 replace H:El it U B:=H
 have h:Wa B e it i Y:=(H.2 e p).trans r;show Aq _ _ (field (.ref e) 3 >>= _) _ _ ⟨B,C,O,J,os⟩;refine Ac (Ei h rfl (x:=Ks i) rfl ?_);show Aq _ _ (field (.ref e) 4 >>= _) _ _ ⟨B,C,O,J,os⟩;refine Ac (Ei h rfl (x:=.none) rfl ?_);show Aq _ _ (mkInt i >>= _) _ _ ⟨B,C,O,J,os⟩;refine Ac (wpAny_mkInt ?_);show Aq _ _ (Yh (.ref e) 3 (Ks ((i:Aj)+1)) >>= _) _ _ ⟨B,C,O,J+1,os⟩;refine Ac (Fg h (by simp) λc t I=>?_)
 replace I:El e B c:=I
 replace t:Wa c e it ((i:Aj)+1) Y:=t
 show Aq _ _ (Yh (.ref e) 4 .none >>= _) _ _ ⟨c,C,O,J+1,os⟩;refine Ac (Fg t (by simp) λT e3 M=>?_)
 replace M:El e c T:=M
 replace e3:Wa T e it ((i:Aj)+1) Y:=e3
 show Aq _ _ (AaL [.int i J,x] >>= _) _ _ ⟨T,C,O,J+1,os⟩;refine Ac (Wr ?_);have d:Wa (T.push { cls:=.type "tuple",data:=.seq #[.int i J,x] }) e it ((i:Aj)+1) Y:=Ai _ e3;generalize j:T.push { cls:=.type "tuple",data:=.seq #[.int i J,x] } = L at d;have sz:T.objs.size=U.objs.size:=by rw[M.1,I.1,H.1]
 have el:e<U.objs.size:=Bg r;have t4:Jp L U.objs.size (.int i J) x:=by rw[<- j,<- sz];exact Be _ rfl
 have z4:L.objs.size=U.objs.size+1:=by rw[<- j,Em,sz]
 have k4:∀ b o,b≠e->b≠it->U.get? b=Ab o->L.get? b=Ab o:=λb o G n q=>by
  rw[<- j];exact Ai _ (M.extBut b o G (I.extBut b o G (H.extBut b o n q)))
 have i4:zO tp L it l (i+1):=i1.keep λo q=>by rw[<- j];exact Ai _ (M.extBut _ o p.symm (I.extBut _ o p.symm q))
 show Aq _ _ (Et (.ref e) >>= _) _ _ ⟨L,C,O,J+1,os⟩;rw[sz];refine Ac ?_;unfold Et;refine Ac (Ei d rfl (x:=.none) rfl (Am ?_));simp only[Dp];refine Ac (Gf (Ac (Ei d rfl (x:=Y) rfl (Ac (Fg d (by simp) λu e5 y=>?_)))))
 replace y:El e L u:=y
 replace e5:Wa u e it ((i:Aj)+1) x:=e5
 show Aq _ _ (Gx (.ref e) (.ref U.objs.size) >>= _) _ _ ⟨u,C,O,J+1,os⟩;refine Ac ?_;unfold Gx;refine Ac (Fg e5 (by simp) λa e6 f=>?_)
 replace f:El e u a:=f
 replace e6:IsEnumOut a e it ((i:Aj)+1) x U.objs.size:=e6
 refine Fg e6 (by simp) λz e7 k=>?_
 replace k:El e a z:=k
 replace e7:IsEnumOut z e it ((i:Aj)+1) x U.objs.size:=e7
 have up:∀ b o,b≠e->L.get? b=Ab o->z.get? b=Ab o:=λb o G q=>k.extBut b o G (f.extBut b o G (y.extBut b o G q));exact Ac (Vz (Am ⟨_,rfl,hQ z e7 (i4.keep λo q=>up _ o p.symm q) (up _ _ (Hj el) t4) (by rw[k.1,f.1,y.1,z4]) λb o G n q=>up b o G (k4 b o G n q)⟩))
set_option maxHeartbeats 4000000 in
set_option tactic.hygienic true in
theorem U5 (tp:As)(l:Af)(xs:Ay Ad) :
  Meets (Hr.«enumerate.__new__» ⟨[.type "enumerate",.ref l],[]⟩) (λ_ R s=>(∃ n U sl,s.heap.get? l=Ab { cls:=.type (if tp then "tuple" else "list"),dict:=U,data:=.seq xs n,slots:=sl }) /\ R (.ok (.ret (.ref (s.heap.push (u6 tp l)).objs.size))) { s with heap:=(s.heap.push (u6 tp l)).push { cls:=.type "enumerate",data:=.fields #[.none,.bool false,.ref s.heap.objs.size,Ks 0,.none,.none] } }):=
 .of_wp λprog w A R s h=>by
  obtain⟨G,L,O,C,os⟩:=s;obtain⟨⟨n,U,sl,Y⟩,h⟩:=h;have B:=sub_enumerate;cases tp
  .have J:Aa5 (Qb ⟨G,L,O,C,os⟩) l xs:=⟨_,Y,rfl,n,rfl⟩
   wp_walk using Ha Y
   refine wpAny_stack_any λst=>Am ?_
   split
   .rename_i c _ _ _ _ _
    cases (c == Jr "enumerate") <;> (wp_walk using Ha Y,Gn J;exact⟨_,rfl,h⟩)
   .wp_walk using Ha Y,Gn J;exact⟨_,rfl,h⟩
  .have J:Za (Qb ⟨G,L,O,C,os⟩) l xs:=⟨_,Y,rfl,n,rfl⟩
   wp_walk using Ha Y
   refine wpAny_stack_any λst=>Am ?_
   split
   .rename_i c _ _ _ _ _
    cases (c == Jr "enumerate") <;> (wp_walk using Ha Y,Hb J;exact⟨_,rfl,h⟩)
   .wp_walk using Ha Y,Hb J;exact⟨_,rfl,h⟩
theorem ZZ {tp:As}{l:Af}{xs:Ay Ad}{Q:ab}(O:∃ n Y sl,s.heap.get? l=Ab { cls:=.type (if tp then "tuple" else "list"),dict:=Y,data:=.seq xs n,slots:=sl })
  (h:∀ g,Wa g (s.heap.objs.size+1) s.heap.objs.size 0 .none->zO tp g s.heap.objs.size l 0->(∀ b o,s.heap.get? b=Ab o->g.get? b=Ab o)->Q (.ref (s.heap.objs.size+1)) { s with heap:=g }) :
  Aq (Au prog w) A (call (.type "enumerate") [.ref l]) Q E s:=by
 refine callType_new F.called_enumerate (by decide) (F.typeCall_enumerate_1 _) (F.newCall_enumerate_1 _) (λU=>F.args_object_init_2 U _) F.entry_enumerate_new (U5 tp l xs) ⟨O,?_⟩
 have G:(s.heap.push (u6 tp l)).objs.size=s.heap.objs.size+1:=Em ..;show _/\_;have J:((s.heap.push (u6 tp l)).push { cls:=.type "enumerate",data:=.fields #[.none,.bool false,.ref s.heap.objs.size,Ks 0,.none,.none] }).get? (s.heap.push (u6 tp l)).objs.size=Ab _:=Be _ rfl;rw[G] at J ⊢;exact⟨⟨_,J,rfl⟩,h _ J (gW (Ai _ (Be _ rfl))) λb o x=>Ai _ (Ai _ x)⟩
end
def W_ (tp:As)(K:Ak)(a:Af):It:=
  ⟨λi H=>∃ xs x,Sq tp K H a xs/\xs[i]? = Ab x,
   λi H v Y=>∃ T x,v=.ref T/\H T=none/\Y=b_ H T (.tup [.int i,x])/\∀ xs,Sq tp K H a xs->xs[i]? = Ab x,
   λi H=>∃ xs,Sq tp K H a xs/\xs.length<=i⟩
def ZR (tp:As)(e it l:Af)(k:Ag)(h:Cb):Prop:=∃ Y,Wa h e it k Y/\zO tp h it l k
theorem YL {P:Bo}{w:Cd}{K:Ak}{gj:Aa Bz}{x1:Ag}{gh:Fn}{e it a:Af}(ne:e≠it):kz P w K (.Tuple gj x1 gh) (W_ tp K a) [e,it] e (ZR tp e it a) where
 mem:=by simp
 obj:=λk h st c Y=>by
  obtain⟨U,J,G⟩:=st;simp only[Bc,Do,Gy] at Y;rcases Y with rfl|rfl
  .exact⟨_,J,λv y=>by cases y⟩
  .exact G.there
 keep:=λk h h' st I=>by
  obtain⟨U,J,G⟩:=st;exact⟨U,I e (by simp) _ J,G.keep λo q=>I it (by simp) o q⟩
 item:=by
  intro X r p t Y k ai s σ H E O M st f;subst r p t;obtain⟨U,J,G⟩:=st;obtain⟨xs,x,A,hx⟩:=f;obtain⟨ia,g,j⟩:=A.at O;obtain⟨u,hu,ru⟩:=g.get hx;have B:s.TypeIs (.ref e) "enumerate":=⟨_,J,rfl⟩;unfold Li;refine Ac (Je (Dw (name:=Hk "__next__") B Me (Dv Me B Ve
   (XN J G j (by simpa using hu) ne λh' a1 a2 a3 a4 a5=>Am ?_) (Ug _))))
  refine⟨_,rfl,wpAny_letOwnedTupleGo_enum (s:={ s with heap:=h',toks:=s.toks+1 }) a1 λL b1 b2=>?_⟩
  have up:∀ c o,c≠e->h'.get? c=Ab o->L.get? c=Ab o:=λc o n q=>(b2.2 c n).trans q;have el:e<s.heap.objs.size:=Bg J;have T2:Jp L s.heap.objs.size (.int k s.toks) u:=up _ _ (Hj el) a3;have C:ZR tp e it a (k+1) L:=⟨u,b1,a2.keep λo q=>up _ o ne.symm q⟩;refine⟨.ref s.heap.objs.size,b_ H s.heap.objs.size (.tup [.int k,x]),?_,rfl,⟨_,x,rfl,O.hok.fresh (Av _),rfl,λzs qz=>by rw[qz.inj O A];exact hx⟩,C,λc Y=>?_⟩
  .have:=Inv.turnLay (fp:=[e,it]) (am:=[.int k s.toks,u]) (h':=L) (xs:=[.int k,x]) O M (λc o Y q=>by
    simp only[Bc,Do,Gy,Aa6] at Y;exact up c o Y.1 (a5 c o Y.1 Y.2 q)) (λc Y=>by
    obtain⟨i,t1,t2⟩:=C;simp only[Bc,Do,Gy] at Y;rcases Y with rfl|rfl
    .exact⟨_,t1⟩
    .obtain⟨o,q,_⟩:=t2.there;exact⟨o,q⟩) (Av _) (.cons ⟨_,rfl⟩ (.cons ru .nil)) ⟨_,T2,rfl,_,rfl⟩ (by show 2<=sizeLine;decide)
   exact this.tok (s.toks+1)
  .have hn:=(M c Y).1
   rw[qP ?_]
   .exact hn
   .rintro rfl
    obtain⟨o,q,_⟩:∃ o,s.heap.get? s.heap.objs.size=Ab o/\Rc:=by
     simp only[Bc,Do,Gy] at Y;rcases Y with z|z
     .exact⟨_,z▸J,trivial⟩
     .obtain⟨o,e',_⟩:=G.there;exact⟨o,z▸e',trivial⟩
    exact absurd (Bg q) (Ep _)
 done:=by
  intro X r p t Y k ai s σ H E O M st f;subst r p t;obtain⟨U,J,G⟩:=st;obtain⟨xs,A,zb⟩:=f;obtain⟨ia,g,j⟩:=A.at O;have B:s.TypeIs (.ref e) "enumerate":=⟨_,J,rfl⟩;have l1:=g.length;unfold Li;refine Ac (Je (Dw (name:=Hk "__next__") B Me (Dv Me B Ve ?_ (Ug _))));show Aq _ _ (field (.ref e) 2 >>= _) _ _ _;refine Ac (Ei J rfl (x:=.ref it) rfl (Ac (jH (O.ok.hd Y) G j (by simp;fin2) λh' x I d=>?_)))
  obtain⟨o,ho,l⟩:=d;refine Ac (Ky (T:="StopIteration") (b:=true) ⟨o,ho,l⟩ Rm (Am ⟨rfl,Inv.turnL (fp:=[e,it]) O M λc o Y q=>?_⟩));simp only[Bc,Do,Gy,Aa6] at Y;exact I c o Y.2 q
 self:=λ_ _ _ _ _ st h=>by
  obtain⟨U,J,_⟩:=st;exact Zx J h
noncomputable def yR (xs:Aa D):Aa D:=xs.mapIdx λi x=>D.tup [.int i,x]
def GE (ds:Aa D):An (Aa D):=match ds with
 |[.tup xs]=>Ab (yR xs)
 |[.lst xs]=>Ab (yR xs)
 |_=>none
def sT (f:DA):DI:=λenv S=>(f env S).bind λds Y=>v7 (GE ds) Y
theorem XM (xs:Aa D)(i:Ag):(yR xs)[i]? = (xs[i]?).map λx=>D.tup [.int i,x]:=by
 unfold yR;rw[List.getElem?_mapIdx]
theorem bE (xs:Aa D):(yR xs).length=xs.length:=by simp[yR]
theorem UM {K:Ak}{P:Hp}{a:Af}{xs:Aa D}(U:Sq tp K P a vs)(G:qC K P α xs vs):sd K (W_ tp K a) P α (yR xs) where
 go:=λi H C J S Y r e _=>by
  rw[bE] at Y;have q:i<vs.length:=by rw[<- G.length];fin2
  exact⟨vs,vs[i],U.mono (e.trans r.sub),by simp⟩
 yld:=λi H x j C J S Y r e L y=>by
  obtain⟨T,u,rfl,w,rfl,A⟩:=y;rw[bE] at Y;obtain⟨z,I,M⟩:=G.get (Ap Y);have O:=A vs (U.mono (e.trans r.sub));rw[I] at O;cases O;obtain⟨E,B⟩:=r.pure (o:=.tup [.int i,u]) w;refine⟨_,.tup [.int i,xs[i]],?_,E,B,?_⟩
  .rw[XM,Ap Y];rfl
  .exact fL (.of z9) (.cons (by simp only[aq]) (.cons (aq.mono (e.trans B) L _ _ M) .nil))
 stop:=λi H C J S Y r e _=>by
  rw[bE] at Y;have k:=G.length;exact⟨vs,U.mono (e.trans r.sub),by fin2⟩
section
variable {X:Cx}{e1:Bz}{gj:Aa Bz}{x1:Ag}{gh:Fn}{f:DA}{p ao:Fn}
theorem Sq.obj {ai:aa}{σ:_L.St}{H:Hp}{s:Ah}{a:Af}{xs:Aa V}(I:Inv X ai σ H s)(q:Sq tp X.K H a xs):∃ am:Aa Ad,qI xs am/\∃ n G sl,s.heap.get? a=Ab { cls:=.type (if tp then "tuple" else "list"),dict:=G,data:=.seq am.toArray n,slots:=sl }:=by
 obtain⟨am,O,h⟩:=q.at I;refine⟨am,O,?_⟩;cases tp with
 |true =>
  obtain⟨o,U,J,n,Y⟩:=h;obtain⟨c,d,dt,sl⟩:=o;dsimp only at J Y;subst J;subst Y;exact⟨n,_,_,U⟩
 |false =>
  obtain⟨o,U,J,n,Y⟩:=h;obtain⟨c,d,dt,sl⟩:=o;dsimp only at J Y;subst J;subst Y;exact⟨n,_,_,U⟩
theorem aS {ai:aa}{σ:_L.St}{H P:Hp}{s:Ah}{a:Af}{xs:Aa D}(I:Inv X ai σ H s)(r:bf X.K H P α S)(Y:Sq tp X.K P a vs)(B:qC X.K P α xs vs)
  (q:vm X P α R (yR xs) S):Aq (Au X.prog X.w) X.A (call (.type "enumerate") [.ref a]) (λv O=>Aq (Au X.prog X.w) X.A (Px v) (vj X ai σ (.Tuple gj x1 gh) R) X.xe O) X.xe s:=by
 obtain⟨A,E,C⟩:=Sq.obj I (Y.mono r.sub);refine ZZ (tp:=tp) C λh' G L T=>?_;refine Zx (s:={ s with heap:=h' }) G ?_
 refine⟨_,[s.heap.objs.size+1,s.heap.objs.size],_,_,H,rfl,I.kept (t':=s.toks) T,YL (tp:=tp) (a:=a) (by intro z;simp at z),⟨_,G,L⟩,λc J=>?_,q _ _ P α r (qF.refl _) (Bd _) (UM Y B)⟩
 have U:s.heap.objs.size<=c:=by
  simp only[Bc,Do,Gy] at J;rcases J with rfl|rfl <;> simp
 exact I.fpOk U (I.hok.fresh U)
theorem nO:Fy "enumerate" = Ab (.type "enumerate"):=by decide +kernel
theorem U4 (h:GE ds=Ab am):∃ d xs,ds=[d]/\yk d xs/\am=yR xs:=by
 cases ds with
 |nil=>exact nn h
 |cons d ds =>
  cases ds with
  |cons _ _=>cases d <;> exact nn h
  |nil =>
   cases d with
   |tup xs=>exact⟨_,xs,rfl,.tup rfl,(Dc h).symm⟩
   |lst xs=>exact⟨_,xs,rfl,.lst rfl,(Dc h).symm⟩
   |_=>exact nn h
theorem BG (z:Gl X "enumerate")(hm:X.mg "enumerate" = none)(M:PA X [e1] (lv X f))(hs:Bs [e1] X.env=(false,eval e1 X.env)::Bs [] X.env:=by rfl)(O:(Gi ao (Bs [] X.env)).any (·.1)=false:=by rfl) :
  PI X (.Tuple gj x1 gh) (.Call (.Name "enumerate" p) [e1] [] ao) (qw X (sT f)):=by
 intro b s σ H R I h;obtain⟨P,α,env,S,r,A,c⟩:=h;refine Call_ (vL I z hm nO (Gc (bq (yM M I r A c ao) λi n ⟨vs,x,t,j,ds,e,E,l,L,y,k,e1,T,U⟩=>?_) hs O));obtain⟨am,o,q⟩:=vU U;obtain⟨d,xs,rfl,g,rfl⟩:=U4 o;obtain⟨v,u,rfl,rfl,Y,B⟩:=yX k l;cases g with
 |tup C =>
  subst C;simp only[aq] at Y;obtain⟨a,w,rfl,G,J⟩:=Y;cases (show u=Cy a from B)
  exact aS (tp:=true) E L G J (q.base e1 T)
 |lst C =>
  subst C;simp only[aq] at Y;obtain⟨a,w,rfl,G,J⟩:=Y;cases (show u=Cy a from B)
  exact aS (tp:=false) E L G.l J (q.base e1 T)
end
section
variable {X:Cx}
def wW:D->Aa D->ak->ba D:=λa ds S=>match a,ds with
 |.loc n,[i,x]=>match S[n]? with
  |some (.dct Y)=>match yI i with
   |some k=>match xC Y k with
    |some d=>.ok d S
    |none=>if Y.length<bn then .ok x (S.set n (.dct (wQ Y k x))) else .bad
   |none=>.bad
  |_=>.bad
 |_,_=>.bad
theorem uL (a b c:Ad):Aa8 "dict.setdefault" ⟨[a,b,c],[]⟩:=by unfold Aa8;kernel_rfl
inductive SdV (a:D)(ds:Aa D)(S:ak):Prop
 |bad (e:wW a ds S=.bad)
 |of (n:Ag) (i x:D) (kvs:Aa (bo × D)) (k:bo) (ea:a=.loc n) (ed:ds=[i,x]) (hS:S[n]? = Ab (.dct kvs)) (hk:yI i=Ab k) (e:wW a ds S=(match xC kvs k with|some d=>.ok d S|none=>if kvs.length<bn then .ok x (S.set n (.dct (wQ kvs k x))) else .bad))
theorem _f (a:D)(ds:Aa D)(S:ak):SdV a ds S:=by
 cases a with
 |loc n =>
  cases ds with
  |nil=>exact .bad rfl
  |cons i ds =>
   cases ds with
   |nil=>exact .bad rfl
   |cons x ds =>
    cases ds with
    |cons _ _=>exact .bad rfl
    |nil =>
     have z:wW (.loc n) [i,x] S=(match S[n]? with|some (.dct Y)=>(match yI i with|some k=>(match xC Y k with|some d=>.ok d S|none=>if Y.length<bn then .ok x (S.set n (.dct (wQ Y k x))) else .bad)|none=>.bad)|_=>.bad):=rfl
     cases J:S[n]? with
     |none=>rw[J] at z;exact .bad z
     |some m =>
      rw[J] at z;cases m with
      |dct Y =>
       cases U:yI i with
       |none=>rw[U] at z;exact .bad z
       |some k=>rw[U] at z;exact .of n i x Y k rfl rfl J U z
      |_=>exact .bad z
 |_=>exact .bad rfl
theorem WH:wv X "dict.setdefault" wW:=by
 intro ai σ H s P α S v vv vs us a ds Q I r rv p T L Y;cases _f a ds S with
 |bad e=>rw[e] at Y;exact Ar Y
 |of n i x U k ea ed g hk e =>
  rw[e] at Y;subst ea ed;clear e;obtain⟨vi,E,ui,ux,rfl,rfl,pi,o,qi,c⟩:=fM L T;simp only[aq] at p;obtain⟨b,rfl,q⟩:=p;obtain⟨u,z,t⟩:=r.at' n b _ q g;cases tP hk pi;cases (show vv=Cy b from rv)
  obtain⟨hz,f,B,J,l⟩:=Q5 I.hok z;have w:B.length<=sizeLine:=by rw[<- J.length];exact hz
  obtain⟨y,k2⟩:=fD (k:=k) t;have G:=J.val k;refine Uh Jf l.typeIs Qx (uL _ _ _) (kt_meets_setdefault (zT X.prog X.w) b (gX qi) f ux) ⟨B,l,w,λv' C=>?_,λhn h' O hs=>?_⟩
  .cases hv:xC U k with
   |none =>
    rw[k2 hv,C] at G;exact Ar G
   |some d =>
    obtain⟨h,M,j⟩:=y d hv;rw[hv] at Y;rw[M,C] at G;exact⟨h,H,I.tok _,G,xr Y r j⟩
  .cases hv:xC U k with
   |some d =>
    obtain⟨h,M,j⟩:=y d hv;rw[M,hn] at G;exact Ar G
   |none =>
    rw[hv] at Y;obtain⟨hl,Y⟩:=vI (X:=X) Y;have A:(v3 u k E).length<=sizeLine:=by
     have:=kK u k E;have e3:=lD t;rw[<- xN];lia
    have he:∃ q,h'.get? b=Ab q:=let ⟨q,_,_,hq,_⟩:=O;⟨q,hq⟩
    have I':=nR (t':=s.toks+1) I (by rw[z];exact Jd) hs he (XF A f (J.put k c) O)
    exact⟨E,_,I',c,Y _ _ P α (r.put (m':=.dct (wQ U k x)) q g (by intro z;cases z) ⟨_,z9,iE o t⟩) (qF.refl _) (Bd _) o⟩
noncomputable def yG:Aa D->An (Aa Aj)
 |[]=>Ab []
 |.int i::r=>(yG r).map (i::·)
 |_::_=>none
theorem dO (ns:Aa Aj):yG (ns.map D.int)=Ab ns:=by
 induction ns with
 |nil=>rfl
 |cons n r Y=>exact congrArg (Option.map (n::·)) Y
theorem mM:∀ {ds:Aa D} {ns:Aa Aj},yG ds=Ab ns->ds=ns.map D.int
 |[],ns,h=>by cases h;rfl
 |d::r,ns,h=>by
  cases d with
  |int i =>
   obtain⟨m,Y,rfl⟩:=Ej.mp (show (yG r).map (i::·)=Ab ns from h)
   rw[mM Y];rfl
  |_=>exact nn h
theorem bJ {K:Ak}{P:Hp}:∀ {ns:Aa Aj} {vs:Aa V},qC K P α (ns.map D.int) vs->vs=ns.map V.int
 |[],vs,r=>by rw[r.nil_inv];rfl
 |n::ns,vs,r=>by
  obtain⟨w,Y,rfl,p,t⟩:=r.cons_inv;simp only[aq] at p;rw[p,bJ t];rfl
def l5:G2:=λa b S=>match a,b with
 |.tup xs,.tup ys=>match yG xs,yG ys with
  |some ns,Ab Y=>.ok (.bl (_H.lexLt ns Y)) S
  |_,_=>.bad
 |_,_=>mj a b S
def l3:G2:=λa b S=>match a,b with
 |.tup xs,.tup ys=>match yG xs,yG ys with
  |some ns,Ab Y=>.ok (.bl (_H.lexLt Y ns)) S
  |_,_=>.bad
 |_,_=>tm a b S
end
section
open PySem.SeqAt
open PySem.AutoSeq1 (wpAny_loadPart')
open PySem.MeetsSeq PySem.MeetsSeq2 PySem.MeetsSeq3
theorem K1 (A:Bu)(s:Ah)(a:Aj)(t:Vq)(c:Aj)(u:Vq)(prog:Bo)(w:Cd)(E:ab)(Q:ab)(h:Q (.bool (decide (a>c))) s) :
  Aq (Au prog w) A (wE .Gt (.int a t) (.int c u)) Q E s:=
 (PyProof.Rows.gt_int h:Aq (Au prog w) A (Ci .Gt (.int a t) (.int c u)) Q E s)
theorem sN (l b:Af)(items Y:Ay Ad)(n n2:Ag)(dd r:An Af)(sl zb:Ay (An Ad))(ns o:Aa Aj)(hi:Ir items.toList ns)(hj:Ir Y.toList o) :
  Meets (Hr.«tuple.__gt__» ⟨[.ref l,.ref b],[]⟩)
   (λ_ R s=>s.heap.get? l=Ab { cls:=.type "tuple",dict:=dd,data:=.seq items n,slots:=sl } /\ s.heap.get? b=Ab { cls:=.type "tuple",dict:=r,data:=.seq Y n2,slots:=zb } /\
    R (.ok (.ret (.bool (_H.lexLt o ns)))) s):=
 .of_wp λL w A R s h=>by
  obtain⟨j,g,d,p,os⟩:=s;obtain⟨hl,hb,h⟩:=h;have f2:=Oc;have z1:items.size=ns.length:=by rw[<- hi.length];simp
  have z2:Y.size=o.length:=by rw[<- hj.length];simp
  wp_walk using wpAny_loadPart' hl,wpAny_loadPart' hb,HT _ (λav b v=>b.1=none/\v=⟨j,g,d,p,os⟩/\∃ (vs k:ag) (U G:Aa Aj),av=vs.zip k /\
   Ir vs U/\Ir k G/\U.length+Y.size=G.length+items.size/\R (.ok (.ret (.bool (_H.lexLt G U)))) ⟨j,g,d,p,os⟩) _
  case turn =>
   rintro⟨y,x⟩ av b v ⟨H,rfl,vs,k,U,G,C,E,O,J,B⟩;cases E with
   |nil=>rw[Zn] at C;cases C
   |cons a t M =>
    cases O with
    |nil=>rw[Yn] at C;cases C
    |cons c u z =>
     rw[Im] at C;injection C with f I
     injection f with hy hx
     subst hy hx;rw[_H.aw] at B;simp only[Bv] at J;obtain⟨e,he,T⟩:=_H.mn A.in1 ⟨j,g,d,p,os⟩ a t c u;refine Ac (he L w _ _ ?_);cases e with
     |true =>
      rw[Bi (T.mp rfl).symm] at B
      wp_walk
      exact⟨rfl,rfl,_,_,_,_,I,M,z,by lia,B⟩
     |false =>
      rw[Bh (λq=>absurd (T.mpr q.symm) Es)] at B;have i:=K1 A.in1 ⟨j,g,d,p,os⟩ a t c u L w
      wp_walk using i
      exact⟨_,rfl,by simpa using B⟩
  case fin =>
   rintro⟨b1,b2⟩ v ⟨H,rfl,vs,k,U,G,C,E,O,J,B⟩;simp only at H;subst H;have hv:_H.lexLt G U=decide (Y.size<items.size):=by
    cases E with
    |nil =>
     cases O with
     |nil =>
      simp only[Eh] at J;rw[_H.fr];exact(Co li).symm
     |cons c u hw =>
      simp only[Eh,Bv] at J;rw[_H.gt];exact(Co li).symm
    |cons a t hv =>
     cases O with
     |nil =>
      simp only[Eh,Bv] at J;rw[_H.gr];exact(Bm li).symm
     |cons c u hw =>
      rw[Im] at C;cases C
   rw[hv] at B
   wp_walk
   exact⟨_,rfl,by simpa [Kt] using B⟩
  case h =>
   exact⟨rfl,rfl,items.toList,Y.toList,ns,o,rfl,hi,hj,by lia,h⟩
end
section
variable {X:Cx}
theorem QC {prog:Bo}{w:Cd}{A:Bu}{E:ab}{s:Ah}{l b:Af}{items Y:Ay Ad}{O:Aa Aj}(u:Ri s.heap l items)(k:Ri s.heap b Y)(hi:Ir items.toList ns)(M:Ir Y.toList O)
  (y:A.units<Ed) (h:Q (.bool (_H.lexLt O ns)) s):Aq (Au prog w) A (Ci .Gt (.ref l) (.ref b)) Q E s:=by
 obtain⟨⟨cls,z,data,sl⟩,T,H,n,I⟩:=id u;obtain⟨⟨L,C,data2,B⟩,U,J,j,G⟩:=id k;simp only at H I J G;subst H I J G;exact Pk (op:=.Gt) ⟨_,T,rfl⟩ ⟨_,U,rfl⟩ PySem.F.slot_tuple_gt PySem.F.entry_tuple_gt (PySem.F.args_tuple_gt_2 _ _) (sN l b items Y n j z C sl B ns O hi M)
  ⟨T,U,show Hm (_H.lexLt O ns)≠Qo/\Q (.bool (_H.lexLt O ns)) s from⟨(λx=>nomatch x),h⟩⟩ y
theorem pL {ai:aa}{σ:_L.St}{H P:Hp}{s:Ah}{xs:Aa D}{v:V}{J:Ad}(I:Inv X ai σ H s)(r:bf X.K H P α S)(G:qG v J)(p:aq X.K P α (.tup xs) v)(h:yG xs=Ab ns) :
  ∃ a am,J=.ref a/\Ri s.heap a (List.toArray am)/\Ir am ns:=by
 have:=mM h;subst this;obtain⟨a,vs,am,rfl,B,O,Y,U,C,_⟩:=jT I r p;have:=bJ O;subst this;exact⟨a,am,G,U,by simpa using QD Y⟩
set_option tactic.hygienic true in
theorem RK (w:X.A.units<Ed):fv X (Ci .Lt) l5:=by
 intro A σ H s P α S v u j E a b Q I r U J G O Y;unfold l5 at Y
 split at Y
 .rename_i xs ys
  split at Y
  .rename_i ns y B T
   obtain⟨a,am,rfl,z,M⟩:=pL I r U G B;obtain⟨b,C,rfl,L,i2⟩:=pL I r J O T;exact _H.nk z L (by simpa using M) (by simpa using i2) w ⟨.bl _,H,I,rfl,xr Y r (by simp only[aq])⟩
  .exact Ar Y
 .exact P8 A σ H s P α S v u j E a b Q I r U J G O Y
set_option tactic.hygienic true in
theorem RH (w:X.A.units<Ed):fv X (Ci .Gt) l3:=by
 intro A σ H s P α S v u j E a b Q I r U J G O Y;unfold l3 at Y
 split at Y
 .rename_i xs ys
  split at Y
  .rename_i ns y B T
   obtain⟨a,am,rfl,z,M⟩:=pL I r U G B;obtain⟨b,C,rfl,L,i2⟩:=pL I r J O T;exact QC z L (by simpa using M) (by simpa using i2) w ⟨.bl _,H,I,rfl,xr Y r (by simp only[aq])⟩
  .exact Ar Y
 .exact P7 A σ H s P α S v u j E a b Q I r U J G O Y
end
section
variable {X:Cx}
noncomputable def qBo:DF:=λds S=>match ds with
 |[.int a,.int b]=>.ok (.int (if b>a then b else a)) S
 |_=>.bad
def tJ:DF:=λds S=>match ds with
 |[.int a,.int b]=>.ok (.int (if b<a then b else a)) S
 |_=>.bad
inductive Two (ds:Aa D):Prop
 |no (h:∀ (g:Aj->Aj->ba D),(match ds with|[.int a,.int b]=>g a b|_=>.bad)=.bad)
 |of (a b:Aj) (ed:ds=[.int a,.int b])
theorem _r (ds:Aa D):Two ds:=by
 cases ds with
 |nil=>exact .no λ_=>rfl
 |cons d ds =>
  cases d with
  |int a =>
   cases ds with
   |nil=>exact .no λ_=>rfl
   |cons e ds =>
    cases e with
    |int b =>
     cases ds with
     |nil=>exact .of a b rfl
     |cons _ _=>exact .no λ_=>rfl
    |_=>exact .no λ_=>rfl
  |_=>exact .no λ_=>rfl
theorem PZ (A:X.calm=true):wM X (.builtin "min") tJ:=by
 intro B σ H s P α S vs z ds Q I r T M J;cases _r ds with
 |no h=>exact(NV (X:=X) (r:=tJ ds S) (h _) J).elim
 |of a b L =>
  subst L;obtain⟨v,w,u,x,rfl,rfl,p,C,q,O⟩:=fM M T;cases xG p;cases xG C;obtain⟨t,rfl⟩:=q;obtain⟨t',rfl⟩:=O;refine min_two_ints (I.ok.hd A) λh' U E=>?_;have G:Inv X B σ H { s with heap:=h',toks:=U }:=I.kept (t':=U) E
  by_cases Y:b<a
  .rw[Bi Y]
   exact⟨.int b,H,G,⟨t',rfl⟩,xr J r (by simp only[aq];rw[Bi Y])⟩
  .rw[Bh Y]
   exact⟨.int a,H,G,⟨t,rfl⟩,xr J r (by simp only[aq];rw[Bh Y])⟩
end
end _D
namespace _D
open _L PySem.SeqAt
section
variable {X:Cx}{ai:aa}{σ : _L.St}{H P:Hp}{α : Aa Af}{S:ak}{s:Ah}
inductive wp (X:Cx)(P:Hp)(α : Aa Af)(d d':D):Prop
 |eq (h:d=d')
 |tt (xs ys:Aa D) (its:ag) (ed:d=.tup xs) (ed':d'=.tup ys) (q:jc X P α xs ys its its)
 |ll (xs ys:Aa D) (its:ag) (ed:d=.lst xs) (ed':d'=.lst ys) (q:jc X P α xs ys its its)
theorem PJ {d d':D}{u:Ad}(A:Kd X P α s d u)(G:Kd X P α s d' u):wp X P α d d':=by
 cases A with
 |non=>cases G;exact .eq rfl
 |bl b=>cases G;exact .eq rfl
 |int i t=>cases G;exact .eq rfl
 |str x t=>cases G;exact .eq rfl
 |tup a L I T E B h q =>
  cases G with
  |tup _ N J O Y Q U C =>
   cases lB h U;exact .tt L N I rfl rfl ⟨T,O,E,B,Y,Q⟩
  |lst _ N J O Y Q U C=>exact(QJ h U).elim
 |lst a L I T E B h q =>
  cases G with
  |lst _ N J O Y Q U C =>
   cases i6 h U;exact .ll L N I rfl rfl ⟨T,O,E,B,Y,Q⟩
  |tup _ N J O Y Q U C=>exact(QJ U h).elim
theorem dH (I:Inv X ai σ H s)(r:bf X.K H P α S){m:Ag}(A:∀ (d d' e:D) (u:Ad),pl m d=true->pl m d'=true->Kd X P α s d u->Kd X P α s d' u->e_ d e=e_ d' e){xs N Y:Aa D}{am:ag}(h1:xs.all (pl m)=true)(h2:N.all (pl m)=true)(q:jc X P α xs N am am):zE xs Y=zE N Y:=by
 obtain⟨p,o,L,O,G,U⟩:=q;have T:=L.length.trans O.length;have z:=G.length.trans U.length;rw[y8,y8,T,z]
 congr 1
 have J:∀ j∈Cg (min am.length Y.length),e_ (xs.getD j .non) (Y.getD j .non)=e_ (N.getD j .non) (Y.getD j .non):=λj Q=>by
  have y:=Ee.mp Q;have Q:j<am.toArray.size:=by rw[Bt];lia
  obtain⟨l,E,k,B⟩:=yZ L O Q;obtain⟨g,M,w,C⟩:=yZ G U Q;exact A _ _ _ _ (wF h1 B) (wF h2 C) (yU I r (wF h1 B) E k) (yU I r (wF h2 C) M w)
 rw[Jw,Bb,Bb];exact⟨λh j Q=>(J j Q)▸h j Q,λh j Q=>(J j Q).symm▸h j Q⟩
theorem BU (I:Inv X ai σ H s)(r:bf X.K H P α S):∀ (n:Ag) (d d' e:D) (u:Ad),pl n d=true->pl n d'=true->Kd X P α s d u->Kd X P α s d' u->e_ d e=e_ d' e:=by
 intro n
 induction n with
 |zero =>
  intro d d' e u J G U N;cases PJ U N with
  |eq h=>rw[h]
  |tt _ _ _ Y=>subst Y;exact Dn J
  |ll _ _ _ Y=>subst Y;exact Dn J
 |succ m O =>
  intro d d' e u J G U N;cases PJ U N with
  |eq h=>rw[h]
  |tt T L C Y Q q =>
   subst Y Q;cases e with
   |tup B=>exact dH I r O J G q
   |_=>rfl
  |ll T L C Y Q q =>
   subst Y Q;cases e with
   |lst B=>exact dH I r O J G q
   |_=>rfl
open Classical in
def rg (X:Cx)(P:Hp)(α : Aa Af)(s:Ah)(xs:Aa D)(d:D)(y:Ad):As:=if h:∃ z,z∈xs/\Kd X P α s z y then e_ (Kw h) d else false
theorem XI (I:Inv X ai σ H s)(r:bf X.K H P α S){n:Ag}{xs:Aa D}{vs:Aa V}{am:ag}{d:D}(h:xs.all (pl n)=true)(U:qC X.K P α xs vs)(J:qI vs am){j:Ag}(Y:j<am.length):∃ z,z∈xs/\Kd X P α s z am[j]/\rg X P α s xs d am[j]=e_ z d/\e_ z d=e_ (xs.getD j .non) d:=by
 obtain⟨w,y,z,m⟩:=yZ U J (j:=j) (by rw[Bt];exact Y)
 have k:=yU I r (wF h m) y z;have Q:∃ z,z∈xs/\Kd X P α s z am[j]:=⟨_,m,k⟩;have hs:=Jn Q;refine⟨Kw Q,hs.1,hs.2,?_,BU I r n _ _ d _ (wF h hs.1) (wF h m) hs.2 k⟩;unfold rg;rw[dif_pos Q]
theorem BR (I:Inv X ai σ H s)(r:bf X.K H P α S){n:Ag}{xs:Aa D}{vs:Aa V}{am:ag}{d:D}(h:xs.all (pl n)=true)(U:qC X.K P α xs vs)(Q:qI vs am):am.map (rg X P α s xs d)=xs.map λx=>e_ x d:=by
 have l:=U.length.trans Q.length;refine Mv (by rw[Ao,Ao,l]) λj Y J=>?_
 rw[Ao] at Y J;rw[Qc,Qc];obtain⟨z,_,_,G,N⟩:=XI (d:=d) I r h U Q Y;rw[G,N];simp[Ie,J]
theorem XJ (I:Inv X ai σ H s)(r:bf X.K H P α S){n:Ag}{A:Bu}{xs:Aa D}{vs:Aa V}{am:ag}{d:D}{v:V}{u:Ad}(O:A.units+n<Ed)(h:xs.all (pl n)=true)(Q:pl n d=true)(C:qC X.K P α xs vs)(N:qI vs am)(p:aq X.K P α d v)(q:qG v u):∀ y,y∈am.toArray->EqAt A s y u (rg X P α s xs d y):=λy J=>by
 obtain⟨j,Y,rfl⟩:=Cp.mp (show y∈am by simpa using J)
 obtain⟨z,G,k,U,_⟩:=XI (d:=d) I r h C N Y;rw[U];exact(eC I r n A z d _ u O (wF h G) Q k (yU I r Q p q)).eq
def sx (a b:D):An As:=match zU b with
 |some Q=>if Q.all (pl zH)&&pl zH a then Ab (Q.any λx=>e_ x a) else none
 |none=>none
def gIn:G2:=λa b S=>match sx a b with
 |some k=>.ok (.bl k) S
 |none=>.bad
def g9:G2:=λa b S=>match sx a b with
 |some k=>.ok (.bl (!k)) S
 |none=>.bad
theorem UJ {a b:D}{k:As}(h:sx a b=Ab k):∃ xs,yk b xs/\xs.all (pl zH)=true/\pl zH a=true/\k=xs.any λx=>e_ x a:=by
 unfold sx at h;cases e:zU b with
 |none=>rw[e] at h;exact nn h
 |some xs =>
  rw[e] at h;obtain⟨c,rfl⟩:=jD h;have Q:=Bool.and_eq_true_iff.mp c;exact⟨xs,xz e,Q.1,Q.2,rfl⟩
theorem AM (i:X.A.units+64<Ed)(I:Inv X ai σ H s)(r:bf X.K H P α S){a b:D}{v u:V}{L N:Ad}{k:As}(y:qG v L)(M:qG u N)(o:aq X.K P α a v)(p:aq X.K P α b u)(h:sx a b=Ab k) :
  (∀ {Q:ab} {E:ab},Q (.bool k) s->Aq (Au X.prog X.w) X.A (Ci .In L N) Q E s)/\∀ {Q:ab} {E:ab},Q (.bool (!k)) s->Aq (Au X.prog X.w) X.A (Ci .NotIn L N) Q E s:=by
 obtain⟨U,m,T,w,rfl⟩:=UJ h;have C:X.A.in1.units+zH<Ed:=by show X.A.units+1+zH<Ed;unfold zH;lia
 have J:∀ {z:Aa V} {O:ag},qC X.K P α U z->qI z O->O.toArray.any (rg X P α s U a)=U.any λx=>e_ x a:=λf Y=>by
  rw[<- Array.any_toList];have e:=congrArg (λl=>l.any id) (BR (d:=a) I r T f Y);rw[Uf,Uf] at e;exact e
 cases m with
 |tup A =>
  subst A;obtain⟨l,g,O,rfl,c,t,Y,B,_,_⟩:=jT I r p;cases (show N=Cy l from M)
  have G:=XJ I r C T w t Y o y;exact⟨λq=>in_tupleAt (rg X P α s U a) B G (by rw[J t Y];exact q),λq=>notIn_tupleAt (rg X P α s U a) B G (by rw[J t Y];exact q)⟩
 |lst A =>
  subst A;obtain⟨l,g,O,n,rfl,c,t,Y,B,_,_⟩:=bO I r p;cases (show N=Cy l from M)
  have j:s.heap.IsList l O.toArray:=⟨_,B,rfl,n,rfl⟩;have G:=XJ I r C T w t Y o y;exact⟨λq=>in_listAt (rg X P α s U a) j G (by rw[J t Y];exact q),λq=>notIn_listAt (rg X P α s U a) j G (by rw[J t Y];exact q)⟩
theorem JB (C:X.A.units+64<Ed):fv X (Ci .NotIn) g9:=by
 intro ai σ H s P α S v u L B a b Q I r G U N O J;have Y:qJ X P α (match sx a b with|some k=>ba.ok (D.bl (!k)) S|none=>.bad) (jj X P α Q):=J
 clear J;cases e:sx a b with
 |none=>rw[e] at Y;exact Ar Y
 |some k =>
  rw[e] at Y;exact(AM C I r G U N O e).2 ⟨.bl _,H,I,rfl,xr Y r (by simp only[aq])⟩
end
end _D
namespace _D
open _L
section
variable {K:Ak}{H P:Hp}{α : Aa Af}{S:ak}
theorem bf.still {a:Af}{n:Ag}{m:MO}{o:HO}(r:bf K H P α S)(J:α[n]? = Ab a)(hs:S[n]? = Ab m)(O:m≠.dead):bf K (b_ H a o) (b_ P a o) α (S.set n .dead)/\qF P (b_ P a o):=by
 have B:=r.sep n a m J hs O;have N:qF P (b_ P a o):=pF B;have Q:=r.put (o:=o) (m':=.dead) J hs O trivial;have L:n<S.length:=(Ax.mp hs).1;refine⟨⟨Q.tb.keep (λ_ _ q _=>q) λb u q _ p n=>⟨(qP λ(z:b=a)=>n (by rw[z];exact Cj J)).trans p,n⟩,λb u e=>?_,Q.len,Q.nd,λi b u U Y C=>?_,λi b u U Y=>(Q.at' i b u U Y).mono N (Bd _),Q.own⟩,N⟩
 .by_cases G:b=a
  .subst G;rw[z9] at e ⊢;exact e
  .rw[qP G] at e ⊢;exact r.sub _ _ e
 .have G:b≠a:=by
   rintro rfl;have:=dY r.nd U J;subst this;rw[Dk L] at Y;cases Y;exact C rfl
  rw[qP G];exact Q.sep i b u U Y C
end
def qBm (f:DE):DI:=λY S=>(f Y S).bind λd J=>match d with
 |.loc n=>match J[n]? with
  |some (.dct Q)=>.ok (Q.map (·.2)) (J.set n .dead)
  |_=>.bad
 |_=>.bad
theorem iF {K:Ak}{P:Hp}{α:ae}:∀ {kvs:Aa (bo × D)} {vs:Aa (bo × V)},md K P α kvs vs->qC K P α (kvs.map (·.2)) (vs.map (·.2))
 |_,_,.nil=>.nil
 |_,_,.cons z t=>.cons z.2 (iF t)
section
variable {X:Cx}{tg o:Bz}{fo:DE}{de cu:Fn}
theorem YO {S:ak}{n:Ag}{kvs:Aa (bo × D)}(h:S[n]? = Ab (.dct kvs)):mh (.loc n) S=Ab "dict":=by
 show (match S[n]? with|some (.lst _)=>Ab "list" | some (.dct _)=>Ab "dict" | _=>none)=_
 rw[h]
end
section
variable {X:Cx}
theorem V8:Fy "set" = Ab (.type "set"):=by decide +kernel
variable {e:Bz}{fa:DE}{p1 p2 pv pq:Fn}
end
structure ug (X:Cx)(tg it:Bz)(f:me):Prop where
 get:PI X tg it (mi X f)
structure QK (B:Acc)(Y:Cx)(step:Ad->Kr Uv)(k:DK):Prop where
 get:PK B Y step k
section
variable {B:Acc}{X Y:Cx}{tg it e o cb a_ ie:Bz}{es cw av:Aa Bz}{fa fo fe fi:DE}{fA:DA}{fI:DI}{f2:me}{g:DG}{t:DT}{kk:DK}{p ao:Fn}{n k:Ag}{x:Aw}{cm:As}{F:DF}{f:DS}{bh eh:Aa DL}{aj:Fd}{N':Aa Aw}{bu:Aa (An Ag)}{mm:As}
theorem ET (h:QI X tg it fI):ug X tg it (xQ fI):=⟨BH h.1⟩
theorem ES (h:QE X e fa):ug X tg e (ge fa):=⟨A7 h.1⟩
theorem MR {e1:Bz}{J:Aa Bz}{G:Ag}{N:Fn}(O:Gl X "enumerate")(hm:X.mg "enumerate" = none)(U:QA X [e1] fA)(hs:Bs [e1] X.env=(false,eval e1 X.env)::Bs [] X.env:=by rfl)(Q:(Gi ao (Bs [] X.env)).any (·.1)=false:=by rfl) :
  QI X (.Tuple J G N) (.Call (.Name "enumerate" p) [e1] [] ao) (sT fA):=⟨BG O hm U.1 hs Q⟩
theorem MW {Q:Aa Fz}(hp:mw X)(J:X.calm=true)(hi:ug X tg a_ f2)(G:QG X tg g)(U:QB X Q f)(hs:∀ x,Eg a_ X.env x=pure x:=by intro _;rfl):QS X (.For tg a_ Q [] ao) (nH f2 g f):=⟨BM hp.1 J hi.1 G.1 U.1 hs⟩
theorem MS (J:Y.xe=λ_ _=>Ey)(Q:bh[k+1]? = none)(U:QE Y cb fe):QK j_ Y (λar=>xA false cb bh aj ao k ar Y.env) (z0 fe):=⟨M6 J Q U.1⟩
theorem O9 (J:Y.calm=true)(N:Y.xe=λ_ _=>Ey)(Q:bh[k+1]? = Ab ⟨tg,a_,cw,0⟩)(has:∀ g',bh[k+1+1]? = Ab g'->g'.is_async=0)(hi:ug Y tg a_ f2)(O:QG Y tg g)(U:uf Y cw t)(G:QK B Y (λar=>xA B.m cb bh aj ao (k+1) ar Y.env) kk)(hs:∀ x,Eg a_ Y.env x=pure x) :
  QK B Y (λar=>xA B.m cb bh aj ao k ar Y.env) (kIn f2 g t kk):=⟨IY J N Q has hi.1 O.1 U.1 G.1 hs⟩
theorem JN (N:X.calm=true)(S:df X.env.scope X.N aj N' bu)(hi:ug X tg a_ f2)(T:∀ U C G Q J,QG (qY X N' aj U C G Q J) tg g)(O:∀ U C G Q J,uf (qY X N' aj U C G Q J) cw t)
  (has:∀ g',(⟨tg,a_,cw,0⟩::eh:Aa DL)[0+1]? = Ab g'->g'.is_async=0)
  (L:∀ U C G Q J,QK j_ (qY X N' aj U C G Q J) (λar=>xA false cb (⟨tg,a_,cw,0⟩::eh) aj ao 0 ar (qY X N' aj U C G Q J).env) kk) (hs:∀ x,Eg a_ X.env x=pure x) :
  QE X (.ListComp cb (⟨tg,a_,cw,0⟩::eh) aj ao) (qW mm bu f2 g t kk):=
 ⟨VP N S hi.1 (λU C G s H=>(T U C G s H).1) (λU C G s H=>(O U C G s H).1) has (λU C G s H=>(L U C G s H).1) hs⟩
theorem JT {m:Ag}{y:Aw}{L N:Fn}(z:X.calm=true)(A:X.N.Nodup)(S:df X.env.scope X.N aj N' bu)(hi:ug X tg a_ f2)(w:∀ U C G J Q,QG (qY X N' aj U C G J Q) tg g)(I:∀ U C G J Q,uf (qY X N' aj U C G J Q) cw t)
  (has:∀ g',(⟨tg,a_,cw,0⟩::eh:Aa DL)[0+1]? = Ab g'->g'.is_async=0)
  (T:∀ U C G J Q,QK j_ (qY X N' aj U C G J Q) (λar=>xA false cb (⟨tg,a_,cw,0⟩::eh) aj ao 0 ar (qY X N' aj U C G J Q).env) kk) (E:X.N[m]? = Ab y) (O:Loc X.env.scope y) (M:X.fn y=true\/X.env.scope.names.lookup y=Ab .local)
  (hsw:Pc (.ListComp cb (⟨tg,a_,cw,0⟩::eh) aj ao) (Ab (.Name y L)) N.line X.env=pure true) (hs:∀ x,Eg a_ X.env x=pure x):QS X (.Assign [.Name y L] (.ListComp cb (⟨tg,a_,cw,0⟩::eh) aj ao) N) (qT (qW mm bu f2 g t kk) (bi m)):=
 ⟨VX z A S hi.1 (λU C G s H=>(w U C G s H).1) (λU C G s H=>(I U C G s H).1) has (λU C G s H=>(T U C G s H).1) E O M hsw hs⟩
theorem KR:yf X "dict.setdefault" wW:=⟨WH⟩
theorem qAI (Q:az cm k X.A):ip X (Ci .Lt) l5:=⟨RK (by have:=sy Q;fin2)⟩
theorem qAC (Q:az cm k X.A):ip X (Ci .Gt) l3:=⟨RH (by have:=sy Q;fin2)⟩
end
def kL (H:Hp):Aa (Af × HO)->Hp
 |[]=>H
 |p::Q=>kL (b_ H p.1 p.2) Q
theorem lW {b:Af}:∀ {L:Aa (Af × HO)} {H:Hp},b ∉ L.map (·.1)->kL H L b=H b
 |[],_,_=>rfl
 |p::Q,H,h=>by
  simp only[Df,Bc,Aa6] at h;show kL (b_ H p.1 p.2) Q b=H b;rw[lW h.2,qP h.1]
theorem cQ {b:Af}{u:HO}:∀ {L:Aa (Af × HO)} {H:Hp},kL H L b=Ab u->(b,u)∈L\/H b=Ab u
 |[],_,h=>.inr h
 |p::Y,H,h=>by
  rcases cQ (L:=Y) (H:=b_ H p.1 p.2) h with h|h
  .exact .inl (Ce _ h)
  .by_cases Q:b=p.1
   .subst Q
    rw[z9] at h;cases h;exact .inl (De ..)
   .rw[qP Q] at h
    exact .inr h
section
variable {X:Cx}{ai:aa}{σ : _L.St}{H:Hp}{s:Ah}
theorem Inv.laidL {L:Aa (Af × HO)}{h':Cb}{t':Ag}(I:Inv X ai σ H s)(k:∀ b u,s.heap.get? b=Ab u->h'.get? b=Ab u)(hp:∀ p∈L,s.heap.objs.size<=p.1)(U:∀ p∈L,zM X.prog X.w (kL H L) h' p.1 p.2) :
  Inv X ai σ (kL H L) { s with heap:=h',toks:=t' }:=by
 have Q:∀ b u,H b=Ab u->kL H L b=Ab u:=λb u e=>by
  rw[lW (L:=L)]
  .exact e
  .intro hb
   obtain⟨p,Y,rfl⟩:=Ba.mp hb;rw[I.hok.fresh (hp p Y)] at e;cases e
 have G:∀ b,b<s.heap.objs.size->kL H L b=H b:=λb hb=>lW λJ=>by
  obtain⟨p,Y,rfl⟩:=Ba.mp J;exact absurd (Bl hb (hp p Y)) (Ep _)
 refine I.un ⟨λb u q _ _ _=>k b u q,λb u q _ _ _=>⟨u.slots,k b u q⟩,λb u q n _=>by rw[G b (Bg q)];exact n,λb u q _=>⟨u,k b u q⟩,λb N q=>Q b _ q,λb o N q=>Q b _ q,λb O q=>⟨#[],by rw[Q b _ q];simp⟩⟩ λb u e=>?_
 rcases cQ e with J|hb
 .exact U (b,u) J
 .exact(I.hok b u hb).stay (λc v _ q=>k c v q) (λc q=>Q c _ q) λc N q=>Q c _ q
end
noncomputable def kD:bo->D
 |.inl i=>.int i
 |.inr x=>.str x
theorem SJ {K:Ak}{P:Hp}{α:ae}(k:bo):aq K P α (kD k) (kV k):=by
 cases k <;> simp only[kD,kV,aq]
theorem AO {k:bo}{u:Ad}(h:gY k u=true):qG (kV k) u:=by
 rcases xB h with⟨i,t,rfl,rfl⟩|⟨x,t,rfl,rfl⟩
 .exact⟨t,rfl⟩
 .exact⟨t,rfl⟩
theorem ZX:Fy "list" = Ab (.type "list"):=by decide +kernel
theorem W7 {κ:Type}:∀ {vs:Aa (κ × V)} {us:Aa (κ × Ad)},KV vs us->∀ {j:Ag} {q:κ × V},vs[j]? = Ab q->∃ u,us[j]? = Ab (q.1,u)/\qG q.2 u
 |_,_,.nil,j,q,h=>by simp at h
 |_,_,.cons (a:=x) (b:=y) z t,j,q,h=>by
  cases j with
  |zero =>
   simp at h;subst h;exact⟨y.2,by simp;exact Np z.1.symm rfl,z.2⟩
  |succ j =>
   obtain⟨u,Y,Q⟩:=W7 t (j:=j) (q:=q) (by simpa using h)
   exact⟨u,by simpa using Y,Q⟩
def eK:G2:=λa b S=>match a,b with
 |.bl x,.bl y=>.ok (.bl (x == y)) S
 |_,_=>.bad
section
variable {X:Cx}{tg e o i:Bz}{fa fo fi:DE}{p ao de cu:Fn}{cm:As}{k:Ag}
theorem RJ:fv X (Ci .Is) eK:=by
 intro O σ H s P α S v u B N a b Q I r C G J U Y;cases a with
 |bl x =>
  cases b with
  |bl y =>
   simp only[aq] at J U;subst J U;cases (show B=Hm x from C)
   cases (show N=Hm y from G)
   have h:EP X O σ Q (.bool (x == y)) s:=⟨.bl _,H,I,rfl,xr Y r (by simp only[aq])⟩
   cases x <;> cases y <;> exact Am h
  |_=>exact Ar Y
 |_=>exact Ar Y
theorem qAF:ip X (Ci .Is) eK:=⟨RJ⟩
end
section
variable {X:Cx}{cm:As}{k:Ag}
theorem CJ (Q:X.calm=true):fg X (.builtin "min") tJ:=⟨PZ Q⟩
theorem NH (Q:az cm k X.A):ip X (Ci .NotIn) g9:=⟨JB Q.units⟩
end
end _D
namespace _S
variable {mask:Ag}{xs:Ay Ag}
def Rs (xs:Ay Ag):Prop:=xs.toList.Pairwise (· < ·)
theorem Rs.lt (h:Rs xs){a b:Ag}{x y:Ag}(Q:a<b)(G:xs[a]? = Ab x)(N:xs[b]? = Ab y):x<y:=by
 obtain⟨J,O⟩:=Dz.mp G;obtain⟨U,Y⟩:=Dz.mp N;have:=Kc.mp h a b (by simpa using J) (by simpa using U) Q
 rw[<- O,<- Y];simpa using this
theorem ou {i x d:Ag}(h:xs[i]? = Ab x):xs.getD i d=x:=by
 obtain⟨Y,Q⟩:=Dz.mp h;simp[Go,Y,Q]
structure Y_ (xs:Ay Ag)(j p:Ag):Prop where
 le:p<=xs.size
 lo:∀ i x,i<p->xs[i]? = Ab x->x<j
 hi:∀ i x,p<=i->xs[i]? = Ab x->j<=x
set_option tactic.hygienic true in
theorem fZ (h:Rs xs)(j:Ag):∀ (fuel lo hi:Ag),hi-lo<=fuel->lo<=hi->hi<=xs.size ->
  (∀ i x,i<lo->xs[i]? = Ab x->x<j)->(∀ i x,hi<=i->xs[i]? = Ab x->j<=x)->Y_ xs j (Zy xs j fuel lo hi)
 |0,lo,hi,C,B,U,G,J=>by
  have:lo=hi:=by lia
  subst this;exact⟨U,G,J⟩
 |fuel+1,lo,hi,C,B,U,G,J=>by
  unfold Zy;by_cases Y:lo<hi
  .rw[Bi Y]
   have L:(lo+hi)/2<xs.size:=by lia
   have e:xs[(lo+hi)/2]? = Ab xs[(lo+hi)/2]:=Dr L;simp only[ou e]
   split
   .rename_i O
    refine fZ h j fuel _ hi (by lia) (by lia) U (λi x N Q=>?_) J
    by_cases q:i=(lo+hi)/2
    .subst q;rw[e] at Q;cases Q;exact O
    .exact Hw (h.lt (by lia) Q e) O
   .rename_i O
    refine fZ h j fuel lo _ (by lia) (by lia) (by lia) G (λi x N Q=>?_)
    by_cases q:i=(lo+hi)/2
    .subst q;rw[e] at Q;cases Q;lia
    .have:=h.lt (show (lo+hi)/2<i by lia) e Q
     lia
  .rw[Bh Y]
   have:lo=hi:=by lia
   subst this;exact⟨U,G,J⟩
theorem j9 (h:Rs xs)(j:Ag):Y_ xs j (Cn xs j):=
 fZ h j _ _ _ (by lia) (by lia) (Av _) (λi x Y=>by lia) λi x Y Q=>by
  have:=(Dz.mp Q).1
  lia
theorem fY (h:Rs xs){i j:Ag}(e:xs[i]? = Ab j):Cn xs j=i:=by
 have b:=j9 h j;have U:=(Dz.mp e).1;by_cases J:Cn xs j<i
 .have Q:xs[Cn xs j]? = Ab xs[Cn xs j]:=Dr (by lia)
  have:=h.lt J Q e;have:=b.hi _ _ (Av _) Q
  lia
 .by_cases Y:i<Cn xs j
  .have:=b.lo _ _ Y e
   lia
  .lia
theorem oX (h:Rs xs){i j:Ag}(e:xs[i]? = Ab j):Cn xs (j+1)=i+1:=by
 have b:=j9 h (j+1);have G:=(Dz.mp e).1;have U:i<Cn xs (j+1):=by
  apply Fw;intro q;have:=b.hi _ _ (by lia) e
  lia
 by_cases Y:i+1<Cn xs (j+1)
 .have J:i+1<xs.size:=by have:=b.le;lia
  have Q:xs[i+1]? = Ab xs[i+1]:=Dr J;have:=b.lo _ _ Y Q;have:=h.lt (Kx i) e Q
  lia
 .lia
theorem oY (h:Rs xs):Cn xs 0=0:=by
 have b:=j9 h 0;apply Fw;intro q;have Q:0<xs.size:=by have:=b.le;lia
 have Y:xs[0]? = Ab xs[0]:=Dr Q;have:=b.lo _ _ (by lia) Y
 lia
structure Tb (t:Fx):Prop where
 rs:Rs t.place
 dm:t.dummies=#[]
theorem aZ (j:Ag):Zb #[] j=false:=by simp[Zb]
theorem sD {t:Fx}(T:Tb t){i j:Ag}(e:t.place[i]? = Ab j):t.slot j=.live i:=by
 unfold Ab7;simp only[fY T.rs e,e];simp
theorem ZE {t:Fx}(T:Tb t)(j:Ag):(∃ i,t.slot j=.live i/\t.place[i]? = Ab j)\/(t.slot j=.empty/\j ∉ t.place.toList):=by
 by_cases h:j∈t.place.toList
 .obtain⟨i,J,e⟩:=Cp.mp h
  have Q:t.place[i]? = Ab j:=by rw[<- Bp,Ap J,e]
  exact .inl ⟨i,sD T Q,Q⟩
 .refine .inr ⟨?_,h⟩
  unfold Ab7;simp only[T.dm,aZ];rw[Bh,Bh (by simp)]
  intro q;apply h;have:t.place[Cn t.place j]? = Ab j:=by simpa using q
  obtain⟨U,Y⟩:=Dz.mp this;rw[<- Y];simp
theorem YB (h:Rs xs){j:Ag}(O:j ∉ xs.toList):Rs (Eb xs (Cn xs j) j):=by
 have b:=j9 h j;unfold Rs;rw[Tn];have Y:∀ (i:Ag) (x:Ag),xs.toList[i]? = Ab x->(i<Cn xs j->x<j)/\(Cn xs j<=i->j<x):=λi x e=>by
  have U:xs[i]? = Ab x:=by rw[<- Bp];exact e
  refine⟨λq=>b.lo _ _ q U,λq=>?_⟩;have C:=b.hi _ _ q U;have:x≠j:=by
   rintro rfl;exact O (Cj e)
  lia
 have N:∀ x∈xs.toList.take (Cn xs j),x<j:=λx Q=>by
  obtain⟨i,J,e⟩:=Cp.mp Q;rw[Hg] at J;rw[Sz] at e;exact(Y i x (by rw[Ap (by lia),e])).1 (by lia)
 have G:∀ x∈xs.toList.drop (Cn xs j),j<x:=λx Q=>by
  obtain⟨i,J,e⟩:=Cp.mp Q;rw[Ku] at J;rw[Ta] at e;exact(Y (Cn xs j+i) x (by rw[Ap (by lia),e])).2 (by lia)
 rw[Ct,Dx];refine⟨List.Pairwise.take h,⟨G,List.Pairwise.drop h⟩,λx Q y hy=>?_⟩;rcases Bc.mp hy with rfl|hy
 .exact N x Q
 .exact Hw (N x Q) (G y hy)
theorem tL {α:Type}(xs:Ay α){p:Ag}(hp:p<=xs.size)(x:α)(i:Ag):(Eb xs p x)[i]? = if i<p then xs[i]? else if i=p then Ab x else xs[i-1]?:=by
 rw[<- Bp,Tn];have J:(xs.toList.take p).length=p:=by simp;lia
 by_cases Q:i<p
 .rw[Bi Q,AT (by lia),Ob Q,Bp]
 .rw[Bh Q,Dg (by lia),J]
  by_cases Y:i=p
  .subst Y;simp
  .rw[Bh Y]
   obtain⟨k,U⟩:∃ k,i-p=k+1:=⟨i-p-1,by lia⟩
   rw[U,Os,Yt,Bp]
   congr 1;lia
theorem kJ {α:Type}(xs:Ay α)(p:Ag)(x:α):(Eb xs p x).size=xs.size+1:=by
 have:=(Lw xs p x).length_eq;simpa using this
theorem E8 {t:Fx}(T:Tb t){j:Ag}(Q:j ∉ t.place.toList):Tb (t.put j).1:=by
 refine⟨YB T.rs Q,?_⟩;show (if Zb t.dummies j then _ else t.dummies)=#[]
 rw[T.dm,aZ];rfl
open PySem.SetTable (Probe leap runEnd turns bits)
noncomputable def ol (mask:Ag)(p:Pd):Pd:=if p.more>0 then { p with j:=p.j+1,more:=p.more-1 } else { p with j:=(leap mask p.i p.perturb).1,more:=Hv mask (leap mask p.i p.perturb).1-(leap mask p.i p.perturb).1,i:=(leap mask p.i p.perturb).1,perturb:=(leap mask p.i p.perturb).2 }
theorem NU (t:Fx)(p:Pd):t.advance p=ol t.mask p:=rfl
def it (mask:Ag):Ag->Pd->Pd
 |0,p=>p
 |n+1,p=>it mask n (ol mask p)
theorem fB (mask:Ag):∀ (n:Ag) (p:Pd),it mask (n+1) p=ol mask (it mask n p)
 |0,p=>rfl
 |n+1,p=>fB mask n (ol mask p)
theorem tO (mask:Ag):∀ (m n:Ag) (p:Pd),it mask (m+n) p=it mask n (it mask m p)
 |0,n,p=>by rw[Hx];rfl
 |m+1,n,p=>by rw[Rw];exact tO mask m n (ol mask p)
noncomputable def rs (mask i Q:Ag):Pd:={ j:=i,more:=Hv mask i-i,i,perturb:=Q,dummy:=none }
def st (mask:Ag)(h:Aj):Pd:=rs mask (bits h % (mask+1)) (bits h)
theorem bK (mask i Q:Ag):∀ k,k<=Hv mask i-i->it mask k (rs mask i Q)={ j:=i+k,more:=Hv mask i-i-k,i,perturb:=Q,dummy:=none }
 |0,_=>rfl
 |k+1,Y=>by
  rw[fB,bK mask i Q k (by lia)]
  unfold ol;rw[Bi (by show Hv mask i-i-k>0;lia)]
  simp only[Probe.mk.injEq,and_true,true_and]
  lia
theorem i9 (mask i Q:Ag):it mask (Hv mask i-i+1) (rs mask i Q)=rs mask (leap mask i Q).1 (leap mask i Q).2:=by
 rw[fB,bK mask i Q _ (Av _)];unfold ol;rw[Bh (by show ¬ (Hv mask i-i-(Hv mask i-i)>0);lia)]
 rfl
theorem HG (mask i:Ag):Hv mask i-i+1<=10:=by
 unfold Hv
 split <;> lia
def lp (mask:Ag):Ag->Ag × Ag->Ag × Ag
 |0,q=>q
 |n+1,q=>lp mask n (leap mask q.1 q.2)
theorem WC (mask:Ag):∀ (m n:Ag) (q:Ag × Ag),lp mask (m+n) q=lp mask n (lp mask m q)
 |0,n,p=>by rw[Hx];rfl
 |m+1,n,p=>by rw[Rw];exact WC mask m n _
theorem GQ (mask:Ag):∀ (n i Q:Ag),∃ k,k<=10*n/\it mask k (rs mask i Q)=rs mask (lp mask n (i,Q)).1 (lp mask n (i,Q)).2
 |0,i,Q=>⟨0,by lia,rfl⟩
 |n+1,i,Q=>by
  obtain⟨k,Y,e⟩:=GQ mask n (leap mask i Q).1 (leap mask i Q).2;refine⟨(Hv mask i-i+1)+k,by have:=HG mask i;lia,?_⟩
  rw[tO,i9,e];rfl
theorem iL (mask:Ag):∀ (n i Q:Ag),(lp mask n (i,Q)).2=Q/32 ^ n
 |0,i,Q=>by simp[lp]
 |n+1,i,Q=>by
  show (lp mask n ((leap mask i Q).1,Q/32)).2=_;rw[iL mask n _ (Q/32),Nat.div_div_eq_div_mul,<- Nat.pow_succ']
theorem lF (mask i Q:Ag):(leap mask i Q).1<=mask:=Mf (Pp _ (Rb _))
theorem GR (mask:Ag):∀ (n i Q:Ag),i<=mask->(lp mask n (i,Q)).1<=mask
 |0,i,Q,h=>h
 |n+1,i,Q,h=>GR mask n _ _ (lF mask i Q)
theorem aM (h:Aj):bits h<2 ^ 64:=by
 unfold bits;have Q:(0:Aj)<=h % 2 ^ 64:=Nt _ (by decide)
 have Y:h % 2 ^ 64<(2 ^ 64:Aj):=Lm _ (by decide)
 lia
def oh (mask:Ag):Ag->Ag->Ag
 |0,i=>i
 |n+1,i=>oh mask n ((i*5+1) % (mask+1))
theorem bZ (mask:Ag):∀ (m n i:Ag),oh mask (m+n) i=oh mask n (oh mask m i)
 |0,n,p=>by rw[Hx];rfl
 |m+1,n,p=>by rw[Rw];exact bZ mask m n _
theorem WD (mask:Ag):∀ (n i:Ag),(lp mask n (i,0)).1=oh mask n i
 |0,i=>rfl
 |n+1,i=>by
  show (lp mask n (leap mask i 0)).1=_;have:leap mask i 0=((i*5+1) % (mask+1),0):=by simp[leap]
  rw[this,WD mask n];rfl
def qg (mask:Ag):Prop:=mask=7\/mask=31\/mask=127\/mask=511\/mask=2047
noncomputable def wd (mask:Ag):Ag->Ag->Ag->Ag
 |0,_,Q=>Q
 |n+1,i,Q=>wd mask n ((i*5+1) % (mask+1)) (Q ||| 1 <<< i)
def X8 (mask:Ag):As:=wd mask (mask+1) 0 0 == 2 ^ (mask+1)-1&&oh mask (mask+1) 0 == 0
theorem X9 (h:qg mask):X8 mask=true:=by
 rcases h with rfl|rfl|rfl|rfl|rfl <;> decide +kernel
theorem iQ (mask e:Ag):∀ (n i ar:Ag),(wd mask n i ar).testBit e=true->ar.testBit e=true\/∃ m,m<n/\oh mask m i=e
 |0,i,ar,h=>.inl h
 |n+1,i,ar,h=>by
  rcases iQ mask e n _ _ h with q|⟨m,Q,q⟩
  .rw[Nat.testBit_or,Va] at q
   rcases q with q|q
   .exact .inl q
   .rw[Nat.one_shiftLeft,Nat.testBit_two_pow,Cf] at q
    exact .inr ⟨0,by lia,q⟩
  .exact .inr ⟨m+1,by lia,q⟩
theorem VL (h:qg mask){i e:Ag}(hi:i<=mask)(Y:e<=mask):∃ n,n<=mask/\oh mask n i=e:=by
 have a:=X9 h;unfold X8 at a;rw[Az] at a;obtain⟨Q,U⟩:=a;have Q:wd mask (mask+1) 0 0=2 ^ (mask+1)-1:=by simpa using Q
 have g:∀ e,e<=mask->∃ n,n<=mask/\oh mask n 0=e:=λe Y=>by
  have q:(wd mask (mask+1) 0 0).testBit e=true:=by rw[Q,Nat.testBit_two_pow_sub_one];simp;lia
  rcases iQ mask e _ _ _ q with q|⟨n,G,q⟩
  .simp at q
  .exact⟨n,by lia,q⟩
 have N:oh mask (mask+1) 0=0:=by simpa using U
 obtain⟨m,O,em⟩:=g i hi;obtain⟨n,G,J⟩:=g e Y;by_cases q:m<=n
 .refine⟨n-m,by lia,?_⟩
  rw[<- em,<- bZ,show m+(n-m)=n by lia]
  exact J
 .refine⟨n+(mask+1)-m,by lia,?_⟩
  rw[<- em,<- bZ,show m+(n+(mask+1)-m)=(mask+1)+n by lia,bZ,N]
  exact J
theorem eU (h:qg mask){i Q e:Ag}(hi:i<=mask)(hp:Q<2 ^ 64)(J:e<=mask):∃ n,n<=mask+13/\(lp mask n (i,Q)).1=e:=by
 have Y:(lp mask 13 (i,Q)).2=0:=by
  rw[iL];apply Nat.div_eq_of_lt;exact Hw hp (by decide)
 obtain⟨n,U,q⟩:=VL h (GR mask 13 i Q hi) J;refine⟨13+n,by lia,?_⟩
 rw[WC];have:lp mask 13 (i,Q)=((lp mask 13 (i,Q)).1,0):=by rw[<- Y]
 rw[this,WD];exact q
theorem UL (h:qg mask)(hs:Aj){e:Ag}(Q:e<=mask):∃ n,n<10*turns mask/\(it mask n (st mask hs)).j=e:=by
 obtain⟨n,J,q⟩:=eU h (i:=bits hs % (mask+1)) (Mf (Pp _ (Rb _))) (aM hs) Q;obtain⟨k,U,Y⟩:=GQ mask n (bits hs % (mask+1)) (bits hs);refine⟨k,by unfold turns;lia,?_⟩
 show (it mask k (rs mask _ _)).j=e;rw[Y];exact q
theorem mN (mask:Ag):∀ (n:Ag) (p:Pd),(it mask n p).dummy=p.dummy
 |0,p=>rfl
 |n+1,p=>by
  show (it mask n (ol mask p)).dummy=_;rw[mN mask n];unfold ol
  split <;> rfl
def pe (t:Fx)(p:Pd)(n:Ag):Prop:=∀ m,m<n->(it t.mask m p).j∈t.place.toList
inductive Meets (t:Fx)(hashAt:Ag->Aj)(h:Aj)(p:Pd)(fuel:Ag):An SetTable.Met->Prop
 |emp (n:Ag) (hn:n<fuel) (w:pe t p n) (e:(it t.mask n p).j ∉ t.place.toList) (q:∀ m i,m<n->t.place[i]? = Ab (it t.mask m p).j->hashAt i≠h):Meets t hashAt h p fuel (Ab (.empty (it t.mask n p).j none))
 |cand (n i:Ag) (hn:n<fuel) (w:pe t p n) (e:t.place[i]? = Ab (it t.mask n p).j) (hh:hashAt i=h) (q:∀ m i,m<n->t.place[i]? = Ab (it t.mask m p).j->hashAt i≠h):Meets t hashAt h p fuel (Ab (.candidate (it t.mask n p).j i (it t.mask (n+1) p)))
theorem YA (h:Rs xs){a b x:Ag}(Q:xs[a]? = Ab x)(Y:xs[b]? = Ab x):a=b:=by rw[<- fY h Q,fY h Y]
set_option tactic.hygienic true in
theorem mK {t:Fx}(T:Tb t)(hashAt:Ag->Aj)(h:Aj):∀ (fuel:Ag) (p:Pd),p.dummy=none->(∃ n,n<fuel/\(it t.mask n p).j ∉ t.place.toList)->Meets t hashAt h p fuel (Pe t hashAt h fuel p)
 |0,p,_,⟨n,z,_⟩=>by lia
 |fuel+1,p,A,⟨n,z,U⟩=>by
  unfold Pe;rcases ZE T p.j with⟨i,e,G⟩|⟨e,q⟩
  .rw[e]
   simp only
   split
   .rename_i L
    exact Meets.cand 0 i (by lia) (λm Y=>by lia) G (by simpa using L) λm i Y=>by lia
   .rename_i L
    have E:hashAt i≠h:=by simpa using L
    have y:n≠0:=by
     rintro rfl;exact U (Cj (by rw[Bp];exact G))
    obtain⟨N,rfl⟩:∃ N,n=N+1:=⟨n-1,by lia⟩
    have M:=mK T hashAt h fuel (ol t.mask p) (by rw[<- A];exact mN t.mask 1 p) ⟨N,by lia,U⟩
    rw[NU];have J:p.j∈t.place.toList:=Cj (by rw[Bp];exact G)
    have up:∀ {k:Ag},pe t (ol t.mask p) k->pe t p (k+1):=λ{k} w m Y=>by
     cases m with
     |zero=>exact J
     |succ m=>exact w m (by lia)
    have Q:∀ {k:Ag},(∀ m i,m<k->t.place[i]? = Ab (it t.mask m (ol t.mask p)).j->hashAt i≠h)->∀ m i,m<k+1->t.place[i]? = Ab (it t.mask m p).j->hashAt i≠h:=λ{k} q m I Y H=>by
     cases m with
     |zero=>rw[YA T.rs H G];exact E
     |succ m=>exact q m I (by lia) H
    generalize o:Pe t hashAt h fuel (ol t.mask p)=r at M;cases M with
    |emp k u w C O=>exact Meets.emp (p:=p) (k+1) (by lia) (up w) C (Q O)
    |cand k I u w C B O=>exact Meets.cand (p:=p) (k+1) I (by lia) (up w) C B (Q O)
  .rw[e]
   simp only[A];exact Meets.emp (p:=p) 0 (by lia) (λm Y=>by lia) q λm i Y=>by lia
end _S
namespace _S
open PySem.SetTable (Probe leap runEnd turns bits)
variable {us:Aa Ag}{mask:Ag}{owner:Ay (An Ag)}
structure rm (mask:Ag)(owner:Ay (An Ag))(us:Aa Ag):Prop where
 size:owner.size=mask+1
 nd:us.Nodup
 le:∀ u∈us,u<=mask
 at':∀ j k,j<=mask->(owner.getD j (Ab 0)=Ab k↔us[k]? = Ab j)
theorem lR {i:Ag}(hi:i<=mask):Hv mask i<=mask:=by
 unfold Hv
 split <;> lia
theorem lS (mask i:Ag):i<=Hv mask i:=by
 unfold Hv
 split <;> lia
theorem rm.none (O:rm mask owner us){j:Ag}(Q:j<=mask):(owner.getD j (Ab 0)).isNone=true↔j ∉ us:=by
 constructor
 .intro h Y
  obtain⟨k,J,e⟩:=Cp.mp Y;have:=(O.at' j k Q).mpr (by rw[Ap J,e])
  rw[this] at h;cases h
 .intro h
  cases q:owner.getD j (Ab 0) with
  |none=>rfl
  |some k=>exact absurd (Cj ((O.at' j k Q).mp q)) h
theorem dN (O:rm mask owner us):∀ (fuel i Q:Ag),i<=mask->(∃ L,L<fuel/\(lp mask L (i,Q)).1 ∉ us) ->
  ∃ n,Jj mask owner fuel i Q=Ab (it mask n (rs mask i Q)).j/\(it mask n (rs mask i Q)).j<=mask/\(it mask n (rs mask i Q)).j ∉ us/\∀ m,m<n->(it mask m (rs mask i Q)).j∈us
 |0,i,Q,C,⟨L,p,_⟩=>by lia
 |fuel+1,i,Q,C,⟨L,p,J⟩=>by
  unfold Jj;have l:=lR C;have M:=lS mask i;cases T:(Cg (Hv mask i+1-i)).find? λk=>(owner.getD (i+k) (Ab 0)).isNone with
  |some k =>
   obtain⟨I,A,g⟩:=List.find?_range_eq_some.mp T;have E:k<Hv mask i+1-i:=Ee.mp A;have U:(it mask k (rs mask i Q)).j=i+k:=by rw[bK mask i Q k (by lia)]
   refine⟨k,?_,?_,?_,λm B=>?_⟩
   .rw[U]
   .rw[U];lia
   .rw[U];exact(O.none (by lia)).mp I
   .rw[bK mask i Q m (by lia)]
    have:=g m B;apply Fw;intro q;rw[(O.none (show i+m<=mask by lia)).mpr q] at this
    cases this
  |none =>
   have Y:∀ k,k<Hv mask i+1-i->i+k∈us:=λk E=>by
    have:=Ln.mp T k (Ee.mpr E);apply Fw;intro q;exact this ((O.none (show i+k<=mask by lia)).mpr q)
   have o:L≠0:=by
    rintro rfl;exact J (Y 0 (by lia))
   obtain⟨G,rfl⟩:∃ G,L=G+1:=⟨L-1,by lia⟩
   obtain⟨n,w,u,z,H⟩:=dN O fuel (leap mask i Q).1 (leap mask i Q).2 (lF mask i Q) ⟨G,by lia,J⟩
   have e:∀ m,it mask (Hv mask i-i+1+m) (rs mask i Q)=it mask m (rs mask (leap mask i Q).1 (leap mask i Q).2):=λm=>by rw[tO,i9]
   refine⟨Hv mask i-i+1+n,?_,?_,?_,λm B=>?_⟩
   .rw[e];exact w
   .rw[e];exact u
   .rw[e];exact z
   .by_cases y:m<Hv mask i-i+1
    .rw[bK mask i Q m (by lia)]
     exact Y m (by lia)
    .obtain⟨N,rfl⟩:∃ N,m=Hv mask i-i+1+N:=⟨m-(Hv mask i-i+1),by lia⟩
     rw[e];exact H N (by lia)
theorem gap (h:us.length<=mask):∃ e,e<=mask/\e ∉ us:=by
 apply Fw;intro q;have:Cg (mask+1) ⊆ us:=λe Q=>by
  apply Fw;intro r;exact q ⟨e,by have:=Ee.mp Q;lia,r⟩
 have:=List.Nodup.length_le_of_subset Aa9 this;rw[Pg] at this
 lia
theorem M1 (mask:Ag):rm mask (Array.replicate (mask+1) none) []:=by
 refine⟨by simp,Mp,λu Q=>by simp at Q,λj k Y=>?_⟩
 have:j<mask+1:=by lia
 simp[Go,this]
theorem JE (O:rm mask owner us){j:Ag}(H:j<=mask)(N:j ∉ us):rm mask (owner.setIfInBounds j (Ab us.length)) (us++[j]):=by
 refine⟨by simp[O.size],?_,λu T=>?_,λi k B=>?_⟩
 .rw[Gm]
  refine⟨O.nd,by simp,λa L b C=>?_⟩
  simp at C;rintro rfl;subst C;exact N L
 .rcases Bq.mp T with h|h
  .exact O.le u h
  .simp at h;lia
 .have E:=O.size
  have Y:i<owner.size:=by lia
  have I:∀ {k},us[k]? = Ab i->k<us.length:=λq=>(Ax.mp q).1;by_cases Q:j=i
  .subst Q
   have G:(owner.setIfInBounds j (Ab us.length)).getD j (Ab 0)=Ab us.length:=by simp[Go,Y]
   rw[G];constructor
   .intro q;cases q;simp
   .intro q
    by_cases U:k<us.length
    .rw[AT U] at q
     exact absurd (Cj q) N
    .rw[Dg (by lia)] at q
     have:k-us.length=0:=by
      cases J:k-us.length with
      |zero=>rfl
      |succ z=>rw[J] at q;simp at q
     congr 1;lia
  .have G:(owner.setIfInBounds j (Ab us.length)).getD i (Ab 0)=owner.getD i (Ab 0):=by
    simp[Go,Y,Array.getElem_setIfInBounds,Q]
   rw[G,O.at' i k B];constructor
   .intro q;rw[AT (I q)];exact q
   .intro q
    by_cases U:k<us.length
    .rw[AT U] at q;exact q
    .rw[Dg (by lia)] at q
     cases J:k-us.length with
     |zero=>rw[J] at q;simp at q;exact absurd q Q
     |succ z=>rw[J] at q;simp at q
def oM (mask:Ag)(us:Aa Ag)(hs:Aa Aj):Prop:=∀ (k:Ag) (h:Aj),hs[k]? = Ab h->∃ n,us[k]? = Ab (it mask n (st mask h)).j/\∀ m,m<n->(it mask m (st mask h)).j∈us
theorem dM (A:qg mask):∀ (hs done:Aa Aj) (owner:Ay (An Ag)) (us:Aa Ag),rm mask owner us->us.length=done.length->done.length+hs.length<=mask->oM mask us done ->
  ∃ Q Y,hs.foldl (λar h=>do
   let (owner,k) <- ar
   let j <- Jj mask owner (turns mask) (bits h % (mask+1)) (bits h)
   pure (owner.setIfInBounds j (Ab k),k+1)) (Ab (owner,us.length))=Ab (Q,Y.length)/\rm mask Q Y/\Y.length=done.length+hs.length/\oM mask Y (done++hs)
 |[],done,owner,us,O,G,_,B=>⟨owner,us,rfl,O,by simpa using G,by simpa using B⟩
 |h::hs,done,owner,us,O,G,U,B=>by
  rw[Bv] at U;obtain⟨e,w,I⟩:=gap (mask:=mask) (us:=us) (by lia)
  obtain⟨L,q,E⟩:=eU A (i:=bits h % (mask+1)) (Mf (Pp _ (Rb _))) (aM h) w;obtain⟨n,p,v,g,u⟩:=dN O (turns mask) (bits h % (mask+1)) (bits h) (Mf (Pp _ (Rb _))) ⟨L,by unfold turns;lia,by rw[E];exact I⟩
  have o:=JE O v g;have N:oM mask (us++[(it mask n (rs mask (bits h % (mask+1)) (bits h))).j]) (done++[h]):=λk M J=>by
   by_cases s:k<done.length
   .rw[AT s] at J
    obtain⟨y,c,t⟩:=B k M J;exact⟨y,by rw[AT (by lia)];exact c,λm T=>Dm _ (t m T)⟩
   .rw[Dg (by lia)] at J
    cases C:k-done.length with
    |succ z=>rw[C] at J;simp at J
    |zero =>
     rw[C] at J;simp at J;subst J;refine⟨n,?_,λm T=>Dm _ (u m T)⟩;rw[Dg (by lia),G,C]
     rfl
  obtain⟨Q,Y,H,r,d,l⟩:=dM A hs (done++[h]) _ _ o (by simp[G]) (by simp;lia) N
  refine⟨Q,Y,?_,r,by simpa [Nh,Zc 1] using d,by simpa using l⟩
  rw[Nu];rw[By] at H;have f:(do
   let (owner,k) <- Ab (owner,us.length)
   let j <- Jj mask owner (turns mask) (bits h % (mask+1)) (bits h)
   pure (owner.setIfInBounds j (Ab k),k+1))=Ab (owner.setIfInBounds (it mask n (rs mask (bits h % (mask+1)) (bits h))).j (Ab us.length),us.length+1):=by
   show (Jj mask owner (turns mask) (bits h % (mask+1)) (bits h)).bind _=_;rw[p];rfl
  rw[f];exact H
theorem sL (O:qg mask)(hs:Ay Aj)(Y:hs.size<=mask):∃ owner us,Zz mask hs=Ab owner/\rm mask owner us/\us.length=hs.size/\oM mask us hs.toList:=by
 obtain⟨Q,J,U,G,C,N⟩:=dM O hs.toList [] _ [] (M1 mask) rfl (by simpa using Y) (λk h e=>by simp at e)
 refine⟨Q,J,?_,G,by simpa using C,by simpa using N⟩
 unfold Zz;rw[<- Array.foldl_toList];have:(([]:Aa Ag).length)=0:=rfl;rw[this] at U
 erw [U]
 rfl
structure Laid (mask:Ag)(hs:Ay Aj)(t:Fx)(qR:Ay Ag):Prop where
 msk:t.mask=mask
 tb:Tb t
 size:t.place.size=hs.size
 le:∀ x∈t.place.toList,x<=mask
 perm:qR.toList.Perm (Cg hs.size)
 way:∀ (i k:Ag) (h:Aj),qR[i]? = Ab k->hs[k]? = Ab h->∃ n,t.place[i]? = Ab (it mask n (st mask h)).j/\pe t (st mask h) n
theorem W8 (hM:qg mask)(hs:Ay Aj)(B:hs.size<=mask)(finger moves:Ag)(led plain:As) :
  ∃ t qR,Xw mask finger moves led plain hs=Ab (t,qR)/\t.led=led/\t.plain=plain/\Laid mask hs t qR:=by
 obtain⟨owner,us,e,O,s,hL⟩:=sL hM hs B;have u:∀ j,j<=mask->owner.getD j none=owner.getD j (Ab 0):=λj E=>by
  have:j<owner.size:=by rw[O.size];lia
  simp[Go,this]
 generalize G:((Cg (mask+1)).filterMap λj=>(owner.getD j none).map (j,·))=live
 have mem:∀ (j k:Ag),(j,k)∈live↔us[k]? = Ab j:=λj k=>by
  rw[<- G,Oe];constructor
  .rintro⟨L,A,q⟩
   have U:L<=mask:=by have:=Ee.mp A;lia
   rw[u L U] at q;cases Y:owner.getD L (Ab 0) with
   |none=>rw[Y] at q;cases q
   |some z =>
    rw[Y] at q;simp at q;obtain⟨rfl,rfl⟩:=q;exact(O.at' _ _ U).mp Y
  .intro q
   have E:j<=mask:=O.le j (Cj q);refine⟨j,Ee.mpr (by lia),?_⟩
   rw[u j E,(O.at' j k E).mpr q];rfl
 have C:live.map (·.1)=(Cg (mask+1)).filter λj=>(owner.getD j none).isSome:=by
  rw[<- G,List.map_filterMap];generalize owner.getD=f
  induction Cg (mask+1) with
  |nil=>rfl
  |cons a l g =>
   rw[Jc,List.filter_cons];cases Y:f a none with
   |none=>simpa using g
   |some k=>simpa using g
 have y:(live.map (·.1)).Pairwise (· < ·):=by
  rw[C];exact List.Pairwise.filter _ Pq
 have T:(live.map (·.2)).Nodup:=by
  unfold TD;rw[Cs];have N:=Cs.mp y;refine To (λ{a b} c hb v=>?_) N;intro q;have ea:=(mem a.1 a.2).mp c;have w:=(mem b.1 b.2).mp hb;rw[<- q,ea] at w;simp at w
  lia
 have p:(live.map (·.2)).Perm (Cg hs.size):=by
  rw[Sg T Aa9];intro k;rw[Ba,Ee,<- s];constructor
  .rintro⟨⟨j,z⟩,N,rfl⟩
   exact(Ax.mp ((mem j z).mp N)).1
  .intro M
   exact⟨(us[k],k),(mem _ _).mpr (Ap M),rfl⟩
 have J:∀ j,j∈live.map (·.1)↔j∈us:=λj=>by
  rw[Ba];constructor
  .rintro⟨⟨L,k⟩,N,rfl⟩
   exact Cj ((mem _ _).mp N)
  .intro N
   obtain⟨k,M,e⟩:=Cp.mp N;exact⟨(j,k),(mem _ _).mpr (by rw[Ap M,e]),rfl⟩
 refine⟨{ mask,place:=(live.map (·.1)).toArray,dummies:=#[],finger,led,moves,plain },(live.map (·.2)).toArray,?_,rfl,rfl,rfl,⟨?_,rfl⟩,?_,λx hx=>?_,?_,λi k h d e2=>?_⟩
 .unfold Xw
  rw[e,<- G];rfl
 .exact y
 .have:=p.length_eq
  simp at this ⊢;exact this
 .exact O.le x ((J x).mp hx)
 .exact p
 .have Q:(live.map (·.2))[i]? = Ab k:=by simpa using d
  rw[Du] at Q;cases Y:live[i]? with
  |none=>rw[Y] at Q;cases Q
  |some o =>
   rw[Y] at Q;simp at Q;have H:=Cj Y;have r:=(mem o.1 o.2).mp H;obtain⟨n,I,w2⟩:=hL k h (by rw[Bp];exact e2)
   rw[<- Q] at I;rw[r] at I;refine⟨n,?_,λm hm=>?_⟩
   .rw[<- I]
    simp[Y]
   .have:=(J _).mpr (w2 m hm)
    simpa using this
theorem TN {t:Fx}{hs:Ay Aj}{w:Ag}:SetTable.relaid t hs w=Xw (Fh w-1) t.finger (t.movedTo (Fh w-1)) t.led t.plain hs:=rfl
end _S
namespace _S
open PySem.SetTable (Probe leap runEnd turns bits)
structure gk {K:Type}(is:K->Ad->Prop)(hash:K->Aj)(es:Ay (Aj × Ad))(seen:Aa K):Prop where
 good:∀ e∈es.toList,∃ k,e.1=hash k/\is k e.2
 nd:es.toList.Pairwise λa b=>∀ k,is k a.2->¬ is k b.2
 mem:∀ k,k∈seen↔∃ e∈es.toList,is k e.2
section
variable {K:Type}{is:K->Ad->Prop}{ax:K->Aj}{es lr:Ay (Aj × Ad)}{seen zw:Aa K}
theorem gk.perm (Z:gk is ax es seen)(p:lr.toList.Perm es.toList):gk is ax lr seen:=
 ⟨λe Q=>Z.good e (p.mem_iff.mp Q),(p.pairwise_iff λ{x y} h k Y J=>h k J Y).mpr Z.nd,λk=>(Z.mem k).trans ⟨λ⟨e,Q,q⟩=>⟨e,p.mem_iff.mpr Q,q⟩,λ⟨e,Q,q⟩=>⟨e,p.mem_iff.mp Q,q⟩⟩⟩
theorem gk.nil:gk is ax #[] []:=⟨λe Q=>by simp at Q,by simp,λk=>by simp⟩
theorem gk.push (Z:gk is ax es seen)(Q:∀ {k Y:K} {v:Ad},is k v->is Y v->k=Y){k:K}{x:Ad}(J:is k x)(C:k ∉ seen)(p:lr.toList.Perm (es.toList++[(ax k,x)])):gk is ax lr (k::seen):=by
 refine gk.perm (es:=es.push (ax k,x)) ⟨λe he=>?_,?_,λY=>?_⟩ (by simpa using p)
 .rw[En] at he
  rcases Bq.mp he with he|he
  .exact Z.good e he
  .simp at he;subst he;exact⟨k,rfl,J⟩
 .rw[En,Ct]
  refine⟨Z.nd,by simp,λa O b U Y G N=>?_⟩
  simp at U;subst U;have:=Q J N;subst this;exact C ((Z.mem k).mpr ⟨a,O,G⟩)
 .rw[Bc,Z.mem,En]
  constructor
  .rintro (rfl|⟨e,he,q⟩)
   .exact⟨(ax Y,x),by simp,J⟩
   .exact⟨e,Dm _ he,q⟩
  .rintro⟨e,he,q⟩
   rcases Bq.mp he with he|he
   .exact .inr ⟨e,he,q⟩
   .simp at he;subst he;exact .inl (Q q J)
theorem gk.again (Z:gk is ax es seen){k:K}(Q:k∈seen):gk is ax es (k::seen):=
 ⟨Z.good,Z.nd,λY=>by rw[Bc,Z.mem];exact⟨λh=>h.elim (λe=>by subst e;exact(Z.mem _).mp Q) id,.inr⟩⟩
end
section
open Classical in
theorem mP {K:Type}{is:K->Ad->Prop}:∀ (L:Aa (Aj × Ad)) (U:Aa K),L.Pairwise (λa b=>∀ k,is k a.2->¬ is k b.2)->(∀ e∈L,∃ k∈U,is k e.2)->L.length<=U.length
 |[],U,_,_=>Gh _
 |e::L,U,G,h=>by
  rw[Dx] at G;obtain⟨J,Y,O⟩:=h e (by simp)
  have C:=mP L (U.erase J) G.2 λN Q=>by
   obtain⟨k,B,q⟩:=h N (by simp[Q])
   have:k≠J:=λz=>G.1 N Q J O (z▸q);exact⟨k,(Xa this).mpr B,q⟩
  rw[Tp Y] at C;have:0<U.length:=Vf Y;rw[Bv]
  lia
open Classical in
theorem gk.few {K:Type}{is:K->Ad->Prop}{N:K->Aj}{es:Ay (Aj × Ad)}{seen U:Aa K}{k:K}(Z:gk is N es seen)(O:∀ Q∈seen,Q∈U)(G:k∈U)(C:k ∉ seen):es.size<U.length:=by
 have:=mP es.toList (U.erase k) Z.nd λe J=>by
  obtain⟨Q,_,q⟩:=Z.good e J;have hs:=(Z.mem Q).mpr ⟨e,J,q⟩;have Y:Q≠k:=λz=>C (z▸hs);exact⟨Q,(Xa Y).mpr (O Q hs),q⟩
 rw[Tp G,Bx] at this;have:0<U.length:=Vf G
 lia
end
structure ja (t:Fx)(es:Ay (Aj × Ad)):Prop where
 tb:Tb t
 msk:qg t.mask
 size:t.place.size=es.size
 le:∀ x∈t.place.toList,x<=t.mask
 few:es.size*5<t.mask*3
 way:∀ (i:Ag) (e:Aj × Ad),es[i]? = Ab e->∃ n,t.place[i]? = Ab (it t.mask n (st t.mask e.1)).j/\pe t (st t.mask e.1) n
 plain:t.plain=true
theorem ja.fits {t:Fx}{es:Ay (Aj × Ad)}(T:ja t es):t.fits es.size=true:=by
 have Q:=T.size;have J:=T.few;have Y:t.fill=es.size:=by unfold Tc;rw[T.tb.dm,Q];rfl
 unfold Ab8;rw[Y,Q];rcases T.msk with h|h|h|h|h <;> rw[h] at J ⊢ <;> simp <;> lia
theorem ja.gap {t:Fx}{es:Ay (Aj × Ad)}(T:ja t es):∃ e,e<=t.mask/\e ∉ t.place.toList:=by
 apply _S.gap;rw[Bx,T.size];have Q:=T.few;rcases T.msk with h|h|h|h|h <;> rw[h] at Q ⊢ <;> lia
theorem ja.odd {t:Fx}{es:Ay (Aj × Ad)}(T:ja t es):t.gaveWay=false:=by
 unfold SetTable.gaveWay;rcases T.msk with h|h|h|h|h <;> rw[h] <;> rfl
theorem ja.put {t:Fx}{es:Ay (Aj × Ad)}(T:ja t es){h:Aj}{x:Ad}{n:Ag}(w:pe t (st t.mask h) n)(I:(it t.mask n (st t.mask h)).j ∉ t.place.toList)(Y:(it t.mask n (st t.mask h)).j<=t.mask) :
  let lr:=Eb es (t.put (it t.mask n (st t.mask h)).j).2 (h,x)
  Tb (t.put (it t.mask n (st t.mask h)).j).1/\(t.put (it t.mask n (st t.mask h)).j).1.place.size=lr.size/\(∀ y∈(t.put (it t.mask n (st t.mask h)).j).1.place.toList,y<=t.mask) /\
  (∀ (i:Ag) (e:Aj × Ad),lr[i]? = Ab e->∃ m,(t.put (it t.mask n (st t.mask h)).j).1.place[i]? = Ab (it t.mask m (st t.mask e.1)).j/\pe (t.put (it t.mask n (st t.mask h)).j).1 (st t.mask e.1) m):=by
 generalize E:(it t.mask n (st t.mask h)).j=j at *;have C:∀ y,y∈(t.put j).1.place.toList↔y=j\/y∈t.place.toList:=λy=>by
  show y∈(Eb t.place (Cn t.place j) j).toList↔_;rw[(Lw _ _ _).mem_iff];simp[or_comm]
 have B:Cn t.place j<=t.place.size:=(j9 T.tb.rs j).le;have G:∀ {p:Pd} {m:Ag},pe t p m->pe (t.put j).1 p m:=λ{p m} w q H=>(C _).mpr (.inr (w q H));refine⟨E8 T.tb I,?_,λy hy=>?_,λi e L=>?_⟩
 .show (Eb t.place _ j).size=(Eb es _ (h,x)).size
  rw[kJ,kJ,T.size]
 .rcases (C y).mp hy with rfl|hy
  .exact Y
  .exact T.le y hy
 .have Q:(if i<Cn t.place j then es[i]? else if i=Cn t.place j then Ab (h,x) else es[i-1]?)=Ab e:=by
   rw[<- tL es (by rw[<- T.size];exact B)]
   exact L
  have pl:(t.put j).1.place[i]? = if i<Cn t.place j then t.place[i]? else if i=Cn t.place j then Ab j else t.place[i-1]?:=tL t.place B j i
  rw[pl];by_cases N:i<Cn t.place j
  .rw[Bi N] at Q ⊢
   obtain⟨m,J,U⟩:=T.way i e Q;exact⟨m,J,G U⟩
  .rw[Bh N] at Q ⊢
   by_cases O:i=Cn t.place j
   .rw[Bi O] at Q ⊢
    cases Q;exact⟨n,by rw[E],G w⟩
   .rw[Bh O] at Q ⊢
    obtain⟨m,J,U⟩:=T.way _ e Q;exact⟨m,J,G U⟩
theorem GP {mask:Ag}(p:Pd)(hp:p.j+p.more<=mask):∀ n,(it mask n p).j+(it mask n p).more<=mask
 |0=>hp
 |n+1=>by
  rw[fB];have Y:=GP p hp n;unfold ol
  split
  .show (it mask n p).j+1+((it mask n p).more-1)<=mask
   lia
  .show (leap mask _ _).1+(Hv mask (leap mask _ _).1-(leap mask _ _).1)<=mask
   have Q:=lR (lF mask (it mask n p).i (it mask n p).perturb);have J:=lS mask (leap mask (it mask n p).i (it mask n p).perturb).1
   lia
theorem OL (mask:Ag)(h:Aj)(n:Ag):(it mask n (st mask h)).j<=mask:=by
 have Q:bits h % (mask+1)<=mask:=Mf (Pp _ (Rb _));have:=GP (mask:=mask) (st mask h) (by
  show bits h % (mask+1)+(Hv mask (bits h % (mask+1))-bits h % (mask+1))<=mask;have Y:=lR Q;have J:=lS mask (bits h % (mask+1))
  lia) n
 lia
theorem aD {t:Fx}{es:Ay (Aj × Ad)}(r:qg t.mask)(hp:t.plain=true)(h1:t.place.size=es.size)(h2:es.size<=1001)(A:t.tooFull=true)(v:t.dummies=#[])(h3:(es.size-1)*5<t.mask*3)(n:0<es.size) :
  Fh (Iq es.size)<=2048/\∃ t' qR,t.relaid (es.map (·.1)) (Iq es.size)=Ab (t',qR)/\t'.led=t.led/\(qR.filterMap (es[·]?)).toList.Perm es.toList/\ja t' (qR.filterMap (es[·]?))/\qR.toList.Perm (Cg es.size):=by
 have N:t.fill=es.size:=by unfold Tc;rw[v,h1];rfl
 have B:t.mask*3<=es.size*5:=by
  unfold AaA at A;rw[N] at A;simpa using A
 have Q:(es.size=5/\Fh (Iq es.size)=32)\/(es.size=19/\Fh (Iq es.size)=128)\/(es.size=77/\Fh (Iq es.size)=512)\/(es.size=307/\Fh (Iq es.size)=2048):=by
  rcases r with h|h|h|h|h <;> rw[h] at B h3
  .have:es.size=5:=by lia
   exact .inl ⟨this,by rw[this];decide⟩
  .have:es.size=19:=by lia
   exact .inr (.inl ⟨this,by rw[this];decide⟩)
  .have:es.size=77:=by lia
   exact .inr (.inr (.inl ⟨this,by rw[this];decide⟩))
  .have:es.size=307:=by lia
   exact .inr (.inr (.inr ⟨this,by rw[this];decide⟩))
  .lia
 have C:qg (Fh (Iq es.size)-1):=by
  rcases Q with⟨_,h⟩|⟨_,h⟩|⟨_,h⟩|⟨_,h⟩ <;> rw[h]
  .exact .inr (.inl rfl)
  .exact .inr (.inr (.inl rfl))
  .exact .inr (.inr (.inr (.inl rfl)))
  .exact .inr (.inr (.inr (.inr rfl)))
 have H:(es.map (·.1)).size<=Fh (Iq es.size)-1:=by
  rw[Wt];rcases Q with⟨J,h⟩|⟨J,h⟩|⟨J,h⟩|⟨J,h⟩ <;> rw[h,J] <;> lia
 obtain⟨t',qR,e,y,f,L⟩:=W8 C (es.map (·.1)) H t.finger (t.movedTo (Fh (Iq es.size)-1)) t.led t.plain
 have w:qR.size=es.size:=by
  have:=L.perm.length_eq;simpa using this
 have G:∀ i k,qR[i]? = Ab k->k<es.size:=λi k q=>by
  have:k∈Cg (es.map (·.1)).size:=L.perm.mem_iff.mp (Cj (by rw[Bp];exact q))
  simpa using this
 have E:(qR.filterMap (es[·]?)).toList=qR.toList.map λk=>es.toList.getD k (0,.none):=by
  rw[Array.toList_filterMap];have:∀ l:Aa Ag,(∀ k∈l,k<es.size)->l.filterMap (es[·]?)=l.map λk=>es.toList.getD k (0,.none):=by
   intro l
   induction l with
   |nil=>intro _;rfl
   |cons a l c =>
    intro z;have M:=z a (by simp)
    rw[Jc,Df,c λk O=>z k (by simp[O])]
    rw[Dr M];simp[M]
  refine this _ λk O=>?_;obtain⟨i,o,q⟩:=Cp.mp O;exact G i k (by rw[<- Bp,Ap o,q])
 have Y:(qR.filterMap (es[·]?)).toList.Perm es.toList:=by
  rw[E];have p:=L.perm.map λk=>es.toList.getD k (0,Dd);refine p.trans ?_;have u:(Cg (es.map (·.1)).size).map (λk=>es.toList.getD k (0,Dd))=es.toList:=by
   apply Mv
   .simp
   .intro i m d
    have g:i<es.size:=by simpa using d
    simp[g]
  rw[u]
 have T:(qR.filterMap (es[·]?)).size=es.size:=by rw[<- Bx,Y.length_eq,Bx]
 have U:∀ i,(qR.filterMap (es[·]?))[i]? = (qR[i]?).map λk=>es.toList.getD k (0,.none):=λi=>by
  rw[<- Bp,E,Du,Bp]
 refine⟨by rcases Q with⟨_,h⟩|⟨_,h⟩|⟨_,h⟩|⟨_,h⟩ <;> rw[h] <;> decide,t',qR,by rw[TN];exact e,y,Y,⟨L.tb,by rw[L.msk];exact C,by rw[L.size,T,Wt],by rw[L.msk];exact L.le,?_,λi j q=>?_,by rw[f];exact hp⟩,by have:=L.perm;rwa [Wt] at this⟩
 .rw[T,L.msk]
  rcases Q with⟨J,h⟩|⟨J,h⟩|⟨J,h⟩|⟨J,h⟩ <;> rw[h,J] <;> lia
 .rw[U] at q
  cases I:qR[i]? with
  |none=>rw[I] at q;cases q
  |some k =>
   rw[I] at q;simp only[Vg,Option.some.injEq] at q;have O:=G i k I;have:(es.map (·.1))[k]? = Ab j.1:=by
    rw[Array.getElem?_map,Dr O];rw[<- q];simp[O]
   rw[L.msk];exact L.way i k j.1 I this
end _S
namespace _S
open PySem.SetTable (Probe leap runEnd turns bits)
def my (h0 h:Cb):Prop:=∀ b o,h0.get? b=Ab o->h.get? b=Ab o
def lx (prog:Bo)(w:Cd)(h0:Cb)(ks:Aa Aj)(v:Ad):Prop:=∃ a,v=.ref a/\IsTupleKey (Gg prog w) h0 ks a
section
variable {prog:Bo}{w:Cd}{h0:Cb}
theorem lx.inj {x y:Aa Aj}{v:Ad}(U:lx prog w h0 x v)(J:lx prog w h0 y v):x=y:=by
 obtain⟨a,rfl,Q⟩:=U;obtain⟨b,e,Y⟩:=J;cases e;exact Q.inj Y
variable {A:Bu}{E:ab}{s:Ah}
theorem UO {α : Type}{c:Prop}[Hy c]{M:Pw}{t u:Kr α}{Q:α->Ah->Prop}(h1:c->Aq M A t Q E s)(h2:¬ c->Aq M A u Q E s):Aq M A (if c then t else u) Q E s:=by
 by_cases h:c
 .rw[Bi h];exact h1 h
 .rw[Bh h];exact h2 h
structure wx (prog:Bo)(w:Cd){K:Type}[No K](is:K->Ad->Prop)(hash:K->Aj)(h0:Cb):Prop where
 inj:∀ {k k':K} {v:Ad},is k v->is k' v->k=k'
 ref:∀ {k:K} {v:Ad},is k v->∃ a,v=.ref a
 hsh:∀ {A:Bu} {E:ab} {s:Ah} {k:K} {v:Ad} {Q:Aj->Ah->Prop},A.units+8<Ed->my h0 s.heap->is k v->(∀ tk,s.toks<=tk->Q (hash k) { s with toks:=tk }) -> Aq (Au prog w) A (pyHash v) Q E s
 eq:∀ {A:Bu} {E:ab} {s:Ah} {k k':K} {v v':Ad} {Q:As->Ah->Prop},A.units+8<Ed->my h0 s.heap->is k v->is k' v'->Q (decide (k=k')) s->Aq (Au prog w) A (eqBool v v') Q E s
 byV:∀ {A:Bu} {E:ab} {s:Ah} {k:K} {v:Ad} {Q:As->Ah->Prop},my h0 s.heap->is k v->Q true s->Aq (Au prog w) A (Wb 8 v) Q E s
 cls:∀ {A:Bu} {E:ab} {s:Ah} {k:K} {v:Ad} {Q:As->Ah->Prop},my h0 s.heap->is k v->Q false s->Aq (Au prog w) A (Ph 8 v) Q E s
 quiet:∀ {A:Bu} {E:ab} {s:Ah} {k:K} {v:Ad} {Q:As->Ah->Prop},my h0 s.heap->is k v->Q true s->Aq (Au prog w) A (ZB 8 v) Q E s
variable {K:Type}[No K]{is:K->Ad->Prop}{ax:K->Aj}
theorem OI (M:wx prog w is ax h0){k:K}{x:Ad}{L:ag}{Q:As->Ah->Prop}(G:my h0 s.heap)(T:is k x)(I:∀ y∈L,∃ U,is U y)(h:Q false s):Aq (Au prog w) A (dL x L) Q E s:=by
 unfold dL;refine Ac ?_;refine HT _ (λC r N=>r.1=none/\N=s/\∀ v∈C,∃ U,is U v) _ ?_ ?_ _ _ ⟨rfl,rfl,I⟩
 .rintro v C r N ⟨O,rfl,J⟩
  obtain⟨U,hv⟩:=J v De;have Y:∀ u∈C,∃ U,is U u:=λu B=>J u (Ce _ B);dsimp only;refine UO (λ_=>Am ⟨rfl,rfl,Y⟩) λ_=>?_
  .refine Ac (M.quiet G T ?_)
   simp only[Jg,Bn,Ds];refine Ac (M.quiet G hv ?_);simp only[Jg,Bn,Ds];refine Ac (M.cls G T ?_);simp only[Bn,Ds];refine Ac (M.cls G hv ?_);simp only[Bn,Ds];exact Am ⟨rfl,rfl,Y⟩
 .rintro⟨z,H⟩ N ⟨O,rfl,_⟩
  simp only at O;subst O;exact Am h
theorem OH (M:wx prog w is ax h0){k:K}{v:Ad}{Q:As->Ah->Prop}(Y:is k v)(h:Q true s):Aq (Au prog w) A (isSame v v) Q E s:=by
 obtain⟨a,rfl⟩:=M.ref Y;unfold isSame;simp only[Hi,Dp];exact Am h
theorem GK (M:wx prog w is ax h0){k:K}{x:Ad}{S:Af}{o:Cw}{es:Ay (Aj × Ad)}{ep:Ag}{t:Fx}{seen:Aa K}(hu:A.units+8<Ed)(hS:my h0 s.heap)(ho:s.heap.get? S=Ab o)(hd:o.data=.set es ep t)
  (T:ja t es) (Z:gk is ax es seen) (hx:is k x) (N:Ag) (f:pe t (st t.mask (ax k)) N)
  (U:(it t.mask N (st t.mask (ax k))).j ∉ t.place.toList) (zb:N<10*turns t.mask) {Q:SetFound->Ah->Prop}
  (h1:k∈seen->Q (.there none) s) (h2:k ∉ seen->Q (.free (it t.mask N (st t.mask (ax k))).j false) s) :
  ∀ (fuel n:Ag) (Y:An Pd),Y.getD (t.probeStart (ax k))=it t.mask n (st t.mask (ax k))->n<=N->N-n<fuel ->
   (∀ (m i:Ag) (e:Aj × Ad),m<n->t.place[i]? = Ab (it t.mask m (st t.mask (ax k))).j->es[i]? = Ab e->¬ is k e.2) ->
   Aq (Au prog w) A (Td S x (ax k) true fuel Y) Q E s
 |0,n,Y,_,_,hf,_=>by lia
 |fuel+1,n,Y,zs,hn,hf,hq=>by
  unfold Td;refine Ac (Gq ho hd T.fits ?_);dsimp only;rw[T.odd];simp only[Bn,Ds];rw[zs];generalize hg:t.probe _ (ax k) (it t.mask n (st t.mask (ax k)))=r;obtain⟨H,hH,hg⟩:∃ H:Ag->Aj,(∀ i,H i=(es[i]?.map (·.1)).getD 0)/\t.probe H (ax k) (it t.mask n (st t.mask (ax k)))=r:=⟨_,λi=>rfl,hg⟩
  have J:∀ m,it t.mask m (it t.mask n (st t.mask (ax k)))=it t.mask (n+m) (st t.mask (ax k)):=λm=>(tO _ _ _ _).symm;have gm:Meets t H (ax k) (it t.mask n (st t.mask (ax k))) (10*turns t.mask) r:=by
   rw[<- hg];refine mK T.tb H _ _ _ (by rw[mN];rfl) ⟨N-n,by lia,?_⟩
   rw[J,show n+(N-n)=N by lia]
   exact U
  have C:∀ j:Ag,(∀ m i:Ag,m<j->t.place[i]? = Ab (it t.mask m (it t.mask n (st t.mask (ax k)))).j->H i≠ax k) ->
    ∀ (m i:Ag) (e:Aj × Ad),m<n+j->t.place[i]? = Ab (it t.mask m (st t.mask (ax k))).j->es[i]? = Ab e->¬ is k e.2:=λj qj m i e hm B z u=>by
   by_cases zl:m<n
   .exact hq m i e zl B z u
   .refine qj (m-n) i (by lia) (by rw[J,show n+(m-n)=m by lia];exact B) ?_
    rw[hH,z];obtain⟨a,e1,e2⟩:=Z.good e (Cj (by rw[Bp];exact z))
    rw[M.inj u e2];simpa using e1
  cases gm with
  |emp j hj w' O q =>
   rw[J] at O;have d:n+j=N:=by
    rcases Mi (n+j) N with h|h|h
    .exact absurd (f _ h) O
    .exact h
    .have:=w' (N-n) (by lia)
     rw[J,show n+(N-n)=N by lia] at this
     exact absurd this U
   dsimp only;rw[J,d];refine Am (h2 λu=>?_);obtain⟨e,b,v⟩:=(Z.mem k).mp u;obtain⟨i,hi,B⟩:=Cp.mp b;have G:es[i]? = Ab e:=by rw[<- Bp,Ap hi,B]
   obtain⟨m,w1,w2⟩:=T.way i e G;obtain⟨a,g1,l⟩:=Z.good e b;have:=M.inj v l;subst this;rw[g1] at w1 w2;have c:m<N:=by
    apply Fw;intro hc;by_cases c:m=N
    .subst c
     exact U (Cj (by rw[Bp];exact w1))
    .exact U (w2 N (by lia))
   exact C j q m i e (by lia) w1 G v
  |cand j i hj w' O hh q =>
   rw[J] at O;have hi:i<es.size:=by
    rw[<- T.size];exact(Dz.mp O).1
   have B:es[i]? = Ab es[i]:=Dr hi;have d:n+j<N:=by
    rcases Mi (n+j) N with h|h|h
    .exact h
    .rw[h] at O
     exact absurd (Cj (by rw[Bp];exact O)) U
    .have:=w' (N-n) (by lia)
     rw[J,show n+(N-n)=N by lia] at this
     exact absurd this U
   obtain⟨a,g1,l⟩:=Z.good es[i] (by simp)
   dsimp only;have L:Aq (Au prog w) A (do
     let Ab (_,y):=es[i]?|unsupported "internal:set-entry"
     let equal <- holding [y] (eqBool y x)
     let (lr,_,t') <- Yi S
     if true&&equal then return .there none
     let Ab same:=t'.sameMemory t.moves t.mask|unsupported "set.changed-during-lookup:is-the-new-block-at-the-old-address"
     let still <- match (if same then t'.slot (it t.mask j (it t.mask n (st t.mask (ax k)))).j else .empty) with
      |.live p=>match lr[p]? with
       |some (_,y')=>do pure (if <- isSame y' y then Ab p else none)
       |none=>pure none
      |_=>pure none
     match still with
     |none=>rule "set.search.anew";Td S x (ax k) true fuel none
     |some p=>if equal then return .there (Ab p) else Td S x (ax k) true fuel (Ab (it t.mask (j+1) (it t.mask n (st t.mask (ax k)))))) Q E s:=by
    rw[B];dsimp only;refine Ac (EQ (M.eq hu hS l hx ?_));refine Ac (Gq ho hd T.fits ?_);by_cases I:a=k
    .subst I
     simp only[La,Bool.and_self,Dp];exact Am (h1 ((Z.mem a).mpr ⟨es[i],by simp,l⟩))
    .simp only[I,Lf,Ro,Bn,Ds]
     have hm:t.sameMemory t.moves t.mask=Ab true:=by simp[SetTable.sameMemory]
     rw[hm];dsimp only;rw[J,sD T.tb O];simp only[Dp,B];refine Ac (OH M l ?_);simp only[Dp];refine Ac (Am ?_);dsimp only;refine GK M hu hS ho hd T Z hx N f U zb h1 h2 fuel (n+j+1) _ ?_ (by lia) (by lia) λm p e hm G z u=>?_
     .rw[Tz,J]
      rfl
     .by_cases zc:m<n+j
      .exact C j q m p e zc G z u
      .have:m=n+j:=by lia
       subst this;have:=YA T.tb.rs G O;subst this;rw[B] at z;cases z;exact I (M.inj l u)
   refine UO (λ_=>?_) λ_=>?_
   .refine Ac (OI M hS hx (λy hy=>?_) ?_)
    .obtain⟨e,b,rfl⟩:=Ba.mp hy
     have:e∈es.toList:=by
      have:=(Qn.mp b);exact Qn.mpr (Array.mem_filter.mp this).1
     obtain⟨k2,_,g⟩:=Z.good e this;exact⟨k2,g⟩
    .simp only[Bn,Ds]
     exact L
   .exact L
end
end _S
namespace _S
open PySem.SetTable (Probe leap runEnd turns bits)
@[reducible] noncomputable def jx (es:Ay (Aj × Ad))(ep:Ag)(t:Fx):Cw:={ cls:=.type "set",dict:=none,data:=.set es ep t }
theorem iS {h:Cb}{S:Af}{es lr:Ay (Aj × Ad)}{ep:Ag}{t t':Fx}(Q:h.get? S=Ab (jx es ep t)):(h.update S (Obj.putSet lr t')).get? S=Ab (jx lr (ep+1) t'):=Ev _ Q rfl
structure ka {K:Type}(is:K->Ad->Prop)(hash:K->Aj)(S:Af)(led:As)(V:ag)(seen:Aa K)(h:Cb):Prop where
 ex:∃ es ep t,h.get? S=Ab (jx es ep t)/\gk is hash es seen/\ja t es/\t.led=led/\∀ e∈es.toList,e.2∈V
section
variable {prog:Bo}{w:Cd}{h0:Cb}{A:Bu}{E:ab}{s:Ah}{S:Af}{led:As}{V:ag}
theorem K4 (a:Af)(Q:Ag):setRelay a Q=(do
  let (es,_,t) <- Yi a
  if Fh Q>sizeLine then unsupported "set:memory"
  let (es,t) <- (do
   let Ab (t,qR):=t.relaid (es.map (·.1)) Q|unsupported "internal:set-table-without-room"
   let lr:=qR.filterMap (es[·]?)
   if lr.size != es.size then unsupported "internal:set-table-lost-an-element"
   pure (lr,t))
  storeSet a es t):=rfl
theorem qAX {K:Type}[No K]{is:K->Ad->Prop}{J:K->Aj}(M:wx prog w is J h0){seen:Aa K}{k:K}{x:Ad}{Q:As->Ah->Prop}(hu:A.units+8<Ed)(hS:my h0 s.heap)(Z:ka is J S led V seen s.heap)(hx:is k x)(hV:x∈V){U:Aa K}(hU:U.length<=1000)(zs:∀ k'∈seen,k'∈U)(zx:k∈U)
  (h:∀ (b:As) (h':Cb) (C:Ag),s.toks<=C->El S s.heap h'->ka is J S led V (k::seen) h'->Q b { s with heap:=h',toks:=C }) : Aq (Au prog w) A (setAdd S x) Q E s:=by
 obtain⟨G,ep,t,y,Z,T,hl,hm⟩:=Z;unfold setAdd;refine EQ (Ac (M.hsh hu hS hx λC I=>?_));unfold setAddHashed setAddHashedIn;refine EQ (Ac (Gq (s:={ s with toks:=C }) y rfl T.fits ?_))
 dsimp only;have zv:byScan x G=false:=by
  obtain⟨a,rfl⟩:=M.ref hx;rfl
 rw[zv];simp only[Bn,Ds];obtain⟨e,u,zy⟩:=T.gap;have first:∃ N,pe t (st t.mask (J k)) N/\(it t.mask N (st t.mask (J k))).j ∉ t.place.toList/\N<10*turns t.mask:=by
  obtain⟨N,hN,eN⟩:=UL T.msk (J k) u;have gm:=mK T.tb (λ_=>J k+1) (J k) (10*turns t.mask) (st t.mask (J k)) rfl ⟨N,hN,by rw[eN];exact zy⟩
  generalize Pe t _ _ _ _=r at gm;cases gm with
  |emp j hj w' e' q=>exact⟨j,w',e',hj⟩
  |cand j i hj w' e' hh q=>exact absurd hh (by lia)
 obtain⟨N,c,v,zl⟩:=first
 have z1:N<100000:=by
  have:turns t.mask<=2200:=by
   unfold turns;rcases T.msk with h|h|h|h|h <;> rw[h] <;> lia
  lia
 refine Ac (GK M (s:={ s with toks:=C }) hu hS y rfl T Z hx N c v zl (λhk=>?_) (λhk=>?_) 100000 0 none rfl (by lia) (by lia) λm i e hm=>by lia)
 .exact Am (h _ s.heap _ I (Zw _ _) ⟨G,ep,t,y,Z.again hk,T,hl,hm⟩)
 .have zz:G.size<1000:=Bl (Z.few zs zx hk) hU
  dsimp only;refine Ac (Gq (s:={ s with toks:=C }) y rfl T.fits ?_)
  obtain⟨g,z,p3,p4⟩:=T.put (h:=J k) (x:=x) c v (OL _ _ _);generalize hj:(it t.mask N (st t.mask (J k))).j=j at *;have H:(t.put j).1.mask=t.mask:=rfl;have m2:(t.put j).1.plain=true:=T.plain;have m3:(t.put j).1.led=led:=hl;generalize hp:t.put j=tp at *;obtain⟨L,p⟩:=tp;dsimp only at g z p3 p4 H m2 m3 ⊢;rw[m2];simp only[Dp];refine Ac (M.byV (s:={ s with toks:=C }) hS hx ?_)
  simp only[Dp,Wu,Xx];have Y:(Eb G p (J k,x)).size=G.size+1:=kJ _ _ _;have O:G.size+1<=sizeLine:=by rw[Fq];lia
  refine Ac (f8 (s:={ s with toks:=C }) y rfl ?_ (by rw[Y];exact O))
  have Z1:gk is J (Eb G p (J k,x)) (k::seen):=by
   refine Z.push (λa b=>M.inj a b) hx hk ?_;have:=Lw G p (J k,x);rw[En] at this;exact this
  have f:∀ e∈(Eb G p (J k,x)).toList,e.2∈V:=λe u=>by
   have:=(Lw G p (J k,x)).mem_iff.mp u;rw[En] at this;rcases Bq.mp this with h1|h1
   .exact hm e h1
   .simp at h1;subst h1;exact hV
  have B:=iS (lr:=Eb G p (J k,x)) (t':=L) y;have zb:=Fl s.heap S (Obj.putSet (Eb G p (J k,x)) L);have n:L.fits (Eb G p (J k,x)).size=true:=by
   have l:L.fill=G.size+1:=by unfold Tc;rw[g.dm,z,Y];rfl
   have h2:=T.few;unfold Ab8;rw[l,z,Y,H];rcases T.msk with h|h|h|h|h <;> rw[h] at h2 ⊢ <;> simp <;> lia
  refine UO (λo=>?_) λo=>?_
  .have zc:qg L.mask:=by rw[H];exact T.msk
   have l:((Eb G p (J k,x)).size-1)*5<L.mask*3:=by rw[Y,H];exact T.few
   obtain⟨q1,t2,qR,q2,q3,q4,q5,_⟩:=aD zc m2 z (by rw[Y];lia) (by simpa using o) g.dm l (by rw[Y];lia)
   rw[Y] at q1 q2;rw[K4];refine Ac ?_;refine Ac (Gq (s:={ s with heap:=_,toks:=C }) B rfl n ?_)
   dsimp only;rw[Bh (by rw[Fq];lia)]
   refine Ac ?_;rw[q2];dsimp only;have d:(qR.filterMap λzw=>(Eb G p (J k,x))[zw]?).size=G.size+1:=by rw[<- Bx,q4.length_eq,Bx,Y]
   rw[Bh (by rw[d,Y];simp)]
   refine Am ?_;refine f8 (s:={ s with heap:=_,toks:=C }) B rfl ?_ (by rw[d];exact O)
   refine Am (h _ _ _ I (zb.trans (Fl _ S _)) ⟨_,_,t2,iS B,Z1.perm q4,q5,by rw[q3];exact m3,λe u=>f e (q4.mem_iff.mp u)⟩)
  .refine Am (h _ _ _ I zb ⟨_,_,L,B,Z1,⟨g,by rw[H];exact T.msk,z,by rw[H];exact p3,?_,by rw[H];exact p4,m2⟩,m3,f⟩)
   have l:L.fill=G.size+1:=by unfold Tc;rw[g.dm,z,Y];rfl
   unfold AaA at o;rw[l] at o;rw[Y];simpa using o
end
end _S
namespace _S
variable {Q:ab}{i:Ag}
structure sk (prog:Bo)(w:Cd){K:Type}(is:K->Ad->Prop)(hash:K->Aj)(h0:Cb):Prop where
 add:∀ {A:Bu} {E:ab} {s:Ah} {S:Af} {led:As} {V:ag} {seen U:Aa K} {k:K} {x:Ad} {Q:As->Ah->Prop},A.units+8<Ed->my h0 s.heap->ka is hash S led V seen s.heap->is k x->x∈V->U.length<=1000->(∀ k'∈seen,k'∈U)->k∈U ->
  (∀ (b:As) (h':Cb) (tk:Ag),s.toks<=tk->El S s.heap h'->ka is hash S led V (k::seen) h'->Q b { s with heap:=h',toks:=tk }) -> Aq (Au prog w) A (setAdd S x) Q E s
def vZ {K:Type}(Y:Ag->K):Ag->Aa K
 |0=>[]
 |i+1=>Y i::vZ Y i
theorem kA {K:Type}{Y:Ag->K}{k:K}:∀ {n:Ag},k∈vZ Y n↔∃ i,i<n/\Y i=k
 |0=>by simp[vZ]
 |n+1=>by
  rw[vZ,Bc,kA];constructor
  .rintro (rfl|⟨i,h,e⟩)
   .exact⟨n,by lia,rfl⟩
   .exact⟨i,by lia,e⟩
  .rintro⟨i,h,e⟩
   by_cases J:i=n
   .subst J;exact .inl e.symm
   .exact .inr ⟨i,by lia,e⟩
section
variable {prog:Bo}{w:Cd}{A:Bu}{R:Result->Ah->Prop}{I:Af}{fp wr:ae}{G:Ay AaG->Ay AaG->Prop}{n:Ag}{P:Ag->Ad->Prop}{St:Ag->Ah->Prop}
variable {K:Type}{is:K->Ad->Prop}{ax:K->Aj}{h0:Cb}{led:As}{V:ag}{U:Aa K}
theorem ka.sup {S:Af}{seen:Aa K}{h h':Cb}(Z:ka is ax S led V seen h)(e:∀ o,h.get? S=Ab o->h'.get? S=Ab o):ka is ax S led V seen h':=by
 obtain⟨N,J,t,Y,r⟩:=Z;exact⟨N,J,t,e _ Y,r⟩
theorem TM (a:sk prog w is ax h0)(W:WalksS prog w A.in1 I fp wr G n P St)(S:Af)(E:S ∉ fp)(hu:A.in1.units+8<Ed)(Y:Ag->K)(z:∀ i v,P i v->is (Y i) v/\v∈V)(x:U.length<=1000)(M:∀ i,i<n->Y i∈U)
  (f:h0.get? S=none) (c:∀ b∈wr,h0.get? b=none):∀ (k i:Ag) (s:Ah),n-i=k->i<=n->St i s->my h0 s.heap->ka is ax S led V (vZ Y i) s.heap ->
   (∀ s',Moved (S::wr) G s s'->ka is ax S led V (vZ Y n) s'.heap->R (.ok (.ret .none)) s')->Jy (Au prog w) A (.builtin "set.update.loop" ⟨[.ref S,.ref I],[]⟩) R s:=by
 have u:S ∉ wr:=λh=>E (W.sub _ h);have J:∀ b∈wr,b∈S::wr:=λb B=>Ce _ B;intro k
 induction k with
 |zero =>
  intro i s hk hi C t Z l;have p:i=n:=by lia
  subst p;refine Lx Nv ?_;rw[Ke Jk _];show Aq _ A.in1 (Li (.ref I) >>= _) _ _ s;refine Ac (W.done s _ _ C λs' L=>?_);exact Am (l s' (L.mono J) (Z.sup λo e=>L.heap S _ u e))
 |succ k ih =>
  intro i s hk hi C t Z l;have O:i<n:=by lia
  refine Lx Nv ?_;rw[Ke Jk _];show Aq _ A.in1 (Li (.ref I) >>= _) _ _ s;refine Ac (W.item i s _ _ O C λv s' hP T L=>?_);obtain⟨m,q2⟩:=z i v hP;have y:my h0 s'.heap:=λb o e=>L.heap b o (λB=>by rw[c b B] at e;cases e) (t b o e)
  show Aq _ A.in1 (holding [v] (setAdd S v) >>= _) _ _ s';refine Ac (EQ (a.add hu y (Z.sup λo e=>L.heap S _ u e) m q2 x (λk' g=>?_) (M i O) λb h' tk H N Z'=>?_))
  .obtain⟨j,hj,e⟩:=kA.mp g
   exact e▸M j (by lia)
  .refine Am ⟨Te Jk _,ih (i+1) _ (by lia) O (W.frame _ s' _ _ T H λb B o e=>?_) (λb o e=>?_) Z' λr q d=>?_⟩
   .rw[N.2 b (λh:b=S=>E (by rw[<- h];exact B))];exact e
   .rw[N.2 b (λh:b=S=>by rw[h,f] at e;cases e)];exact y b o e
   .refine l r (Moved.trans W.gtrans ((L.mono J).then_heap H λb o B e=>?_) q) d
    rw[N.2 b (λh:b=S=>B (by rw[h];exact De))];exact e
end
section
variable {prog:Bo}{w:Cd}{A:Bu}{E:ab}{s:Ah}
noncomputable def vM (w:Cd):As:=!w.params.followText "set-order"
@[reducible] def lw (w:Cd):Cw:=jx #[] 0 (.fresh 0 0 (vM w))
theorem a8 (a:Ad){Q₁:ab}(h:Q₁ (.ref s.heap.objs.size) { s with heap:=s.heap.push (lw w) }) : Jy (Au prog w) A (.call (.builtin "set.__new__") ⟨[.type "set",a],[]⟩) (wants Q₁ E) s:=by
 refine Vd ?_;show Aq _ A.in1 (do checkBuiltinCall "set.__new__" ⟨[.type "set",a],[]⟩;again (.builtin "set.__new__" ⟨[.type "set",a],[]⟩)) _ _ s
 refine Ac (Vy (PySem.F.newCall_set_1 a) (Am ⟨Te Wc _,Lx PySem.F.entry_set_new ?_⟩));rw[Ke Wc _];unfold Hr.«set.__new__» Ab3;have Y:=PySem.sub_set_self;obtain⟨U,g,d,J,os⟩:=s;dsimp only
 wp_walk
 refine Kz (Am ?_);dsimp only;simp only[newObj];exact Ac (wpAny_alloc (Am (Am h)))
theorem YI (w:Cd):ja (.fresh 0 0 (vM w)) #[]:=⟨⟨by unfold Rs;exact Pb,rfl⟩,.inl rfl,rfl,λx Y=>(by cases Y),(show 0*5<7*3 by decide),λi e h=>(by simp at h),rfl⟩
variable {K:Type}{is:K->Ad->Prop}{ax:K->Aj}{U:Aa K}
theorem Q0 (a:sk prog w is ax s.heap){l:Af}{items:Ay Ad}{Q:ab}(hh:A.handled=none)(hu:A.units+16<Ed)(hl:s.heap.IsList l items\/s.heap.IsTuple l items)(J:Ag->K)(g:∀ i v,items[i]? = Ab v->is (J i) v)(hU:U.length<=1000)(zs:∀ i,i<items.size->J i∈U)
  (h:∀ (h':Cb) (m:Ag),ka is ax s.heap.objs.size (vM w) items.toList (vZ J items.size) h'->(∀ b o,s.heap.get? b=Ab o->h'.get? b=Ab o)->Q (.ref s.heap.objs.size) { s with heap:=h',toks:=m }) :
  Aq (Au prog w) A (call (.type "set") [.ref l]) Q E s:=by
 obtain⟨c,tl,zx⟩:=Hc.mro;have zc:=Hc.made;have zy:=Hc.sub;refine wpAny_call (Vd ?_);show Aq _ _ (callAny (.type "set") _) _ _ _;refine Am ⟨Code.quiet_builtin _ (by decide +kernel),Lx PySem.F.entry_type_call ?_⟩
 rw[Around.under_plain (weight_type_call_type "set" [.ref l] []) rfl];have h1:=Hc.notType;have h2:=Hc.canCreate;have z1:=PySem.F.typeCall_set_1 (.ref l)
 repeat (any_goals (first|assumption|wp_step))
 refine Mq (a8 (.ref l) (E:=E) (Q₁:=λp O=>p=.ref s.heap.objs.size/\O={ s with heap:=s.heap.push (lw w) }) ⟨rfl,rfl⟩) λr O x=>?_
 cases r with
 |error e=>exact x
 |ok fl =>
  cases fl with
  |ret p =>
   obtain⟨rfl,rfl⟩:=x;have hS:(s.heap.push (lw w)).get? s.heap.objs.size=Ab (lw w):=Be _ rfl;have hT:Xy { s with heap:=s.heap.push (lw w) } (.ref s.heap.objs.size) "set":=⟨_,hS,rfl⟩
   have zz:=Hc.init.lookup;have z2:=Hc.init.bind (.ref s.heap.objs.size)
   repeat (any_goals (first|assumption|wp_step))
   refine Mq (codeAny_call_builtin (R:=wants (λr C=>r=.none/\∃ h' m,C={ s with heap:=h',toks:=m } /\ ka is ax s.heap.objs.size (vM w) items.toList (vZ J items.size) h'/\∀ b o,s.heap.get? b=Ab o->h'.get? b=Ab o) E) Hc.init.plain PySem.F.entry_set_init (check_set_init_1 hT ?_)) λk C Y=>?_
   .have q:l<s.heap.objs.size:=by rcases hl with⟨_,e,_⟩|⟨_,e,_⟩ <;> exact Bg e
    have L:l≠(s.heap.push (lw w)).objs.size:=by
     rw[Em];exact Cu (sB q)
    have nS:s.heap.get? s.heap.objs.size=none:=Qm (Av _);have nI:s.heap.get? (s.heap.push (lw w)).objs.size=none:=Qm (by rw[Em];exact Sf _)
    rcases hl with⟨⟨y,z,I,N⟩,f,M,nl,T⟩|⟨⟨y,z,I,N⟩,f,M,nl,T⟩
    all_goals
     simp only at M T;subst M;subst T;have B:=Ai (lw w) f
    case' inl =>
     have d:=PySem.F.sub_list_set;have u:=PySem.F.sub_list_frozenset;have zv:(Jr "list" == Jr "dict")=false:=by decide
     have G:(s.heap.push (lw w)).IsList l items:=⟨_,B,rfl,nl,rfl⟩
    case' inr =>
     have d:=PySem.F.sub_tuple_set;have u:=PySem.F.sub_tuple_frozenset;have zv:(Jr "tuple" == Jr "dict")=false:=by decide
     have G:(s.heap.push (lw w)).IsTuple l items:=⟨_,B,rfl,nl,rfl⟩
    all_goals
     unfold Hr.«set.__init__» noKeywords AaS;generalize n:Px=PI
     wp_walk
     subst n
     first
      |(refine Gn G ?_;have W:=(Walks.list (prog:=prog) (w:=w) (A:=A.in1.in1.in1) (by simp[hh]) _ l L items).toS)
      |(refine Hb G ?_;have W:=(Walks.tuple (prog:=prog) (w:=w) (A:=A.in1.in1.in1) (by simp[hh]) _ l L items).toS)
     refine Ac (wpAny_runValue ?_);refine TM (led:=vM w) (V:=items.toList) a W s.heap.objs.size ?_ (by show A.units+3+8<Ed;lia) J (λi v hv=>⟨g i v hv,?_⟩) hU zs nS (λb hb=>?_) (items.size-0) 0 _ (by lia) (Gh _)
      ⟨⟨_,Be _ rfl,rfl,rfl⟩,G.push _⟩ (λb o e=>Ai _ (Ai _ e)) ?_ λs' t j=>?_
     .rw[Em];simp only[Bc,Cz,Do,Gy,Aa6]
      exact⟨Cu (Kx _),Hj q⟩
     .exact Cj (by rw[Bp];exact hv)
     .rw[Cz.mp hb];exact nI
     .exact⟨#[],0,_,Ai _ hS,gk.nil,YI w,rfl,λe he=>by simp at he⟩
     .obtain⟨h',g',d',zb,zw⟩:=s'
      have eg:g'=s.gens:=t.gens;have ed:d'=s.drawn:=t.drawn;have eo:zw=s.os:=t.os;subst eg;subst ed;subst eo;refine Am (Am ⟨rfl,h',zb,rfl,j,λb o e=>?_⟩);refine t.heap b o (λhb=>?_) (Ai _ (Ai _ e));rcases Bc.mp hb with rfl|hb
      .rw[nS] at e;cases e
      .rw[Cz.mp hb,nI] at e;cases e
   .cases k with
    |error e=>exact Y
    |ok H =>
     cases H with
     |ret r =>
      obtain⟨rfl,h',m,rfl,j,zl⟩:=Y
      repeat (any_goals (first|assumption|wp_step))
      exact h _ _ j zl
     |_=>exact Y.elim
  |_=>exact x.elim
end
theorem vG {α:Type}:∀ {l:Aa α} {i:Ag} (h:i<l.length),(l[i]::l.eraseIdx i).Perm l
 |a::l,0,h=>by simp
 |a::l,i+1,h=>by
  rw[List.eraseIdx_cons_succ,List.getElem_cons_succ];exact(AaX _ _ _).trans ((vG (l:=l) (i:=i) (by simpa using h)).cons a)
theorem s9 {α:Type}(next:Ag->Ag):∀ (fuel k:Ag) (left:Aa α) (Y:Ay α),left.length=fuel->(Zd next fuel k left Y).toList.Perm (Y.toList++left)
 |0,k,left,Y,h=>by
  have:left=[]:=Qy h;subst this;unfold Zd;simp
 |fuel+1,k,left,Y,h=>by
  unfold Zd;have J:next k % left.length<left.length:=Pp _ (by fin2)
  rw[Ap J];dsimp only;refine(s9 next fuel (k+1) _ _ (by rw[Xb,Bi J];fin2)).trans ?_
  rw[En,Cc];refine Ig _ ?_;exact vG J
theorem lN {α:Type}(next:Ag->Ag)(xs:Ay α) : (Qz next xs).toList.Perm xs.toList:=by
 have:=s9 next xs.size 0 xs.toList #[] (by simp)
 simpa [Qz] using this
theorem vC:Slot "set_iterator" "__next__" "set_iterator.__next__":=
 .of (owner:="set_iterator") (n:="__next__") (by rw[typeLookup_type,Wd];kernel_rfl) (by decide +kernel) (by decide +kernel) (by decide +kernel) (.inl (by decide +kernel)) (by rw[Wv];kernel_rfl)
theorem tH:entryFor table "set_iterator.__next__" = Ab Hr.«set_iterator.__next__»:=entryFor_of_fast (by kernel_rfl)
theorem lY (a:Ad):Aa8 "set_iterator.__next__" ⟨[a],[]⟩:=by unfold Aa8;kernel_rfl
theorem sE:Slot "set_iterator" "__iter__" "set_iterator.__iter__":=
 .of (owner:="set_iterator") (n:="__iter__") (by rw[typeLookup_type,Wd];kernel_rfl) (by decide +kernel) (by decide +kernel) (by decide +kernel) (.inl (by decide +kernel)) (by rw[Wv];kernel_rfl)
theorem Q7:entryFor table "set_iterator.__iter__" = Ab Hr.«dict_keyiterator.__iter__»:=entryFor_alias (id':="dict_keyiterator.__iter__") (by kernel_rfl) rfl (by decide +kernel) (by kernel_rfl)
theorem ZS (a:Ad):Aa8 "set_iterator.__iter__" ⟨[a],[]⟩:=by unfold Aa8;kernel_rfl
theorem Q6:entryFor table "set.__iter__" = Ab Hr.«frozenset.__iter__»:=entryFor_alias (id':="frozenset.__iter__") (by kernel_rfl) rfl (by decide +kernel) (by kernel_rfl)
theorem FO (a:Af)(slot given Y:Ag):setNext a slot given Y=(do
  let (es,epoch,t) <- Yi a
  if <- setsByText then
   if epoch != Y then unsupported "set_iterator.__next__:elements-changed"
   return ((<- setWalk a)[given]?).map λe=>(e.2,slot)
  if !t.plain&&es.size>1 then unsupported "set_iterator.__next__:the-table-is-plain-no-more"
  (do if !t.led&&!es.isEmpty then unsupported "set:maker-not-led")
  return match es[Cn t.place slot]?,t.place[Cn t.place slot]? with
   |some (_,x),Ab j=>Ab (x,j+1)
   |_,_=>none):=rfl
theorem NA (a:Af):setWalk a=(do
  let (es,epoch,t) <- Yi a
  if <- setsByText then return Qz ((<- ask).params.setOrder a epoch) es
  if !t.plain&&es.size>1 then return (<- drawOrder es.size es.toList).toArray
  (do if !t.led&&es.size>1 then unsupported "set:maker-not-led")
  return es):=rfl
theorem VW (a:Af):setDrawn a=(do
  let (es,_,t) <- Yi a
  let byText <- setsByText
  return !byText&&(!t.plain&&es.size>1)):=rfl
structure k_ (w:Cd)(S:Af)(es:Ay (Aj × Ad))(ep:Ag)(t:Fx):Prop where
 tab:ja t es
 led:t.led=vM w
def qR (w:Cd)(S:Af)(ep:Ag)(es:Ay (Aj × Ad)):Ay (Aj × Ad):=if w.params.followText "set-order" = true then Qz (w.params.setOrder S ep) es else es
theorem nB (w:Cd)(S:Af)(ep:Ag)(es:Ay (Aj × Ad)):(qR w S ep es).toList.Perm es.toList:=by
 unfold qR
 split
 .exact lN _ _
 .exact Ko _
theorem uR (w:Cd)(S:Af)(ep:Ag)(es:Ay (Aj × Ad)):(qR w S ep es).size=es.size:=by
 rw[<- Bx,(nB w S ep es).length_eq,Bx]
noncomputable def sv (slot i:Ag)(S:Af)(n ep:Ag):Cw:={ cls:=.type "set_iterator",data:=.fields #[.int slot 0,.int i 0,.ref S,.int n 0,.int ep 0] }
def At (w:Cd)(I S:Af)(es:Ay (Aj × Ad))(ep:Ag)(t:Fx)(i:Ag)(h:Cb):Prop:=
 ∃ slot,h.get? I=Ab (sv slot i S es.size ep)/\h.get? S=Ab (jx es ep t)/\(w.params.followText "set-order" = true\/Cn t.place slot=i)
section
variable {prog:Bo}{w:Cd}{A:Bu}{E:ab}{s:Ah}{S I:Af}{es:Ay (Aj × Ad)}{ep:Ag}{t:Fx}
theorem ZD {slot:Ag}{Q:An (Ad × Ag)->Ah->Prop}(Z:k_ w S es ep t)(O:s.heap.get? S=Ab (jx es ep t))(hs:w.params.followText "set-order" = true\/Cn t.place slot=i)
  (h1:∀ e Y,(qR w S ep es)[i]? = Ab e->(w.params.followText "set-order" = true\/Cn t.place Y=i+1)->Q (Ab (e.2,Y)) s) (h2:(qR w S ep es)[i]? = none->Q none s):Aq (Au prog w) A (setNext S slot i ep) Q E s:=by
 rw[FO];refine Ac (Gq O rfl Z.tab.fits ?_);dsimp only;refine Ac (Ac (Kz (Am ?_)));cases J:w.params.followText "set-order" with
 |true =>
  show Aq _ _ (if (w.params.followText "set-order")=true then _ else _) _ _ _
  rw[Bi J];have N:(ep != ep)=false:=by simp
  rw[N];simp only[Bn,Ds];refine Ac ?_;rw[NA];refine Ac (Gq O rfl Z.tab.fits ?_);dsimp only;refine Ac (Ac (Kz (Am ?_)));show Aq _ _ (if (w.params.followText "set-order")=true then _ else _) _ _ _
  rw[Bi J];refine Ac (Kz (Am (Am ?_)));show Q (((Qz (w.params.setOrder S ep) es)[i]?).map λe=>(e.2,slot)) s;have U:qR w S ep es=Qz (w.params.setOrder S ep) es:=by unfold qR;rw[Bi J]
  rw[U] at h1 h2;cases G:(Qz (w.params.setOrder S ep) es)[i]? with
  |none=>exact h2 G
  |some e=>exact h1 e slot G (.inl J)
 |false =>
  show Aq _ _ (if (w.params.followText "set-order")=true then _ else _) _ _ _
  rw[Bh (by rw[J];decide),Z.tab.plain,Z.led]
  unfold vM;rw[J];simp only[Jg,Km,Bn,Ds,Wu];have N:Cn t.place slot=i:=by
   rcases hs with h|h
   .rw[J] at h;cases h
   .exact h
  rw[N];have U:qR w S ep es=es:=by unfold qR;rw[Bh (by rw[J];decide)]
  rw[U] at h1 h2;refine Am ?_;cases G:es[i]? with
  |none=>exact h2 G
  |some e =>
   have B:i<t.place.size:=by rw[Z.tab.size];exact(Dz.mp G).1
   have C:t.place[i]? = Ab t.place[i]:=Dr B;rw[C];exact h1 e _ G (.inr (oX Z.tab.tb.rs C))
theorem At.type (h:At w I S es ep t i s.heap):s.TypeIs (.ref I) "set_iterator":=by
 obtain⟨slot,h,_⟩:=h;exact⟨_,h,rfl⟩
theorem dX (Z:k_ w S es ep t)(B:At w I S es ep t i s.heap)
  (h1:∀ e Y slot,(qR w S ep es)[i]? = Ab e->s.heap.get? I=Ab (sv slot i S es.size ep)->s.heap.get? S=Ab (jx es ep t)->(w.params.followText "set-order" = true\/Cn t.place Y=i+1) ->
   Q e.2 { s with heap:=(s.heap.update I (Ni (·.setIfInBounds 0 (Ks Y)))).update I (Ni (·.setIfInBounds 1 (Ks ((i:Aj)+1)))) })
  (h2:(qR w S ep es)[i]? = none->Aq (Au prog w) A (do Yh (.ref I) 2 .none;AaM (<- Aa3 (.type "StopIteration") [])) (λ(fin:PySem.Fin) s'=>∃ r,fin=.done (.ret r)/\Q r s') E s) :
  Aq (Au prog w) A (Hr.«set_iterator.__next__» ⟨[.ref I],[]⟩) (λfin s'=>∃ r,fin=.done (.ret r)/\Q r s') E s:=by
 obtain⟨slot,J,N,L⟩:=B;show Aq _ _ (fieldsOf (.ref I) >>= _) _ _ s;refine Ac (Ww J rfl ?_);show Aq _ _ (setEntries S >>= _) _ _ s;refine Ac (Xz N rfl Z.tab.fits ?_);have O:(((es.size:Ag):Aj) != ((es.size:Ag):Aj))=false:=by simp
 rw[O];simp only[Bn,Ds];show Aq _ _ (setNext S (slot:Aj).toNat (i:Aj).toNat (ep:Aj).toNat >>= _) _ _ s;rw[Ez,Ez,Ez];refine Ac (ZD Z N L (λe Y U G=>?_) λU=>?_)
 .dsimp only
  refine Ac (Kn J rfl (by show 0<5;decide) ?_)
  have C:=Ev (Ni (·.setIfInBounds 0 (Ks Y))) J rfl
  refine Ac (Kn C rfl (by show 1<5;decide) ?_)
  exact Am ⟨_,rfl,h1 e Y slot U J N G⟩
 .exact h2 U
theorem N9 (M:A.handled=none)(N:S≠I)(Z:k_ w S es ep t):Walks prog w A I [I,S] [I] es.size (λi v=>∃ e,(qR w S ep es)[i]? = Ab e/\e.2=v) (λi h=>At w I S es ep t i h) where
 sub:=λb Y=>by simp at Y;simp[Y]
 frame:=λi h y ⟨slot,L,H,j⟩ B=>⟨slot,B I (by simp) _ L,B S (by simp) _ H,j⟩
 item:=λi s Q E k st G=>by
  unfold Li;refine Ac (Je (Dw (name:=Hk "__next__") st.type vC (Dv vC st.type tH (dX Z st (λe J slot U O C Y=>?_) λU=>?_) (lY _))))
  .refine Am (G e.2 _ s.toks ⟨e,U,rfl⟩ ⟨J,?_,?_,Y⟩ λb o Y e=>?_)
   .exact Ev _ (Ev _ O rfl) rfl
   .rw[Dq _ _ N.symm,Dq _ _ N.symm];exact C
   .have Y:I≠b:=λz=>Y (by simp[z])
    rw[Dq _ _ Y,Dq _ _ Y];exact e
  .have:=Sh.mp U
   rw[uR] at this;fin2
 done:=λs Q E st G=>by
  unfold Li;refine Ac (Je (Dw (name:=Hk "__next__") st.type vC (Dv vC st.type tH (dX Z st (λe J slot U O C Y=>?_) λU=>?_) (lY _))))
  .have:=(Dz.mp U).1
   rw[uR] at this;fin2
  .obtain⟨slot,O,C,Y⟩:=st
   refine Ac (Kn O rfl (by show 2<5;decide) ?_)
   refine Ac ?_;simp only[Aa3,AaL];refine Ac (Dt ?_ (by size_fits))
   refine Ac (m:=Mn _ _) (Vy (a:=Dd) (by first|rfl|(simp only[Mn];rfl)) ?_)
   refine Dt ?_ (by size_fits)
   simp only[AaM];refine Ac (Xv ?_);rw[show A.in1.handled=none from M]
   refine Ac (Am (Aa4 ?_));refine Ac (Ky (T:="StopIteration") (b:=true) ⟨_,Be _ rfl,rfl⟩ Rm ?_);refine Am (G _ s.toks λb o Y e=>?_);exact(((Fl ..).extBut.push _).push _) b o (λz=>Y (by simp[z])) e
 self:=λi s Q E st G=>by
  refine Tf st.type sE (Dv sE st.type Q7 ?_ (ZS _));show Aq _ _ (ret (.ref I)) _ _ s;exact Am ⟨_,rfl,"set_iterator",_,st.type,vC.lookup,G⟩
theorem UP (Z:k_ w S es ep t)(Y:s.heap.get? S=Ab (jx es ep t))(h:Q (.ref s.heap.objs.size) { s with heap:=s.heap.push (sv 0 0 S es.size ep) }) : Aq (Au prog w) A (Px (.ref S)) Q E s:=by
 have J:s.TypeIs (.ref S) "set":=⟨_,Y,rfl⟩;refine Tf J We (Dv We J Q6 ?_ (PySem.F.args_set_iter_1 _));show Aq _ _ (Tq S >>= _) _ _ s;unfold Tq;refine Ac (Ac (Xz Y rfl Z.tab.fits (Am ?_)));refine Ac ?_;rw[VW];refine Ac (Gq Y rfl Z.tab.fits ?_);dsimp only;refine Ac (Ac (Kz (Am (Am ?_))));rw[Z.tab.plain];simp only[Jg,Km,Ro,Bn,Ds];refine Ac (Am ?_);unfold setEpoch;refine Ac (Ac (Gq Y rfl Z.tab.fits (Am ?_)));refine Ac (Dt (Am ⟨_,rfl,"set_iterator",_,⟨_,Be _ rfl,rfl⟩,vC.lookup,h⟩))
theorem PU (Z:k_ w S es ep t)(Y:s.heap.get? S=Ab (jx es ep t)):At w s.heap.objs.size S es ep t 0 (s.heap.push (sv 0 0 S es.size ep)):=
 ⟨0,Be _ rfl,Ai _ Y,.inr (oY Z.tab.tb.rs)⟩
end
end _S
namespace _S
open PySem.W
variable {n lo:Ag}{arr m:Ay Bj}
structure Ord {K:Type}(lt:K->K->As):Prop where
 irr:∀ a,lt a a=false
 tr:∀ {a b c},lt a b=true->lt b c=true->lt a c=true
 tri:∀ {a b},lt a b=false->a=b\/lt b a=true
theorem iI:∀ a:Aa Aj,_H.lexLt a a=false
 |[]=>rfl
 |x::Q=>by rw[_H.aw,Bi rfl];exact iI Q
theorem WA:∀ {a b c:Aa Aj},_H.lexLt a b=true->_H.lexLt b c=true->_H.lexLt a c=true
 |_,[],[],_,h=>by cases h
 |_,_::_,[],_,h=>by cases h
 |[],_,_::_,_,_=>rfl
 |_::_,[],_::_,h,_=>by cases h
 |x::G,y::O,z::N,Y,Q=>by
  rw[_H.aw] at Y Q ⊢;by_cases U:x=y
  .subst U
   rw[Bi rfl] at Y;by_cases J:x=z
   .rw[Bi J] at Q ⊢;exact WA Y Q
   .rw[Bh J] at Q ⊢;exact Q
  .rw[Bh U] at Y
   have Y:=Cq Y;by_cases J:y=z
   .subst J;rw[Bh U];exact Bm Y
   .rw[Bh J] at Q
    have Q:=Cq Q;rw[Bh (by fin2)]
    exact Bm (by fin2)
theorem iJ:∀ {a b:Aa Aj},_H.lexLt a b=false->a=b\/_H.lexLt b a=true
 |[],[],_=>.inl rfl
 |[],_::_,h=>by cases h
 |_::_,[],_=>.inr rfl
 |x::Y,y::Q,h=>by
  rw[_H.aw] at h ⊢;by_cases e:x=y
  .subst e
   rw[Bi rfl] at h ⊢;rcases iJ h with h|h
   .exact .inl (by rw[h])
   .exact .inr h
  .rw[Bh e] at h
   have h:=Jm h;rw[Bh (Gb e)];exact .inr (Bm (by fin2))
theorem zW:Ord _H.lexLt:=⟨iI,WA,iJ⟩
theorem dF {α:Type}{p q:α->As}:∀ {l:Aa α},(∀ x∈l,p x=true->q x=true)->(∃ x∈l,q x=true/\p x=false)->l.countP p<l.countP q
 |[],_,⟨x,h,_⟩=>by simp at h
 |a::l,h,⟨x,hx,Y,J⟩=>by
  have G:l.countP p<=l.countP q:=Qe λy Q=>h y (by simp[Q])
  rw[AaB,AaB];rcases Bc.mp hx with rfl|hx
  .rw[Bh (by rw[J];decide),Bi Y];fin2
  .have N:=dF (l:=l) (λy Q=>h y (by simp[Q])) ⟨x,hx,Y,J⟩
   have:=h a (by simp)
   cases U:p a with
   |false=>rw[Bh (by decide)];split <;> fin2
   |true=>rw[Bi rfl,Bi (this U)];fin2
section
variable {K:Type}{lt':K->K->As}
def pE (lt':K->K->As)(ks:Aa K)(x:K):Aj:=(ks.countP (λk=>lt' k x):Ag)
theorem cE (O:Ord lt'){ks:Aa K}{x y:K}(Y:x∈ks):lt' x y=decide (pE lt' ks x<pE lt' ks y):=by
 unfold pE;cases h:lt' x y with
 |true =>
  refine(Bm ?_).symm;have:=dF (l:=ks) (p:=λk=>lt' k x) (q:=λk=>lt' k y) (λz _ Q=>O.tr Q h) ⟨x,Y,h,O.irr x⟩;fin2
 |false =>
  refine(Co ?_).symm;have:ks.countP (λk=>lt' k y)<=ks.countP (λk=>lt' k x):=by
   rcases O.tri h with e|h'
   .rw[e];exact Av _
   .exact Qe λz _ Q=>O.tr Q h'
  fin2
def rE (lt':K->K->As)(ks:Aa K)(d:K)(i j:Ag):As:=lt' (ks.getD i d) (ks.getD j d)
def Nf (lt':K->K->As)(l:Aa K):Prop:=l.Pairwise λa b=>lt' b a=false
theorem uW (O:Ord lt'):∀ {a b:Aa K},Nf lt' a->Nf lt' b->a.Perm b->a=b
 |[],b,_,_,p=>(List.nil_perm.mp p).symm
 |x::a,b,Q,Y,p=>by
  cases b with
  |nil=>exact absurd p.symm (by simp)
  |cons y b =>
   unfold Nf at Q Y;rw[Dx] at Q Y;have e:x=y:=by
    rcases Bc.mp (p.mem_iff.mp (.head _)) with e|e
    .exact e
    .rcases Bc.mp (p.mem_iff.mpr (.head _)) with e'|e'
     .exact e'.symm
     .have J:=Q.1 y e'
      have U:=Y.1 x e;rcases O.tri J with e|h
      .exact e.symm
      .rw[U] at h;cases h
   subst e;rw[uW O Q.2 Y.2 (List.Perm.cons_inv p)]
theorem WL (O:Ord lt'){l:Aa K}(h:Nf lt' l)(nd:l.Nodup):l.Pairwise λa b=>lt' a b=true:=by
 refine List.Pairwise.imp₂ (λ{a b} Q Y=>?_) h nd;exact(O.tri Q).elim (λe=>absurd e.symm Y) id
noncomputable def jQ (lt':K->K->As)(l:Aa K):Aa K:=l.mergeSort λa b=>!lt' b a
theorem zY (l:Aa K):(jQ lt' l).Perm l:=List.mergeSort_perm _ _
theorem vD (O:Ord lt')(l:Aa K):Nf lt' (jQ lt' l):=by
 have:=Ui (le:=λa b=>!lt' b a) (λa b c Y Q=>?_) (λa b=>?_) l
 .exact this.imp λh=>by simpa using h
 .have Y:lt' b a=false:=by simpa using Y
  have Q:lt' c b=false:=by simpa using Q
  cases J:lt' c a with
  |false=>rfl
  |true =>
   rcases O.tri Y with e|h
   .rw[<- e] at J;rw[J] at Q;cases Q
   .have:=O.tr J h;rw[Q] at this;cases this
 .cases h:lt' b a with
  |false=>rfl
  |true =>
   cases U:lt' a b with
   |false=>rfl
   |true=>have:=O.tr h U;rw[O.irr] at this;cases this
noncomputable def jC (lt':K->K->As)(x:K):Aa K->Aa K
 |[]=>[x]
 |y::l=>if lt' x y then x::y::l else if lt' y x then y::jC lt' x l else y::l
def jl (lt':K->K->As):Aa K->Aa K
 |[]=>[]
 |x::Q=>jC lt' x (jl lt' Q)
set_option tactic.hygienic true in
theorem mL (O:Ord lt')(x y:K):∀ l:Aa K,y∈jC lt' x l↔y=x\/y∈l
 |[]=>by simp[jC]
 |z::l=>by
  unfold jC
  split
  .simp
  .rename_i Q
   split
   .rw[Bc,mL O x y l,Bc]
    exact⟨λh=>by rcases h with h|h|h <;> simp[h],λh=>by rcases h with h|h|h <;> simp[h]⟩
   .rename_i Y
    have:x=z:=(O.tri (by simpa using Q)).elim id λh=>absurd h Y
    subst this;simp
set_option tactic.hygienic true in
theorem i3 (O:Ord lt')(x:K):∀ l:Aa K,l.Pairwise (λa b=>lt' a b=true)->(jC lt' x l).Pairwise (λa b=>lt' a b=true)
 |[],_=>by simp[jC]
 |z::l,h=>by
  rw[Dx] at h;unfold jC
  split
  .rename_i Q
   refine Dx.mpr ⟨λy hy=>?_,Dx.mpr h⟩;rcases Bc.mp hy with rfl|hy
   .exact Q
   .exact O.tr Q (h.1 y hy)
  .split
   .rename_i Y
    refine Dx.mpr ⟨λy hy=>?_,i3 O x l h.2⟩;rcases (mL O x y l).mp hy with rfl|hy
    .exact Y
    .exact h.1 y hy
   .exact Dx.mpr h
theorem yH (O:Ord lt')(y:K):∀ l:Aa K,y∈jl lt' l↔y∈l
 |[]=>by simp[jl]
 |x::l=>by rw[jl,mL O,yH O y l,Bc]
theorem jR (O:Ord lt'):∀ l:Aa K,(jl lt' l).Pairwise (λa b=>lt' a b=true)
 |[]=>by simp[jl]
 |x::l=>i3 O x _ (jR O l)
theorem gG (O:Ord lt'):∀ {a b:Aa K},a.Pairwise (λa b=>lt' a b=true)->b.Pairwise (λa b=>lt' a b=true)->(∀ x,x∈a↔x∈b)->a=b
 |[],[],_,_,_=>rfl
 |[],y::b,_,_,h=>by have:=(h y).mpr (by simp);simp at this
 |x::a,[],_,_,h=>by have:=(h x).mp (by simp);simp at this
 |x::a,y::b,J,U,h=>by
  rw[Dx] at J U;have Y:∀ {u v},lt' u v=true->lt' v u=true->Ey:=λp q=>by have:=O.tr p q;rw[O.irr] at this;cases this
  have e:x=y:=by
   rcases Bc.mp ((h x).mp (by simp)) with e|e
   .exact e
   .rcases Bc.mp ((h y).mpr (by simp)) with e'|e'
    .exact e'.symm
    .exact(Y (U.1 x e) (J.1 y e')).elim
  subst e;have G:∀ {z:K} {l:Aa K},(∀ y∈l,lt' x y=true)->z∈l->z≠x:=λh Q e=>by subst e;have:=h _ Q;rw[O.irr] at this;cases this
  rw[gG O J.2 U.2 λz=>⟨λQ=>?_,λQ=>?_⟩]
  .exact(Bc.mp ((h z).mp (by simp[Q]))).elim (λe=>absurd e (G J.1 Q)) id
  .exact(Bc.mp ((h z).mpr (by simp[Q]))).elim (λe=>absurd e (G U.1 Q)) id
theorem R5 (O:Ord lt'){l xs:Aa K}(h:Nf lt' l)(nd:l.Nodup)(m:∀ x,x∈l↔x∈xs):l=jl lt' xs:=
 gG O (WL O h nd) (jR O xs) λx=>by rw[m,yH O]
end
theorem FJ:typeLookup (.type "set") "__len__" = pure (Ab (.builtin "set.__len__")):=PySem.F.slot_set_len.lookup
section
variable {prog:Bo}{w:Cd}{A:Bu}{E:ab}{s:Ah}{S:Af}{es:Ay (Aj × Ad)}{ep:Ag}{t:Fx}
theorem UI {r:Af}(hT:s.TypeIs (.ref r) "set"){Q:As->Ah->Prop}(h:Q false s):Aq (Au prog w) A (Rp (.ref r)) Q E s:=by
 unfold Rp;refine Ac (Ls hT FJ ?_);generalize J:("set.__len__" : Ex)=id0
 wp_delta
 rw[show splitId id0=Ab ("set","__len__") from by subst J;decide +kernel]
 subst J;refine Ac (Ky (T:="set") (b:=true) hT (by rw[Wv];kernel_rfl) ?_)
 refine Vh (λY=>absurd Y (by decide)) (λ_=>?_)
 refine Vh (λ_=>?_) (λY=>absurd (by decide +kernel) Y)
 exact Ac (Oq hT (Am h))
theorem cT {Q:Aa Ad->Ah->Prop}(hh:A.handled=none)(Z:k_ w S es ep t)(v:s.heap.get? S=Ab (jx es ep t))(hn:es.size<=1000)
  (h:∀ h' tk,(∀ b o,s.heap.get? b=Ab o->h'.get? b=Ab o)->s.heap.objs.size<h'.objs.size->Q ((qR w S ep es).toList.map (·.2)) { s with heap:=h',toks:=tk }) : Aq (Au prog w) A (collect (.ref S)) Q E s:=by
 have T:S<s.heap.objs.size:=Bg v;unfold collect;refine Ac (wpAny_runValue (Lx PySem.F.entry_proto_collect ?_));rw[Ke PySem.F.plain_proto_collect _];show Aq _ A.in1 (newList [] >>= λl=>again (.builtin "list.__iadd__" ⟨[l,.ref S],[]⟩)) _ _ s;refine Ac (Dt (Am ⟨Te Uj _,Lx PySem.F.entry_list_iadd ?_⟩));rw[Ke Uj _];have x:(s.heap.push { cls:=.type "list",data:=.seq ([] : Aa Ad).toArray }).get? s.heap.objs.size=Ab { cls:=.type "list",data:=.seq #[] }:=Be _ rfl;have J:(s.heap.push { cls:=.type "list",data:=.seq ([] : Aa Ad).toArray }).get? S=Ab (jx es ep t):=Ai _ v;show Aq _ A.in1 (Rq (.ref s.heap.objs.size) (.ref S) (.ref s.heap.objs.size)) _ _ _;unfold Rq;have u:Xy { s with heap:=s.heap.push { cls:=.type "list",data:=.seq ([] : Aa Ad).toArray } } (.ref S) "set":=⟨_,J,rfl⟩
 refine Ac (Oq u ?_);have h1:Ts (.ref s.heap.objs.size) (.ref S)=false:=by simp[Ts];exact Hj T
 rw[Bh (by rw[h1];decide)]
 refine Ac (UP (s:={ s with heap:=s.heap.push { cls:=.type "list",data:=.seq ([] : Aa Ad).toArray } }) Z J ?_)
 have N:=Ai (sv 0 0 S es.size ep) x;have k:Xy { s with heap:=(s.heap.push { cls:=.type "list",data:=.seq ([] : Aa Ad).toArray }).push (sv 0 0 S es.size ep) } (.ref S) "set":=⟨_,Ai _ J,rfl⟩
 refine Ac (EQ (UI k ?_));refine Vh (λ_=>?_) (λy=>absurd (by decide) y)
 refine Ac (Gf (Ac ?_));show Aq _ _ (updateSeq s.heap.objs.size (·.push .none) >>= λ_=>updateSeq s.heap.objs.size (·.pop)) _ _ _
 refine Ac (wpAny_updateSeq N rfl ?_);have O:=Ev (Fc (·.push Dd)) N rfl
 refine wpAny_updateSeq (hz:=by seq_fits) O rfl ?_
 have p:=Ev (Fc (·.pop)) O rfl
 have H:(s.heap.push { cls:=.type "list",data:=.seq ([] : Aa Ad).toArray }).objs.size=s.heap.objs.size+1:=Em ..;have U:∀ {b:Af} {o:Cw},b≠s.heap.objs.size->((s.heap.push { cls:=.type "list",data:=.seq ([] : Aa Ad).toArray }).push (sv 0 0 S es.size ep)).get? b=Ab o ->
   ((((s.heap.push { cls:=.type "list",data:=.seq ([] : Aa Ad).toArray }).push (sv 0 0 S es.size ep)).update s.heap.objs.size (Fc (·.push Dd))).update s.heap.objs.size (Fc (·.pop))).get? b=Ab o:=
  λG e=>(Dq _ _ (Gb G)).trans ((Dq _ _ (Gb G)).trans e)
 have j:=PU (w:=w) (s:={ s with heap:=s.heap.push { cls:=.type "list",data:=.seq ([] : Aa Ad).toArray } }) Z J
 refine Am ⟨Te PySem.F.plain_extend_loop _,?_⟩;refine codeAny_extend_loopS ((N9 (prog:=prog) (A:=A.in1) (I:=(s.heap.push { cls:=.type "list",data:=.seq ([] : Aa Ad).toArray }).objs.size) hh (by rw[H];exact Cu (sB T)) Z).toS) (by rw[Fq];lia) s.heap.objs.size ?_ _ es.size 0 _ #[] _ rfl (Gh _) ?_ p (ItemsOf.nil _) λd L c M B Y=>?_
 .rw[H]
  simp only[Bc,Do,Gy,Aa6];exact⟨Cu (Kx _),Hj T⟩
 .obtain⟨slot,a,a2,r⟩:=j
  exact⟨slot,U (by rw[H];exact Hj (Kx _)) a,U (Cu T) a2,r⟩
 .show Aq _ A (load s.heap.objs.size >>= _) _ _ d
  refine Ac (wpAny_load B ?_);obtain⟨h',g',d',z,g⟩:=d;have eg:g'=s.gens:=M.gens;have ed:d'=s.drawn:=M.drawn;have eo:g=s.os:=M.os;subst eg;subst ed;subst eo;have e:L.toList=(qR w S ep es).toList.map (·.2):=by
   refine Tg λi=>?_;rw[Bp,Du,Bp];by_cases hi:i<es.size
   .have C:i<L.size:=by rw[Y.1];exact hi
    obtain⟨e,f,q⟩:=Y.2 i L[i] (Dr C);rw[Dr C,f,Vg,q]
   .rw[Pr (by rw[Y.1];lia),Pr (by rw[uR];lia)]
    rfl
  refine Am ?_;show Q L.toList _;rw[e];refine h h' z (λb o q=>?_) (Bg B);have G:b<s.heap.objs.size:=Bg q;refine M.heap b o (λhx=>?_) (U (Cu G) (Ai _ (Ai _ q)));simp only[Bc,Do,Gy] at hx;rcases hx with hx|hx
  .exact absurd G (by rw[hx];exact Ep _)
  .exact absurd G (by rw[hx,H];exact Pm.mpr (Sf _))
end
def l8:As->Bj->Ay Bj->Ag->Ag->Ag->Mw Fm Kr (An Ag):=sortPriv% PySem.Builtin.gallop
def J3:Ay Bj->Ay Bj->Mw Fm Kr (Ay Bj):=sortPriv% PySem.Builtin.mergeLo
def J2:Ay Bj->Ay Bj->Mw Fm Kr (Ay Bj):=sortPriv% PySem.Builtin.mergeHi
def nv:Bj:=(Dd,Dd)
section
variable {M:Pw}{A:Bu}{E:ab}{s:Ah}{κ : Nw}{U:Bj->Prop}{r:Bj->Aj}
structure Cm (M:Pw)(A:Bu)(s:Ah)(κ : Nw)(U:Bj->Prop)(r:Bj->Aj):Prop where
 lt:∀ {x y:Bj},U x->U y->∀ {E:ab} {Q:An As->Fm->Prop} {st:Fm},kindOf st=κ->Q (Ab (decide (r x<r y))) st->wpS M A E s (lt' x y) Q st
theorem zF {i:Ag}{Q:Bj->Fm->Prop}{st:Fm}(h:i<arr.size)(q:Q (arr.getD i nv) st):wpS M A E s (elem' arr i) Q st:=by
 rw[elem'_eq,getElem?_pos arr i h];have e:arr.getD i nv=arr[i]:=by simp[Go,h]
 rw[e] at q;exact Bw q
theorem ZQ (C:Cm M A s κ U r){left:As}{Y:Bj}{arr:Ay Bj}{i:Ag}{Q:An As->Fm->Prop}{st:Fm}(N:kindOf st=κ)(hi:i<arr.size)(G:U (arr.getD i nv))(J:U Y)
  (q:Q (Ab (if left then decide (r (arr.getD i nv)<r Y) else !decide (r Y<r (arr.getD i nv)))) st) :
  wpS M A E s (do let x <- elem' arr i;if left then lt' x Y else (do let a <- lt' Y x;pure (a.map (λb=>!b)))) Q st:=by
 refine Bf (zF hi ?_);cases left with
 |true=>exact C.lt G J N q
 |false=>exact Bf (C.lt J G N (Bw q))
theorem nK (C:Cm M A s κ U r){left:As}{N:Bj}{arr:Ay Bj}{base n Y G:Ag}{Q:An Ag->Fm->Prop}{st:Fm}(hk:kindOf st=κ)(hh:Y<n)(hb:base+n<=arr.size)(v:∀ i,i<n->U (arr.getD (base+i) nv))(w:U N)(hc:G<=n)
  (l:∀ i,i<n->(if left then decide (r (arr.getD (base+i) nv)<r N) else !decide (r N<r (arr.getD (base+i) nv)))=decide (i<G)) (h:Q (Ab G) st):wpS M A E s (l8 left N arr base n Y) Q st:=by
 have B:∀ {i:Ag} {E:ab} {Q:An As->Fm->Prop},i<n->Q (Ab (decide (i<G))) st->wpS M A E s (do let x <- elem' arr (base+i);if left then lt' x N else (do let a <- lt' N x;pure (a.map (λb=>!b)))) Q st:=by
  intro i E Q hi q;exact ZQ C hk (by lia) (v i hi) w (by rw[l i hi];exact q)
 have yx:∀ {lo hi:Ag} {f:Ag->An (An Ag) × Ag × Ag->Mw Fm Kr (ForInStep (An (An Ag) × Ag × Ag))},lo<=G->G<=hi->hi<=n ->
   (∀ x a b,f x (none,a,b)=if a>=b then pure (.done (none,a,b)) else ((do let x <- elem' arr (base+(a+(b-a)/2));if left then lt' x N else (do let a <- lt' N x;pure (a.map (λb=>!b)))) >>= λo=>match o with
    |some H=>if H then pure (.yield (none,a+(b-a)/2+1,b)) else pure (.yield (none,a,a+(b-a)/2))
    |_=>pure (.done (Ab none,a,b))))->wpS M A E s (forIn [0:n] (none,lo,hi) f) (λc J=>J=st/\∃ a,c=(none,a,G)) st:=by
  intro lo hi f k p h3 e;refine Fo (I:=λx c J=>J=st/\∃ a b,c=(none,a,b)/\a<=G/\G<=b/\b<=n/\b+x<=n+a) ?_ ?_ ⟨rfl,lo,hi,rfl,k,p,h3,by lia⟩
  .rintro x c J _ y ⟨rfl,a,b,rfl,O,L,T,u⟩
   rw[e];by_cases g:a>=b
   .rw[Bi g];exact Bw ⟨rfl,a,by rw[show b=G by lia]⟩
   .rw[Bh g]
    have t:a<=a+(b-a)/2/\a+(b-a)/2<b:=by lia
    generalize a+(b-a)/2=m at t;refine Bf (B (by lia) ?_)
    by_cases z:m<G
    .simp only[z,La,Dp]
     exact Bw ⟨rfl,_,_,rfl,by lia,L,T,by lia⟩
    .simp only[z,Lf,Bn,Ds]
     exact Bw ⟨rfl,_,_,rfl,O,by lia,by lia,by lia⟩
  .rintro c J ⟨rfl,a,b,rfl,O,L,T,u⟩
   exact⟨rfl,a,by rw[show b=G by lia]⟩
 refine Bf (B hh ?_);dsimp only;by_cases j:Y<G
 .simp only[j,La,Dp]
  refine Bf (Hs (Fo (I:=λx c J=>J=st/\∃ a b,c=(none,a,b)/\Y+a<G/\a<b/\x<b)
   (Q:=λc J=>J=st/\∃ a b,c=(none,a,b)/\Y+a<G/\G<=Y+min b (n-Y)) ?_ ?_ ⟨rfl,0,1,rfl,j,by lia,by lia⟩) ?_)
  .rintro x c J _ y ⟨rfl,a,b,rfl,O,L,T⟩
   dsimp only;by_cases g:b>=n-Y
   .rw[Bi g];exact Bw ⟨rfl,a,b,rfl,O,by lia⟩
   .rw[Bh g]
    refine Bf (B (by lia) ?_)
    by_cases z:Y+b<G
    .simp only[z,La,Jg,Bn,Ds]
     exact Bw ⟨rfl,_,_,rfl,z,by lia,by lia⟩
    .simp only[z,Lf,Wu,Dp]
     exact Bw ⟨rfl,a,b,rfl,O,by lia⟩
  .rintro c J ⟨rfl,a,b,rfl,O,L,T⟩
   exact⟨rfl,a,b,rfl,O,by lia⟩
  .rintro c J ⟨rfl,a,b,rfl,O,L⟩
   dsimp only;refine Bf (Hs (yx (lo:=Y+a+1) (hi:=Y+min b (n-Y)) (by lia) L (by lia) λ_ _ _=>rfl) ?_)
   rintro c J ⟨rfl,d,rfl⟩;exact Bw h
 .simp only[j,Lf,Bn,Ds]
  refine Bf (Hs (Fo (I:=λx c J=>J=st/\∃ a b,c=(none,a,b)/\G+a<=Y/\a<b/\x<b)
   (Q:=λc J=>J=st/\∃ a b,c=(none,a,b)/\G+a<=Y/\Y+1<=G+min b (Y+1)) ?_ ?_ ⟨rfl,0,1,rfl,by lia,by lia,by lia⟩) ?_)
  .rintro x c J _ y ⟨rfl,a,b,rfl,O,L,T⟩
   dsimp only;by_cases g:b>=Y+1
   .rw[Bi g];exact Bw ⟨rfl,a,b,rfl,O,by lia⟩
   .rw[Bh g]
    refine Bf (B (by lia) ?_)
    by_cases z:Y-b<G
    .simp only[z,La,Dp]
     exact Bw ⟨rfl,a,b,rfl,O,by lia⟩
    .simp only[z,Lf,Bn,Ds]
     exact Bw ⟨rfl,_,_,rfl,by lia,by lia,by lia⟩
  .rintro c J ⟨rfl,a,b,rfl,O,L,T⟩
   exact⟨rfl,a,b,rfl,O,by lia⟩
  .rintro c J ⟨rfl,a,b,rfl,O,L⟩
   dsimp only;refine Bf (Hs (yx (lo:=Y+1-min b (Y+1)) (hi:=Y-a) (by lia) (by lia) (by lia) λ_ _ _=>rfl) ?_)
   rintro c J ⟨rfl,d,rfl⟩;exact Bw h
end
def Le (r:Bj->Aj)(x y:Bj):Prop:=r x<=r y
structure Mg (r:Bj->Aj)(o A B T:Aa Bj):Prop where
 p1:(o++A).Pairwise (Le r)
 p2:(o++B).Pairwise (Le r)
 pm:(o++A++B).Perm T
structure Mh (r:Bj->Aj)(A B o T:Aa Bj):Prop where
 p1:(A++o).Pairwise (Le r)
 p2:(B++o).Pairwise (Le r)
 pm:(A++B++o).Perm T
section
variable {r:Bj->Aj}{o A B A1 A2 B1 B2 T:Aa Bj}
theorem Mg.b (h:Mg r o A (B1++B2) T)(l:∀ x∈B1,∀ y∈A,Le r x y):Mg r (o++B1) A B2 T:=by
 obtain⟨Q,Y,U⟩:=h;refine⟨?_,by rw[Cc];exact Y,?_⟩
 .rw[Cc]
  rw[Ct] at Q Y ⊢;refine⟨Q.1,?_,λx J y hy=>?_⟩
  .rw[Ct]
   exact⟨(Ct.mp Y.2.1).1,Q.2.1,l⟩
  .rcases Bq.mp hy with hy|hy
   .exact Y.2.2 x J y (Dm _ hy)
   .exact Q.2.2 x J y hy
 .refine Ny ?_ U
  simp only[Cc];refine Ig _ ?_;simp only[<- Cc];exact Jl _ Jq
theorem Mg.a (h:Mg r o (A1++A2) B T)(l:∀ x∈A1,∀ y∈B,Le r x y):Mg r (o++A1) A2 B T:=by
 obtain⟨Q,Y,U⟩:=h;refine⟨by rw[Cc];exact Q,?_,by simpa only [Cc] using U⟩
 rw[Cc];rw[Ct] at Q Y ⊢;refine⟨Y.1,?_,λx J y hy=>?_⟩
 .rw[Ct]
  exact⟨(Ct.mp Q.2.1).1,Y.2.1,l⟩
 .rcases Bq.mp hy with hy|hy
  .exact Q.2.2 x J y (Dm _ hy)
  .exact Y.2.2 x J y hy
theorem Mh.a (h:Mh r (A1++A2) B o T)(l:∀ x∈B,∀ y∈A2,Le r x y):Mh r A1 B (A2++o) T:=by
 obtain⟨Q,Y,U⟩:=h;refine⟨by rw[<- Cc];exact Q,?_,?_⟩
 .rw[Cc] at Q
  rw[Ct] at Q Y ⊢;refine⟨Y.1,Q.2.1,λx J y hy=>?_⟩;rcases Bq.mp hy with hy|hy
  .exact l x J y hy
  .exact Y.2.2 x J y hy
 .refine Ny ?_ U
  simp only[Cc];refine Ig _ ?_;simp only[<- Cc];exact Jl _ Jq
theorem Mh.b (h:Mh r A (B1++B2) o T)(l:∀ x∈A,∀ y∈B2,Le r x y):Mh r A B1 (B2++o) T:=by
 obtain⟨Y,Q,U⟩:=h;refine⟨?_,by rw[<- Cc];exact Q,by simpa only [Cc] using U⟩
 rw[Cc] at Q;rw[Ct] at Y Q ⊢;refine⟨Y.1,Q.2.1,λx J y hy=>?_⟩;rcases Bq.mp hy with hy|hy
 .exact l x J y hy
 .exact Y.2.2 x J y hy
end
structure Mo (r:Bj->Aj)(T:Aa Bj)(m:Ay Bj):Prop where
 pm:m.toList.Perm T
 up:m.toList.Pairwise (Le r)
abbrev cI (st:Fm)(g:Ag):Fm:=Dh (kindOf st) (arrOf st) (pendingOf st) g (failedOf st)
theorem nV {a:Ay Bj}{i:Ag}(h:i<a.size):a.toList.drop i=a.getD i nv::a.toList.drop (i+1):=by
 rw[Fa (by simpa using h)]
 congr 1
 simp[Go,h]
theorem zR {a:Ay Bj}{i:Ag}(h:i<a.size):a.getD i nv∈a.toList:=by
 have e:a.getD i nv=a[i]:=by simp[Go,h]
 rw[e];exact Array.getElem_mem_toList h
theorem yD {r:Bj->Aj}{a:Ay Bj}(s:a.toList.Pairwise (Le r)){i j:Ag}(h:i<=j)(Q:j<a.size):r (a.getD i nv)<=r (a.getD j nv):=by
 rcases Js i j with l|l
 .have e:=Kc.mp s i j (by simpa using Hw l Q) (by simpa using Q) l
  have Y:i<a.size:=Hw l Q;simpa [Go,Y,Q,Le] using e
 .rw[Vi h l];exact Qf _
theorem gZ {a:Ay Bj}{i:Ag}{x:Bj}(h:x∈a.toList.drop i):∃ j,i<=j/\j<a.size/\x=a.getD j nv:=by
 obtain⟨k,Y,e⟩:=Cp.mp h;rw[Ta] at e;have Q:k<a.size-i:=by simpa using Y
 refine⟨i+k,by lia,by lia,?_⟩
 have:i+k<a.size:=by lia
 simp[Go,this,<- e]
theorem p8 {a:Ay Bj}{x:Bj}(h:x∈a.toList.take n):∃ j,j<n/\j<a.size/\x=a.getD j nv:=by
 obtain⟨k,Y,e⟩:=Cp.mp h;rw[Sz] at e;have Q:k<n/\k<a.size:=by rw[Hg,Bx] at Y;lia
 refine⟨k,Q.1,Q.2,?_⟩;simp[Go,Q.2,<- e]
theorem mE {a:Ay Bj}{i k:Ag}:(a.extract i (i+k)).toList++a.toList.drop (i+k)=a.toList.drop i:=by
 rw[Kg,Ih,Ge,<- List.drop_drop];exact Qg _ _
theorem f7 {a:Ay Bj}{i:Ag}:(a.extract i a.size).toList=a.toList.drop i:=by
 rw[Kg,Ih];exact Ht (by simp)
theorem gB {a:Ay Bj}{i k:Ag}{x:Bj}(h:x∈(a.extract i (i+k)).toList):∃ j,i<=j/\j<i+k/\j<a.size/\x=a.getD j nv:=by
 rw[Kg,Ih,Ge] at h;obtain⟨m,Y,e⟩:=Cp.mp h;rw[Sz,Ta] at e;have Q:m<k/\i+m<a.size:=by rw[Hg,Ku,Bx] at Y;lia
 refine⟨i+m,by lia,by lia,Q.2,?_⟩
 simp[Go,Q.2,<- e]
def GL (r:Bj->Aj)(a b o:Ay Bj)(i j:Ag):Prop:=Mg r o.toList (a.toList.drop i) (b.toList.drop j) (a.toList++b.toList)
section
variable {r:Bj->Aj}{a b o:Ay Bj}{i j k:Ag}
theorem GL.pb (U:a.toList.Pairwise (Le r))(h:GL r a b o i j)(Q:j<b.size)(l:i<a.size->r (b.getD j nv)<=r (a.getD i nv)):GL r a b (o.push (b.getD j nv)) i (j+1):=by
 have J:Mg r o.toList (a.toList.drop i) ([b.getD j nv]++b.toList.drop (j+1)) (a.toList++b.toList):=by rw[Wf,<- nV Q];exact h
 have:=J.b λx N y Y=>by
  cases Cz.mp N;obtain⟨m,G,O,rfl⟩:=gZ Y;exact Ga (l (by lia)) (yD U G O)
 unfold GL;rw[En];exact this
theorem GL.pa (N:b.toList.Pairwise (Le r))(h:GL r a b o i j)(hi:i<a.size)(l:j<b.size->r (a.getD i nv)<=r (b.getD j nv)):GL r a b (o.push (a.getD i nv)) (i+1) j:=by
 have Y:Mg r o.toList ([a.getD i nv]++a.toList.drop (i+1)) (b.toList.drop j) (a.toList++b.toList):=by rw[Wf,<- nV hi];exact h
 have:=Y.a λx G y Q=>by
  cases Cz.mp G;obtain⟨m,U,J,rfl⟩:=gZ Q;exact Ga (l (by lia)) (yD N U J)
 unfold GL;rw[En];exact this
theorem GL.ea (G:b.toList.Pairwise (Le r))(h:GL r a b o i j)(O:j<b.size)(l:∀ m,m<k->r (a.getD (i+m) nv)<=r (b.getD j nv)):GL r a b (o++a.extract i (i+k)) (i+k) j:=by
 have Y:Mg r o.toList ((a.extract i (i+k)).toList++a.toList.drop (i+k)) (b.toList.drop j) (a.toList++b.toList):=by rw[mE];exact h
 have:=Y.a λx U y Q=>by
  obtain⟨m,C,T,B,rfl⟩:=gB U;obtain⟨L,N,J,rfl⟩:=gZ Q;have:=l (m-i) (by lia)
  rw[show i+(m-i)=m by lia] at this
  exact Ga this (yD G N J)
 unfold GL;rw[Ef];exact this
theorem GL.eb (J:a.toList.Pairwise (Le r))(h:GL r a b o i j)(hi:i<a.size)(l:∀ m,m<k->r (b.getD (j+m) nv)<=r (a.getD i nv)):GL r a b (o++b.extract j (j+k)) i (j+k):=by
 have Y:Mg r o.toList (a.toList.drop i) ((b.extract j (j+k)).toList++b.toList.drop (j+k)) (a.toList++b.toList):=by rw[mE];exact h
 have:=Y.b λx G y Q=>by
  obtain⟨m,C,O,B,rfl⟩:=gB G;obtain⟨L,N,U,rfl⟩:=gZ Q;have:=l (m-j) (by lia)
  rw[show j+(m-j)=m by lia] at this
  exact Ga this (yD J N U)
 unfold GL;rw[Ef];exact this
theorem GL.fin (h:GL r a b o i j)(e:i=a.size\/j=b.size):Mo r (a.toList++b.toList) (o++a.extract i a.size++b.extract j b.size):=by
 refine⟨?_,?_⟩ <;> rw[Ef,Ef,f7,f7]
 .exact h.pm
 .rcases e with rfl|rfl
  .rw[Ps (by simp),Hq];exact h.p2
  .rw[Ps (l:=b.toList) (by simp),Hq];exact h.p1
theorem GL.last (h:GL r a b o i j)(e:i+1=a.size)(l:∀ x∈b.toList,Le r x (a.getD (a.size-1) nv)):Mo r (a.toList++b.toList) (o++b.extract j b.size++a.extract i a.size):=by
 have U:i<a.size:=by lia
 have J:a.toList.drop i=[a.getD i nv]:=by rw[nV U,Ps (by simp;lia)]
 refine⟨?_,?_⟩ <;> rw[Ef,Ef,f7,f7]
 .refine Ny ?_ h.pm
  rw[Cc,Cc];exact Ig _ Jq
 .have Q:=h.p1
  rw[J] at Q ⊢;rw[Ct] at Q ⊢;refine⟨h.p2,Ot _ _,λx hx y Y=>?_⟩;rcases Bq.mp hx with hx|hx
  .exact Q.2.2 x hx y Y
  .cases Cz.mp Y
   have:=l x (Xc hx);rw[show a.size-1=i by lia] at this
   exact this
end
theorem rW {p:Ag->As}:∀ (n:Ag),(∀ i j,i<=j->j<n->p j=true->p i=true)->∃ c,c<=n/\∀ i,i<n->p i=decide (i<c)
 |0,_=>⟨0,Av _,λi h=>by lia⟩
 |n+1,h=>by
  obtain⟨c,Y,e⟩:=rW n λi j a b=>h i j a (by lia)
  by_cases q:p n=true
  .refine⟨n+1,Av _,λi Q=>?_⟩
   rw[h i n (by lia) (by lia) q]
   simp[Q]
  .refine⟨c,by lia,λi Q=>?_⟩
   rcases Js i n with l|l
   .exact e i l
   .have:i=n:=by lia
    subst this;have:¬ i<c:=by lia
    simp[this,q]
section
variable {M:Pw}{A:Bu}{E:ab}{s:Ah}{κ : Nw}{U:Bj->Prop}{r:Bj->Aj}
theorem qO {σ α:Type}{c:Prop}[Hy c]{x y:Mw σ Kr α}{Q:α->σ->Prop}{st:σ}(h1:c->wpS M A E s x Q st)(h2:¬ c->wpS M A E s y Q st):wpS M A E s (if c then x else y) Q st:=by
 by_cases h:c
 .rw[Bi h];exact h1 h
 .rw[Bh h];exact h2 h
theorem UD (C:Cm M A s κ U r){Y:Bj}{arr:Ay Bj}{base n J:Ag}{Q:An Ag->Fm->Prop}{st:Fm}(w:kindOf st=κ)(I:J<n)(H:base+n<=arr.size)(L:∀ i,i<n->U (arr.getD (base+i) nv))(N:U Y)
  (B:∀ i j,i<=j->j<n->r (arr.getD (base+i) nv)<=r (arr.getD (base+j) nv)) (h:∀ c,c<=n->(∀ i,i<c->r (arr.getD (base+i) nv)<=r Y)->(∀ i,c<=i->i<n->r Y<r (arr.getD (base+i) nv))->Q (Ab c) st):wpS M A E s (l8 false Y arr base n J) Q st:=by
 obtain⟨c,O,e⟩:=rW (p:=λi=>!decide (r Y<r (arr.getD (base+i) nv))) n λi j a b q=>by
  have:=B i j a b;simp only[Pi,Lg] at q ⊢
  lia
 refine nK C w I H L N O (λi G=>by simpa using e i G) (h c O (λi G=>?_) λi G T=>?_)
 .have:=e i (by lia)
  simp only[G,La,Pi,Lg] at this
  lia
 .have:=e i T
  simp only[show ¬ i<c by lia,Lf,Bool.not_eq_false',Cf] at this
  exact this
theorem UE (C:Cm M A s κ U r){Y:Bj}{arr:Ay Bj}{base n J:Ag}{Q:An Ag->Fm->Prop}{st:Fm}(w:kindOf st=κ)(I:J<n)(H:base+n<=arr.size)(L:∀ i,i<n->U (arr.getD (base+i) nv))(N:U Y)
  (B:∀ i j,i<=j->j<n->r (arr.getD (base+i) nv)<=r (arr.getD (base+j) nv)) (h:∀ c,c<=n->(∀ i,i<c->r (arr.getD (base+i) nv)<r Y)->(∀ i,c<=i->i<n->r Y<=r (arr.getD (base+i) nv))->Q (Ab c) st):wpS M A E s (l8 true Y arr base n J) Q st:=by
 obtain⟨c,O,e⟩:=rW (p:=λi=>decide (r (arr.getD (base+i) nv)<r Y)) n λi j a b q=>by
  have:=B i j a b;simp only[Cf] at q ⊢
  lia
 refine nK C w I H L N O (λi G=>by simpa using e i G) (h c O (λi G=>?_) λi G T=>?_)
 .have:=e i (by lia)
  simp only[G,La,Cf] at this;exact this
 .have:=e i T
  simp only[show ¬ i<c by lia,Lf,Lg] at this
  lia
end
section
variable {M:Pw}{A:Bu}{E:ab}{s:Ah}{σ α γ δ:Type}{Q:α->σ->Prop}{st:σ}{c c' c2:Prop}[Hy c][Hy c'][Hy c2]
theorem oF {K:γ->Mw σ Kr α}{x y:γ}(h:∀ z,wpS M A E s (K z) Q st):wpS M A E s (if c then K x else K y) Q st:=qO (λ_=>h x) λ_=>h y
theorem YU {K:γ->δ->Mw σ Kr α}{u:Mw σ Kr α}{x y:γ}{w v:δ}(P:γ->δ->Prop)(hK:∀ z w,P z w->wpS M A E s (K z w) Q st)(h1:c->c'->wpS M A E s u Q st)(h2:c->¬ c'->P x w)(h3:¬ c->P y v):wpS M A E s (if c then (if c' then u else K x w) else K y v) Q st:=qO (λe=>qO (h1 e) λY=>hK _ _ (h2 e Y)) λe=>hK _ _ (h3 e)
theorem YV {K:γ->δ->Mw σ Kr α}{u J:Mw σ Kr α}{x y:γ}{w v:δ}(P:γ->δ->Prop)(hK:∀ z w,P z w->wpS M A E s (K z w) Q st)(h1:c->c'->wpS M A E s u Q st)(h1':c->¬ c'->c2->wpS M A E s J Q st)(h2:c->¬ c'->¬ c2->P x w)(h3:¬ c->P y v):wpS M A E s (if c then (if c' then u else if c2 then J else K x w) else K y v) Q st:=qO (λe=>qO (h1 e) λY=>qO (h1' e Y) λU=>hK _ _ (h2 e Y U)) λe=>hK _ _ (h3 e)
end
inductive MI {ρ γ:Type}(f:Ay Bj->Ag->Ag->ρ->γ)(P:Ay Bj->Ag->Ag->Prop)(st:Fm)(c:An (Ay Bj) × γ)(st':Fm):Prop
 |mk (g:Ag) (o:Ay Bj) (i j:Ag) (q:ρ) (hs:st'=cI st g) (hc:c=(none,f o i j q)) (h:P o i j):MI f P st c st'
inductive MQ {ρ γ:Type}(f:Ay Bj->Ag->Ag->ρ->γ)(F:Ay Bj->Prop)(P:Ay Bj->Ag->Ag->Prop)(st:Fm)(c:An (Ay Bj) × γ)(st':Fm):Prop
 |fin (g:Ag) (m:Ay Bj) (hs:st'=cI st g) (hc:c.1=Ab m) (hm:F m):MQ f F P st c st'
 |on (g:Ag) (o:Ay Bj) (i j:Ag) (q:ρ) (hs:st'=cI st g) (hc:c=(none,f o i j q)) (h:P o i j):MQ f F P st c st'
structure ML (r:Bj->Aj)(a b:Ay Bj)(Z:Ag->Ag->Prop)(o:Ay Bj)(i j:Ag):Prop where
 G:GL r a b o i j
 hi:i+1<a.size
 hj:j<b.size
 z:Z i j
section
variable {prog:Bo}{w:Cd}{A:Bu}{E:ab}{s:Ah}{κ : Nw}{U:Bj->Prop}{r:Bj->Aj}
theorem aH (C:Cm (Au prog w) A s κ U r){a b:Ay Bj}{Q:Ay Bj->Fm->Prop}{st:Fm}(hk:kindOf st=κ)(ua:∀ x∈a.toList,U x)(ub:∀ x∈b.toList,U x)(sa:a.toList.Pairwise (Le r))(sb:b.toList.Pairwise (Le r))
  (h:∀ m g,Mo r (a.toList++b.toList) m->Q m (cI st g)) (ha:0<a.size) (hb:0<b.size) (h0:r (b.getD 0 nv)<=r (a.getD 0 nv)) (h1:∀ x∈b.toList,Le r x (a.getD (a.size-1) nv)):wpS (Au prog w) A E s (J3 a b) Q st:=by
 have G0:GL r a b #[] 0 0:=⟨by simpa using sa,by simpa using sb,by simp⟩
 have G1:=G0.pb sa hb λ_=>h0;refine Bf (Sl (Gf ⟨rfl,?_⟩));refine Bf (zF hb ?_);dsimp only;refine qO (λe=>Bw (h _ (Vj st) (G1.fin (.inr (by simpa using e))))) λe1=>?_
 refine qO (λe=>Bw (h _ (Vj st) (G1.last (by simpa using e) h1))) λe2=>?_
 have e1:1<b.size:=by
  have:¬ 1=b.size:=by simpa using e1
  lia
 have e2:0+1<a.size:=by
  have:¬ 0+1=a.size:=by simpa using e2
  lia
 refine Bf (Ou ?_);refine Bf (Hs (Fo (I:=λx=>MI (λo i j q=>(o,i,j,q)) (ML r a b λi j=>x<i+j) st)
  (Q:=MQ (λo i j q=>(o,i,j,q)) (Mo r (a.toList++b.toList)) (λ_ _ _=>Ey) st) ?_ ?_ ⟨Vj st,_,0,1,_,rfl,rfl,G1,e2,e1,by lia⟩) ?_)
 .rintro x c B _ hx ⟨g,o,i,j,mg,rfl,rfl,G,N,Y,hp⟩
  dsimp only;refine Bf (Hs (Fo (I:=λy=>MI (λo i j q=>(o,i,j,q)) (ML r a b λJ O=>i+j+y<=J+O) st)
   (Q:=MQ (λo i j q=>(o,i,j,q)) (Mo r (a.toList++b.toList)) (ML r a b λJ O=>x+1<J+O) st) ?_ ?_ ⟨g,o,i,j,(0,0),rfl,rfl,G,N,Y,by lia⟩) ?_)
  .rintro y c B _ hy ⟨g,o,J,O,⟨p,q⟩,rfl,rfl,G,N,Y,M⟩
   dsimp only;refine Bf (zF Y (Bf (zF (i:=J) (by lia) (Bf (C.lt (ub _ (zR Y)) (ua _ (zR (i:=J) (by lia))) hk ?_)))))
   dsimp only;refine qO (λl=>?_) λl=>?_
   .have l:r (b.getD O nv)<r (a.getD J nv):=by simpa using l
    have G2:=G.pb sa Y λ_=>Gv l;refine Bf (zF Y ?_);refine qO (λe=>?_) λe=>?_
    .exact Bw (.fin _ _ rfl rfl (G2.fin (.inr (by simpa using e))))
    .have e:¬ O+1=b.size:=by simpa using e
     refine qO (λ_=>?_) λ_=>?_
     .exact Bw (.on _ _ _ _ (_,_) rfl rfl ⟨G2,N,by lia,by lia⟩)
     .exact Bw ⟨_,_,_,_,(_,_),rfl,rfl,G2,N,by lia,by lia⟩
   .have l:¬ r (b.getD O nv)<r (a.getD J nv):=by simpa using l
    have G2:=G.pa sb (by lia) λ_=>AaT.mp l
    refine Bf (zF (i:=J) (by lia) ?_)
    refine qO (λe=>?_) λe=>?_
    .exact Bw (.fin _ _ rfl rfl (G2.last (by simpa using e) h1))
    .have e:¬ J+1+1=a.size:=by simpa using e
     refine qO (λ_=>?_) λ_=>?_
     .exact Bw (.on _ _ _ _ (_,_) rfl rfl ⟨G2,by lia,Y,by lia⟩)
     .exact Bw ⟨_,_,_,_,(_,_),rfl,rfl,G2,by lia,Y,by lia⟩
  .rintro c B ⟨g,o,J,O,q,rfl,rfl,G,N,Y,M⟩
   exact .on g _ _ _ _ rfl rfl ⟨G,N,Y,by lia⟩
  .rintro c B (⟨g,m,rfl,f,hm⟩|⟨g,o,J,O,⟨p,q⟩,rfl,rfl,G,N,Y,M⟩)
   .obtain⟨c0,c1⟩:=c
    cases f;exact Bw (.fin _ m rfl rfl hm)
   dsimp only;refine Bf (Sl (Gf ⟨rfl,?_⟩));refine Bf (Hs (Fo (I:=λy=>MI (λo i j q=>(o,i,j,q)) (ML r a b λJ O=>x+1<J+O) st)
    (Q:=MQ (λo i j q=>(o,i,j,q)) (Mo r (a.toList++b.toList)) (ML r a b λJ O=>x+1<J+O) st) ?_ ?_ ⟨g,o,J,O,(_,_,_),rfl,rfl,G,N,Y,M⟩) ?_)
   .rintro y c B _ hy ⟨g,o,i,j,⟨p,q,t⟩,rfl,rfl,G,N,Y,M⟩
    dsimp only;generalize p-1=p1;apply oF (x:=p1) (y:=p);intro mg;have u:i<a.size:=Th N;refine Bf (Jt ?_);refine Bf (zF Y ?_);refine Bf (UD C hk (Ti u) (Ze (XV (Ek u))) (λJ zc=>ua _ (zR (Mj zc))) (ub _ (zR Y)) (λJ O h1 h2=>yD sa (Jh h1 _) (Mj h2)) λk k1 k2 k3=>?_);dsimp only;have G2:=G.ea sb Y k2;have k4:i+k<=a.size:=Wg (Ek u) k1;have k5:i+k<a.size->r (b.getD j nv)<r (a.getD (i+k) nv):=λh=>k3 k (Av _) (Xd (by rw[Zc];exact h))
    have k6:x+1<i+k+j:=Bl M (Xe (Mu _ _) _);have k7:k=0->i=i+k:=λh=>by rw[h];rfl
    generalize i+k=i1 at G2 k4 k5 k6 k7 ⊢;generalize o++a.extract i i1=o1 at G2 ⊢;apply YV (x:=o1) (w:=i1) (y:=o) (v:=i) (P:=λL T=>GL r a b L T j/\T+1<a.size/\x+1<T+j/\r (b.getD j nv)<r (a.getD T nv))
    case h1=>exact λ_ e=>Bw (.fin _ _ rfl rfl (G2.last (by simpa using e) h1))
    case h1'=>exact λ_ _ e=>Bw (.fin _ _ rfl rfl (G2.fin (.inl (by simpa using e))))
    case h2 =>
     intro _ e3 e4;have e3:¬ i1+1=a.size:=by simpa using e3
     have e4:¬ i1=a.size:=by simpa using e4
     have e5:i1<a.size:=Io k4 e4;exact⟨G2,Io e5 e3,k6,k5 e5⟩
    case h3 =>
     intro e;have e:=k7 (Ly e);exact⟨G,N,M,by rw[e];exact k5 (by rw[<- e];exact u)⟩
    case hK =>
     rintro L T ⟨G2,hl,M,f⟩;have H:T<a.size:=Th hl;refine Bf (zF Y ?_);have G3:=G2.pb sa Y λ_=>Gv f;refine qO (λe=>Bw (.fin _ _ rfl rfl (G3.fin (.inr (by simpa using e))))) λe5=>?_
     have e5:¬ j+1=b.size:=by simpa using e5
     have d:j+1<b.size:=Io Y e5;refine Bf (zF H ?_);refine Bf (UE C hk (Ti d) (Ze (XV Y)) (λi N=>ub _ (zR (Mj N))) (ua _ (zR H)) (λi j h1 h2=>yD sb (Jh h1 _) (Mj h2)) λm m1 m2 m3=>?_);dsimp only;have G4:=G3.eb sa H λi N=>Gv (m2 i N);have m4:j+1+m<=b.size:=Wg Y m1;have m5:j+1+m<b.size->r (a.getD T nv)<=r (b.getD (j+1+m) nv):=λh=>m3 m (Av _) (Xd (by rw[Zc];exact h))
     have m6:j+1<=j+1+m:=Mu _ _;have m7:m=0->j+1=j+1+m:=λh=>by rw[h]
     generalize j+1+m=j1 at G4 m4 m5 m6 m7 ⊢;generalize L.push (b.getD j nv)++b.extract (j+1) j1=o2 at G4 ⊢;apply YU (x:=o2) (w:=j1) (y:=L.push (b.getD j nv)) (v:=j+1) (P:=λL ib=>GL r a b L T ib/\ib<b.size/\j+1<=ib/\r (a.getD T nv)<=r (b.getD ib nv))
     case h1=>exact λ_ e=>Bw (.fin _ _ rfl rfl (G4.fin (.inr (by simpa using e))))
     case h2 =>
      intro _ e6;have e6:¬ j1=b.size:=by simpa using e6
      have e7:=Io m4 e6;exact⟨G4,e7,m6,m5 e7⟩
     case h3 =>
      intro e;have e:=m7 (Ly e);exact⟨G3,d,Av _,by rw[e];exact m5 (by rw[<- e];exact d)⟩
     case hK =>
      rintro L ib ⟨G4,zb,zl,zs⟩;refine Bf (zF H ?_);have G5:=G4.pa sb H λ_=>zs;refine qO (λe=>Bw (.fin _ _ rfl rfl (G5.last (by simpa using e) h1))) λe7=>?_
      have e7:¬ T+1+1=a.size:=by simpa using e7
      have e8:T+1+1<a.size:=Io hl e7;have e9:x+1<T+1+ib:=Bl M (AaY (Sf _) (Nat.le_of_succ_le zl));exact qO (λ_=>Bw (.on _ _ _ _ (_,_,_) rfl rfl ⟨G5,e8,zb,e9⟩)) λ_=>Bw ⟨_,_,_,_,(_,_,_),rfl,rfl,G5,e8,zb,e9⟩
   .rintro c B ⟨g,o,J,O,q,rfl,rfl,G,N,Y,M⟩
    exact .on g _ _ _ _ rfl rfl ⟨G,N,Y,by lia⟩
   .rintro c B (⟨g,m,rfl,f,hm⟩|⟨g,o,J,O,⟨p,q,t⟩,rfl,rfl,G,N,Y,M⟩)
    .obtain⟨c0,c1⟩:=c
     cases f;exact Bw (.fin _ m rfl rfl hm)
    dsimp only;refine Bf (Jt ?_);exact Bw ⟨_,_,_,_,_,rfl,rfl,G,N,Y,by lia⟩
 .rintro c B ⟨g,o,J,O,p,rfl,rfl,G,N,Y,M⟩
  exfalso
  lia
 .rintro c B (⟨g,m,rfl,f,hm⟩|⟨_,_,_,_,_,_,_,z⟩);rotate_left;exact z.elim
  obtain⟨c0,c1⟩:=c;cases f;exact Bw (h m g hm)
end
theorem lV {a:Ay Bj}(h:0<n)(Y:n<=a.size):a.toList.take n=a.toList.take (n-1)++[a.getD (n-1) nv]:=by
 obtain⟨m,rfl⟩:∃ m,n=m+1:=⟨n-1,by lia⟩
 rw[Oh,List.take_add_one];have Q:m<a.size:=by lia
 simp[Go,Q]
theorem eF {a:Ay Bj}{i:Ag}(h:i<=n):a.toList.take i++(a.extract i n).toList=a.toList.take n:=by
 rw[Kg,Ih]
 conv=>rhs;rw[show n=i+(n-i) by lia,List.take_add]
theorem gR {a:Ay Bj}:(a.extract 0 n).toList=a.toList.take n:=by
 rw[Kg,Ih];simp
theorem eY {a:Ay Bj}{i:Ag}{x:Bj}(Q:i<=n)(h:x∈(a.extract i n).toList):∃ j,i<=j/\j<n/\j<a.size/\x=a.getD j nv:=by
 obtain⟨k,rfl⟩:∃ k,n=i+k:=⟨n-i,by lia⟩
 exact gB h
def GH (r:Bj->Aj)(a b o:Ay Bj)(i j:Ag):Prop:=Mh r (a.toList.take i) (b.toList.take j) o.toList.reverse (a.toList++b.toList)
section
variable {r:Bj->Aj}{a b o:Ay Bj}{i j k:Ag}
theorem GH.pa (Y:b.toList.Pairwise (Le r))(h:GH r a b o i j)(h1:0<i)(h2:i<=a.size)(N:j<=b.size)(l:0<j->r (b.getD (j-1) nv)<=r (a.getD (i-1) nv)):GH r a b (o.push (a.getD (i-1) nv)) (i-1) j:=by
 have Q:Mh r (a.toList.take (i-1)++[a.getD (i-1) nv]) (b.toList.take j) o.toList.reverse (a.toList++b.toList):=by rw[<- lV h1 h2];exact h
 have:=Q.a λx U y J=>by
  cases Cz.mp J;obtain⟨m,O,G,rfl⟩:=p8 U;exact Ga (yD Y (by lia) (by lia)) (l (by lia))
 unfold GH;rw[En,Nj];exact this
theorem GH.pb (Y:a.toList.Pairwise (Le r))(h:GH r a b o i j)(h1:0<j)(h2:j<=b.size)(hi:i<=a.size)(l:0<i->r (a.getD (i-1) nv)<=r (b.getD (j-1) nv)):GH r a b (o.push (b.getD (j-1) nv)) i (j-1):=by
 have Q:Mh r (a.toList.take i) (b.toList.take (j-1)++[b.getD (j-1) nv]) o.toList.reverse (a.toList++b.toList):=by rw[<- lV h1 h2];exact h
 have:=Q.b λx U y J=>by
  cases Cz.mp J;obtain⟨m,N,G,rfl⟩:=p8 U;exact Ga (yD Y (by lia) (by lia)) (l (by lia))
 unfold GH;rw[En,Nj];exact this
theorem GH.ea (U:b.toList.Pairwise (Le r))(h:GH r a b o i j)(Q:k<=i)(T:j<=b.size)(l:0<j->∀ m,k<=m->m<i->m<a.size->r (b.getD (j-1) nv)<=r (a.getD m nv)):GH r a b (o++(a.extract k i).reverse) k j:=by
 have Y:Mh r (a.toList.take k++(a.extract k i).toList) (b.toList.take j) o.toList.reverse (a.toList++b.toList):=by rw[eF Q];exact h
 have:=Y.a λx C y N=>by
  obtain⟨m,E,L,rfl⟩:=p8 C;obtain⟨G,O,J,B,rfl⟩:=eY Q N;exact Ga (yD U (by lia) (by lia)) (l (by lia) G O J B)
 unfold GH;rw[Ef,Mr,Nj,Xf];exact this
theorem GH.eb (J:a.toList.Pairwise (Le r))(h:GH r a b o i j)(Q:k<=j)(hi:i<=a.size)(l:0<i->∀ m,k<=m->m<j->m<b.size->r (a.getD (i-1) nv)<=r (b.getD m nv)):GH r a b (o++(b.extract k j).reverse) i k:=by
 have Y:Mh r (a.toList.take i) (b.toList.take k++(b.extract k j).toList) o.toList.reverse (a.toList++b.toList):=by rw[eF Q];exact h
 have:=Y.b λx C y N=>by
  obtain⟨m,T,L,rfl⟩:=p8 C;obtain⟨G,O,U,B,rfl⟩:=eY Q N;exact Ga (yD J (by lia) (by lia)) (l (by lia) G O U B)
 unfold GH;rw[Ef,Mr,Nj,Xf];exact this
theorem GH.fin (h:GH r a b o i j)(e:i=0\/j=0):Mo r (a.toList++b.toList) (a.extract 0 i++b.extract 0 j++o.reverse):=by
 refine⟨?_,?_⟩ <;> rw[Ef,Ef,gR,gR,Mr]
 .exact h.pm
 .rcases e with rfl|rfl
  .rw[AaZ,Gz];exact h.p2
  .rw[AaZ,Hq];exact h.p1
theorem GH.first (h:GH r a b o i j)(e:j=1)(U:0<b.size)(l:∀ x∈a.toList,Le r (b.getD 0 nv) x):Mo r (a.toList++b.toList) (b.extract 0 j++a.extract 0 i++o.reverse):=by
 subst e;have J:b.toList.take 1=[b.getD 0 nv]:=by rw[lV (by lia) (by lia)];rfl
 refine⟨?_,?_⟩ <;> rw[Ef,Ef,gR,gR,Mr]
 .refine Ny ?_ h.pm
  exact Jl _ Jq
 .have Q:=h.p2
  rw[J] at Q ⊢;rw[Cc];rw[Ct] at Q ⊢;refine⟨Q.1,h.p1,λx Y y hy=>?_⟩;rcases Bq.mp hy with hy|hy
  .cases Cz.mp Y
   exact l y (List.mem_of_mem_take hy)
  .exact Q.2.2 x Y y hy
end
structure MH (r:Bj->Aj)(a b:Ay Bj)(Z:Ag->Ag->Prop)(o:Ay Bj)(i j:Ag):Prop where
 G:GH r a b o i j
 hi:0<i
 hi2:i<=a.size
 hj:1<j
 hj2:j<=b.size
 z:Z i j
section
variable {prog:Bo}{w:Cd}{A:Bu}{E:ab}{s:Ah}{κ : Nw}{U:Bj->Prop}{r:Bj->Aj}
theorem aG (C:Cm (Au prog w) A s κ U r){a b:Ay Bj}{Q:Ay Bj->Fm->Prop}{st:Fm}(hk:kindOf st=κ)(ua:∀ x∈a.toList,U x)(ub:∀ x∈b.toList,U x)(sa:a.toList.Pairwise (Le r))(sb:b.toList.Pairwise (Le r))
  (h:∀ m g,Mo r (a.toList++b.toList) m->Q m (cI st g)) (ha:0<a.size) (hb:0<b.size) (h0:∀ x∈a.toList,Le r (b.getD 0 nv) x) (h1:r (b.getD (b.size-1) nv)<=r (a.getD (a.size-1) nv)):wpS (Au prog w) A E s (J2 a b) Q st:=by
 have G0:GH r a b #[] a.size b.size:=by
  unfold GH;rw[Ht (by simp),Ht (by simp)]
  exact⟨by simpa using sa,by simpa using sb,by simp⟩
 have G1:=G0.pa sb ha (Av _) (Av _) λ_=>h1;refine Bf (Sl (Gf ⟨rfl,?_⟩));refine Bf (zF (i:=a.size-1) (by lia) ?_)
 dsimp only;refine qO (λe=>Bw (h _ (Vj st) (G1.fin (.inl (by simpa using e))))) λe1=>?_
 refine qO (λe=>Bw (h _ (Vj st) (G1.first (by simpa using e) hb h0))) λe2=>?_
 have e1:¬ a.size-1=0:=by simpa using e1
 have e2:¬ b.size=1:=by simpa using e2
 refine Bf (Ou ?_);refine Bf (Hs (Fo (I:=λx=>MI (λo i j q=>(i,j,o,q)) (MH r a b λi j=>x+i+j<a.size+b.size) st)
  (Q:=MQ (λo i j q=>(i,j,o,q)) (Mo r (a.toList++b.toList)) (λ_ _ _=>Ey) st) ?_ ?_ ⟨Vj st,_,a.size-1,b.size,_,rfl,rfl,G1,by lia,by lia,by lia,by lia,by lia⟩) ?_)
 .rintro x c L _ hx ⟨g,o,i,j,mg,rfl,rfl,G,B,Y,T,J,hp⟩
  dsimp only;refine Bf (Hs (Fo (I:=λy=>MI (λo i j q=>(i,j,o,q)) (MH r a b λN O=>N+O+y<=i+j) st)
   (Q:=MQ (λo i j q=>(i,j,o,q)) (Mo r (a.toList++b.toList)) (MH r a b λN O=>x+1+N+O<a.size+b.size) st) ?_ ?_ ⟨g,o,i,j,(0,0),rfl,rfl,G,B,Y,T,J,by lia⟩) ?_)
  .rintro y c L _ hy ⟨g,o,N,O,⟨p,q⟩,rfl,rfl,G,B,Y,T,J,d⟩
   dsimp only;refine Bf (zF (i:=O-1) (by lia) (Bf (zF (i:=N-1) (by lia) (Bf (C.lt (ub _ (zR (i:=O-1) (by lia))) (ua _ (zR (i:=N-1) (by lia))) hk ?_)))))
   dsimp only;refine qO (λl=>?_) λl=>?_
   .have l:r (b.getD (O-1) nv)<r (a.getD (N-1) nv):=by simpa using l
    have G2:=G.pa sb B Y J λ_=>Gv l;refine Bf (zF (i:=N-1) (by lia) ?_)
    refine qO (λe=>Bw (.fin _ _ rfl rfl (G2.fin (.inl (by simpa using e))))) λe=>?_
    have e:¬ N-1=0:=by simpa using e
    exact qO (λ_=>Bw (.on _ _ _ _ (_,_) rfl rfl ⟨G2,by lia,by lia,T,J,by lia⟩)) λ_=>Bw ⟨_,_,_,_,(_,_),rfl,rfl,G2,by lia,by lia,T,J,by lia⟩
   .have l:¬ r (b.getD (O-1) nv)<r (a.getD (N-1) nv):=by simpa using l
    have G2:=G.pb sa (by lia) J Y λ_=>AaT.mp l
    refine Bf (zF (i:=O-1) (by lia) ?_)
    refine qO (λe=>Bw (.fin _ _ rfl rfl (G2.first (by simpa using e) hb h0))) λe=>?_
    have e:¬ O-1=1:=by simpa using e
    exact qO (λ_=>Bw (.on _ _ _ _ (_,_) rfl rfl ⟨G2,B,Y,by lia,by lia,by lia⟩)) λ_=>Bw ⟨_,_,_,_,(_,_),rfl,rfl,G2,B,Y,by lia,by lia,by lia⟩
  .rintro c L ⟨g,o,N,O,q,rfl,rfl,G,B,Y,T,J,d⟩
   exact .on g _ _ _ _ rfl rfl ⟨G,B,Y,T,J,by lia⟩
  .rintro c L (⟨g,m,rfl,hc,hm⟩|⟨g,o,N,O,⟨p,q⟩,rfl,rfl,G,B,Y,T,J,d⟩)
   .obtain⟨c0,c1⟩:=c
    cases hc;exact Bw (.fin _ m rfl rfl hm)
   dsimp only;refine Bf (Sl (Gf ⟨rfl,?_⟩));refine Bf (Hs (Fo (I:=λy=>MI (λo i j q=>(i,j,o,q)) (MH r a b λN O=>x+1+N+O<a.size+b.size) st)
    (Q:=MQ (λo i j q=>(i,j,o,q)) (Mo r (a.toList++b.toList)) (MH r a b λN O=>x+1+N+O<a.size+b.size) st) ?_ ?_ ⟨g,o,N,O,(_,_,_),rfl,rfl,G,B,Y,T,J,d⟩) ?_)
   .rintro y c L _ hy ⟨g,o,i,j,⟨p,q,t⟩,rfl,rfl,G,B,Y,T,J,d⟩
    dsimp only;generalize p-1=p1;apply oF (x:=p1) (y:=p);intro mg;refine Bf (Jt ?_);have j0:0<j:=Th T;have jb:j-1<b.size:=Bl (Nk j0 Mk) J;refine Bf (zF jb ?_);refine Bf (UD C hk (Nk B Mk) (by rw[Hx];exact Y) (λN zl=>ua _ (zR (by rw[Hx];exact Bl zl Y))) (ub _ (zR jb)) (λN O h1 h2=>yD sa (Jh h1 0) (by rw[Hx];exact Bl h2 Y)) λk k1 k2 k3=>?_)
    simp only[Hx] at k2 k3;dsimp only;have G2:=G.ea sb k1 J λ_ m q1 q2 _=>Gv (k3 m q1 q2);have kc:i-k=0->k=i:=λh=>Vi k1 (Wh h);generalize i-k=ac at kc ⊢;generalize o++(a.extract k i).reverse=o1 at G2 ⊢;apply YU (x:=k) (w:=o1) (y:=i) (v:=o) (P:=λM H=>GH r a b H M j/\0<M/\M<=a.size/\x+1+M+j<a.size+b.size/\r (a.getD (M-1) nv)<=r (b.getD (j-1) nv))
    case h1=>exact λ_ e=>Bw (.fin _ _ rfl rfl (G2.fin (.inl (by simpa using e))))
    case hK =>
     rintro M H ⟨G2,hl,zb,d,hc⟩;have u:M-1<a.size:=Bl (Nk hl Mk) zb;refine Bf (zF jb ?_);have G3:=G2.pb sa j0 J zb λ_=>hc;refine qO (λe=>Bw (.fin _ _ rfl rfl (G3.first (by simpa using e) hb h0))) λe5=>?_
     have e5:¬ j-1=1:=by simpa using e5
     have j1:0<j-1:=Ti T;refine Bf (zF u ?_);refine Bf (UE C hk (Nk j1 Mk) (by rw[Hx];exact Ek jb) (λi B=>ub _ (zR (by rw[Hx];exact Hw B jb))) (ua _ (zR u)) (λi j h1 h2=>yD sb (Jh h1 0) (by rw[Hx];exact Hw h2 jb)) λm m1 m2 m3=>?_)
     simp only[Hx] at m2 m3;dsimp only;have G4:=G3.eb sa m1 zb λ_ m q1 q2 _=>m3 m q1 q2;have mc:j-1-m=0->m=j-1:=λh=>Vi m1 (Wh h);generalize j-1-m=bc at mc ⊢;generalize H.push (b.getD (j-1) nv)++(b.extract m (j-1)).reverse=o2 at G4 ⊢;apply YV (x:=m) (w:=o2) (y:=j-1) (v:=H.push (b.getD (j-1) nv)) (P:=λnb H=>GH r a b H M nb/\1<nb/\nb<=j-1/\r (b.getD (nb-1) nv)<=r (a.getD (M-1) nv))
     case h1=>exact λ_ e=>Bw (.fin _ _ rfl rfl (G4.first (by simpa using e) hb h0))
     case h1'=>exact λ_ _ e=>Bw (.fin _ _ rfl rfl (G4.fin (.inr (by simpa using e))))
     case hK =>
      rintro nb H ⟨G4,h4,h5,zs⟩;have h6:nb<=b.size:=Ch h5 (Ek jb);have zc:x+1+(M-1)+nb<a.size+b.size:=Ll (AaY (Jh (Nat.sub_le _ _) _) (Ch h5 (Nat.sub_le _ _))) d;refine Bf (zF u ?_);have G5:=G4.pa sb hl zb h6 λ_=>zs;refine qO (λe=>Bw (.fin _ _ rfl rfl (G5.fin (.inl (by simpa using e))))) λf=>?_
      have f:0<M-1:=Ol (by simpa using f)
      exact qO (λ_=>Bw (.on _ _ _ _ (_,_,_) rfl rfl ⟨G5,f,Ek u,h4,h6,zc⟩)) λ_=>Bw ⟨_,_,_,_,(_,_,_),rfl,rfl,G5,f,Ek u,h4,h6,zc⟩
     case h2 =>
      intro _ e6 f;have e6:¬ m=1:=by simpa using e6
      have f:¬ m=0:=by simpa using f
      exact⟨G4,Io (Ol f) (Gb e6),m1,Gv (m2 (m-1) (Nk (Ol f) Mk))⟩
     case h3 =>
      intro e;cases mc (Ly e);exact⟨G3,Io j1 (Gb e5),Av _,Gv (m2 (j-1-1) (Nk j1 Mk))⟩
    case h2 =>
     intro _ e;have e3:0<k:=Ol (by simpa using e)
     exact⟨G2,e3,Ch k1 Y,Ll (Xe (Jh k1 _) _) d,k2 (k-1) (Nk e3 Mk)⟩
    case h3 =>
     intro e;have e:=kc (Ly e);exact⟨G,B,Y,d,k2 (i-1) (by rw[e];exact Nk B Mk)⟩
   .rintro c L ⟨g,o,N,O,q,rfl,rfl,G,B,Y,T,J,d⟩
    exact .on g _ _ _ _ rfl rfl ⟨G,B,Y,T,J,by lia⟩
   .rintro c L (⟨g,m,rfl,hc,hm⟩|⟨g,o,N,O,⟨p,q,t⟩,rfl,rfl,G,B,Y,T,J,d⟩)
    .obtain⟨c0,c1⟩:=c
     cases hc;exact Bw (.fin _ m rfl rfl hm)
    dsimp only;refine Bf (Jt ?_);exact Bw ⟨_,_,_,_,_,rfl,rfl,G,B,Y,T,J,by lia⟩
 .rintro c L ⟨g,o,N,O,p,rfl,rfl,G,B,Y,T,J,d⟩
  exfalso
  lia
 .rintro c L (⟨g,m,rfl,hc,hm⟩|⟨_,_,_,_,_,_,_,z⟩);rotate_left;exact z.elim
  obtain⟨c0,c1⟩:=c;cases hc;exact Bw (h m g hm)
end
theorem ZO:∀ (l:Aa Bj) (arr:Ay Bj) (o d:Ag),o+d+l.length<=arr.size->∀ k,((l.zipIdx d).foldl (λa p=>a.setIfInBounds (o+p.2) p.1) arr)[k]? = if o+d<=k/\k<o+d+l.length then l[k-(o+d)]? else arr[k]?
 |[],arr,o,d,h,k=>by
  rw[Bh (by simp only[Eh];lia)];rfl
 |x::l,arr,o,d,h,k=>by
  rw[Bv] at h;rw[T0,Nu,ZO l _ o (d+1) (by rw[Array.size_setIfInBounds];lia) k,Bv]
  by_cases Y:k=o+d
  .subst Y
   rw[Bh (by lia),Bi (by lia),Zf,Array.getElem?_setIfInBounds_self_of_lt (by lia)]
   rfl
  .by_cases Q:o+(d+1)<=k/\k<o+(d+1)+l.length
   .rw[Bi Q,Bi (by lia),show k-(o+d)=(k-(o+(d+1)))+1 by lia,Os]
   .rw[Bh Q,Bh (by lia),Array.getElem?_setIfInBounds_ne (by lia)]
def wb (arr:Ay Bj)(o:Ag)(m:Ay Bj):Ay Bj:=m.toList.zipIdx.foldl (λa p=>a.setIfInBounds (o+p.2) p.1) arr
theorem oE {o:Ag}(h:o+m.size<=arr.size)(k:Ag):(wb arr o m).getD k nv=if o<=k/\k<o+m.size then m.getD (k-o) nv else arr.getD k nv:=by
 have e:=ZO m.toList arr o 0 (by simpa using h) k
 simp only[Nat.add_zero,Bx,Bp] at e;rw[Fj,Fj,Fj];unfold wb;rw[e]
 split <;> rfl
theorem ZP {o d:Ag}(h:o+m.size<=arr.size)(Q:d<m.size):(wb arr o m).getD (o+d) nv=m.getD d nv:=by
 rw[oE h,Bi ⟨Mu _ _,Nat.add_lt_add_left Q _⟩,Ge]
theorem jU {o k:Ag}(h:o+m.size<=arr.size)(Q:k<o\/o+m.size<=k):(wb arr o m).getD k nv=arr.getD k nv:=by
 rw[oE h,Bh (by lia)]
theorem GJ {a:Ay Bj}{i:Ag}(h:i+n<=a.size):(a.extract i (i+n)).size=n:=by rw[Lo];lia
theorem NC {o:Ag}(h:o+m.size<=arr.size):(wb arr o m).toList=arr.toList.take o++(m.toList++arr.toList.drop (o+m.size)):=by
 apply Tg;intro k;have e:=ZO m.toList arr o 0 (by simpa using h) k
 simp only[Nat.add_zero,Bx,Bp] at e;unfold wb;rw[Bp,e];have Q:(arr.toList.take o).length=o:=by rw[Hg,Bx];lia
 by_cases Y:k<o
 .rw[Bh (by lia),AT (by lia),Ob Y,Bp]
 .rw[Dg (by lia),Q]
  by_cases J:k<o+m.size
  .rw[Bi (by lia),AT (by rw[Bx];lia),Bp]
  .rw[Bh (by lia),Dg (by rw[Bx];lia),Yt,Bx,Bp]
   congr 1
   lia
theorem ND {o:Ag}(h:o+n<=arr.size)(p:m.toList.Perm (arr.extract o (o+n)).toList):(wb arr o m).toList.Perm arr.toList:=by
 have Q:m.size=n:=by
  have:=p.length_eq;rw[Bx,Bx,Lo] at this
  lia
 rw[NC (by lia),Q]
 have e:arr.toList=arr.toList.take o++((arr.extract o (o+n)).toList++arr.toList.drop (o+n)):=by rw[mE,Qg]
 conv=>rhs;rw[e]
 exact Ig _ (Jl _ p)
def Seg (r:Bj->Aj)(a:Ay Bj)(lo n:Ag):Prop:=∀ i j,lo<=i->i<=j->j<lo+n->r (a.getD i nv)<=r (a.getD j nv)
theorem o3 {r:Bj->Aj}{a:Ay Bj}(h:Seg r a lo n){i k:Ag}(h1:lo<=i)(h2:i+k<=lo+n)(h3:i+k<=a.size):(a.extract i (i+k)).toList.Pairwise (Le r):=by
 rw[Kc];intro x y N J l;have Y:x<k:=by rw[Bx,Lo] at N;lia
 have U:y<k:=by rw[Bx,Lo] at J;lia
 have e:=h (i+x) (i+y) (by lia) (by lia) (by lia)
 have G:i+x<a.size:=by lia
 have Q:i+y<a.size:=by lia
 simpa [Go,G,Q,Le] using e
theorem eE {a:Ay Bj}{i k m:Ag}(h:m<k)(h3:i+k<=a.size):(a.extract i (i+k)).getD m nv=a.getD (i+m) nv:=by
 have Q:i+m<a.size:=by lia
 have J:m<(a.extract i (i+k)).size:=by rw[Lo];lia
 have Y:m<min (i+k) a.size-i:=by lia
 simp[Go,Q,Y]
theorem U7 {a:Ay Bj}{i j k:Ag}(h1:i<=j)(h2:j<=k):(a.extract i j).toList++(a.extract j k).toList=(a.extract i k).toList:=by
 rw[<- Ef,Array.extract_append_extract]
 congr 2 <;> lia
section
variable {prog:Bo}{w:Cd}{A:Bu}{E:ab}{s:Ah}{κ : Nw}{U:Bj->Prop}{r:Bj->Aj}
theorem NF {M:Pw}{σ:Type}{Q:PUnit->σ->Prop}{st Y:σ}(h:Q ⟨⟩ Y):wpS M A E s (set Y:Mw σ Kr PUnit) Q st:=by
 unfold wpS;rw[StateT.run_set];exact Am ⟨rfl,h⟩
theorem aF (C:Cm (Au prog w) A s κ U r){i Y B pw L pz:Ag}{Q:As->Fm->Prop}{arr:Ay Bj}{pd:Ay (Ag × Ag × Ag)}{g:Ag}(ua:∀ x∈arr.toList,U x)(e1:pd[i]? = Ab (Y,B,pw))(e2:pd[i+1]? = Ab (Y+B,L,pz))(p1:0<B)(p2:0<L)(hz:Y+B+L<=arr.size)
  (I:Seg r arr Y B) (T:Seg r arr (Y+B) L)
  (h:∀ N g,N.toList.Perm arr.toList->(∀ k,k<Y\/Y+B+L<=k->N.getD k nv=arr.getD k nv)->Seg r N Y (B+L)->Q true (Dh κ N ((pd.setIfInBounds i (Y,B+L,pw)).eraseIdxIfInBounds (i+1)) g none)) :
  wpS (Au prog w) A E s (mergeAt' i) Q (Dh κ arr pd g none):=by
 refine Bf (Ou ?_);dsimp only;rw[e1,e2];dsimp only;refine Bf (NF ?_);refine Bf (zF (i:=Y+B) (by lia) ?_)
 refine Bf (UD C rfl (by lia) (by lia) (λi hi=>ua _ (zR (by lia))) (ua _ (zR (by lia))) (λi j a b=>I _ _ (by lia) (by lia) (by lia)) λk k1 k2 k3=>?_)
 obtain⟨t,rfl⟩:=Fp k1;clear k1 p1 e1 e2;simp only[Ge,<- Nh] at *;refine qO (λe=>Bw (h arr g (Ko _) (λ_ _=>rfl) λi j a b c=>?_)) λe=>?_
 .have e:t=0:=by simpa using e
  subst e;by_cases q1:j<Y+k
  .exact I i j a b q1
  .by_cases q2:Y+k<=i
   .exact T i j q2 b (by lia)
   .have:=k2 (i-Y) (by lia)
    rw[show Y+(i-Y)=i by lia] at this
    exact Ga this (T _ _ (Av _) (by lia) (by lia))
 have e:t≠0:=by simpa using e
 obtain⟨u,rfl⟩:∃ u,t=u+1:=⟨t-1,by lia⟩
 clear e;rw[show Y+k+(u+1)-1=Y+k+u from rfl]
 refine Bf (zF (i:=Y+k+u) (by lia) ?_)
 refine Bf (UE C rfl (by lia) (by lia) (λi hi=>ua _ (zR (by lia))) (ua _ (zR (by lia))) (λi j a b=>T _ _ (by lia) (by lia) (by lia)) λm m1 m2 m3=>?_)
 dsimp only;have hk:=k3 k (Av _) (by lia)
 have hq:=I (Y+k) (Y+k+u) (by lia) (by lia) (by lia)
 refine qO (λe=>?_) λe=>?_
 .have e:m=0:=by simpa using e
  subst e;exact absurd (Rx hk (Ga hq (m3 0 (Av _) p2))) (Int.lt_irrefl _)
 have e:m≠0:=by simpa using e
 have zx:=GJ (a:=arr) (i:=Y+k) (n:=u+1) (by lia)
 have zy:=GJ (a:=arr) (i:=Y+k+(u+1)) (n:=m) (by lia)
 have px:=o3 I (i:=Y+k) (k:=u+1) (by lia) (by lia) (by lia)
 have py:=o3 T (Av _) (k:=m) (by lia) (by lia)
 have l:∀ x∈(arr.extract (Y+k) (Y+k+(u+1))).toList,U x/\r (arr.getD (Y+k+(u+1)) nv)<=r x/\r x<=r (arr.getD (Y+k+u) nv):=λx O=>by
  obtain⟨j,q1,q2,q3,rfl⟩:=gB O;exact⟨ua _ (zR q3),Gv (Rx hk (I (Y+k) j (by lia) q1 (by lia))),I j _ (by lia) (by lia) (by lia)⟩
 have o:∀ x∈(arr.extract (Y+k+(u+1)) (Y+k+(u+1)+m)).toList,U x/\r (arr.getD (Y+k+(u+1)) nv)<=r x/\r x<=r (arr.getD (Y+k+u) nv):=λx O=>by
  obtain⟨j,q1,q2,q3,rfl⟩:=gB O;obtain⟨d,rfl⟩:=Fp q1;exact⟨ua _ (zR q3),T _ _ (Av _) q1 (by lia),Gv (m2 d (by lia))⟩
 have zb:∀ G p,Mo r ((arr.extract (Y+k) (Y+k+(u+1))).toList++(arr.extract (Y+k+(u+1)) (Y+k+(u+1)+m)).toList) G->Q true (Dh κ (wb arr (Y+k) G) ((pd.setIfInBounds i (Y,k+(u+1)+L,pw)).eraseIdxIfInBounds (i+1)) p none):=by
  intro G p M;have hm:G.size=u+1+m:=by
   have:=M.pm.length_eq;rw[By,Bx,Bx,Bx,zx,zy] at this;exact this
  have J:Y+k+G.size<=arr.size:=by lia
  have bd:∀ d,d<G.size->r (arr.getD (Y+k+(u+1)) nv)<=r (G.getD d nv)/\r (G.getD d nv)<=r (arr.getD (Y+k+u) nv):=λd hd=>(Bq.mp (M.pm.mem_iff.mp (zR hd))).elim (λq=>(l _ q).2) λq=>(o _ q).2;refine h _ p (ND (n:=u+1+m) (by lia) ?_) (λj hj=>jU J (by lia)) λi j a b c=>?_
  .rw[<- Nh (Y+k),<- U7 (j:=Y+k+(u+1)) (by lia) (by lia)]
   exact M.pm
  rcases Js i (Y+k) with i1|i1
  .obtain⟨x,rfl⟩:=Fp a
   have v:=k2 x (by lia)
   rw[jU J (.inl i1)];rcases Js j (Y+k) with j1|j1
   .rw[jU J (.inl j1)];exact I _ j a b (by lia)
   obtain⟨y,rfl⟩:=Fp j1;refine Ga v ?_;rcases Js y G.size with j2|j2
   .rw[ZP J j2];exact(bd y j2).1
   .rw[jU J (.inr (by lia))];exact T _ _ (Av _) (by lia) (by lia)
  obtain⟨x,rfl⟩:=Fp i1;obtain⟨y,rfl⟩:=Fp (Ch i1 b);rcases Js x G.size with i2|i2
  .rw[ZP J i2]
   rcases Js y G.size with j2|j2
   .rw[ZP J j2];exact yD M.up (by lia) j2
   .rw[jU J (.inr (by lia))]
    obtain⟨z,rfl⟩:∃ z,y=u+1+z:=⟨y-(u+1),by lia⟩
    have v:=m3 z (by lia) (by lia)
    rw[Nh (Y+k)] at v;exact Ga (bd x i2).2 v
  .rw[jU J (.inr (by lia)),jU J (.inr (by lia))]
   exact T _ _ (by lia) b (by lia)
 have y0:(arr.extract (Y+k+(u+1)) (Y+k+(u+1)+m)).getD 0 nv=arr.getD (Y+k+(u+1)) nv:=eE (by lia) (by lia)
 have xl:(arr.extract (Y+k) (Y+k+(u+1))).getD ((arr.extract (Y+k) (Y+k+(u+1))).size-1) nv=arr.getD (Y+k+u) nv:=by rw[zx];exact eE (by lia) (by lia)
 have ux:=λx O=>(l x O).1;have uy:=λx O=>(o x O).1;have nx:0<(arr.extract (Y+k) (Y+k+(u+1))).size:=by lia
 have ny:0<(arr.extract (Y+k+(u+1)) (Y+k+(u+1)+m)).size:=by lia
 have H:∀ x∈(arr.extract (Y+k) (Y+k+(u+1))).toList,r (arr.getD (Y+k+(u+1)) nv)<=r x:=λx O=>(l x O).2.1;have f:∀ x∈(arr.extract (Y+k+(u+1)) (Y+k+(u+1)+m)).toList,r x<=r (arr.getD (Y+k+u) nv):=λx O=>(o x O).2.2;rw[<- y0] at H;rw[<- xl] at f;refine qO (λ_=>Bf (aH C rfl ux uy px py (λG p M=>Bf (Jt (Bf (Ou (Bw (zb G p M)))))) nx ny (H _ (zR nx)) f)) λ_=>Bf (aG C rfl ux uy px py (λG p M=>Bf (Jt (Bf (Ou (Bw (zb G p M)))))) nx ny H (f _ (zR (by lia))))
end
def mir (a:Ay Bj)(i j:Ag):Ay Bj:=mirror a i j ((j-i)/2)
theorem yB {a:Ay Bj}{i j:Ag}(Q:j<=a.size)(k:Ag):(mir a i j).getD k nv=if i<=k/\k<j then a.getD (i+j-1-k) nv else a.getD k nv:=by
 rw[Fj,Fj,Fj];unfold mir;rw[getElem?_mirror_all Q]
 split <;> rfl
structure Cr (a b:Ay Bj)(lo n:Ag):Prop where
 pm:b.toList.Perm a.toList
 out:∀ k,k<lo\/lo+n<=k->b.getD k nv=a.getD k nv
theorem Cr.z {a b:Ay Bj}(h:Cr a b lo n):b.size=a.size:=by
 have:=h.pm.length_eq;simpa using this
theorem Cr.rfl' {a:Ay Bj}:Cr a a lo n:=⟨Ko _,λ_ _=>rfl⟩
theorem Cr.mir {a b:Ay Bj}{i j:Ag}(h:Cr a b lo n)(h1:lo<=i)(h2:j<=lo+n)(h3:j<=a.size):Cr a (mir b i j) lo n:=
 ⟨(Si.mp (mirror_perm _ _ _ _)).trans h.pm,λk Q=>by rw[yB (by rw[h.z];exact h3),Bh (by lia)];exact h.out k Q⟩
def ul (r:Bj->Aj)(a:Ay Bj)(lo n:Ag):Prop:=∀ i j,lo<=i->i<=j->j<lo+n->r (a.getD j nv)<=r (a.getD i nv)
theorem K8 {r:Bj->Aj}{a:Ay Bj}(h:Seg r a lo n)(h1:1<=n)(l:r (a.getD (lo+n-1) nv)<=r (a.getD (lo+n) nv)):Seg r a lo (n+1):=λi j Q J U=>by
 by_cases q:j<lo+n
 .exact h i j Q J q
 .have:j=lo+n:=by lia
  subst this;by_cases Y:i=lo+n
  .subst Y;exact Qf _
  .exact Ga (h i (lo+n-1) Q (by lia) (by lia)) l
theorem gP {r:Bj->Aj}{a:Ay Bj}(h:ul r a lo n)(h1:1<=n)(l:r (a.getD (lo+n) nv)<=r (a.getD (lo+n-1) nv)):ul r a lo (n+1):=λi j Q J U=>by
 by_cases q:j<lo+n
 .exact h i j Q J q
 .have:j=lo+n:=by lia
  subst this;by_cases Y:i=lo+n
  .subst Y;exact Qf _
  .exact Ga l (h i (lo+n-1) Q (by lia) (by lia))
theorem o4 {r:Bj->Aj}{a:Ay Bj}:Seg r a lo 1:=λi j Y Q J=>by
 have:i=j:=by lia
 subst this;exact Qf _
theorem BO {r:Bj->Aj}{a:Ay Bj}:ul r a lo 1:=λi j Y Q J=>by
 have:i=j:=by lia
 subst this;exact Qf _
def oJ (r:Bj->Aj)(a:Ay Bj)(lo n q:Ag):Prop:=q+1<=n/\∀ k,lo+n-(q+1)<=k->k<lo+n->r (a.getD k nv)=r (a.getD (lo+n-1) nv)
set_option tactic.hygienic true in
theorem gQ {r:Bj->Aj}{a:Ay Bj}{q:Ag}(Q:lo+n<=a.size)(h:oJ r a lo n q)(k:Ag):r ((mir a (lo+n-(q+1)) (lo+n)).getD k nv)=r (a.getD k nv):=by
 rw[yB Q];have:=h.1
 split
 .rename_i c
  rw[h.2 k (by lia) c.2,h.2 _ (by lia) (by lia)]
 .rfl
theorem BN {r:Bj->Aj}{a:Ay Bj}(Q:lo+n<=a.size)(h:ul r a lo n):Seg r (mir a lo (lo+n)) lo n:=λi j J Y U=>by
 rw[yB Q,yB Q,Bi (by lia),Bi (by lia)]
 exact h _ _ (by lia) (by lia) (by lia)
section
variable {prog:Bo}{w:Cd}{A:Bu}{E:ab}{s:Ah}{κ : Nw}{U:Bj->Prop}{r:Bj->Aj}
theorem gH (C:Cm (Au prog w) A s κ U r){i j:Ag}{arr:Ay Bj}{J:Ay (Ag × Ag × Ag)}{g:Ag}{Q:An As->Fm->Prop}(Y:∀ x∈arr.toList,U x)(hi:i<arr.size)(G:j<arr.size)
  (q:Q (Ab (decide (r (arr.getD i nv)<r (arr.getD j nv)))) (Dh κ arr J g none)):wpS (Au prog w) A E s (ltAt' i j) Q (Dh κ arr J g none):=by
 refine Bf (Ou ?_);exact Bf (zF hi (Bf (zF G (C.lt (Y _ (zR hi)) (Y _ (zR G)) rfl q))))
theorem fN {i j:Ag}{Y:Ay (Ag × Ag × Ag)}{g:Ag}{Q:PUnit->Fm->Prop}(q:Q ⟨⟩ (Dh κ (mir arr i j) Y g none)):wpS (Au prog w) A E s (reverseSlice' i j) Q (Dh κ arr Y g none):=Jt q
theorem CF {σ α:Type}{c:Prop}[Hy c]{Q:α->σ->Prop}{st:σ}{y:Ag}{K:Ag->Mw σ Kr α}{u:Mw σ Kr α}(P:Ag->σ->Prop)(hK:∀ z st,P z st->wpS (Au prog w) A E s (K z) Q st)(h1:c->(∀ z st,P z st->wpS (Au prog w) A E s (K z) Q st)->wpS (Au prog w) A E s u Q st)(h2:¬ c->P y st):wpS (Au prog w) A E s (if c then u else K y) Q st:=qO (λe=>h1 e hK) λe=>hK _ _ (h2 e)
theorem YW {σ α:Type}{c:Prop}[Hy c]{Q:α->σ->Prop}{st:σ}{K u:Mw σ Kr α}(P:σ->Prop)(hK:∀ st,P st->wpS (Au prog w) A E s K Q st)(h1:c->(∀ st,P st->wpS (Au prog w) A E s K Q st)->wpS (Au prog w) A E s u Q st)(h2:¬ c->P st):wpS (Au prog w) A E s (if c then u else K) Q st:=qO (λe=>h1 e hK) λe=>hK _ (h2 e)
theorem sQ (C:Cm (Au prog w) A s κ U r){lo N:Ag}{arr:Ay Bj}{L:Ay (Ag × Ag × Ag)}{g:Ag}{Q:An Ag->Fm->Prop}(ua:∀ x∈arr.toList,U x)(h1:1<=N)(hz:lo+N<=arr.size)
  (h:∀ n b,1<=n->n<=N->Cr arr b lo N->Seg r b lo n->Q (Ab n) (Dh κ b L g none)):wpS (Au prog w) A E s (countRun' lo N) Q (Dh κ arr L g none):=by
 have p:∀ {b:Ay Bj},Cr arr b lo N->∀ x∈b.toList,U x:=λh x t=>ua x (h.pm.mem_iff.mp t);have T:∀ {b:Ay Bj} {n:Ag} {f:Ag->An (An Ag) × Ag->Mw Fm Kr (ForInStep (An (An Ag) × Ag))},Cr arr b lo N->1<=n->n<=N->Seg r b lo n ->
   (∀ x m,f x (none,m)=(ltAt' (lo+m) (lo+m-1) >>= λo=>match o with
    |some z=>if z then pure (.done (none,m)) else pure (.yield (none,m+1))
    |_=>pure (.done (Ab none,m))))->wpS (Au prog w) A E s (forIn [n:N] (none,n) f) (λc Y=>Y=Dh κ b L g none/\∃ m,c=(none,m)/\n<=m/\m<=N/\Seg r b lo m/\(m=N\/r (b.getD (lo+m) nv)<r (b.getD (lo+m-1) nv))) (Dh κ b L g none):=by
  intro b n f J hn hN B hf;have zb:=J.z;refine Fo (I:=λx c Y=>Y=Dh κ b L g none/\c=(none,x)/\n<=x/\Seg r b lo x) ?_ ?_ ⟨rfl,rfl,Av _,B⟩
  .rintro x c Y H t ⟨rfl,rfl,M,B⟩
   rw[hf];refine Bf (gH C (p J) (by lia) (by lia) ?_)
   by_cases l:r (b.getD (lo+x) nv)<r (b.getD (lo+x-1) nv)
   .simp only[l,La,Dp]
    exact Bw ⟨rfl,x,rfl,H,by lia,B,.inr l⟩
   .simp only[l,Lf,Bn,Ds]
    exact Bw ⟨rfl,rfl,by lia,K8 B (by lia) (by lia)⟩
  .rintro c Y ⟨rfl,rfl,M,B⟩
   rw[show max n N=N by lia] at B ⊢
   exact⟨rfl,N,rfl,hN,Av _,B,.inl rfl⟩
 refine Bf (Hs (T Cr.rfl' (Av 1) h1 o4 λ_ _=>rfl) ?_);rintro c Y ⟨rfl,n,rfl,u,n2,B,nd⟩;dsimp only;refine qO (λe=>Bw (h n arr u n2 Cr.rfl' B)) λe=>?_;have e:¬ n=N:=by simpa using e
 have nd:r (arr.getD (lo+n) nv)<r (arr.getD (lo+n-1) nv):=by lia
 refine YW (λst=>∃ b,st=Dh κ b L g none/\Cr arr b lo N/\ul r b lo (n+1)) ?_ (λnp hk=>?_) λnp=>⟨arr,rfl,Cr.rfl',?_⟩
 .rintro _ ⟨b,rfl,J,O⟩
  refine Bf (Sl (Gf ⟨rfl,?_⟩));refine Bf (Hs (Fo (I:=λx c Y=>∃ b q,Y=Dh κ b L g none/\c=(none,x,q)/\Cr arr b lo N/\ul r b lo x/\oJ r b lo x q)
   (Q:=λc Y=>∃ b m q,Y=Dh κ b L g none/\c=(none,m,q)/\1<=m/\m<=N/\Cr arr b lo N/\ul r b lo m/\oJ r b lo m q) ?_ ?_ ⟨_,0,rfl,rfl,J,O,by lia,λk a b=>by rw[show k=lo+(n+1)-1 by lia]⟩) ?_)
  .rintro x c Y H t ⟨b,q,rfl,rfl,J,O,G⟩
   dsimp only;have zb:=J.z;refine Bf (gH C (p J) (by lia) (by lia) ?_)
   dsimp only;refine qO (λl=>?_) λl=>?_
   .have l:r (b.getD (lo+x) nv)<r (b.getD (lo+x-1) nv):=by simpa using l
    have d2:=gP O (by lia) (Gv l)
    have e2:∀ b:Ay Bj,oJ r b lo (x+1) 0:=λb=>⟨by lia,λk a b=>by rw[show k=lo+(x+1)-1 by lia]⟩
    refine qO (λy=>Bf (fN (Bw ⟨_,0,rfl,rfl,J.mir (by have:=G.1;lia) (by lia) (by lia),λi j a c d=>?_,e2 _⟩))) λy=>Bw ⟨_,0,rfl,rfl,J,d2,e2 _⟩
    rw[gQ (by lia) G,gQ (by lia) G]
    exact d2 i j a c d
   .have l:¬ r (b.getD (lo+x) nv)<r (b.getD (lo+x-1) nv):=by simpa using l
    refine Bf (gH C (p J) (by lia) (by lia) ?_)
    dsimp only;refine qO (λv=>Bw ⟨b,x,q,rfl,rfl,by lia,by lia,J,O,G⟩) λv=>?_
    have v:¬ r (b.getD (lo+x-1) nv)<r (b.getD (lo+x) nv):=by simpa using v
    have ee:r (b.getD (lo+x) nv)=r (b.getD (lo+x-1) nv):=by lia
    refine Bw ⟨b,q+1,rfl,rfl,J,gP O (by lia) (by lia),by have:=G.1;lia,λk a c=>?_⟩
    rw[show lo+(x+1)-1=lo+x by lia]
    by_cases kx:k=lo+x
    .rw[kx]
    .rw[ee];exact G.2 k (by lia) (by lia)
  .rintro c Y ⟨b,q,rfl,rfl,J,O,G⟩
   rw[show max (n+1) N=N by lia] at O G ⊢
   exact⟨b,N,q,rfl,rfl,h1,Av _,J,O,G⟩
  .rintro c Y ⟨b,m,q,rfl,rfl,m1,m2,J,O,G⟩
   dsimp only;have zb:=J.z;refine YW (λst=>∃ b,st=Dh κ b L g none/\Cr arr b lo N/\ul r b lo m) ?_ (λy hk=>?_) λy=>⟨b,rfl,J,O⟩
   .rintro _ ⟨b,rfl,J,O⟩
    have z2:=J.z;refine Bf (fN ?_);refine Bf (Hs (T (J.mir (Av _) (by lia) (by lia)) m1 m2 (BN (by lia) O) λ_ _=>rfl) ?_)
    rintro c Y ⟨rfl,n',rfl,q1,q2,q3,_⟩;exact Bw (h n' _ (by lia) q2 (J.mir (Av _) (by lia) (by lia)) q3)
   .refine Bf (fN (hk _ ⟨_,rfl,J.mir (by have:=G.1;lia) (by lia) (by lia),λi j a c d=>?_⟩))
    rw[gQ (by lia) G,gQ (by lia) G]
    exact O i j a c d
 .refine Bf (gH C ua (by lia) (by lia) ?_)
  dsimp only;refine qO (λe=>Bw (h n arr u n2 Cr.rfl' B)) λl=>?_;have l:¬ r (arr.getD lo nv)<r (arr.getD (lo+n-1) nv):=by simpa using l
  refine Bf (fN (hk _ ⟨_,rfl,Cr.rfl'.mir (Av _) (by lia) (by lia),gP (λi j a b c=>?_) u ?_⟩))
  .rw[yB (by lia),yB (by lia),Bi (by lia),Bi (by lia)]
   exact B _ _ (by lia) (by lia) (by lia)
  .rw[yB (by lia),yB (by lia),Bh (by lia),Bi (by lia),show lo+(lo+n)-1-(lo+n-1)=lo by lia]
   lia
 .have:n=1:=by lia
  subst this;exact gP BO (Av _) (Gv nd)
end
theorem m8 {a:Ay Bj}{Q d:Ag}(hs:Q<a.size)(Y:d<=Q)(k:Ag):(bubble a Q d).getD k nv=if k=Q-d then a.getD Q nv else if Q-d<k/\k<=Q then a.getD (k-1) nv else a.getD k nv:=by
 simp only[Fj];rw[getElem?_bubble hs d Y]
 repeat' split
 all_goals rfl
theorem rH {a:Ay Bj}{s d k:Ag}(hs:s+d<a.size)(h:k<s\/s+d<k):(bubble a (s+d) d).getD k nv=a.getD k nv:=by
 rw[m8 hs (Vk _ _),Oh,Bh (by lia),Bh (by lia)]
theorem rG {a:Ay Bj}{s d:Ag}(hs:s+d<a.size):(bubble a (s+d) d).getD s nv=a.getD (s+d) nv:=by
 rw[m8 hs (Vk _ _),Oh,Bi rfl]
theorem t6 {a:Ay Bj}{s d z:Ag}(hs:s+d<a.size)(h:s<=z)(h2:z<s+d):(bubble a (s+d) d).getD (z+1) nv=a.getD z nv:=by
 rw[m8 hs (Vk _ _),Oh,Bh (by lia),Bi ⟨by lia,h2⟩]
 rfl
section
variable {prog:Bo}{w:Cd}{A:Bu}{E:ab}{s:Ah}{κ : Nw}{U:Bj->Prop}{r:Bj->Aj}
theorem cS (C:Cm (Au prog w) A s κ U r){lo n ok:Ag}{arr:Ay Bj}{B:Ay (Ag × Ag × Ag)}{g:Ag}{Q:As->Fm->Prop}(o:∀ x∈arr.toList,U x)(h1:ok<=n)(hz:lo+n<=arr.size)(J:Seg r arr lo ok)
  (h:∀ b,Cr arr b lo n->Seg r b lo n->Q true (Dh κ b B g none)):wpS (Au prog w) A E s (binarySort' lo n ok) Q (Dh κ arr B g none):=by
 have f:∀ {b:Ay Bj},Cr arr b lo n->∀ x∈b.toList,U x:=λh x H=>o x (h.pm.mem_iff.mp H);have T:Seg r arr lo (max ok 1):=by
  by_cases q:ok=0
  .rw[q];exact o4
  .rw[show max ok 1=ok by lia];exact J
 refine Bf (Hs (Fo (I:=λk c Y=>c=(none,())/\∃ b,Y=Dh κ b B g none/\Cr arr b lo n/\Seg r b lo k)
  (Q:=λc Y=>c=(none,())/\∃ b,Y=Dh κ b B g none/\Cr arr b lo n/\Seg r b lo n) ?_ ?_ ⟨rfl,arr,rfl,Cr.rfl',T⟩) ?_)
 .rintro k c Y hk t ⟨rfl,b,rfl,G,J⟩
  have zb:=G.z;dsimp only;refine Bf (Hs (Fo (I:=λx c Y=>Y=Dh κ b B g none/\∃ l u,c=(none,l,u)/\l<=u/\u<=k/\u+x<=k+l/\(∀ i,i<l->r (b.getD (lo+i) nv)<=r (b.getD (lo+k) nv))/\∀ i,u<=i->i<k->r (b.getD (lo+k) nv)<r (b.getD (lo+i) nv))
   (Q:=λc Y=>Y=Dh κ b B g none/\∃ l u,c=(none,l,u)/\l<=k/\(∀ i,i<l->r (b.getD (lo+i) nv)<=r (b.getD (lo+k) nv))/\∀ i,l<=i->i<k->r (b.getD (lo+k) nv)<r (b.getD (lo+i) nv)) ?_ ?_
   ⟨rfl,0,k,rfl,Gh _,Av _,Av _,λi p=>absurd p (Nat.not_lt_zero _),λi a b=>absurd a (Nat.not_le.mpr b)⟩) ?_)
  .rintro x c Y _ H ⟨rfl,l,u,rfl,L,v,y,N,O⟩
   dsimp only;refine qO (λe=>Bw ⟨rfl,l,u,rfl,by lia,N,λi a b=>O i (by lia) b⟩) λe=>?_
   refine Bf (gH C (f G) (by lia) (by lia) ?_)
   dsimp only;refine qO (λz=>?_) λz=>?_
   .have z:r (b.getD (lo+k) nv)<r (b.getD (lo+(l+u)/2) nv):=by simpa using z
    exact Bw ⟨rfl,_,_,rfl,by lia,by lia,by lia,N,λi a c=>Rx z (J _ _ (by lia) (by lia) (by lia))⟩
   .have z:¬ r (b.getD (lo+k) nv)<r (b.getD (lo+(l+u)/2) nv):=by simpa using z
    exact Bw ⟨rfl,_,_,rfl,by lia,by lia,by lia,λi a=>Ga (J _ _ (by lia) (by lia) (by lia)) (AaT.mp z),O⟩
  .rintro c Y ⟨rfl,l,u,rfl,L,v,y,N,O⟩
   exact⟨rfl,l,u,rfl,by lia,N,λi a b=>O i (by lia) b⟩
  .rintro c Y ⟨rfl,l,u,rfl,L,N,O⟩
   obtain⟨m,rfl⟩:=Fp L;clear L hk;dsimp only;simp only[<- Nh] at N O ⊢;have hs:lo+l+m<b.size:=by lia
   have em:lo+l+m-(lo+l)=m:=Ge ..;refine Bf (Jt (Bw ⟨rfl,_,rfl,⟨(Si.mp (bubble_perm _ _ _)).trans G.pm,λj M=>?_⟩,?_⟩))
   .show (bubble b (lo+l+m) (lo+l+m-(lo+l))).getD j nv=_
    rw[em,rH hs (by lia)]
    exact G.out j M
   .intro i j a c d
    show r ((bubble b (lo+l+m) (lo+l+m-(lo+l))).getD i nv)<=r ((bubble b (lo+l+m) (lo+l+m-(lo+l))).getD j nv);rw[em];rcases Mi i (lo+l) with i1|rfl|i1
    .rw[rH hs (.inl i1)]
     rcases Mi j (lo+l) with j1|rfl|j1
     .rw[rH hs (.inl j1)];exact J _ j a c (by lia)
     .obtain⟨x,rfl⟩:=Fp a
      rw[rG hs];exact N x (by lia)
     .obtain⟨z,rfl⟩:∃ z,j=z+1:=⟨j-1,by lia⟩
      rw[t6 hs (by lia) (by lia)];exact J _ _ a (by lia) (by lia)
    .rw[rG hs]
     rcases Nat.eq_or_lt_of_le c with rfl|j1
     .rw[rG hs];exact Qf _
     .obtain⟨z,rfl⟩:∃ z,j=lo+z+1:=⟨j-1-lo,by lia⟩
      rw[t6 hs (by lia) (by lia)];exact Gv (O z (by lia) (by lia))
    .obtain⟨x,rfl⟩:∃ x,i=x+1:=⟨i-1,by lia⟩
     obtain⟨z,rfl⟩:∃ z,j=z+1:=⟨j-1,by lia⟩
     rw[t6 hs (by lia) (by lia),t6 hs (by lia) (by lia)];exact J _ _ (by lia) (by lia) (by lia)
 .rintro c Y ⟨rfl,b,rfl,G,J⟩
  refine⟨rfl,b,rfl,G,?_⟩;intro i j a c d;exact J i j a c (by lia)
 .rintro c Y ⟨rfl,b,rfl,G,J⟩
  exact Bw (h b G J)
end
def Rn (r:Bj->Aj)(a:Ay Bj):Aa (Ag × Ag × Ag)->Ag->Ag->Prop
 |[],x,y=>x=y
 |(s,n,_)::t,x,y=>s=x/\0<n/\Seg r a s n/\Rn r a t (x+n) y
section
variable {r:Bj->Aj}{a b:Ay Bj}
theorem Rn.app:∀ {O Q:Aa (Ag × Ag × Ag)} {x y:Ag},Rn r a (O++Q) x y↔∃ m,Rn r a O x m/\Rn r a Q m y
 |[],Q,x,y=>⟨λh=>⟨x,rfl,h⟩,λ⟨m,Y,J⟩=>by cases Y;exact J⟩
 |(s,n,p)::t,Q,x,y=>by
  show s=x/\0<n/\Seg r a s n/\Rn r a (t++Q) (x+n) y↔∃ m,(s=x/\0<n/\Seg r a s n/\Rn r a t (x+n) m)/\Rn r a Q m y;rw[Rn.app];exact⟨λ⟨Y,J,N,m,G,U⟩=>⟨m,⟨Y,J,N,G⟩,U⟩,λ⟨m,⟨Y,J,N,G⟩,U⟩=>⟨Y,J,N,m,G,U⟩⟩
theorem Rn.le:∀ {L:Aa (Ag × Ag × Ag)} {x y:Ag},Rn r a L x y->x+L.length<=y
 |[],x,y,h=>by cases h;simp
 |(s,n,p)::t,x,y,h=>by have:=Rn.le h.2.2.2;have:=h.2.1;simp only[Bv];lia
theorem Rn.congr:∀ {L:Aa (Ag × Ag × Ag)} {x y:Ag},Rn r a L x y->(∀ k,x<=k->k<y->b.getD k nv=a.getD k nv)->Rn r b L x y
 |[],x,y,h,_=>h
 |(s,n,p)::t,x,y,h,e=>by
  obtain⟨rfl,Q,J,Y⟩:=h;have l:=Rn.le Y;refine⟨rfl,Q,λi j a c d=>?_,Rn.congr Y λk U Q=>e k (by lia) Q⟩
  rw[e i (by lia) (by lia),e j (by lia) (by lia)]
  exact J i j a c d
theorem Rn.mod {f:Ag × Ag × Ag->Ag × Ag × Ag}(Q:∀ u v p,∃ Y,f (u,v,p)=(u,v,Y)):∀ {L:Aa (Ag × Ag × Ag)} {i x y:Ag},Rn r a L x y->Rn r a (L.modify i f) x y
 |[],i,x,y,h=>by simpa using h
 |(s,n,p)::t,0,x,y,h=>by
  obtain⟨Y,e⟩:=Q s n p;rw[List.modify_zero_cons,e];exact h
 |(s,n,p)::t,i+1,x,y,h=>by
  rw[List.modify_succ_cons];exact⟨h.1,h.2.1,h.2.2.1,Rn.mod Q h.2.2.2⟩
end
theorem C8 {α:Type}{l:Aa α}{i:Ag}(h:i+1<l.length):∃ Q x y Y,l=Q++x::y::Y/\Q.length=i:=by
 refine⟨l.take i,l[i],l[i+1],l.drop (i+2),?_,by rw[Hg];lia⟩
 rw[<- Fa h,<- Fa (by lia),Qg]
section
variable {prog:Bo}{w:Cd}{A:Bu}{E:ab}{s:Ah}{κ : Nw}{U:Bj->Prop}{r:Bj->Aj}
theorem tS (C:Cm (Au prog w) A s κ U r){i e:Ag}{Q:As->Fm->Prop}{arr:Ay Bj}{Y:Ay (Ag × Ag × Ag)}{g:Ag}(p:∀ x∈arr.toList,U x)(hi:i+1<Y.size)(R:Rn r arr Y.toList 0 e)(he:e<=arr.size)
  (h:∀ b J g,b.toList.Perm arr.toList->(∀ k,e<=k->b.getD k nv=arr.getD k nv)->Rn r b J.toList 0 e->J.size+1=Y.size->Q true (Dh κ b J g none)):wpS (Au prog w) A E s (mergeAt' i) Q (Dh κ arr Y g none):=by
 obtain⟨a,⟨O,B,I⟩,⟨sb,L,pb⟩,f,N,T⟩:=C8 (l:=Y.toList) (i:=i) (by simpa using hi)
 rw[N] at R;obtain⟨m,c,rfl,v,j,rfl,y,z,R2⟩:=Rn.app.mp R;have l2:=Rn.le R2;have u:Y[i]? = Ab (O,B,I):=by
  rw[<- Bp,N,<- T,Dg (Av _),Zf];rfl
 have d:Y[i+1]? = Ab (O+B,L,pb):=by
  rw[<- Bp,N,<- T,Dg (by lia),Ge];rfl
 refine aF C p u d v y (by lia) j z λb g t G o=>?_
 have H:((Y.setIfInBounds i (O,B+L,I)).eraseIdxIfInBounds (i+1)).toList=a++(O,B+L,I)::f:=by
  rw[Array.toList_eraseIdxIfInBounds,Array.toList_setIfInBounds,N,<- T,List.set_append_right _ _ (Av _),Zf,Yu,List.eraseIdx_append_of_length_le (by lia),Ge]
  rfl
 refine h b _ g t (λk M=>G k (by lia)) ?_ ?_
 .rw[H]
  refine Rn.app.mpr ⟨O,c.congr λk _ M=>G k (by lia),rfl,by lia,o,?_⟩
  rw[<- Nh];exact R2.congr λk M _=>G k (by lia)
 .have:=congrArg Mc H
  have q:=congrArg Mc N;simp only[Bx,By,Bv] at this q
  lia
theorem sR (C:Cm (Au prog w) A s κ U r){Q:Uv->Fm->Prop}{arr:Ay Bj}{g:Ag}(ua:∀ x∈arr.toList,U x)(h2:0<arr.size)
  (h:∀ b Y g,b.toList.Perm arr.toList->b.toList.Pairwise (Le r)->Q () (Dh κ b Y g none)):wpS (Au prog w) A E s sortRuns' Q (Dh κ arr #[] g none):=by
 have o:∀ {b:Ay Bj},b.toList.Perm arr.toList->∀ x∈b.toList,U x:=λh x hx=>ua x (h.mem_iff.mp hx);have T:∀ {b:Ay Bj},b.toList.Perm arr.toList->b.size=arr.size:=λh=>by simpa using h.length_eq
 refine Bf (Ou ?_);dsimp only;refine Bf (Hs (Fo (I:=λx c J=>∃ b Y g lo,J=Dh κ b Y g none/\c=(none,lo)/\b.toList.Perm arr.toList/\lo<=arr.size/\min x arr.size<=lo/\Rn r b Y.toList 0 lo)
  (Q:=λc J=>∃ b Y g,J=Dh κ b Y g none/\c=(none,arr.size)/\b.toList.Perm arr.toList/\Rn r b Y.toList 0 arr.size) ?_ ?_ ⟨arr,#[],g,0,rfl,rfl,Ko _,by lia,by lia,rfl⟩) ?_)
 .rintro x c J _ hx ⟨b,Y,g,lo,rfl,rfl,G,lo1,zl,R⟩
  have zb:=T G;dsimp only;refine qO (λe=>Bw ⟨b,Y,g,rfl,by rw[show lo=arr.size by lia],G,by rw[show arr.size=lo by lia];exact R⟩) λe=>?_
  refine Bf (sQ C (o G) (by lia) (by lia) λn b2 n1 n2 cr N=>?_)
  have R2:Rn r b2 Y.toList 0 lo:=R.congr λk _ M=>cr.out k (.inl M);have O:=cr.pm.trans G;have z2:=T O;dsimp only;apply CF (y:=n) (P:=λn st=>∃ b,st=Dh κ b Y g none/\b.toList.Perm arr.toList/\Rn r b Y.toList 0 lo/\Seg r b lo n/\lo+n<=arr.size/\0<n/\min (x+1) arr.size<=lo+n)
  .rintro n _ ⟨b,rfl,G,R,N,n3,n4,n5⟩
   refine Bf (Ou ?_);dsimp only;rcases hb:Y.back? with _|⟨s1,l1,p1⟩
   .dsimp only
    refine Bf (Jt (Bw ⟨_,_,_,_,rfl,rfl,G,n3,n5,?_⟩));show Rn r _ (Y.push _).toList 0 _;rw[En];exact Rn.app.mpr ⟨lo,R,rfl,n4,N,rfl⟩
   .dsimp only
    refine Bf (Hs (Fo (I:=λ_ c J=>c=(none,())/\∃ b Y g,J=Dh κ b Y g none/\b.toList.Perm arr.toList/\Rn r b Y.toList 0 lo/\Seg r b lo n)
     (Q:=λc J=>c=(none,())/\∃ b Y g,J=Dh κ b Y g none/\b.toList.Perm arr.toList/\Rn r b Y.toList 0 lo/\Seg r b lo n) ?_ (λ_ _ z=>z) ⟨rfl,_,Y,g,rfl,G,R,N⟩) ?_)
    .rintro y c J _ hy ⟨rfl,b,Y,g,rfl,G,R,N⟩
     have zb:=T G;refine Bf (Ou ?_);dsimp only;by_cases hp:Y.size>1
     .rw[Bi hp]
      rcases hq:Y[Y.size-2]? with _|⟨u,v,zw⟩
      .exact Bw ⟨rfl,b,Y,g,rfl,G,R,N⟩
      .dsimp only
       refine qO (λ_=>Bw ⟨rfl,b,Y,g,rfl,G,R,N⟩) λ_=>?_;refine Bf (tS C (o G) (by lia) R (by lia) λf B g' p' L R' _=>?_)
       refine qO (λe=>by simp at e) λ_=>Bw ⟨rfl,f,B,g',rfl,p'.trans G,R',λi j a c d=>?_⟩
       rw[L i a,L j (by lia)]
       exact N i j a c d
     .rw[Bh hp]
      exact Bw ⟨rfl,b,Y,g,rfl,G,R,N⟩
    .rintro c J ⟨rfl,b,Y,g,rfl,G,R,N⟩
     dsimp only;refine Bf (Jt (Bf (Jt (Bw ⟨_,_,_,_,rfl,rfl,G,n3,n5,?_⟩))));show Rn r b ((Y.modify (Y.size-1) _).push _).toList 0 _;rw[En,Array.toList_modify];exact Rn.app.mpr ⟨lo,Rn.mod (λ_ _ _=>⟨_,rfl⟩) R,rfl,n4,N,rfl⟩
  .intro lt M
   refine Bf (Sl (Gf ⟨rfl,?_⟩));refine Bf (cS C (o O) (by lia) (by lia) N λb3 H p=>?_)
   exact qO (λe=>by simp at e) λ_=>M _ _ ⟨b3,rfl,H.pm.trans O,R2.congr λk _ M=>H.out k (.inl M),p,by lia,by lia,by lia⟩
  .exact λlt=>⟨b2,rfl,O,R2,N,by lia,n1,by lia⟩
 .rintro c J ⟨b,Y,g,lo,rfl,rfl,G,lo1,zl,R⟩
  have:lo=arr.size:=by lia
  subst this;exact⟨b,Y,g,rfl,rfl,G,R⟩
 .rintro c J ⟨b,Y,g,rfl,rfl,G,R⟩
  dsimp only;have hl:=R.le;rw[Bx] at hl;refine Bf (Hs (Fo (I:=λx c J=>c=(none,())/\∃ b Y g,J=Dh κ b Y g none/\b.toList.Perm arr.toList/\Rn r b Y.toList 0 arr.size/\(Y.size<=1\/Y.size+x<=arr.size))
   (Q:=λc J=>c=(none,())/\∃ b Y g,J=Dh κ b Y g none/\b.toList.Perm arr.toList/\Rn r b Y.toList 0 arr.size/\Y.size<=1) ?_ ?_ ⟨rfl,b,Y,g,rfl,G,R,by lia⟩) ?_)
  .rintro x c J _ hx ⟨rfl,b,Y,g,rfl,G,R,hs⟩
   have zb:=T G;refine Bf (Ou ?_);dsimp only;refine qO (λe=>Bw ⟨rfl,b,Y,g,rfl,G,R,e⟩) λe=>?_;refine Bf (tS C (o G) ?_ R (by lia) λf B g' p' L R' z'=>?_)
   .have e:¬ Y.size<=1:=e
    have q:∀ (c:Prop) [Hy c],(if c then Y.size-2-1 else Y.size-2)+1<Y.size:=λc _=>by split <;> lia
    exact q _
   exact qO (λe=>by simp at e) λ_=>Bw ⟨rfl,f,B,g',rfl,p'.trans G,R',by lia⟩
  .rintro c J ⟨rfl,b,Y,g,rfl,G,R,hs⟩
   exact⟨rfl,b,Y,g,rfl,G,R,by lia⟩
  .rintro c J ⟨rfl,b,Y,g,rfl,G,R,hs⟩
   have zb:=T G;refine Bw (h b Y g G ?_);have hs:Y.toList.length<=1:=by simpa using hs
   revert R hs
   cases Y.toList with
   |nil=>intro R;have:0=arr.size:=R;lia
   |cons q t =>
    obtain⟨s0,n0,p0⟩:=q;intro R hs;have:t=[]:=by cases t with|nil=>rfl|cons _ _=>simp at hs
    subst this;obtain⟨rfl,_,N,e⟩:=R;have e:n0=arr.size:=by have:0+n0=arr.size:=e;lia
    subst e;rw[Kc];intro i j hi hj l;have zs:i<b.size:=by simpa using hi
    have zv:j<b.size:=by simpa using hj
    have:=N i j (by lia) (by lia) (by lia)
    simpa [Go,zs,zv,Le] using this
end
structure vp (prog:Bo)(w:Cd)(h0:Cb)(vs:ag)(f:Ag->Ag->As):Prop where
 ex:∃ κ,∀ (A:Bu),A.units+8<Ed->∀ (s:Ah),my h0 s.heap->(∀ (Q:Nw->Ah->Prop) (E:ab),Q κ s->Aq (Au prog w) A (keyKind' vs.toArray) Q E s)/\∀ i j (C:As->Ah->Prop),i<vs.length->j<vs.length->C (f i j) s->kas_ask prog w A κ vs i j C s
open Classical in
def kV {K:Type}(is:K->Ad->Prop)(d:K)(v:Ad):K:=if h:∃ k,is k v then choose h else d
open Classical in
theorem gX {K:Type}{is:K->Ad->Prop}{d:K}{v:Ad}(h:∃ k,is k v):is (kV is d v) v:=by
 unfold kV;rw[dif_pos h];exact choose_spec h
section
variable {prog:Bo}{w:Cd}{A:Bu}{E:ab}{s:Ah}
theorem GS {K:Type}{is:K->Ad->Prop}{lt':K->K->As}{d:K}(O:Ord lt')(zb:∀ {k k':K} {v:Ad},is k v->is k' v->k=k'){a:Af}{vs:ag}{ks:Aa K}{n:Ag}{h0:Cb}{P:PySem.Fin->Ah->Prop}(J:vs.length=ks.length)(zl:∀ i v,vs[i]? = Ab v->is (ks.getD i d) v)(t:s.heap.get? a=Ab (Eo "list" vs.toArray n))(hu:A.units+8<Ed)(hz:vs.length<=100000)(c:2<=vs.length->vp prog w h0 vs (rE lt' ks d))(hS:my h0 s.heap)(ha:h0.get? a=none)
  (h:∀ ps:Aa (K × Ad),ps.Perm (ks.zip vs)->Nf lt' (ps.map (·.1))->P (.done (.ret .none)) { s with heap:=sortedHeap s.heap a vs (ps.map (·.2)).toArray }) : Aq (Au prog w) A (Hr.«list.sort» ⟨[.ref a],[]⟩) P E s:=by
 rw[list_sort_plain];have hb:a<s.heap.objs.size:=Bg t;have zs:vs.toArray.size=vs.length:=by simp
 refine Ac (listItems_at t rfl (Ac (listUpdate_at t rfl ?_ (by rw[zs,Fq];lia) (Gh _))))
 obtain⟨l,I⟩:∃ l,(s.heap.update a (Fc λ_=>#[])).get? a=Ab (Eo "list" #[] l):=⟨_,Nz t (λ_=>#[])⟩;refine Ac (seqEpoch_at I rfl (Ac (Wr (Ac (Ya (EQ ?_) (Gh _))) (by show vs.length<=_;rw[Fq];lia))))
 have T:(((s.heap.update a (Fc λ_=>#[])).push (Eo "tuple" vs.toArray 0)).push (Eo "list" #[] 0)).get? a=Ab (Eo "list" #[] l):=
  Ai _ (Ai _ I)
 have S6:my h0 (((s.heap.update a (Fc λ_=>#[])).push (Eo "tuple" vs.toArray 0)).push (Eo "list" #[] 0)):=λb o e =>
  Ai _ (Ai _ ((Dq _ _ (λz:a=b=>by rw[<- z,ha] at e;cases e)).trans (hS b o e)))
 show Aq (Au prog w) A _ P E { s with heap:=((s.heap.update a (Fc λ_=>#[])).push (Eo "tuple" vs.toArray 0)).push (Eo "list" #[] 0) }
 dsimp only;have H:∀ (Y:Fm) (ps:Aa (K × Ad)),(arrOf Y).map (·.2)=(ps.map (·.2)).toArray->failedOf Y=none->ps.Perm (ks.zip vs)->Nf lt' (ps.map (·.1))->Aq (Au prog w) A (do
   let U:=(<- seqEpoch a) != l
   Builtin.List.listUpdate (.ref a) λ_=>(arrOf Y).map (·.2)
   if let Ab e:=failedOf Y then rule "list.sort.comparison-raised";throw e
   if U then rule "list.sort.modified";raiseError "ValueError" "list modified during sort"
   ret .none) P E { s with heap:=((s.heap.update a (Fc λ_=>#[])).push (Eo "tuple" vs.toArray 0)).push (Eo "list" #[] 0) }:=by
  intro Y ps h1 G r h4;have hl:(ps.map (·.2)).length=vs.length:=by rw[Ao,r.length_eq,Vl,J,Ue]
  refine Ac (seqEpoch_at T rfl ?_);rw[h1];refine Ac (listUpdate_at T rfl ?_ (Gh _) (by show (ps.map (·.2)).toArray.size<=_;rw[Bt,hl,Fq];lia))
  rw[G];simp only[sK,Bn,Ds];exact Am (h ps r h4)
 by_cases G:vs.toArray.size<2
 .rw[Bi G,Bi G]
  refine Ac (Am ?_);rw[StateT.run_pure];refine Ac (Am ?_);refine H (Dh general' (vs.toArray.zip vs.toArray) #[] 7 none) (ks.zip vs) ?_ rfl (Ko _) ?_
  .show (vs.toArray.zip vs.toArray).map (·.2)=_
   apply AaC.mp;simp[List.map_snd_zip,J]
  .rw[TW (by lia)]
   match ks,J with
   |[],_=>exact Pb
   |[_],_=>exact Ot _ _
   |_::_::_,e=>simp at e G;lia
 .rw[Bh G,Bh G]
  have zc:2<=vs.length:=by lia
  obtain⟨κ,C⟩:=c zc;obtain⟨k1,k2⟩:=C A hu { s with heap:=((s.heap.update a (Fc λ_=>#[])).push (Eo "tuple" vs.toArray 0)).push (Eo "list" #[] 0) } S6
  have f:∀ i,i<vs.length->kV is d (vs.getD i Dd)=ks.getD i d:=λi N=>by
   have q:=zl i (vs.getD i Dd) (by rw[Mx,Ap N];rfl)
   exact zb (gX ⟨_,q⟩) q
  have km:∀ i,i<vs.length->ks.getD i d∈ks:=λi N=>by
   have:i<ks.length:=by lia
   simp[Ie,this]
  have cm:Cm (Au prog w) A { s with heap:=((s.heap.update a (Fc λ_=>#[])).push (Eo "tuple" vs.toArray 0)).push (Eo "list" #[] 0) } κ (λx=>∃ i,i<vs.length/\x=(vs.getD i Dd,vs.getD i Dd)) (λx=>pE lt' ks (kV is d x.1)):=by
   refine⟨?_⟩;rintro x y ⟨i,N,rfl⟩ ⟨j,B,rfl⟩ E Q st hk q;rw[lt'_eq];refine Bf (Ou ?_);rw[hk];rw[f i N,f j B,<- cE O (km i N)] at q;refine Bf (Sl (Je (Ho (k2 i j (λb s'=>s'=_/\b=rE lt' ks d i j) N B ⟨rfl,rfl⟩) ?_ λ_ _ e=>e.elim)));rintro b s' ⟨rfl,rfl⟩;exact⟨rfl,Bw q⟩
  have pl:(vs.toArray.zip vs.toArray).toList=(Cg vs.length).map λi=>(vs.getD i Dd,vs.getD i Dd):=by
   apply Mv
   .simp
   .intro i h1 G
    have:i<vs.length:=by simpa using G
    simp[this]
  refine Ac (k1 _ _ ?_);refine Ac (Ho (sR (E:=E) (Q:=λ_ Y=>∃ b M g,Y=Dh κ b M g none/\b.toList.Perm (vs.toArray.zip vs.toArray).toList/\b.toList.Pairwise (Le λx=>pE lt' ks (kV is d x.1))) cm (arr:=vs.toArray.zip vs.toArray) (g:=7) ?_ ?_ λb M g p q=>⟨b,M,g,rfl,p,q⟩) ?_ λ_ _ e=>e)
  .intro x L
   rw[pl] at L;obtain⟨i,N,rfl⟩:=Ba.mp L;exact⟨i,Ee.mp N,rfl⟩
  .simp;lia
  .rintro⟨⟨⟩,Y⟩ s' ⟨rfl,b,M,g,rfl,pm,up⟩
   refine H _ (b.toList.map λx=>(kV is d x.1,x.2)) ?_ rfl ?_ ?_
   .show b.map (·.2)=_
    apply AaC.mp;simp
   .refine(pm.map _).trans ?_
    rw[pl,Dj];have:ks.zip vs=(Cg vs.length).map λi=>(ks.getD i d,vs.getD i Dd):=by
     apply Mv
     .simp[J]
     .intro i h1 G
      have r:i<vs.length:=by simpa using G
      have h4:i<ks.length:=by lia
      simp[r,h4]
    rw[this];refine List.Perm.of_eq (Dy λi N=>?_);show (kV is d (vs.getD i Dd),_)=_;rw[f i (Ee.mp N)]
   .unfold Nf
    rw[Dj,Cs];refine up.imp_of_mem λ{x y} L u h=>?_;have L:=pm.mem_iff.mp L;have u:=pm.mem_iff.mp u;rw[pl] at L u;obtain⟨i,N,rfl⟩:=Ba.mp L;obtain⟨j,B,rfl⟩:=Ba.mp u;have h:pE lt' ks (kV is d (vs.getD i Dd))<=pE lt' ks (kV is d (vs.getD j Dd)):=h;show lt' (kV is d (vs.getD j Dd)) (kV is d (vs.getD i Dd))=false;have B:=Ee.mp B;rw[cE O (ks:=ks) (by rw[f j B];exact km j B)]
    exact Co (by lia)
end
section
variable {K:Type}{lt':K->K->As}
theorem YX {α:Type}{ks:Aa K}{vs:Aa α}{d:K}(U:vs.length=ks.length){p:K × α}(h:p∈ks.zip vs):∃ i,vs[i]? = Ab p.2/\ks.getD i d=p.1:=by
 obtain⟨i,Y,e⟩:=Cp.mp h;have Q:i<ks.length:=by rw[Vl] at Y;lia
 have J:i<vs.length:=by lia
 rw[List.getElem_zip] at e;subst e;exact⟨i,Ap J,by simp[Q]⟩
end
structure Kind (prog:Bo)(w:Cd){K:Type}(is:K->Ad->Prop)(hash:K->Aj)(lt':K->K->As)(d:K)(Fit:K->Prop)(h0:Cb):Prop where
 ord:Ord lt'
 inj:∀ {k k':K} {v:Ad},is k v->is k' v->k=k'
 cmps:∀ {vs:ag} {ks:Aa K},vs.length=ks.length->(∀ i v,vs[i]? = Ab v->is (ks.getD i d) v)->(∀ k∈ks,Fit k)->2<=vs.length->vp prog w h0 vs (rE lt' ks d)
section
variable {prog:Bo}{w:Cd}{A:Bu}{E:ab}{s:Ah}{K:Type}{is:K->Ad->Prop}{ax:K->Aj}{lt':K->K->As}{d:K}{oz:K->Prop}{h0:Cb}{S:Af}{V:ag}{seen:Aa K}
open Classical in
def qr (is:K->Ad->Prop)(d:K)(e:Aj × Ad):K:=if h:∃ k,is k e.2 then choose h else d
open Classical in
theorem SK {e:Aj × Ad}(h:∃ k,is k e.2):is (qr is d e) e.2:=by
 unfold qr;rw[dif_pos h];exact choose_spec h
theorem ZH {Q:ab}(kd:Kind prog w is ax lt' d oz h0)(hh:A.handled=none)(hu:A.units+16<Ed)(hS:my h0 s.heap)(Z:ka is ax S (vM w) V seen s.heap)(hf:∀ k∈seen,oz k){U:Aa K}(hU:U.length<=1000)(zc:∀ k∈seen,k∈U)
  (h:∀ h' tk D c (ps:Aa (K × Ad)),(∀ b o,s.heap.get? b=Ab o->h'.get? b=Ab o)->s.heap.objs.size<=D->h'.get? D=Ab (Eo "list" (ps.map (·.2)).toArray c)->ps.map (·.1)=jl lt' seen->(∀ p∈ps,is p.1 p.2/\p.2∈V)->ps.length<=1000->Q (.ref D) { s with heap:=h',toks:=tk }) :
  Aq (Au prog w) A (call (.builtin "sorted") [.ref S]) Q E s:=by
 obtain⟨O,L,t,ho,H,T,hl,hV⟩:=Z;have st:k_ w S O L t:=⟨T,hl⟩;have hn:O.size<=1000:=by
  have:=mP O.toList U H.nd λe N=>by
   obtain⟨k',_,q⟩:=H.good e N;exact⟨k',zc k' ((H.mem k').mpr ⟨e,N,q⟩),q⟩
  rw[Bx] at this
  lia
 have I:=nB w S L O;have zy:=uR w S L O;have Y:∀ e∈(qR w S L O).toList,is (qr is d e) e.2/\e.2∈V:=λe N=>by
  have l:=I.mem_iff.mp N;obtain⟨k,_,q⟩:=H.good e l;exact⟨SK ⟨k,q⟩,hV e l⟩
 have zb:(qR w S L O).toList.Pairwise λa b=>∀ k,is k a.2->¬ is k b.2:=(I.pairwise_iff λ{x y} h k hy hx=>h k hx hy).mpr H.nd;generalize zw:(qR w S L O).toList=oe at *;have zx:oe.length<=1000:=by rw[I.length_eq,Bx];exact hn
 have B:∀ i v,(oe.map (·.2))[i]? = Ab v->is ((oe.map (qr is d)).getD i d) v/\v∈V:=λi v hv=>by
  rw[Du] at hv;cases r:oe[i]? with
  |none=>rw[r] at hv;cases hv
  |some e =>
   rw[r] at hv;cases hv;have g:=Y e (Cj r);have:(oe.map (qr is d)).getD i d=qr is d e:=by rw[Mx,Du,r];rfl
   rw[this];exact g
 have nd:(oe.map (qr is d)).Nodup:=by
  unfold TD;rw[Cs];refine To (λ{a b} ha M h e=>?_) zb;exact h _ (Y a ha).1 (e▸(Y b M).1)
 have mem:∀ x,x∈oe.map (qr is d)↔x∈seen:=λx=>by
  rw[H.mem,Ba];constructor
  .rintro⟨e,N,rfl⟩
   exact⟨e,I.mem_iff.mp N,(Y e N).1⟩
  .rintro⟨e,N,q⟩
   exact⟨e,I.mem_iff.mpr N,kd.inj (Y e (I.mem_iff.mpr N)).1 q⟩
 have G:(oe.map (·.2)).length=(oe.map (qr is d)).length:=by simp
 refine Tj kind_sorted plain_sorted entry_sorted (args_sorted1 _) ?_;unfold Hr.«sorted»;refine Ac (m:=checkCount "sorted" 1 1 _) (Am ?_);refine Ac (cT hh st ho (by lia) λJ u j C=>?_)
 rw[zw];refine Ac (Ya ?_ (by rw[Fq,Ao];lia))
 have hD:(J.push (Eo "list" (oe.map (·.2)).toArray 0)).get? J.objs.size=Ab (Eo "list" (oe.map (·.2)).toArray 0):=Be _ rfl
 have n0:h0.get? J.objs.size=none:=by
  cases q:h0.get? J.objs.size with
  |none=>rfl
  |some o=>exact absurd (Bg (hS _ _ q)) (Pm.mpr (Ek C))
 show Aq _ _ _ _ _ { s with heap:=J.push (Eo "list" (oe.map (·.2)).toArray 0),toks:=u }
 refine Ac (EQ (Dv slot_list_sort ⟨_,hD,rfl⟩ entry_list_sort (GS (h0:=h0) (is:=is) kd.ord kd.inj (d:=d) (vs:=oe.map (·.2)) G (λi v hv=>(B i v hv).1) hD (by show A.units+2+8<Ed;lia) (by rw[Ao];lia) (λh2=>kd.cmps G (λi v hv=>(B i v hv).1) (λk hk=>hf k ((mem k).mp hk)) h2) (λb o e=>Ai _ (j b o (hS b o e))) n0 λps pm nf=>⟨_,rfl,?_⟩) (args_list_sort _)))
 refine Am ⟨_,rfl,?_⟩;have hz:(J.push (Eo "list" (oe.map (·.2)).toArray 0)).objs.size=J.objs.size+1:=size_push' ..
 have zl:∀ b o,b≠J.objs.size->(J.push (Eo "list" (oe.map (·.2)).toArray 0)).get? b=Ab o->((((J.push (Eo "list" (oe.map (·.2)).toArray 0)).update J.objs.size (Fc λ_=>#[])).push (Eo "tuple" (oe.map (·.2)).toArray 0)).push (Eo "list" #[] 0)).get? b=Ab o:=λb o M e =>
  Ai _ (Ai _ ((Dq _ _ (Gb M)).trans e))
 obtain⟨f,zs⟩:∃ f,((J.push (Eo "list" (oe.map (·.2)).toArray 0)).update J.objs.size (Fc λ_=>#[])).get? J.objs.size=Ab (Eo "list" #[] f):=⟨_,Nz hD (λ_=>#[])⟩
 have zv:=Nz (Ai (Eo "list" #[] 0) (Ai (Eo "tuple" (oe.map (·.2)).toArray 0) zs)) (λ_=>(ps.map (·.2)).toArray)
 have pk:(ps.map (·.1)).Perm (oe.map (qr is d)):=by
  have:=pm.map (·.1)
  rwa [TW (by lia)] at this
 refine h _ u J.objs.size _ ps (λb o e=>?_) (Ek C) zv (R5 kd.ord nf (pk.nodup_iff.mpr nd) λx=>by rw[pk.mem_iff,mem]) (λp hp=>?_) (by have:=pk.length_eq;rw[Ao,Ao] at this;lia)
 .have M:b≠J.objs.size:=λz=>by
   subst z;exact absurd (Bg e) (Pm.mpr (Ek C))
  exact(Dq _ _ (Gb M)).trans (zl b o M (Ai _ (j b o e)))
 .obtain⟨i,f,e2⟩:=YX (d:=d) G (pm.mem_iff.mp hp)
  exact e2▸B i _ f
end
end _S
namespace _D
open _L
noncomputable def uS:Aa D->An (Aa (Aa Aj))
 |[]=>Ab []
 |.tup Q::r=>(yG Q).bind λk=>(uS r).map (k::·)
 |_::_=>none
def gp (k:Aa Aj):D:=.tup (k.map D.int)
theorem sH (ks:Aa (Aa Aj)):uS (ks.map gp)=Ab ks:=by
 induction ks with
 |nil=>rfl
 |cons k ks Q =>
  show (yG (k.map D.int)).bind (λk=>(uS (ks.map gp)).map (k::·))=_
  rw[dO,Q];rfl
def KA:D->An (Aa D)
 |.lst Q=>Ab Q
 |.tup Q=>Ab Q
 |_=>none
theorem KH {K:Type}{lt':K->K->As}(O:_S.Ord lt')(ks:Aa K)(d:K):_S.jl lt' (_S.vZ (λi=>ks.getD i d) ks.length)=_S.jl lt' ks:=
 _S.gG O (_S.jR O _) (_S.jR O _) λx=>by
  rw[_S.yH O,_S.yH O,_S.kA];constructor
  .rintro⟨i,Q,rfl⟩
   simp[Ie,Q]
  .intro Y
   obtain⟨i,Q,e⟩:=Cp.mp Y;exact⟨i,Q,by simp[Ie,Q,e]⟩
section
variable {X:Cx}{e:Bz}{fa:DE}{p1 p2 pv pq:Fn}
theorem ZY:Fy "sorted" = Ab (.builtin "sorted"):=by decide +kernel
theorem cH {ai:aa}{σ : _L.St}{H P:Hp}{α : Aa Af}{S:ak}{s:Ah}{d:D}{xs:Aa D}{v:V}{Y:Ad}(I:Inv X ai σ H s)(r:bf X.K H P α S)(p:aq X.K P α d v)(q:qG v Y)(h:KA d=Ab xs) :
  ∃ a vs am,Y=.ref a/\qC X.K P α xs vs/\qI vs am/\(s.heap.IsList a am.toArray\/s.heap.IsTuple a am.toArray)/\xs.length=am.length:=by
 cases d with
 |lst U =>
  cases h;obtain⟨a,vs,am,n,rfl,_,t,Q,e,l,_⟩:=bO I r p;exact⟨a,vs,am,q,t,Q,.inl ⟨_,e,rfl,n,rfl⟩,l⟩
 |tup U =>
  cases h;obtain⟨a,vs,am,rfl,_,t,Q,⟨o,e,G,n,J⟩,l,_⟩:=jT I r p;exact⟨a,vs,am,q,t,Q,.inr ⟨o,e,G,n,J⟩,l⟩
 |_=>cases h
end
end _D
section
namespace _D
open _L
mutual
def um:D->An PyData
 |.non=>Ab .none
 |.bl b=>Ab (.bool b)
 |.int i=>Ab (.int i)
 |.str x=>Ab (.str x)
 |.tup Q=>(mR Q).map .tuple
 |.lst Q=>(mR Q).map .list
 |.dct0=>Ab (.dict [])
 |_=>none
def mR:Aa D->An (Aa PyData)
 |[]=>Ab []
 |d::Q=>(um d).bind λx=>(mR Q).map (x::·)
end
end _D
end
namespace _S
open PySem.W
section
variable {prog:Bo}{w:Cd}{A:Bu}{E:ab}{s:Ah}{K:Type}{is:K->Ad->Prop}{ax:K->Aj}{lt':K->K->As}{d:K}{oz:K->Prop}{h0:Cb}
theorem ZG {Q:ab}(kd:Kind prog w is ax lt' d oz h0)(hu:A.units+16<Ed)(u:my h0 s.heap){l:Af}{vs:ag}(hl:s.heap.IsList l vs.toArray\/s.heap.IsTuple l vs.toArray)(ks:Aa K)(Y:vs.length=ks.length)(U:∀ i v,vs[i]? = Ab v->is (ks.getD i d) v)(hf:∀ k∈ks,oz k)(O:vs.length<=100000)
  (h:∀ (h1 h':Cb) (tk:Ag) (D:Af) (c:Ag) (ps:Aa (K × Ad)),(∀ b o,s.heap.get? b=Ab o->h1.get? b=Ab o)->(∀ b o,h1.get? b=Ab o->h'.get? b=Ab o)->h1.objs.size<=D->h'.get? D=Ab (Eo "list" (ps.map (·.2)).toArray c)->ps.map (·.1)=jQ lt' ks->(∀ p∈ps,is p.1 p.2/\p.2∈vs)->ps.length=ks.length->Q (.ref D) { s with heap:=h',toks:=tk }) :
  Aq (Au prog w) A (call (.builtin "sorted") [.ref l]) Q E s:=by
 refine Tj kind_sorted plain_sorted entry_sorted (args_sorted1 _) ?_;unfold Hr.«sorted»;refine Ac (m:=checkCount "sorted" 1 1 _) (Am ?_);have N:∀ {R:Aa Ad->Ah->Prop},(∀ h1:Cb,(∀ b o,s.heap.get? b=Ab o->h1.get? b=Ab o)->R vs { s with heap:=h1 }) -> Aq (Au prog w) A.in1 (collect (.ref l)) R E s:=λ{R} r=>by
  have e:vs.toArray.toList=vs:=by simp
  rcases hl with⟨o,T,M,n,I⟩|⟨o,T,M,n,I⟩
  .exact t0 l (.inl rfl) T M I (λh' H=>by rw[e];exact r h' H) (by rw[Bt,Fq];lia)
  .exact t0 l (.inr rfl) T M I (λh' H=>by rw[e];exact r h' H) (by rw[Bt,Fq];lia)
 refine Ac (N λh1 J=>?_);refine Ac (Ya ?_ (by rw[Fq];lia))
 have L:(h1.push (Eo "list" vs.toArray 0)).get? h1.objs.size=Ab (Eo "list" vs.toArray 0):=Be _ rfl;have n0:h0.get? h1.objs.size=none:=by
  cases q:h0.get? h1.objs.size with
  |none=>rfl
  |some o=>exact absurd (Bg (J _ _ (u _ _ q))) (Ep _)
 show Aq _ _ _ _ _ { s with heap:=h1.push (Eo "list" vs.toArray 0),toks:=s.toks }
 refine Ac (EQ (Dv slot_list_sort ⟨_,L,rfl⟩ entry_list_sort (GS (h0:=h0) (is:=is) kd.ord kd.inj (d:=d) (vs:=vs) Y U L (by show A.units+2+8<Ed;lia) O (λa=>kd.cmps Y U hf a) (λb o e=>Ai _ (J b o (u b o e))) n0 λps g nf=>⟨_,rfl,?_⟩) (args_list_sort _)))
 refine Am ⟨_,rfl,?_⟩;have hz:(h1.push (Eo "list" vs.toArray 0)).objs.size=h1.objs.size+1:=size_push' ..;have B:∀ b o,b≠h1.objs.size->(h1.push (Eo "list" vs.toArray 0)).get? b=Ab o->((((h1.push (Eo "list" vs.toArray 0)).update h1.objs.size (Fc λ_=>#[])).push (Eo "tuple" vs.toArray 0)).push (Eo "list" #[] 0)).get? b=Ab o:=λb o C e =>
  Ai _ (Ai _ ((Dq _ _ (Gb C)).trans e))
 obtain⟨G,j⟩:∃ G,((h1.push (Eo "list" vs.toArray 0)).update h1.objs.size (Fc λ_=>#[])).get? h1.objs.size=Ab (Eo "list" #[] G):=⟨_,Nz L (λ_=>#[])⟩;have y:=Nz (Ai (Eo "list" #[] 0) (Ai (Eo "tuple" vs.toArray 0) j)) (λ_=>(ps.map (·.2)).toArray)
 have f:(ps.map (·.1)).Perm ks:=by
  have:=g.map (·.1)
  rwa [TW (by lia)] at this
 refine h h1 _ s.toks h1.objs.size _ ps J (λb o e=>?_) (Av _) y (uW kd.ord nf (vD kd.ord ks) (f.trans (zY ks).symm)) (λp x=>?_) (by have:=f.length_eq;rwa [Ao] at this)
 .have C:b≠h1.objs.size:=λz=>by
   subst z;exact absurd (Bg e) (Ep _)
  exact(Dq _ _ (Gb C)).trans (B b o C (Ai _ e))
 .obtain⟨i,G,t⟩:=YX (d:=d) Y (g.mem_iff.mp x)
  exact⟨t▸U i _ G,Cj G⟩
end
end _S
namespace _D
open _L
section
variable {X:Cx}{ai:aa}{σ : _L.St}{H P:Hp}{α : Aa Af}{S:ak}{s:Ah}
inductive rn (X:Cx)(pins:aa)(σ : _L.St)(H P:Hp)(α : Aa Af)(ys:Aa D)(u:Ad)(s':Ah):Prop
 |mk (D:Af) (vs:Aa V) (e:u=.ref D) (hn:H D=none) (I:Inv X pins σ (b_ H D (.lst vs)) s') (rp:qC X.K P α ys vs):rn X pins σ H P α ys u s'
theorem YF {K:Type}{is:K->Ad->Prop}{f:K->Aj}{lt':K->K->As}{d:K}{j:K->Prop}(kd:_S.Kind X.prog X.w is f lt' d j s.heap)(hu:X.A.units+64<Ed)(I:Inv X ai σ H s)(r:bf X.K H P α S){a:Af}{am:ag}
  (g:s.heap.IsList a am.toArray\/s.heap.IsTuple a am.toArray) (ks:Aa K) (m:ks.length=am.length) (hk:∀ i v,am[i]? = Ab v->is (ks.getD i d) v) (hn:ks.length<=100000) (t:∀ k∈ks,j k) (cq:K->D)
  (U:∀ k v,is k v->v∈am->∃ C,qG C v/\aq X.K P α (cq k) C) {E:ab} :
  Aq (Au X.prog X.w) X.A (call (.builtin "sorted") [.ref a]) (rn X ai σ H P α ((_S.jQ lt' ks).map cq)) E s:=by
 refine _S.ZG kd li (λ_ _ e=>e) g ks m.symm hk t li λz o G D c Y T A w B M x n=>?_;have y:Inv X ai σ H { s with heap:=z,toks:=s.toks }:=I.kept T
 have C:∀ (Y:Aa (K × Ad)),(∀ p∈Y,is p.1 p.2/\p.2∈am)->∃ Q,qI Q (Y.map (·.2))/\qC X.K P α ((Y.map (·.1)).map cq) Q:=by
  intro Y
  induction Y with
  |nil=>exact λ_=>⟨[],.nil,.nil⟩
  |cons p Y ih =>
   intro h;obtain⟨Q,N,O⟩:=ih λq hq=>h q (by simp[hq])
   obtain⟨v,b,l⟩:=U p.1 p.2 (h p (by simp)).1 (h p (by simp)).2
   exact⟨v::Q,.cons b N,.cons l O⟩
 obtain⟨Q,N,O⟩:=C Y x;rw[M] at O;have nd:([(D,HO.lst Q)].map (·.1)).Nodup:=by simp
 have u:Inv X ai σ (kL H [(D,HO.lst Q)]) { s with heap:=o,toks:=G }:=Inv.laidL (s:={ s with heap:=z,toks:=s.toks }) (L:=[(D,HO.lst Q)]) (t':=G) y A (λp J=>by
  have:p=(D,HO.lst Q):=by simpa using J
  subst this;exact w) λp J=>by
  have:p=(D,HO.lst Q):=by simpa using J
  subst this;refine⟨?_,Y.map (·.2),c,N,B⟩
  have:=N.length;rw[Ao] at this;rw[this,Fq]
  lia
 exact⟨D,Q,rfl,y.hok.fresh w,u,O⟩
end
end _D
namespace _L
variable {jm:Aa Aw}{mg mb:ah}
def qAT (H:Hp):Prop:=∀ b,H b=none\/(∃ o Q,H b=Ab (.frz o (.lst Q)))\/H b=Ab (.tbl #[])
def yh (K:Ak)(H:Hp):Prop:=∀ x∈vJ,∀ c T,Er K x=Ab (c,T)->H T=Ab (.tbl #[])
structure wl (K:Ak)(h:Cb):Prop where
 at':∀ x∈vJ,∀ c T,Er K x=Ab (c,T)->AaU h c T/\h.get? T=Ab (Rr #[]) /\ K.lookup T=none
 inj:∀ x∈vJ,∀ y∈vJ,∀ c d T,Er K x=Ab (c,T)->Er K y=Ab (d,T)->x=y
theorem UT {P:Bo}{w:Cd}{K:Ak}{CX:sj}{k:Ag}{fa a:Af}{fd:Fu}{x:Aw}{sp:Sp}{Q:Ah}{vs:ag}{g:Aa Aj}
  (KX:K.In Q.heap) (zs:Q.heap.Ns Di mg) (J:Q.heap.Ns Re mb) (zw:∀ x:Aw,x ≠ "__name__" -> mb x=Fy x) (zc:Q.heap.NoLimit) (hg:Q.gens=#[]) (z1:NO mg Q.heap) (N:wl K Q.heap)
  (A:Q.heap.get? a=Ab { cls:=.type "list",data:=.seq vs.toArray }) (hi:Ir vs g) (hl:g.length<=sizeLine) (hr:je k Su)
  (F:∀ base:Cb,K.In base->base.Ns Di mg->mz P w K mg base CX k fa fd [x] sp) (p:∀ (s:Ah) (u:Ad),Py s fd ⟨[u],[]⟩ [(x,u)])
  (zy:∀ H:Hp,yh K H->ox K H a (g.map V.int)->sp [.ref a] H (λv _=>v=.bl true) λ_ _ _=>Ey)
  (zz:∀ H e s',CX [] H Q (λ_ _ _=>Ey) e s'->Ey) :
  Jy (Au P w) Su (.call (.ref fa) ⟨[.ref a],[]⟩) (λr s'=>r=.ok (.ret (.bool true))/\OldK Q.heap s'.heap/\s'.os=Q.os/\Pv s'.gens) Q:=by
 have rv:=YS hi;have z3:=hi.length
 let lx:Af->Prop:=λb=>∃ x∈vJ,∃ c,Er K x=Ab (c,b)
 have tab:∀ b,lx b->Q.heap.get? b=Ab (Rr #[]) /\ K.lookup b=none:=λb ⟨x,U,c,h⟩=>(N.at' x U c b h).2;have L:∀ H:Hp,qAT H->yh K H->ox K H a (g.map V.int)->gl P w H Q.heap->(∀ b,H b≠none->b=a\/lx b)->(H a≠none->K.lookup a=none) ->
   Jy (Au P w) Su (.call (.ref fa) ⟨[.ref a],[]⟩) (λr s'=>r=.ok (.ret (.bool true))/\OldK Q.heap s'.heap/\s'.os=Q.os/\Pv s'.gens) Q:=by
  intro H hO hT hS l hA hK;have Y:∀ {b:Af} {o:Cw},Q.heap.get? b=Ab o->H b=none->(gT Q.heap H).get? b=Ab o:=λe n=>UH e n;have i:∀ {b:Af} {o:Cw},Q.heap.get? b=Ab o->o.cls≠.none->(o.cls≠.type "list" \/ ∃ M I,o.data=.dict M I)->H b=none:=λ{b o} e c1 c2=>by
   cases q:H b with
   |none=>rfl
   |some u =>
    rcases hA b (by rw[q];simp) with e'|e'
    .subst e'
     rw[A] at e;cases e;rcases c2 with z|⟨M,I,d⟩
     .exact absurd rfl z
     .cases d
    .rw[(tab b e').1] at e;cases e
     exact absurd rfl c1
  have zx:∀ {b:Af} {o:Cw} {M:Ay DictEntry} {I:Ag},Q.heap.get? b=Ab o->o.data=.dict M I->H b=none:=λ{b o M I} e d=>by
   cases q:H b with
   |none=>rfl
   |some u =>
    rcases hA b (by rw[q];simp) with e'|e'
    .subst e'
     rw[A] at e;cases e;cases d
    .rw[(tab b e').1] at e;cases e;cases d
  have G:∀ {b:Af} {m:ah},Q.heap.Ns b m->(gT Q.heap H).Ns b m:=λ{b m} ⟨o,M,I,e,d,r⟩=>⟨o,M,I,Y e (zx e d),d,r⟩;have zb:K.In (gT Q.heap H):=λb o e=>Y (KX b o e) (by
   cases q:H b with
   |none=>rfl
   |some u =>
    rcases hA b (by rw[q];simp) with e'|e'
    .subst e'
     rw[hK (by rw[q];simp)] at e;cases e
    .rw[(tab b e').2] at e;cases e)
  have hM:Mod K mg (gT Q.heap H):=by
   refine⟨zb,G zs,⟨mb,G J,zw⟩,let ⟨mc,h1,h2⟩:=zc;⟨mc,G h1,h2⟩,?_,λx U c T h=>?_,N.inj⟩
   .obtain⟨bm,o,b1,b2,b3,b4,b5⟩:=z1
    exact⟨bm,o,b1,b2,Y b3 (i b3 (by rw[b4];nofun) (.inl (by rw[b4];decide))),b4,b5⟩
   .obtain⟨o,vs,zl,tf,j,tg,zv,f,tt,C,y,r⟩:=(N.at' x U c T h).1
    exact⟨o,vs,zl,tf,j,tg,zv,f,tt,Y C (i C (by rw[y];nofun) (.inl (by rw[y];decide))),y,r⟩
  have e0:nz P w K mg (gT Q.heap H) Su [] Q H:=⟨rfl,hM,λb o e=>FX e,Ze (XU _ _),trivial,λb J=>absurd (show b∈([]:ae) from J) (by simp),l,.of_eq hg⟩
  refine Mq ((F _ zb (G zs)).run Su [] Q H ⟨[.ref a],[]⟩ [.ref a] [.ref a] _ _ hr e0 (p Q (.ref a)) (.cons rfl .nil) (zy H hT hS)) λr s' h=>?_;cases r with
  |error e=>exact(zz H e s' h).elim
  |ok fl =>
   cases fl with
   |next=>exact Ar h
   |brk=>exact Ar h
   |cont=>exact Ar h
   |ret u =>
    obtain⟨v,H',os,t,un,E,r',q⟩:=h;have q':v=.bl true:=q;subst q';obtain rfl:u=Hm true:=r';refine⟨rfl,⟨λb o e=>?_,λb o e=>un.there b o e (by simp)⟩,os,t⟩
    cases q:H b with
    |none=>exact .inl (un.keep b o e q (by intro z;exact absurd (show b∈([]:ae) from z) (by simp)) (by simp))
    |some u =>
     rcases hO b with z|⟨ob,xs,z⟩|z
     .rw[q] at z;cases z
     .have z2:=un.frzs b ob _ z
      obtain⟨C,_⟩:=l b _ z;obtain⟨y,_⟩:=E b _ z2;rw[e] at C;cases C;exact .inl y
     .obtain⟨B,z2⟩:=un.tbls b _ z
      have C:Q.heap.get? b=Ab (Rr #[]):=l b _ z;have y:s'.heap.get? b=Ab (Rr (#[] ++ B)):=E b _ z2;rw[e] at C;cases C;rcases hA b (by rw[q];simp) with e'|⟨x,U,c,h⟩
      .subst e';rw[A] at e;cases e
      .exact .inr (.inl ⟨((N.at' x U c b h).1.tab e).isCodeTable,rfl,#[],B,rfl,y⟩)
 have nT:¬ lx a:=λh=>by
  have z:=(tab a h).1;rw[A] at z;cases z
 have tT:∀ x∈vJ,∀ c T,Er K x=Ab (c,T)->lx T:=λx U c T h=>⟨x,U,c,h⟩;have z4:∀ b,Hy (lx b):=λb=>Classical.propDecidable _;cases hk:K.lookup a with
 |some o =>
  have e:=KX a o hk;rw[A] at e;cases e;refine L (λb=>if lx b then Ab (.tbl #[]) else none) (λb=>?_) (λx U c T h=>Bi (tT x U c T h)) (.inr ⟨vs,_,hk,by rw[Ao];exact hl,rv⟩) (λb u z=>?_) (λb z=>?_) λz=>absurd (Bh nT) z
  .by_cases h:lx b
   .exact .inr (.inr (Bi h))
   .exact .inl (Bh h)
  .by_cases h:lx b
   .have O:=(Bi h).symm.trans z
    cases O;exact(tab b h).1
   .have O:=(Bh h).symm.trans z
    cases O
  .by_cases h:lx b
   .exact .inr h
   .exact absurd (Bh h) z
 |none =>
  refine L (λb=>if b=a then Ab (.frz { cls:=.type "list",data:=.seq vs.toArray } (.lst (g.map V.int))) else if lx b then Ab (.tbl #[]) else none) (λb=>?_) (λx U c T h=>?_) (.inl (.inr ⟨{ cls:=.type "list",data:=.seq vs.toArray },Bi rfl⟩)) (λb u z=>?_) (λb z=>?_) λ_=>hk
  .by_cases J:b=a
   .exact .inr (.inl ⟨_,_,Bi J⟩)
   .by_cases h:lx b
    .exact .inr (.inr ((Bh J).trans (Bi h)))
    .exact .inl ((Bh J).trans (Bh h))
  .have h':=tT x U c T h
   exact(Bh (λ(z:T=a)=>nT (z▸h'))).trans (Bi h')
  .by_cases J:b=a
   .have O:=(Bi J).symm.trans z
    cases O;subst J;exact⟨A,by rw[Ao];exact hl,vs,_,rv,A⟩
   .by_cases h:lx b
    .have O:=((Bh J).trans (Bi h)).symm.trans z
     cases O;exact(tab b h).1
    .have O:=((Bh J).trans (Bh h)).symm.trans z
     cases O
  .by_cases J:b=a
   .exact .inl J
   .by_cases h:lx b
    .exact .inr h
    .exact absurd ((Bh J).trans (Bh h)) z
def rP (q:Bo)(K:Ak):As:=vJ.all λx=>match Er K x with
 |none=>true
 |some (_,T)=>((recsOf q).find? λe=>e.name == x).isSome&&((K.lookup T).isNone&&vJ.all λy=>match Er K y with
  |none=>true
  |some (_,U)=>x == y||!decide (T=U))
theorem N3 {q:Bo}{Q:ExcName->An Ad}{h:Cb}{K:Ak}(T:Top q jm Q mg mb h)(X:K.In h)(c:rP q K=true):wl K h:=by
 unfold rP at c;have g:∀ x∈vJ,∀ d U,Er K x=Ab (d,U)->((recsOf q).find? λe=>e.name == x).isSome=true/\(K.lookup U).isNone=true/\(vJ.all λy=>match Er K y with
  |none=>true
  |some (_,V)=>x == y||!decide (U=V))=true:=λx Y d U e=>by
  have z:=Bb.mp c x Y;rw[e] at z;simpa only [Az] using z
 refine⟨λx Y d U e=>?_,λx Y y O d I U L G=>?_⟩
 .obtain⟨E,C,_⟩:=g x Y d U e
  obtain⟨r,J⟩:=Ki.mp E;obtain⟨N,B⟩:=PySem.W.tab_of T X J e;exact⟨N,B,by simpa using C⟩
 .have z:=Bb.mp (g x Y d U L).2.2 y O
  rw[G] at z;simpa using z
theorem NB {l:AaP}{n k:Ag}{q:Bo}{jm:Aa Aw}{t:(Aw->An Ad)->Cb->Prop}{z:Cd->Cb->Prop}{d:DefRec}{K:Params->Ak}{CX:Cd->sj}{sp:Cd->Sp}{x:Aw}
  (hn:l.most=Ab n) (L:n<=sizeLine) (T:d.params.defaults=[]) (j:je k Su) (r:∀ p,rP q (K p)=true)
  (i:∀ (w:Cd) (h:Cb),z w h->(K w.params).In h)
  (F:∀ (w:Cd) (mg:ah) (C:Af) (h:Cb),(K w.params).In h->h.Ns Di mg->mg d.name=Ab (.ref C) ->
   ∃ fd:Fu,(∀ (s:Ah) (u:Ad),Py s fd ⟨[u],[]⟩ [(x,u)]) /\
    ∀ base:Cb,(K w.params).In base->base.Ns Di mg->mz l.prog w (K w.params) mg base (CX w) k C fd [x] (sp w))
  (E:∀ (w:Cd) (H:Hp) (a:Af) (O:Aa Aj),O.length<=n->yh (K w.params) H->ox (K w.params) H a (O.map V.int)->sp w [.ref a] H (λv _=>v=.bl true) λ_ _ _=>Ey)
  (I:∀ (w:Cd) (H:Hp) (s:Ah) (e:Ad) (s':Ah),CX w [] H s (λ_ _ _=>Ey) e s'->Ey) :
  Ab9 q jm t z l.row.toRowW d [] (λf vs=>AaR f vs):=by
 refine _A.mv hn T λw M U mg mb C o pm cd g a vs O G Y ho hd b A N J Q hg=>?_;have B:=i w _ Y;obtain⟨fd,hb,m⟩:=F w mg C _ B G.T.g A;exact UT B G.T.g G.T.b G.T.builtins G.T.nolimit hg (let ⟨y,ob,b1,c,b3,b4,b5,b6⟩:=G.T.bmain;⟨y,ob,b1,c,b3,b4,b5,b6⟩) (N3 G.T B (r _)) N J (Ch Q L) j m hb (λH hT hS=>E w H a O Q hT hS) λH e s'=>I w H U e s'
end _L
namespace _D
open _L
variable {K:Ak}{mg:ah}
theorem HS {h:Cb}(X:K.In h)(G:h.Ns Di mg){x:Aw}{st:Fz}{ps:Aa Aw}{f:Af}{C:Ad}{L J:An Af}{U:Ay (An Ad)}{kV Y O Q N:Ad}
  (a:Fe K Di x=Ab (Ab (.ref f)))
  (l:K.lookup f=Ab ⟨C,L,.func (Gr x x (yF st) (zZ st) (qK st) .none kV Y O J Q N),U⟩) (c:Mm K Q x=true) (k:Gs K (.ref f)=true)
  (B:∀ (kV Y O:Ad) (J:An Af) (Q N:Ad) (us:ag),us.length=ps.length->AaJ (Gr x x (yF st) (zZ st) (qK st) .none kV Y O J Q N) ⟨us,[]⟩=pure (ps.zip us)):ud K mg x st ps:=
 have F:=DX (st:=st) l c k
 ⟨f,_,Yb X G a,F,F.binds B⟩
noncomputable def rO (K:Ak)(C:Af):As:=
 decide (Ov K (.ref C) "__getattribute__" = Ab (Ab (.builtin "BaseException.__getattribute__")))&&decide (Ov K (.ref C) "__getattr__" = Ab none)
 && decide (Ov K (.ref C) "__class__" = Ab (Ab (.builtin "object.__class__")))&&decide (Xn K C (.type "object")=Ab true)&&decide (Xn K C (.type "BaseException")=Ab true)
 && (PySem.W.clsIn K C).isSome&&decide (Ml K (.ref C) (.type "ValueError")=Ab true)
noncomputable def VF (K:Ak):As:=
 decide (Zl K (.builtin "object.__class__") "__get__" = Ab (Ab (.builtin "getset_descriptor.__get__")))&&decide (AaI K (.builtin "object.__class__")=Ab true)
def L6 (K:Ak)(Q:ae):As:=Q.all λC=>Q.all λB=>decide (Ml K (.ref C) (.ref B)=Ab (C == B))
theorem L7 {Y:ae}(h1:Y.all (rO K)=true)(h2:VF K=true)(h3:L6 K Y=true):xh K Y:=by
 have g:=h2;unfold VF at g;simp only[Az,Cf] at g;have J:∀ C∈Y,rO K C=true:=Bb.mp h1;refine⟨λC Q=>?_,λC Q B U=>?_,λC Q=>?_⟩
 .have e:=J C Q
  unfold rO at e;simp only[Az,Cf] at e;obtain⟨⟨⟨⟨⟨⟨O,L⟩,T⟩,N⟩,G⟩,E⟩,I⟩:=e;exact⟨O,L,T,g.1,g.2,N,G,E⟩
 .have e:=Bb.mp (Bb.mp h3 C Q) B U
  exact Cq e
 .have e:=J C Q
  unfold rO at e;simp only[Az,Cf] at e;exact e.2
def qAj (K:Ak)(Q:ag)(A:Af):As:=Q.all λv=>decide (Ab0 K v (.ref A)=Ab true)
def qAh (K:Ak)(Q:ae)(A:Af):As:=Q.all λC=>VE K C A
def qAi (K:Ak)(Q:ae):As:=Q.all λC=>Gs K (.ref C)
def sZ (K:Ak):Sp:=λJ H Q E=>yh K H/\∃ a Y,J=[.ref a]/\ox K H a (AaQ V.int Y)/\Y.length<=63/\∀ U,Q (.bl true) U
theorem cF {P:Hp}{α:ae}:∀ Q:Aa Aj,qC K P α (Q.map D.int) (Q.map V.int)
 |[]=>.nil
 |n::Q=>.cons (by simp only[aq]) (cF Q)
def uq (H:Hp):Hp:=λb=>match H b with
 |some (.tbl _)=>none
 |u=>u
theorem FH {P:Bo}{w:Cd}{l:Af}{st:Fz}{k:Ag}{x:Aw}(hs:ud K mg "law" st [x])(L:mg "law" = Ab (.ref l))
  (A:∀ (kV U M:Ad) (B:An Af) (N I:Ad) (s:Ah) (v:Ad),Py s (Gr "law" "law" (yF st) (zZ st) (qK st) .none kV U M B N I) ⟨[v],[]⟩ [(x,v)])
  (O:∀ base:Cb,∃ F,rB P w K mg base true k "law" [x] F/\∀ J:Aa Aj,J.length<=63->∃ S,F [.lst (J.map D.int)] [] = .ok (.bl true) S) :
  ∃ fd:Fu,(∀ (s:Ah) (v:Ad),Py s fd ⟨[v],[]⟩ [(x,v)])/\∀ base:Cb,K.In base->base.Ns Di mg->mz P w K mg base (ni P w) k l fd [x] (sZ K):=by
 obtain⟨f,fd,d,F,hb⟩:=hs;cases L.symm.trans d;refine⟨fd,?_,λbase _ _=>?_⟩
 .obtain⟨oc,od,kV,U,M,B,N,I,n,rfl,_,_⟩:=F.ex
  exact A kV U M B N I
 .obtain⟨G,⟨f',zc,p,_,zb,y,X⟩,hG⟩:=O base
  cases d.symm.trans p;cases y.one (tR F);refine(X.imp λvs H Q E h=>?_).ok;obtain⟨g,a,J,rfl,hS,y,k⟩:=h;obtain⟨S,e⟩:=hG J y;have Y:∀ (b:Af) (u:HO),H b=Ab u->(∀ C,u≠.tbl C)->uq H b=Ab u:=λb u q h=>by
   unfold uq;rw[q];cases u with
   |tbl C=>exact absurd rfl (h C)
   |_=>rfl
  have j:ox K (uq H) a (AaQ V.int J):=by
   rcases hS with (h|⟨o,h⟩)|h
   .exact .inl (.inl (Y _ _ h λ_ z=>by cases z))
   .exact .inl (.inr ⟨o,Y _ _ h λ_ z=>by cases z⟩)
   .exact .inr h
  have sub:qF (uq H) H:=λb u q=>by
   unfold uq at q;cases z:H b with
   |none=>rw[z] at q;cases q
   |some v =>
    rw[z] at q;cases v with
    |tbl C=>cases q
    |_=>exact q
  refine⟨rfl,uq H,[],[.lst (J.map D.int)],[],⟨λx t c T h=>⟨#[],g x t c T h,by unfold uq;rw[g x t c T h],by simp,trivial,λao cv z=>by cases z⟩,sub,rfl,.nil,by simp,by simp,by simp⟩,.cons (fK j (cF J)) .nil,?_⟩
  rw[e];intro v m P' i _ _ _ r;simp only[aq] at r;subst r;exact k m
theorem OW {l:AaP}{q:Bo}{I:Aa Aw}{C:(Aw->An Ad)->Cb->Prop}{J:Cd->Cb->Prop}{d:DefRec}{K:Params->Ak}{k:Ag}{x:Aw}(B:l.most=Ab 63)(Q:d.params.defaults=[])(U:je k Su)(N:∀ p,rP q (K p)=true)
  (T:∀ (w:Cd) (h:Cb),J w h->(K w.params).In h)
  (F:∀ (w:Cd) (mg:ah) (Y:Af) (h:Cb),(K w.params).In h->h.Ns Di mg->mg d.name=Ab (.ref Y) ->
   ∃ fd:Fu,(∀ (s:Ah) (u:Ad),Py s fd ⟨[u],[]⟩ [(x,u)])/\∀ base:Cb,(K w.params).In base->base.Ns Di mg->mz l.prog w (K w.params) mg base (ni l.prog w) k Y fd [x] (sZ (K w.params))) :
  Ab9 q I C J l.row.toRowW d [] (λf vs=>AaR f vs):=
 _L.NB (n:=63) (k:=k) (x:=x) (CX:=λw=>ni l.prog w) (sp:=λw=>sZ (K w.params)) B (by decide) Q U N T F (λ_ _ a G E L O=>⟨L,a,G,rfl,O,E,λ_=>rfl⟩) λw H s e A h=>by
  obtain⟨_,_,_,_,_,_,_,_,_,_,_,_,z⟩:=h;exact z
end _D
namespace _D
variable {us:ag}
theorem _a (h:us.length=0):us=[]:=Qy h
theorem yo {n:Ag}(h:us.length=n+1):∃ a vs,us=a::vs/\vs.length=n:=by
 cases us with
 |nil=>exact absurd h (by simp)
 |cons a vs=>exact⟨a,vs,rfl,by simpa using h⟩
theorem zt (h:us.length=1):∃ a,us=[a]:=by
 obtain⟨a,Y,rfl,Q⟩:=yo h;exact⟨a,by rw[_a Q]⟩
theorem zr (h:us.length=2):∃ a b,us=[a,b]:=by
 obtain⟨a,Y,rfl,Q⟩:=yo h;obtain⟨b,rfl⟩:=zt Q;exact⟨a,b,rfl⟩
theorem Z_ (h:us.length=3):∃ a b c,us=[a,b,c]:=by
 obtain⟨a,Y,rfl,Q⟩:=yo h;obtain⟨b,c,rfl⟩:=zr Q;exact⟨a,b,c,rfl⟩
end _D
namespace _D
open _L
variable {vs:Aa (bo × V)}{sc:Fd}
theorem PM (F:DF):∃ G:DF,G=F:=⟨F,rfl⟩
def sh (F:DF):DF:=Kw (PM F)
theorem zL (F:DF):sh F=F:=Jn (PM F)
def J_:An Iu->As
 |some .local => true
 |some .cell=>true
 |some .free=>true
 |_=>false
noncomputable def x_:An Iu->As
 |some .local => true
 |some .cell=>true
 |_=>false
def isG:An Iu->As
 |some .globalImplicit=>true
 |_=>false
noncomputable def xx (x:Aw):As:=!(x == ("__debug__" : Aw))&&(!(x == ("__classdict__" : Aw))&&!decide (x = "__name__"))
def sr (X:Cx)(x:Aw):As:=isG (X.env.kindOf x)&&xx x
def yu (v:Ad)(x:Aw):As:=decide (Fy x=Ab v)
def lG (sc:Fd):Aa Aw:=sc.names.filterMap λy=>if x_ (Ab y.2) then Ab y.1 else none
def yV (sc:Fd):Aa Aw:=(sc.names.filterMap λy=>if x_ (Ab y.2)&&!(y.1 == (".0" : Aw)) then Ab y.1 else none)++sc.names.filterMap λy=>if y.2 == .free then Ab y.1 else none
def Ck (b:As):Prop:=b=true
theorem ck {b:As}(h:b=true:=by kernel_rfl):Ck b:=h
structure ym (F:DF)(P:Bo)(w:Cd)(K:Ak)(mg:ah)(base:Cb)(cm:As)(k:Ag)(x:Aw)(n:Ag):Prop where
 get:qv P w K mg base cm k x n F
def wf (X:Cx)(m:Ag)(x:Aw):As:=decide (X.N[m]? = Ab x)&&(x_ (X.env.scope.names.lookup x)&&(decide X.N.Nodup&&(X.fn x||decide (X.env.scope.names.lookup x=Ab .local))))
noncomputable def xw (X:Cx)(m:Ag)(x:Aw):As:=decide (X.N[m]? = Ab x)&&decide (X.env.scope.names.lookup x=Ab .local)
def sS (Q:Fd)(Y:Aa Aw)(aj:Fd)(bu:Aa (An Ag)):As:=
 decide (aj.kind=.function)&&(decide (∀ y∈aj.names,y.2=.local -> aj.names.lookup y.1=Ab .local)&&(decide (∀ y∈aj.names,y.2=.cell->aj.names.lookup y.1=Ab .cell)&&(decide (∀ y∈aj.names,y.2=.free->Q.names.lookup y.1=Ab .cell\/Q.names.lookup y.1=Ab .free)
 && (decide (∀ y∈aj.names,y.2=.free->aj.names.lookup y.1=Ab .free)&&(decide (bu.length=(yV aj).length)&&(((bu.zip (yV aj)).all λp=>match p.1 with|none=>true|some i=>Y[i]? == Ab p.2&&aj.names.lookup p.2 == Ab .free)&&decide (yV aj).Nodup))))))
noncomputable def yb (N P:Aa Aw)(sc:Fd):As:=
 decide (sc.kind=.function)&&(decide (sc.isCoroutine=false)&&(decide (sc.isGenerator=false)&&(decide N.Nodup&&(decide (N.take P.length=P)&&(decide (∀ x∈P,sc.names.lookup x=Ab .local \/ sc.names.lookup x=Ab .cell)&&decide (∀ y∈sc.names,y.2≠.free))))))
theorem rR {Q:Fd}{Y:Aa Aw}{aj:Fd}{bu:Aa (An Ag)}(h:sS Q Y aj bu=true):df Q Y aj (yV aj) bu:=by
 simp only[sS,Az,Cf] at h;obtain⟨a,b,c,d,e,f,g,k⟩:=h;exact⟨a,b,c,d,e,f,g,k⟩
theorem XR {N P:Aa Aw}(h:yb N P sc=true):cy N P sc:=by
 simp only[yb,Az,Cf] at h;obtain⟨a,b,c,d,e,f,g⟩:=h;exact⟨a,b,c,d,e,f,g⟩
section
variable {X:Cx}{a b c e o cb tg a_:Bz}{cw av:Aa Bz}{f g:DS}{fa:DE}{f2:me}{dg:DG}{t:DT}{kk:DK}{bh eh:Aa DL}{aj:Fd}{bu:Aa (An Ag)}{mm:As}{l q:Ag}{y z:Aw}{oy:G2}{es:Aa Bz}{fA:DA}{x:Aw}{p ao:Fn}{cm:As}{k n m:Ag}{F:DF}
theorem F4 (h:J_ (sc.names.lookup x)=true):tz sc x:=by
 unfold tz
 revert h
 cases sc.names.lookup x with
 |none=>intro h;cases h
 |some y=>cases y <;> intro h <;> first|cases h;done|exact .inl rfl|exact .inr (.inl rfl)|exact .inr (.inr rfl)
theorem F2 (h:x_ (sc.names.lookup x)=true):_L.Loc sc x:=by
 unfold _L.Loc
 revert h
 cases sc.names.lookup x with
 |none=>intro h;cases h
 |some y=>cases y <;> intro h <;> first|cases h;done|exact .inl rfl|exact .inr rfl
theorem n8 (h:xx x=true):(x == ("__debug__" : Aw))=false/\(x == ("__classdict__" : Aw))=false/\x ≠ "__name__":=by
 unfold xx at h;rw[Az,Az] at h;exact⟨by simpa using h.1,by simpa using h.2.1,by simpa using h.2.2⟩
theorem jJ (h:sr X x=true):Gl X x/\(x == ("__debug__" : Aw))=false/\x ≠ "__name__":=by
 have h:=(Az _ _).mp h;refine⟨?_,(n8 h.2).1,(n8 h.2).2.2⟩;have z:=h.1;unfold Gl
 revert z
 cases X.env.kindOf x with
 |none=>intro z;cases z
 |some y=>cases y <;> intro z <;> first|cases z;done|rfl
theorem c6 (h:wf X m x=true):X.N[m]? = Ab x/\_L.Loc X.env.scope x/\X.N.Nodup/\(X.fn x=true\/X.env.scope.names.lookup x=Ab .local):=by
 simp only[wf,Az,Cf,Va] at h;exact⟨h.1,F2 h.2.1,h.2.2⟩
theorem n9 (h:xw X m x=true):X.N[m]? = Ab x/\X.env.scope.names.lookup x=Ab .local:=by
 simp only[xw,Az,Cf] at h;exact h
theorem AH (h:Ck (sr X x)):Gl X x:=(jJ h).1
theorem aV (h:Ck (decide (X.N[m]? = Ab x)&&(J_ (X.env.scope.names.lookup x)&&xx x))):QE X (.Name x ao) (q9 m):=by
 unfold Ck at h;simp only[Az,Cf] at h;exact EN m h.1 (F4 h.2.1) (n8 h.2.2).1 (n8 h.2.2).2.1
theorem aBt {Q:Ex}(h:Ck (sr X x))(hm:X.mg x=none)(Y:Ck (yu (.type Q) x)):QE X (.Name x ao) (dC (.ty Q)):=
 have h:=jJ h
 MG h.1 hm (Cq Y) h.2.2 h.2.1
theorem aGi {v:Aj}(h:Ck (sr X x))(hm:∃ t,X.mg x=Ab (.int v t)):QE X (.Name x ao) (dC (.int v)):=
 have h:=jJ h
 MK h.1 hm h.2.1
abbrev wn (X:Cx)(e:Bz)(es:Aa Bz)(ao:Fn):Prop:=Bs (e::es) X.env=(false,eval e X.env)::Bs es X.env/\(Gi ao (Bs es X.env)).any (·.1)=false
theorem aN (G:ym F X.prog X.w X.K X.mg X.base cm k x n)(J:az cm k X.A)(Y:oq X)(h:Ck (sr X x))(Q:QA X (e::es) fA)(s:wn X e es ao):QE X (.Call (.Name x p) (e::es) [] ao) (qD n F fA):=
 have h:=jJ h
 _j G.1 J Y h.1 Q h.2.1 s.1 s.2
theorem aO (G:ym F X.prog X.w X.K X.mg X.base cm k x n)(Y:az cm k X.A)(h:Ck (sr X x))(Q:QA X (e::es) fA)(s:wn X e es ao):QE X (.Call (.Name x p) (e::es) [] ao) (qD n (l_ F) fA):=
 have h:=jJ h
 _i G.1 Y h.1 Q h.2.1 s.1 s.2
theorem aB {id:Ex}(Y:fg X (.builtin id) F)(h:Ck (sr X x))(hm:X.mg x=none)(J:Ck (yu (.builtin id) x))(Q:QA X (e::es) fA)(s:wn X e es ao):QE X (.Call (.Name x p) (e::es) [] ao) (qM F fA):=
 have h:=jJ h
 JL Y h.1 hm (Cq J) Q h.2.2 h.2.1 s.1 s.2
theorem aT {T:Ex}(Y:fg X (.type T) F)(h:Ck (sr X x))(hm:X.mg x=none)(J:Ck (yu (.type T) x))(Q:QA X (e::es) fA)(s:wn X e es ao):QE X (.Call (.Name x p) (e::es) [] ao) (qM F fA):=
 have h:=jJ h
 Y4 Y h.1 hm (Cq J) Q h.2.2 h.2.1 s.1 s.2
theorem aC (S:Ck (sS X.env.scope X.N aj bu))(G:X.calm=true)(hi:ug X tg a_ f2)(B:∀ J C U Q Y,QG (qY X (yV aj) aj J C U Q Y) tg dg)(N:∀ J C U Q Y,uf (qY X (yV aj) aj J C U Q Y) cw t)
  (has:∀ g',(⟨tg,a_,cw,0⟩::eh:Aa DL)[0+1]? = Ab g'->g'.is_async=0)
  (O:∀ J C U Q Y,QK j_ (qY X (yV aj) aj J C U Q Y) (λar=>xA false cb (⟨tg,a_,cw,0⟩::eh) aj ao 0 ar (qY X (yV aj) aj J C U Q Y).env) kk) (hs:∀ x,Eg a_ X.env x=pure x) :
  QE X (.ListComp cb (⟨tg,a_,cw,0⟩::eh) aj ao) (qW mm bu f2 dg t kk):=JN G (rR S) hi B N has O hs
theorem aCs {N J:Fn}(hsw:Pc (.ListComp cb (⟨tg,a_,cw,0⟩::eh) aj ao) (Ab (.Name y N)) J.line X.env=pure true)(S:Ck (sS X.env.scope X.N aj bu))(O:Ck (wf X m y))(T:X.calm=true)(hi:ug X tg a_ f2)(L:∀ U C G Y Q,QG (qY X (yV aj) aj U C G Y Q) tg dg)(E:∀ U C G Y Q,uf (qY X (yV aj) aj U C G Y Q) cw t)
  (has:∀ g',(⟨tg,a_,cw,0⟩::eh:Aa DL)[0+1]? = Ab g'->g'.is_async=0)
  (B:∀ U C G Y Q,QK j_ (qY X (yV aj) aj U C G Y Q) (λar=>xA false cb (⟨tg,a_,cw,0⟩::eh) aj ao 0 ar (qY X (yV aj) aj U C G Y Q).env) kk) (hs:∀ x,Eg a_ X.env x=pure x) :
  QS X (.Assign [.Name y N] (.ListComp cb (⟨tg,a_,cw,0⟩::eh) aj ao) J) (qT (qW mm bu f2 dg t kk) (bi m)):=
 have h:=c6 O
 JT T h.2.2.1 (rR S) hi L E has B h.1 h.2.1 h.2.2.2 hsw hs
theorem aNm (h:Ck (wf X m x)):QG X (.Name x ao) (bi m):=
 have h:=c6 h
 MN h.2.2.1 h.1 h.2.1 h.2.2.2
theorem aSt {Q:Fn}(hs:Pc e (Ab (.Name x Q)) ao.line X.env=pure false)(Y:QE X e fa)(h:Ck (wf X m x)):QS X (.Assign [.Name x Q] e ao) (qT fa (bi m)):=
 have h:=c6 h
 H9 h.2.2.1 Y h.1 h.2.1 hs h.2.2.2
theorem aP2 {Q Y pt:Fn} {kt k2 pt2} (h:Ck (decide X.N.Nodup&&(xw X m x&&(xw X l y&&!decide (m=l))))) (U:X.calm=true) (J:QA X [a,b] fA)
  (hw:Na [.Tuple [.Name x Q,.Name y Y] kt pt] (.Tuple [a,b] k2 pt2) X.env=pure (Ab [x,y])) (hs:Nb [.Tuple [.Name x Q,.Name y Y] kt pt] (.Tuple [a,b] k2 pt2) ao.line X.env=pure false) :
  QS X (.Assign [.Tuple [.Name x Q,.Name y Y] kt pt] (.Tuple [a,b] k2 pt2) ao) (jO m l fA):=by
 unfold Ck at h;simp only[Az,Cf,Pi,Lg] at h;exact H0 U h.1 J (n9 h.2.1).1 (n9 h.2.2.1).1 h.2.2.2 (n9 h.2.1).2 (n9 h.2.2.1).2 hw hs
end
structure yg (K:Ak)(mg:ah)(tp:Ag->Fz)(tab:Aa (Aw × Ag × Aa Aw))(bl:Aa Aw)(ow qq:Aa (Aw × Af))(cs:ag)(exl:ae)(qt:Aa (Aw × Aj)):Prop where
 src:∀ (j:Ag) {x:Aw} {i:Ag} {ps:Aa Aw},tab[j]? = Ab (x,i,ps)->ud K mg x (tp i) ps
 nb:∀ {x:Aw},Ck (bl.contains x)->mg x=none
 cl:∀ {x:Aw} {C:Af},ow.lookup x=Ab C->mg x=Ab (.ref C)/\Gs K (.ref C)=true
 rz:∀ {x:Aw} {C:Af},qq.lookup x=Ab C->∃ Ae,mg x=Ab (.ref C)/\VE K C Ae=true
 ct:∃ C0,mg "FarError" = Ab (.ref C0)/\∀ c∈cs,Ab0 K c (.ref C0)=Ab true
 cls:xh K exl
 gi:∀ {x:Aw} {v:Aj},qt.lookup x=Ab v->∃ t,mg x=Ab (.int v t)
section
variable {K:Ak}{mg:ah}{cm:As}{tp:Ag->Fz}{tab:Aa (Aw × Ag × Aa Aw)}{bl:Aa Aw}{ow qq:Aa (Aw × Af)}{cs:ag}{tu:ae}{qt:Aa (Aw × Aj)}{x:Aw}{i m:Ag}{ps:Aa Aw}{F:DF}{g:DS}
theorem dq (P:Bo)(w:Cd)(base:Cb)(k j:Ag)(T:yg K mg tp tab bl ow qq cs tu qt)(Y:tab[j]? = Ab (x,i,ps))(h:Ck (yb (lG (qK (tp i))) ps (qK (tp i))&&decide ((lG (qK (tp i))).length=m)))(U:F=qL m g)
  (G:∀ (f:Af) (Q:Ad) (A:Bu) (J:Aa Kh) (s:Ah) (H:Hp) (E:XK),fV K x Q->az cm k (A.deeper (He x (qK (tp i)) s.heap.objs.size f Q)) ->
   QB (ly cm P w K mg base (lG (qK (tp i))) x (qK (tp i)) f Q A J s H E) (zZ (tp i)) g):ym F P w K mg base cm (k+1) x ps.length:=by
 unfold Ck at h;simp only[Az,Cf] at h;obtain⟨h,rfl⟩:=h;exact⟨U▸_W (T.src j Y) (XR h) rfl G⟩
theorem dqP {P:Bo}{w:Cd}{base:Cb}(k j:Ag)(T:yg K mg tp tab bl ow qq cs tu qt)(Y:tab[j]? = Ab (x,i,ps))(h:Ck (yb (lG (qK (tp i))) ps (qK (tp i))&&decide ((lG (qK (tp i))).length=m)))
  (U:∀ (f:Af) (Q:Ad) (A:Bu) (J:Aa Kh) (s:Ah) (H:Hp) (E:XK),fV K x Q->az cm k (A.deeper (He x (qK (tp i)) s.heap.objs.size f Q)) ->
   QB (ly cm P w K mg base (lG (qK (tp i))) x (qK (tp i)) f Q A J s H E) (zZ (tp i)) g):rB P w K mg base cm (k+1) x ps (qL m g):=by
 unfold Ck at h;simp only[Az,Cf] at h;obtain⟨h,rfl⟩:=h;exact A6 (T.src j Y) (XR h) rfl U
end
theorem hv {a b:Prop}(f:a->b)(h:a):b:=f h
inductive u_ (K:Ak)(x:Aw)(st:Fz)(ps:Aa Aw):Prop
 |mk {f:Af} {oc:Ad} {od an:An Af} {osl:Ay (An Ad)} {kV doc pm cdv ct:Ad} (a:Fe K Di x=Ab (Ab (.ref f)))
  (l:K.lookup f=Ab ⟨oc,od,.func (Gr x x (yF st) (zZ st) (qK st) .none kV doc pm an cdv ct),osl⟩) (c:Mm K cdv x=true) (k:Gs K (.ref f)=true):u_ K x st ps
def oO (K:Ak)(tp:Ag->Fz):Aa (Aw × Ag × Aa Aw)->Prop
 |[]=>Rc
 |(x,i,Q)::t=>u_ K x (tp i) Q/\oO K tp t
def yn (tp:Ag->Fz):Aa (Aw × Ag × Aa Aw)->Prop
 |[]=>Rc
 |(x,i,U)::t=>(∀ (kV J O:Ad) (G:An Af) (Q N:Ad) (Y:ag),Y.length=U.length->AaJ (Gr x x (yF (tp i)) (zZ (tp i)) (qK (tp i)) .none kV J O G Q N) ⟨Y,[]⟩=pure (U.zip Y))/\yn tp t
def oH (K:Ak):Aa (Aw × Af)->Prop
 |[]=>Rc
 |(x,C)::t=>Fe K Di x=Ab (Ab (.ref C))/\oH K t
def oI (K:Ak):Aa (Aw × Aj)->Prop
 |[]=>Rc
 |(x,v)::t=>(∃ k,Fe K Di x=Ab (Ab (.int v k)))/\oI K t
def _P:An (An Ad)->As
 |some none=>true
 |_=>false
section
variable {K:Ak}{h:Cb}{mg:ah}{tp:Ag->Fz}
theorem o7 (X:K.In h)(G:h.Ns Di mg):∀ (tab:Aa (Aw × Ag × Aa Aw)),oO K tp tab->yn tp tab->∀ (j:Ag) {x:Aw} {i:Ag} {ps:Aa Aw},tab[j]? = Ab (x,i,ps)->ud K mg x (tp i) ps
 |[],_,_,_,_,_,_,e=>by cases e
 |(x,i,ps)::t,H,B,0,_,_,_,e=>by
  cases e;obtain⟨a,l,c,k⟩:=H.1;exact HS X G a l c k B.1
 |(x,i,ps)::t,H,B,j+1,_,_,_,e=>o7 X G t H.2 B.2 j e
theorem yA {β:Type}{p:Aw->β->Prop}{x:Aw}{C:β}:∀ {l:Aa (Aw × β)},(∀ y∈l,p y.1 y.2)->l.lookup x=Ab C->p x C
 |[],_,e=>by cases e
 |(y,b)::t,H,e=>by
  rw[Kv] at e;cases q:x == y with
  |true =>
   rw[q] at e;cases e;rw[eq_of_beq q];exact H (y,_) (.head _)
  |false =>
   rw[q] at e;exact yA (λz Q=>H z (.tail _ Q)) e
theorem bY (X:K.In h)(G:h.Ns Di mg):∀ {l:Aa (Aw × Af)},oH K l->∀ y∈l,mg y.1=Ab (.ref y.2)
 |(x,C)::t,H,y,hy=>by
  rcases Bc.mp hy with rfl|hy
  .exact Yb X G H.1
  .exact bY X G H.2 y hy
theorem aR (X:K.In h)(G:h.Ns Di mg):∀ {l:Aa (Aw × Aj)},oI K l->∀ y∈l,∃ k,mg y.1=Ab (.int y.2 k)
 |(x,C)::t,H,y,hy=>by
  rcases Bc.mp hy with rfl|hy
  .obtain⟨k,e⟩:=H.1
   exact⟨k,Yb X G e⟩
  .exact aR X G H.2 y hy
theorem OP {tab:Aa (Aw × Ag × Aa Aw)}{bl:Aa Aw}{ow qq:Aa (Aw × Af)}{J:ag}{Y:ae}{qt:Aa (Aw × Aj)}{bj:Af}(B:yn tp tab)(hp:∀ y∈qq,y∈ow)(U:ow.lookup ("FarError" : Aw)=Ab bj)(X:K.In h)(G:h.Ns Di mg)
  (s:oO K tp tab) (z:(bl.all λx=>_P (Fe K Di x))=true) (q:oH K ow) (g:oI K qt) (e1:Y.all (rO K)=true) (e2:VF K=true) (e3:L6 K Y=true) (e4:qAj K J bj=true) (e5:qAh K (qq.map (·.2)) bj=true) (e6:qAi K (ow.map (·.2))=true):yg K mg tp tab bl ow qq J Y qt where
 src:=o7 X G tab s B
 nb:=λ{x} N=>by
  have e:=Bb.mp z x (by simpa using Qh.mp N)
  refine PySem.W.mg_none_of X G ?_
  revert e
  cases Fe K Di x with
  |none=>intro e;cases e
  |some y=>cases y with
   |none=>intro _;rfl
   |some y=>intro e;cases e
 cl:=λh=>⟨yA (p:=λx C=>mg x=Ab (.ref C)) (bY X G q) h,yA (p:=λ_ C=>Gs K (.ref C)=true) (λy Q=>Bb.mp e6 y.2 (Rh Q)) h⟩
 rz:=λh=>⟨bj,yA (p:=λx C=>mg x=Ab (.ref C)) (λy Q=>bY X G q y (hp y Q)) h,yA (p:=λ_ C=>VE K C bj=true) (λy Q=>Bb.mp e5 y.2 (Rh Q)) h⟩
 ct:=⟨bj,yA (p:=λx C=>mg x=Ab (.ref C)) (bY X G q) U,λv hv=>Cq (Bb.mp e4 v hv)⟩
 cls:=L7 e1 e2 e3
 gi:=λh=>yA (p:=λx v=>∃ k,mg x=Ab (.int v k)) (aR X G g) h
end
structure r_ where
 qual:Aw
 params:Vs
 body:Bz
 scope:Fd
def GM (sc:Fd):Aa Aw:=sc.names.filterMap λy=>if y.2 == .free then Ab y.1 else none
inductive m_ (h:Cb)(H:Hp)(fs:ae)(L:r_)(a:Af)(cv:Aa V):Prop
 |mk (cl:Aa (Aw × Af)) (pm ctv:Ad) (c:Af) (oc:Cw) (ws:Ay Ad) (t:Vq) (o:h.get? a=Ab (PySem.W.kla_obj "<lambda>" L.qual L.params L.body L.scope cl pm c ctv)) (hc:H c=Ab (.frz oc (.frz oc (.own 0)))) (hd:oc.data=.fields ws) (ht:ws[1]? = Ab (.str L.qual t))
  (inj:∀ x y d,cl.lookup x=Ab d->cl.lookup y=Ab d->x=y) (cel:∀ x d,cl.lookup x=Ab d->H d=none/\∃ v,h.IsCell d v) (has:∀ x,L.scope.names.lookup x=Ab .free->∃ d,cl.lookup x=Ab d)
  (len:cv.length=(GM L.scope).length) (val:∀ (j:Ag) x v,(GM L.scope)[j]? = Ab x->cv[j]? = Ab v->∃ d u,cl.lookup x=Ab d/\qG v u/\h.IsCell d (Ab u)) (hn:H a=none) (hf:a ∉ fs):m_ h H fs L a cv
theorem m_.at {X:Cx}{ai:aa}{σ:_L.St}{H:Hp}{s:Ah}{L:r_}{a:Af}{A:Aa V}(C:m_ X.s₀.heap X.H₀ X.fs L a A)(F:oq X)(I:Inv X ai σ H s):m_ s.heap H (jg X.stack) L a A:=by
 obtain⟨y,m,N,c,k,p,t,o,hc,h,l,U,Q,has,G,val,T,E⟩:=C;have J:∀ b,b ∉ X.ex:=λb=>by rw[F.1];simp
 have nf:∀ b o,X.s₀.heap.get? b=Ab o->b ∉ X.fs->b ∉ jg X.stack:=λb o e n z=>(F.mem.mp z).elim (Cu (Bl (Bg e) I.ok.above)) n;have O:∀ d v,X.H₀ d=none->X.s₀.heap.IsCell d v->s.heap.IsCell d v:=λd v Y ⟨o,e,q⟩=>let ⟨_,z⟩:=I.base.any e Y (J d);⟨_,z,q⟩
 refine⟨y,m,N,c,k,p,t,I.base.keep a _ o T E (J a),I.base.frzs _ _ _ hc,h,l,U,λx d e=>?_,has,G,λj x v g w=>?_,I.base.free a _ o T (J a),nf a _ o E⟩
 .obtain⟨Y,v,M⟩:=Q x d e
  obtain⟨ob,r,q⟩:=id M;exact⟨I.base.free d ob r Y (J d),v,O d v Y M⟩
 .obtain⟨d,u,B,i,f⟩:=val j x v g w
  exact⟨d,u,B,i,O d _ (Q x d B).1 f⟩
theorem rq.at {K:Ak}{H Q P:Hp}{α:ae}{a:Af}(e:Q a=H a):∀ {o:MO},rq K H P α a o->rq K Q P α a o
 |.dead,_=>trivial
 |.lst _,⟨vs,q,r⟩=>⟨vs,e.trans q,r⟩
 |.dct _,⟨vs,q,r⟩=>⟨vs,e.trans q,r⟩
 |.dcT _,⟨vs,q,r⟩=>⟨vs,e.trans q,r⟩
 |.ins _ _,⟨Y,vs,q,r⟩=>⟨Y,vs,e.trans q,r⟩
section
variable {X:Cx}{ai:aa}{σ : _L.St}{H P:Hp}{α : Aa Af}{s:Ah}{S:ak}{y:Aw}{c T:Af}
theorem Inv.pinned {a:Af}{o:Cw}{h':Cb}{U:Ag}{Y:Hp}(I:Inv X ai σ Y { s with heap:=h'.push o,toks:=U })(G:a=h'.objs.size)(hs:s.heap.objs.size<=h'.objs.size)(J:Inv X ai σ H s)(N:Y a=none)(O:∀ v,o.data≠.cell v)(Q:o.isFreed=false:=by rfl):Inv X ((a,o)::ai) σ Y { s with heap:=h'.push o,toks:=U }:=by
 refine I.pins_of λp hp=>?_;rcases Bc.mp hp with rfl|hp
 .subst G
  exact⟨Be _ Q,N,Hj (Bl J.lt hs),J.nofs hs,O⟩
 .exact I.pin p (Ca _ hp)
end
structure xi (X:Cx)(L:r_)(a:Af)(cv:Aa V):Prop where
 get:m_ X.s₀.heap X.H₀ X.fs L a cv
section
variable {X:Cx}{cm nx:As}{k kl m n N i:Ag}{x y:Aw}{p ao Aaa:Fn}{e:Bz}{es:Aa Bz}{fA:DA}{fe:DE}{L:r_}{G:Aa D->DF}{a:Af}{cv:Aa V}{g:(Aa D->DF)->Af->Aa V->DS}{Fs:FnL}{bu:Aa Ag}{ii:Vs}{cf:Bz}{aj:Fd}
theorem xi.tr {E:ab}{Q:aa}(h:xi X L a cv):xi (Cx.tryIn X E Q) L a cv:=⟨h.1⟩
end
section
variable {X:Cx}{ai:aa}{σ : _L.St}{H P:Hp}{α : Aa Af}{s:Ah}{S:ak}
def qBU:D->Aa D->ak->ba D:=λa J S=>match a,J with
 |.loc i,[.lst Y]=>fH S i λQ=>if Q.length+Y.length<=bn then .ok .non (S.set i (.lst (Q++Y))) else .bad
 |_,_=>.bad
def bI:D->Aa D->ak->ba D:=λa Y S=>match a,Y with
 |.loc i,[.int k]=>fH S i λQ=>if 0<=k/\k<1000000 then (match Q[k.toNat]? with|some d=>.ok d (S.set i (.lst (Q.eraseIdx k.toNat)))|none=>.bad) else .bad
 |_,_=>.bad
theorem nG {K:Ak}:∀ {ds:Aa D} {vs:Aa V} (k:Ag),qC K P α ds vs->qC K P α (ds.eraseIdx k) (vs.eraseIdx k)
 |[],vs,k,r=>by rw[r.nil_inv];exact .nil
 |d::ds,vs,0,r=>by
  obtain⟨w,Y,rfl,_,Q⟩:=r.cons_inv;exact Q
 |d::ds,vs,k+1,r=>by
  obtain⟨w,Y,rfl,J,Q⟩:=r.cons_inv;exact .cons J (nG k Q)
set_option tactic.hygienic true in
theorem J0:wv X "list.pop" bI:=by
 intro ai σ H s P α S v g vs c a f Q I r j p O G Y;unfold bI at Y
 split at Y
 .rename_i i k
  obtain⟨U,B,Y⟩:=jK Y;obtain⟨m,Y⟩:=vI Y;have N:∃ d,U[k.toNat]? = Ab d/\jj X P α Q d (S.set i (.lst (U.eraseIdx k.toNat))):=by
   cases L:U[k.toNat]? with
   |none=>rw[L] at Y;exact Ar Y
   |some d=>rw[L] at Y;exact⟨d,rfl,Y⟩
  obtain⟨d,o,ok⟩:=N;obtain⟨w,u,rfl,rfl,E,T⟩:=yX G O;cases xG E;simp only[aq] at p;obtain⟨l,rfl,q⟩:=p;obtain⟨J,z,t⟩:=r.at' i l _ q B;obtain⟨y,C,A⟩:=t.get o;have M:=(Ax.mp C).1;refine J6 ai s σ H (.ref l) [.int k] g [u] Q I j (.cons T .nil) ⟨l,J,k,k.toNat,y,rfl,rfl,z,by fin2,by fin2,?_,C,?_⟩
  .unfold Zp
   show (if (0<=(if k<0 then k+(J.length:Aj) else k)&&(if k<0 then k+(J.length:Aj) else k)<(J.length:Aj))=true then Ab (if k<0 then k+(J.length:Aj) else k).toNat else none)=_
   rw[Bh (show ¬ k<0 by fin2),Bi (by simp;fin2)]
  .exact ok _ _ _ _ (r.put (m':=.lst (U.eraseIdx k.toNat)) q B (by intro z;cases z) ⟨J.eraseIdx k.toNat,z9,nG _ t⟩) (qF.refl _) (Bd _) A
 .exact Ar Y
theorem NI:yf X "list.pop" bI:=⟨J0⟩
end
section
variable {X:Cx}
noncomputable def nY:DF:=λQ S=>match Q with
 |[.int a]=>.ok (.int (if a<0 then -a else a)) S
 |_=>.bad
inductive zo (ds:Aa D)(S:ak):Prop
 |bad (e:nY ds S=.bad)
 |int (i:Aj) (e:ds=[.int i])
theorem V3 (ds:Aa D)(S:ak):zo ds S:=by
 match ds with
 |[]=>exact .bad rfl
 |[.int i]=>exact .int i rfl
 |[.non]=>exact .bad rfl
 |[.bl _]=>exact .bad rfl
 |[.str _]=>exact .bad rfl
 |[.ty _]=>exact .bad rfl
 |[.obj _]=>exact .bad rfl
 |[.tup _]=>exact .bad rfl
 |[.lst _]=>exact .bad rfl
 |[.dct0]=>exact .bad rfl
 |[.loc _]=>exact .bad rfl
 |[.exn _]=>exact .bad rfl
 |[.fd _ _]=>exact .bad rfl
 |[.clo _ _ _]=>exact .bad rfl
 |a::_::_=>cases a <;> exact .bad rfl
theorem NZ:wM X (.builtin "abs") nY:=by
 intro C σ H s P α S vs O G Q I r J N Y;cases V3 G S with
 |bad e=>rw[e] at Y;exact Ar Y
 |int i e =>
  subst e;obtain⟨v,u,rfl,rfl,p,q⟩:=yX N J;cases xG p;obtain⟨t,rfl⟩:=q;refine call_abs_int λu U=>?_;exact⟨.int _,H,I.tok U,⟨u,rfl⟩,xr Y r (by simp only[aq])⟩
theorem JC:lj X (Ew .FloorDiv) (rI (λ_ j=>j≠0/\j.natAbs.log2<9000) λi j=>.int (i.fdiv j)):=we λ_ _ _ _ _ _ _ Q q=>floordiv_int Q.1 q (.inl (PyProof.noPylong_of_log2 Q.2))
theorem G9:∃ C:Aj->Aj->As,C=λ_ j=>decide (j≠0/\j.natAbs.log2<9000):=⟨_,rfl⟩
def G8:Aj->Aj->As:=Kw G9
theorem rJ:G8=λ_ j=>decide (j≠0/\j.natAbs.log2<9000):=Jn G9
def gS:G2:=i2 G8 λi j=>.int (i.fdiv j)
theorem FU:fv X (Ew .FloorDiv) gS:=by
 unfold gS;rw[rJ];exact bT JC (λi j h=>Cq h) λP α i j=>by simp only[aq]
theorem OX:fg X (.builtin "abs") nY:=⟨NZ⟩
theorem CG:ip X (Ew .FloorDiv) gS:=⟨FU⟩
end
noncomputable def bU:D->ak->An (Aa D)
 |.lst Q,_=>Ab Q
 |.tup Q,_=>Ab Q
 |.loc n,S=>match S[n]? with
  |some (.lst Q)=>Ab Q
  |_=>none
 |_,_=>none
section
variable {X:Cx}{ai:aa}{σ : _L.St}{H P:Hp}{α : Aa Af}{S:ak}{s:Ah}
theorem aE {K:Type}{is:K->Ad->Prop}{g:K->Aj}{lt':K->K->As}{d:K}{l:K->Prop}(kd:_S.Kind X.prog X.w is g lt' d l s.heap)(ad:_S.sk X.prog X.w is g s.heap)(m:X.calm=true)(hu:X.A.units+64<Ed)(I:Inv X ai σ H s)(r:bf X.K H P α S){a:Af}{am:ag}
  (ha:s.heap.IsList a am.toArray\/s.heap.IsTuple a am.toArray) (ks:Aa K) (hl:ks.length=am.length) (hk:∀ i v,am[i]? = Ab v->is (ks.getD i d) v) (hn:(_S.jl lt' ks).length<=1000) (hf:∀ k∈ks,l k) (cq:K->D)
  (T:∀ k v,is k v->v∈am->∃ z,qG z v/\aq X.K P α (cq k) z) {E:ab} :
  Aq (Au X.prog X.w) X.A (call (.type "set") [.ref a]) (λu b=>Aq (Au X.prog X.w) X.A (call (.builtin "sorted") [u]) (rn X ai σ H P α ((_S.jl lt' ks).map cq)) E b) E s:=by
 have N:am.toArray.size=ks.length:=by rw[Bt,hl]
 have mem:∀ k,k∈_S.jl lt' ks↔k∈ks:=λk=>_S.yH kd.ord k ks;have C:∀ i,i<ks.length->ks.getD i d∈ks:=λi B=>by simp[Ie,B]
 refine _S.Q0 (U:=_S.jl lt' ks) ad (I.ok.hd m) li ha (λi=>ks.getD i d) (λi v hv=>hk i v (by simpa using hv)) li (λi B=>(mem _).mpr (C i (by rw[<- N];exact B))) λo G Z t=>?_
 have seen:∀ k∈_S.vZ (λi=>ks.getD i d) am.toArray.size,k∈ks:=λk Y=>by
  obtain⟨i,B,rfl⟩:=_S.kA.mp Y;exact C i (by rw[<- N];exact B)
 have n:Inv X ai σ H { s with heap:=o,toks:=G }:=I.kept t
 refine _S.ZH (s:={ s with heap:=o,toks:=G }) kd (I.ok.hd m) li t Z (λk Y=>hf k (seen k Y)) (U:=_S.jl lt' ks) li (λk Y=>(mem k).mpr (seen k Y)) λh2 O D c J y f j A hp zb=>?_
 rw[N,KH kd.ord] at A;have z:∀ (J:Aa (K × Ad)),(∀ p∈J,is p.1 p.2/\p.2∈am)->∃ vs,qI vs (J.map (·.2))/\qC X.K P α ((J.map (·.1)).map cq) vs:=by
  intro J
  induction J with
  |nil=>exact λ_=>⟨[],.nil,.nil⟩
  |cons p J ih =>
   intro h;obtain⟨vs,M,w⟩:=ih λq hq=>h q (by simp[hq])
   obtain⟨v,x,b2⟩:=T p.1 p.2 (h p (by simp)).1 (h p (by simp)).2
   exact⟨v::vs,.cons x M,.cons b2 w⟩
 obtain⟨vs,M,w⟩:=z J λp Q=>by simpa using hp p Q
 rw[A] at w;have nd:([(D,HO.lst vs)].map (·.1)).Nodup:=by simp
 have e:Inv X ai σ (kL H [(D,HO.lst vs)]) { s with heap:=h2,toks:=O }:=Inv.laidL (s:={ s with heap:=o,toks:=G }) (L:=[(D,HO.lst vs)]) (t':=O) n y (λp Q=>by
  have:p=(D,HO.lst vs):=by simpa using Q
  subst this;exact f) λp Q=>by
  have:p=(D,HO.lst vs):=by simpa using Q
  subst this;refine⟨?_,J.map (·.2),c,M,j⟩
  have:=M.length;rw[Ao] at this;rw[this,Fq]
  lia
 exact⟨D,vs,rfl,n.hok.fresh f,e,w⟩
set_option tactic.hygienic true in
theorem TK {d:D}{xs:Aa D}{v:V}{Q:Ad}(I:Inv X ai σ H s)(r:bf X.K H P α S)(p:aq X.K P α d v)(q:qG v Q)(h:bU d S=Ab xs) :
  ∃ a vs am,Q=.ref a/\qC X.K P α xs vs/\qI vs am/\(s.heap.IsList a am.toArray\/s.heap.IsTuple a am.toArray)/\xs.length=am.length:=by
 cases d with
 |lst G=>exact cH I r p q h
 |tup G=>exact cH I r p q h
 |loc n =>
  have U:S[n]? = Ab (.lst xs):=by
   have h:(match S[n]? with|some (.lst xs)=>Ab xs|_=>none)=Ab xs:=h
   split at h
   .rename_i e;cases h;exact e
   .cases h
  simp only[aq] at p;obtain⟨a,rfl,J⟩:=p;cases (show Q=Cy a from q)
  obtain⟨vs,z,t⟩:=r.at' n a _ J U;obtain⟨am,Y,p,N⟩:=I.list (ji.of z);exact⟨a,vs,am,rfl,t,Y,.inl p.isList,by rw[t.length,Y.length]⟩
 |_=>cases h
end
def V_ (a:Af)(o:Cw)(vs:Aa (bo × V)):It:=
 ⟨λi H=>(∃ u,H a=Ab (.frz o u))/\i<vs.length,λi H v Q=>∃ T q,v=.ref T/\H T=none/\Q=b_ H T (.tup [kV q.1,q.2])/\vs[i]? = Ab q,λi H=>(∃ u,H a=Ab (.frz o u))/\vs.length<=i⟩
theorem ZJ {P:Bo}{w:Cd}{K:Ak}{gj:Aa Bz}{g:Ag}{gh:Fn}{a it:Af}{o:Cw}{us:Aa (bo × Ad)}{ep:Ag}(p:KV vs us)(U:∀ h:Cb,h.get? a=Ab o->h.DictAt (zT P w) a us ep) :
  kz P w K (.Tuple gj g gh) (V_ a o vs) [it] it (λi h=>∃ ok Y,IsItemIter h it a i us.length ep ok Y) where
 mem:=by simp
 obj:=λi h st b M=>by
  have e:b=it:=by simpa using M
  subst e;obtain⟨ok,Y,e⟩:=st;exact⟨_,e,λv z=>by cases z⟩
 keep:=λi h h' st k=>by
  obtain⟨ok,Y,e⟩:=st;exact⟨ok,Y,k it (by simp) _ e⟩
 item:=by
  intro X T O j Q i ai s σ H E I G st L;subst T O j;obtain⟨⟨u0,A⟩,J⟩:=L;obtain⟨ok,Y,st⟩:=st;have B:s.heap.get? a=Ab o:=(I.hok a _ A).1;obtain⟨u,e1,d⟩:=W7 p (Ap J);refine wpAny_pyNext_items_item st (U _ B) e1 λC h' hk a1 a2 a3 a4=>?_;refine⟨_,rfl,wpAny_letOwnedTupleGo_items (s:={ s with heap:=h' }) a1 λy l m=>?_⟩
  have up:∀ c o,c≠it->h'.get? c=Ab o->y.get? c=Ab o:=λc o n q=>(m.2 c n).trans q;have N:it<s.heap.objs.size:=Bg st;have f:=up _ _ (Hj N) a2;refine⟨.ref s.heap.objs.size,b_ H s.heap.objs.size (.tup [kV (vs[i]).1,(vs[i]).2]),?_,rfl,⟨_,vs[i],rfl,I.hok.fresh (Av _),rfl,Ap J⟩,⟨_,_,l⟩,λc Q=>?_⟩
  .have:=Inv.turnLay (s:=s) (fp:=[it]) (am:=[C,u]) (h':=y) (xs:=[kV (vs[i]).1,(vs[i]).2]) I G (λc o Q q=>by
    have Q:c≠it:=by simpa using Q
    exact up c o Q (a4 c o Q q)) (λc Q=>by
    have:c=it:=by simpa using Q
    subst this;exact⟨_,l⟩) (Av _) (.cons (AO hk) (.cons d .nil)) ⟨_,f,rfl,_,rfl⟩ (by show 2<=sizeLine;decide)
   exact this
  .have hn:=(G c Q).1
   rw[qP ?_]
   .exact hn
   .rintro rfl
    have:s.heap.objs.size=it:=by simpa using Q
    rw[this] at N;exact absurd N (Ep _)
 done:=by
  intro X T O j Q i ai s σ H E I G st L;subst T O j;obtain⟨⟨u0,A⟩,r⟩:=L;obtain⟨ok,Y,st⟩:=st;have B:s.heap.get? a=Ab o:=(I.hok a _ A).1;obtain⟨x,f1,f2,f3,f4,f5⟩:=G it (by simp)
  have hl:=p.length;exact wpAny_pyNext_items_end (I.ok.hd Q) st (U _ B) (by simp;lia) λh' t=>⟨rfl,I.turned (t':=s.toks) (λb o M e=>t b o M e) x f1 f3 f4 f5⟩
 self:=λ_ _ _ _ _ st h=>by
  obtain⟨ok,Y,st⟩:=st;exact PySem.W.kcp_self st h
def lC (kvs:Aa (bo × D)):Aa D:=kvs.map λp=>D.tup [kD p.1,p.2]
def tB (f:DE):DI:=λY S=>(f Y S).bind λd J=>match d with
 |.loc n=>match J[n]? with
  |some (.dct Q)=>.ok (lC Q) (J.set n .dead)
  |_=>.bad
 |_=>.bad
theorem iC {K:Ak}{P:Hp}{α:ae}:∀ {kvs:Aa (bo × D)} {vs:Aa (bo × V)},md K P α kvs vs->∀ {i:Ag} {q:bo × D},kvs[i]? = Ab q->∃ v,vs[i]? = Ab (q.1,v)/\aq K P α q.2 v
 |_,_,.nil,i,q,h=>by simp at h
 |_,_,.cons (a:=x) (b:=y) z t,i,q,h=>by
  cases i with
  |zero =>
   simp at h;subst h;exact⟨y.2,by simp;exact Np z.1.symm rfl,z.2⟩
  |succ i =>
   obtain⟨v,Y,Q⟩:=iC t (i:=i) (q:=q) (by simpa using h)
   exact⟨v,by simpa using Y,Q⟩
theorem W1 {K:Ak}{P:Hp}{α:ae}{a:Af}{o:Cw}{u:HO}{kvs:Aa (bo × D)}(q:P a=Ab (.frz o u))(t:md K P α kvs vs)(I:kvs.length=vs.length):sd K (V_ a o vs) P α (lC kvs) where
 go:=λi H J Y S Q r e _=>⟨⟨u,r.sub _ _ (e _ _ q)⟩,by unfold lC at Q;rw[Ao] at Q;lia⟩
 yld:=λi H x E J Y S Q r e N y=>by
  obtain⟨T,p,rfl,B,rfl,O⟩:=y;unfold lC at Q;rw[Ao] at Q;obtain⟨v,G,C⟩:=iC t (Ap Q);rw[O] at G;cases G;obtain⟨L,U⟩:=r.pure (o:=.tup [kV (kvs[i]).1,v]) B;refine⟨_,.tup [kD (kvs[i]).1,(kvs[i]).2],?_,L,U,?_⟩
  .unfold lC;rw[Du,Ap Q];rfl
  .exact fL (.of z9) (.cons (SJ _) (.cons (aq.mono (e.trans U) N _ _ C) .nil))
 stop:=λi H J Y S Q r e _=>⟨⟨u,r.sub _ _ (e _ _ q)⟩,by unfold lC at Q;rw[Ao] at Q;lia⟩
section
variable {X:Cx}{o:Bz}{fo:DE}{de cu:Fn}{gj:Aa Bz}{x1:Ag}{gh:Fn}
set_option tactic.hygienic true in
theorem VT (ho:PE X o (tD X fo))(G:Kb o "items" X.env (eval o X.env)=eval o X.env:=by rfl)(J:(de.endLine == cu.line)=true:=by rfl):PI X (.Tuple gj x1 gh) (.Call (.Attribute o "items" de) [] [] cu) (qw X (tB fo)):=by
 intro ai s σ H R I h;obtain⟨P,α,zb,S,r,i,af⟩:=h;refine Uk G J (bq (zX ho I r i af) λvv Y ⟨v,H1,P1,w,d,S1,N,Q⟩=>?_);cases d with
 |loc n =>
  simp only at Q
  split at Q
  .rename_i kvs E
   have y:=N.rep;have j:=N.inv;have M:=N.rel;have ht:mh (.loc n) S1=Ab "dict":=YO E;obtain⟨m,h2⟩:=YM j N.val (YN M y ht (by simp))
   simp only[aq] at y;obtain⟨a,rfl,p⟩:=y;cases (show vv=Cy a from N.val)
   obtain⟨vs,z,t⟩:=M.at' n a _ p E;obtain⟨hz,l,O,C,T⟩:=Q5 j.hok z;refine⟨"dict","dict.items",IN,Ul,PySem.F.type_dict_items,m,h2,Lv rfl (Yc ?_)⟩;refine Uh Ul T.typeIs PySem.F.entry_dict_items (PySem.F.args_dict_items_1 _) (meets_dict_items (zT X.prog X.w) a l) ⟨⟨O,T⟩,?_⟩;obtain⟨ep,B,es,U,f⟩:=T.dictAt;have L:∀ h:Cb,h.get? a=Ab B->h.DictAt (zT X.prog X.w) a O ep:=λh e=>⟨B,es,e,f⟩;obtain⟨r2,k⟩:=M.still (o:=.frz B (.dK vs)) p E (by intro q;cases q)
   have c:Inv X ai σ (b_ H1 a (.frz B (.dK vs))) { Y with heap:=Y.heap,toks:=Y.toks }:=j.write (x:=a) (e:=a) (by rw[z];exact Jd) (.inl rfl) (λb q g e=>e) ⟨B,U⟩ ⟨U,hz,l,O,C,T⟩
   have A:=c.kept (t':=Y.toks) (h':=Y.heap.push { cls:=.type "dict_items",data:=.fields #[.ref a] }) λb u e=>Ai _ e;refine wpAny_pyIter_items (s:={ Y with heap:=Y.heap.push { cls:=.type "dict_items",data:=.fields #[.ref a] } }) (knd:=zT X.prog X.w) (d:=a) (kvs:=O) (ep:=ep) ⟨_,Be _ rfl,rfl,rfl⟩ (L _ (Ai _ U)) ?_
   have I4:=A.kept (t':=Y.toks) (h':=(Y.heap.push { cls:=.type "dict_items",data:=.fields #[.ref a] }).push { cls:=.type "dict_itemiterator",data:=.fields #[.none,.bool false,.ref a,.int 0 0,.int O.length 0,.int ep 0,.none,.none] }) λb u e=>Ai _ e;refine⟨_,[_],_,_,_,rfl,I4,ZJ C L,⟨_,_,Be _ rfl⟩,λb g=>?_,Q _ _ _ w r2 (N.same.trans k) N.pre (W1 (u:=.dK vs) z9 (md.mono k (Bd _) t) (by have:=iF t;have:=this.length;simpa using this))⟩
   have e:b=(Y.heap.push { cls:=.type "dict_items",data:=.fields #[.ref a] }).objs.size:=by simpa using g
   subst e;exact A.fpOk (Av _) (A.hok.fresh (Av _))
  .exact Ar Q
 |_=>exact Ar Q
theorem JR (J:QE X o fo)(Y:Kb o "items" X.env (eval o X.env)=eval o X.env:=by rfl)(Q:(de.endLine == cu.line)=true:=by rfl):QI X (.Tuple gj x1 gh) (.Call (.Attribute o "items" de) [] [] cu) (tB fo):=⟨VT J.1 Y Q⟩
noncomputable def kZ:G2:=λa b S=>match a,b with
 |.bl x,.bl y=>.ok (.bl (x != y)) S
 |_,_=>.bad
theorem WT:fv X (Ci .IsNot) kZ:=by
 intro O σ H s P α S v u B N a b Q I r C G J U Y;cases a with
 |bl x =>
  cases b with
  |bl y =>
   simp only[aq] at J U;subst J U;cases (show B=Hm x from C)
   cases (show N=Hm y from G)
   have h:EP X O σ Q (.bool (x != y)) s:=⟨.bl _,H,I,rfl,xr Y r (by simp only[aq])⟩
   cases x <;> cases y <;> exact Am h
  |_=>exact Ar Y
 |_=>exact Ar Y
theorem KQ:ip X (Ci .IsNot) kZ:=⟨WT⟩
end
end _D
section
namespace _D
open _L
mutual
def qZ:D->Aa Aj
 |.int n=>[1,n]
 |.tup Q=>2::zA Q
 |_=>[]
def zA:Aa D->Aa Aj
 |[]=>[0]
 |x::Q=>qZ x++zA Q
end
mutual
def wX:D->D->As
 |.int _,.int _=>true
 |.tup Q,.tup Y=>yE Q Y
 |_,_=>false
def yE:Aa D->Aa D->As
 |x::Q,y::Y=>wX x y&&yE Q Y
 |_,_=>true
end
def ltN (a b:D):As:=_H.lexLt (qZ a) (qZ b)
noncomputable def qo:Ag->D->As
 |_,.int _=>true
 |n+1,.tup Q=>Q.all (qo n)
 |_,_=>false
inductive Tr:Ag->D->Prop
 |int (n:Ag) (i:Aj):Tr n (.int i)
 |tup (n:Ag) (xs:Aa D) (h:∀ x∈xs,Tr n x):Tr (n+1) (.tup xs)
theorem OO:∀ {n:Ag} {d:D},qo n d=true->Tr n d:=by
 intro n
 induction n with
 |zero=>intro d h;cases d <;> first|exact .int _ _|exact Dn h
 |succ n J =>
  intro d h;cases d with
  |int i=>exact .int _ i
  |tup Q=>exact .tup n Q λx Y=>J (Bb.mp (show Q.all (qo n)=true from h) x Y)
  |_=>exact Dn h
theorem vA {n:Ag}{d:D}(h:Tr n d):∃ k r,qZ d=k::r/\0<k:=by
 cases h with
 |int _ i=>exact⟨1,[i],rfl,by decide⟩
 |tup n Q=>exact⟨2,zA Q,rfl,by decide⟩
theorem x9 (x:D)(xs:Aa D):zA (x::xs)=qZ x++zA xs:=rfl
theorem dU:∀ {xs Q:Aa D} {n m:Ag},(∀ x∈xs,Tr n x)->(∀ y∈Q,Tr m y)->(∀ x∈xs,∀ y∈Q,wX x y=true->∀ r Y:Aa Aj,_H.lexLt (qZ x++r) (qZ y++Y)=if e_ x y=true then _H.lexLt r Y else ltN x y)->yE xs Q=true ->
  ∀ r Y:Aa Aj,_H.lexLt (zA xs++r) (zA Q++Y)=if zE xs Q=true then _H.lexLt r Y else _H.lexLt (zA xs) (zA Q)
 |[],[],_,_,_,_,_,_,r,Y=>rfl
 |[],y::Q,_,_,_,N,_,_,r,Y=>by
  obtain⟨k,t,e,p⟩:=vA (N y (by simp))
  rw[Bh (by intro z;cases z),x9,e]
  show _H.lexLt (0::r) (k::_)=_H.lexLt [0] (k::_);rw[_H.aw,_H.aw,Bh om,Bh om]
 |x::xs,[],_,_,G,_,_,_,r,Y=>by
  obtain⟨k,t,e,p⟩:=vA (G x (by simp))
  rw[Bh (by intro z;cases z),x9,e]
  show _H.lexLt (k::_) (0::Y)=_H.lexLt (k::_) [0];rw[_H.aw,_H.aw,Bh om,Bh om]
 |x::xs,y::Q,_,_,G,N,O,B,r,Y=>by
  have J:(wX x y&&yE xs Q)=true:=B;rw[Az] at J;have L:=dU (λz U=>G z (by simp[U])) (λz U=>N z (by simp[U])) (λz U T C=>O z (by simp[U]) T (by simp[C])) J.2
  rw[x9,x9,Cc,Cc,O x (by simp) y (by simp) J.1,O x (by simp) y (by simp) J.1,L,jX]
  cases e_ x y <;> cases zE xs Q <;> simp
theorem UW {n:Ag}{a:D}(L:Tr n a):∀ {m:Ag} {b:D},Tr m b->wX a b=true->∀ r Q:Aa Aj,_H.lexLt (qZ a++r) (qZ b++Q)=if e_ a b=true then _H.lexLt r Q else ltN a b:=by
 induction L with
 |int n i =>
  intro m b C J r Q;cases C with
  |int _ j =>
   show _H.lexLt (1::i::r) (1::j::Q)=if (i == j)=true then _ else _H.lexLt [1,i] [1,j]
   simp only[_H.aw,Dp,Rf]
   split <;> rfl
  |tup _ Y=>exact Dn J
 |tup n N T E =>
  intro m b C J r Q;cases C with
  |int _ j=>exact Dn J
  |tup m Y B =>
   have h:=dU T B (λx G y O U=>E x G (B y O) U) J r Q;show _H.lexLt (2::(zA N++r)) (2::(zA Y++Q))=if zE N Y=true then _ else _H.lexLt (2::zA N) (2::zA Y)
   rw[_H.aw,_H.aw,Bi rfl,Bi rfl,h]
theorem fG {xs Q:Aa D}:ltN (.tup xs) (.tup Q)=_H.lexLt (zA xs) (zA Q):=by
 show _H.lexLt (2::_) (2::_)=_;rw[_H.aw,Bi rfl]
theorem uD {n m:Ag}{x y:D}{xs Q:Aa D}(U:Tr n x)(Y:Tr m y)(J:wX x y=true):_H.lexLt (zA (x::xs)) (zA (y::Q))=if e_ x y=true then _H.lexLt (zA xs) (zA Q) else ltN x y:=UW U Y J _ _
set_option tactic.hygienic true in
theorem fF (i j:Aj):ltN (.int i) (.int j)=decide (i<j):=by
 show _H.lexLt [1,i] [1,j]=_;rw[_H.aw,Bi rfl,_H.aw]
 split
 .rename_i h;subst h;simp[_H.fr]
 .rfl
theorem dE:∀ {xs Y:Aa D} {n m:Ag},(∀ x∈xs,Tr n x)->(∀ y∈Y,Tr m y)->(∀ x∈xs,∀ y∈Y,∀ r Q:Aa Aj,qZ x++r=qZ y++Q->x=y/\r=Q)->∀ r Q:Aa Aj,zA xs++r=zA Y++Q->xs=Y/\r=Q
 |[],[],_,_,_,_,_,r,Q,e=>⟨rfl,by injection e⟩
 |[],y::Y,_,_,_,N,_,r,Q,e=>by
  obtain⟨k,t,C,p⟩:=vA (N y (by simp))
  rw[x9,C] at e;injection e with O U
  fin2
 |x::xs,[],_,_,G,_,_,r,Q,e=>by
  obtain⟨k,t,C,p⟩:=vA (G x (by simp))
  rw[x9,C] at e;injection e with O U
  fin2
 |x::xs,y::Y,_,_,G,N,B,r,Q,e=>by
  rw[x9,x9,Cc,Cc] at e;obtain⟨O,U⟩:=B x (by simp) y (by simp) _ _ e
  obtain⟨T,I⟩:=dE (λz J=>G z (by simp[J])) (λz J=>N z (by simp[J])) (λz J E L=>B z (by simp[J]) E (by simp[L])) _ _ U
  exact⟨by rw[O,T],I⟩
theorem X3 {n:Ag}{a:D}(C:Tr n a):∀ {m:Ag} {b:D},Tr m b->∀ r Q:Aa Aj,qZ a++r=qZ b++Q->a=b/\r=Q:=by
 induction C with
 |int n i =>
  intro m b N r Q e;cases N with
  |int _ j=>injection e with _ e;injection e with J Y;exact⟨by rw[J],Y⟩
  |tup _ B=>injection e with e _;cases e
 |tup n E L T =>
  intro m b N r Q e;cases N with
  |int _ j=>injection e with e _;cases e
  |tup m B O =>
   injection e with _ e
   obtain⟨J,Y⟩:=dE L O (λx U y G=>T x U (O y G)) r Q e;exact⟨by rw[J],Y⟩
theorem gM {n m:Ag}{a b:D}(Q:Tr n a)(Y:Tr m b)(e:qZ a=qZ b):a=b:=(X3 Q Y [] [] (by rw[e])).1
theorem XQ {n:Ag}{a:D}(J:Tr n a):e_ a a=true:=by
 induction J with
 |int n i=>show (i == i)=true;simp
 |tup n Q _ U =>
  show zE Q Q=true;rw[y8];simp only[Ue,BEq.rfl,Ka,Bb,Ee];intro j Y;exact U _ (by simp[Ie,Y])
theorem gL:∀ {xs Q:Aa D},yE xs Q=true->∀ {j:Ag} {x y:D},xs[j]? = Ab x->Q[j]? = Ab y->wX x y=true
 |[],_,_,j,x,y,e,_=>by simp at e
 |_::_,[],_,j,x,y,_,e=>by simp at e
 |a::xs,b::Q,h,j,x,y,J,U=>by
  have Y:(wX a b&&yE xs Q)=true:=h;rw[Az] at Y;cases j with
  |zero=>cases J;cases U;exact Y.1
  |succ j=>exact gL Y.2 (j:=j) (by simpa using J) (by simpa using U)
theorem SW {a b c:D}(h1:ltN a b=false)(h2:ltN b c=false):ltN a c=false:=by
 cases h:ltN a c with
 |false=>rfl
 |true =>
  rcases _S.zW.tri h2 with e|e
  .exact absurd (show ltN a b=true by unfold ltN at *;rw[e];exact h) (by rw[h1];simp)
  .exact absurd (show ltN a b=true from _S.zW.tr h e) (by rw[h1];simp)
def pG (xs:Aa D):Aa D:=_S.jQ ltN xs
theorem bV (xs:Aa D):(pG xs).Perm xs:=_S.zY xs
theorem sF (xs:Aa D):(pG xs).map qZ=_S.jQ _H.lexLt (xs.map qZ):=by
 refine _S.uW _S.zW ?_ (_S.vD _S.zW _) (((bV xs).map qZ).trans (_S.zY _).symm);unfold _S.Nf;rw[Cs];have:=Ui (le:=λa b=>!ltN b a) (λa b c Y J=>?_) (λa b=>?_) xs
 .exact this.imp λ{a b} h=>show ltN b a=false by simpa using h
 .simp only[Pi] at *
  exact SW J Y
 .cases h:ltN b a with
  |false=>simp
  |true =>
   cases Q:ltN a b with
   |false=>simp[Q]
   |true=>exact absurd (_S.zW.tr h Q) (by rw[_S.zW.irr];simp)
theorem FM {xs Q:Aa D}(h:∀ x∈xs,∀ y∈Q,qZ x=qZ y->x=y)(e:xs.map qZ=Q.map qZ):xs=Q:=by
 induction xs generalizing Q with
 |nil=>cases Q with
  |nil=>rfl
  |cons y Q=>cases e
 |cons x xs N =>
  cases Q with
  |nil=>cases e
  |cons y Q =>
   injection e with U G
   rw[h x (by simp) y (by simp) U,N (λa Y b J=>h a (by simp[Y]) b (by simp[J])) G]
theorem o8 {n:Ag}{xs Q:Aa D}(h:∀ x∈xs,Tr n x)(p:Q.Perm xs)(s:Q.Pairwise λa b=>ltN b a=false):pG xs=Q:=by
 refine FM (λa Y b J=>gM (h a ((bV xs).mem_iff.mp Y)) (h b (p.mem_iff.mp J))) ?_;rw[sF];refine _S.uW _S.zW (_S.vD _S.zW _) ?_ ((_S.zY _).trans (p.map qZ).symm);unfold _S.Nf;rw[Cs];exact s
end _D
end
namespace _D
open _L PySem.SeqAt
variable {xs:Aa D}{n:Ag}{A:Bu}{h:Cb}
def oN (A:Bu)(s:Ah)(u v:Ad)(c:As):Prop:=∀ (Y:Bo) (w:Cd) (E:ab) (Q:ab),Q (.bool c) s->Aq (Au Y w) A (wE .Lt u v) Q E s
inductive lz (A:Bu)(s:Ah):Aa Ad->Aa Ad->As->Prop
 |nn:lz A s [] [] false
 |nc (v:Ad) (vs:ag):lz A s [] (v::vs) true
 |cn (u:Ad) (us:ag):lz A s (u::us) [] false
 |eq (u v:Ad) (us vs:ag) (b:As) (he:EqAt A s u v true) (h:lz A s us vs b):lz A s (u::us) (v::vs) b
 |ne (u v:Ad) (us vs:ag) (b:As) (he:EqAt A s u v false) (h:oN A s u v b):lz A s (u::us) (v::vs) b
section
open PySem.SeqAt
open PySem.AutoSeq1 (wpAny_loadPart')
open PySem.MeetsSeq PySem.MeetsSeq2 PySem.MeetsSeq3
theorem ZI (l b:Af)(items Q:Ay Ad)(n f:Ag)(c z:An Af)(sl k:Ay (An Ad))(r:As) :
  Meets (Hr.«tuple.__lt__» ⟨[.ref l,.ref b],[]⟩)
   (λA R s=>s.heap.get? l=Ab { cls:=.type "tuple",dict:=c,data:=.seq items n,slots:=sl } /\ s.heap.get? b=Ab { cls:=.type "tuple",dict:=z,data:=.seq Q f,slots:=k } /\
    lz A.in1 s items.toList Q.toList r/\R (.ok (.ret (.bool r))) s):=
 .of_wp λN w A R s h=>by
  obtain⟨o,g,d,p,os⟩:=s;obtain⟨m,t,I,h⟩:=h;have i:=Oc
  wp_walk using wpAny_loadPart' m,wpAny_loadPart' t,HT _ (λq b H=>b.1=none/\H=⟨o,g,d,p,os⟩/\∃ (J G:ag),q=J.zip G/\lz A.in1 ⟨o,g,d,p,os⟩ J G r/\J.length+Q.size=G.length+items.size) _
  case turn =>
   rintro⟨y,x⟩ q b H ⟨B,rfl,J,G,O,L,Y⟩;cases L with
   |nn=>cases O
   |nc v G=>cases O
   |cn u J=>cases O
   |eq u v J G _ E T =>
    rw[Im] at O;injection O with C U
    injection C with M I
    subst M I;refine Ac (E N w _ _ ?_)
    wp_walk
    exact⟨rfl,rfl,_,_,U,T,by simp only[Bv] at Y;lia⟩
   |ne u v J G _ E T =>
    rw[Im] at O;injection O with C U
    injection C with M I
    subst M I;refine Ac (E N w _ _ ?_);have j:=T N w
    wp_walk using j
    exact⟨_,rfl,by simpa using h⟩
  case fin =>
   rintro⟨a,e⟩ H ⟨B,rfl,J,G,O,L,Y⟩;simp only at B;subst B;have hv:r=decide (items.size<Q.size):=by
    cases L with
    |nn=>simp only[Eh] at Y;exact(Co li).symm
    |nc v G=>simp only[Eh,Bv] at Y;exact(Bm li).symm
    |cn u J=>simp only[Eh,Bv] at Y;exact(Co li).symm
    |eq u v J G _ E T=>cases O
    |ne u v J G _ E T=>cases O
   rw[hv] at h
   wp_walk
   exact⟨_,rfl,by simpa [Kt] using h⟩
  case h =>
   exact⟨rfl,rfl,items.toList,Q.toList,rfl,I,by simp;lia⟩
end
theorem UZ {s:Ah}{l b:Af}{items Y:Ay Ad}{r:As}(k:s.heap.IsTuple l items)(y:s.heap.IsTuple b Y)(j:A.units<Ed)(h:lz A.in1 s items.toList Y.toList r):oN A s (.ref l) (.ref b) r:=by
 intro I w E Q H;obtain⟨⟨cls,M,data,sl⟩,B,T,n,L⟩:=id k;obtain⟨⟨C,N,data2,O⟩,U,J,z,G⟩:=id y;simp only at T L J G;subst T L J G;exact Pk (op:=.Lt) ⟨_,B,rfl⟩ ⟨_,U,rfl⟩ Vu Uw (Ud _ _) (ZI l b items Y n z M N sl O r)
  ⟨B,U,h,show Hm r≠Qo/\Q (.bool r) s from⟨(λx=>nomatch x),H⟩⟩ j
inductive gf (h:Cb):Ag->D->Ad->Prop
 |int (n:Ag) (i:Aj) (t:Vq):gf h n (.int i) (.int i t)
 |tup (n:Ag) (a:Af) (xs:Aa D) (its:ag) (ht:h.IsTuple a its.toArray) (hl:xs.length=its.length) (hs:∀ (j:Ag) (x:D) (v:Ad),xs[j]? = Ab x->its[j]? = Ab v->gf h n x v):gf h (n+1) (.tup xs) (.ref a)
theorem gf.tr {d:D}{v:Ad}(t:gf h n d v):Tr n d:=by
 induction t with
 |int n i t=>exact .int n i
 |tup n a xs U G N hs Y =>
  refine .tup n xs λx J=>?_;obtain⟨j,Q,e⟩:=Cp.mp J;exact Y j x (U[j]' li) (by rw[Ap Q,e]) (Ap li)
theorem gf.sup {h':Cb}(S:_S.my h h'){n:Ag}{d:D}{v:Ad}(t:gf h n d v):gf h' n d v:=by
 induction t with
 |int n i t=>exact .int n i t
 |tup n a xs G J U hs Q =>
  obtain⟨o,Y,r⟩:=J;exact .tup n a xs G ⟨o,S _ _ Y,r⟩ U Q
theorem gf.det {d:D}{v:Ad}(t:gf h n d v):∀ {m:Ag} {d':D},gf h m d' v->d=d':=by
 induction t with
 |int n i t=>intro m d' U;cases U with|int _ _ _=>rfl
 |tup n a xs G B I hs E =>
  intro m d' U;cases U with
  |tup m _ T Q Y C J =>
   have e:=lB B Y;have L:G=Q:=by simpa using congrArg Yw e
   subst L;have:xs=T:=Mv li λj N O=>E j _ (G[j]' li) (Ap N) (Ap li) (J j _ _ (Ap O) (Ap li));rw[this]
theorem gf.eq {s:Ah}{a:D}{u:Ad}(t:gf s.heap n a u):∀ {m:Ag} {b:D} {v:Ad} {A:Bu},gf s.heap m b v->wX a b=true->A.units+n<Ed->EqAt A s u v (e_ a b):=by
 induction t with
 |int n i t =>
  intro m b v A Y C q;cases Y with
  |int _ j Y=>exact EqAt.int_int i t j Y
  |tup _ _ _ _ _ _ _=>exact Dn C
 |tup n a xs N B E hs y =>
  intro m b v A Y C q;cases Y with
  |int _ j Y=>exact Dn C
  |tup m b O Q U J G =>
   refine(GG li B U E J (λj M z=>?_) λe=>?_).eq
   .have T:j<N.length:=by simpa using M
    have L:j<Q.length:=by simpa using z
    have H:xs[j]? = Ab (xs.getD j .non):=by simp[Ie,show j<xs.length by lia]
    have I:O[j]? = Ab (O.getD j .non):=by simp[Ie,show j<O.length by lia]
    have k:N[j]? = Ab N.toArray[j]:=by simp[T]
    have w:Q[j]? = Ab Q.toArray[j]:=by simp[L]
    exact y j _ _ H k (G j _ _ I w) (gL C H I) (by show A.units+1+n<Ed;lia)
   .subst e
    have:=gf.det (.tup n a xs N B E hs) (.tup m a O Q U J G);injection this with this
    subst this;exact XQ (gf.tr (.tup n a xs N B E hs))
theorem iH {s:Ah}:∀ {xs Q:Aa D} {us vs:ag} {n m:Ag},xs.length=us.length->Q.length=vs.length->(∀ x∈xs,Tr n x)->(∀ y∈Q,Tr m y)->yE xs Q=true ->
  (∀ (j:Ag) (x y:D) (u v:Ad),xs[j]? = Ab x->Q[j]? = Ab y->us[j]? = Ab u->vs[j]? = Ab v->EqAt A s u v (e_ x y)/\oN A s u v (ltN x y))->lz A s us vs (_H.lexLt (zA xs) (zA Q))
 |[],[],[],[],_,_,_,_,_,_,_,_=>.nn
 |[],y::Q,[],v::vs,_,_,_,_,_,G,_,_=>by
  obtain⟨k,t,e,p⟩:=vA (G y (by simp))
  have:_H.lexLt (zA []) (zA (y::Q))=true:=by
   rw[x9,e];show _H.lexLt [0] (k::_)=_;rw[_H.aw,Bh li];exact Bm p
  rw[this];exact .nc v vs
 |x::xs,[],u::us,[],_,_,_,_,O,_,_,_=>by
  obtain⟨k,t,e,p⟩:=vA (O x (by simp))
  have:_H.lexLt (zA (x::xs)) (zA []) = false:=by
   rw[x9,e];show _H.lexLt (k::_) [0]=_;rw[_H.aw,Bh li];exact Co li
  rw[this];exact .cn u us
 |x::xs,y::Q,u::us,v::vs,_,_,J,U,O,G,I,h=>by
  have Y:(wX x y&&yE xs Q)=true:=I;rw[Az] at Y;obtain⟨N,H⟩:=h 0 x y u v rfl rfl rfl rfl;rw[uD (O x (by simp)) (G y (by simp)) Y.1]
  cases B:e_ x y with
  |true =>
   rw[B] at N;exact .eq u v us vs _ N (iH (by simpa using J) (by simpa using U) (λz C=>O z (by simp[C])) (λz C=>G z (by simp[C])) Y.2 λj a b c d T M E L=>h (j+1) a b c d (by simpa using T) (by simpa using M) (by simpa using E) (by simpa using L))
  |false =>
   rw[B] at N;exact .ne u v us vs _ N H
 |[],_,_::_,_,_,_,J,_,_,_,_,_=>by simp at J
 |_::_,_,[],_,_,_,J,_,_,_,_,_=>by simp at J
 |_,[],_,_::_,_,_,_,U,_,_,_,_=>by simp at U
 |_,_::_,_,[],_,_,_,U,_,_,_,_=>by simp at U
theorem gf.lt {s:Ah}{a:D}{u:Ad}(t:gf s.heap n a u):∀ {m:Ag} {b:D} {v:Ad} {A:Bu},gf s.heap m b v->wX a b=true->A.units+n<Ed->oN A s u v (ltN a b):=by
 induction t with
 |int n i t =>
  intro m b v A G U d;cases G with
  |int _ j G =>
   intro L w E Q k;rw[fF] at k;exact(Xq k:Aq (Au L w) A (Ci .Lt (.int i t) (.int j G)) Q E s)
  |tup _ _ _ _ _ _ _=>exact Dn U
 |tup n a xs p q o hs g =>
  intro m b v A G U d;cases G with
  |int _ j G=>exact Dn U
  |tup m b c Y C O J =>
   have z:=gf.tr (.tup n a xs p q o hs);have M:=gf.tr (.tup m b c Y C O J);cases z with
   |tup _ _ z =>
    cases M with
    |tup _ _ M =>
     refine UZ q C li ?_;rw[fG];refine iH (by simpa using o) (by simpa using O) z M U λj x y u v H I l f=>?_
     have T:A.in1.units+n<Ed:=by show A.units+1+n<Ed;lia
     have B:p[j]? = Ab u:=by simpa using l
     have N:Y[j]? = Ab v:=by simpa using f
     exact⟨(hs j x u H B).eq (J j y v I N) (gL U H I) T,g j x u H B (J j y v I N) (gL U H I) T⟩
section
variable {X:Cx}{ai:aa}{σ : _L.St}{H P:Hp}{α : Aa Af}{S:ak}{s:Ah}
theorem YJ (I:Inv X ai σ H s)(r:bf X.K H P α S):∀ (n:Ag) {d:D} {v:V} {u:Ad},qo n d=true->aq X.K P α d v->qG v u->gf s.heap n d u:=by
 intro n
 induction n with
 |zero =>
  intro d v u h p q;cases d with
  |int i=>simp only[aq] at p;subst p;obtain⟨t,rfl⟩:=q;exact .int _ i t
  |_=>exact Dn h
 |succ n T =>
  intro d v u h p q;cases d with
  |int i=>simp only[aq] at p;subst p;obtain⟨t,rfl⟩:=q;exact .int _ i t
  |tup xs =>
   obtain⟨a,M,G,rfl,k,J,Q,N,E,_⟩:=jT I r p;cases (show u=Cy a from q)
   have o:=J.length;have l:=Q.length;refine .tup n a xs G N li λj x w Y U=>?_;obtain⟨y,B,O⟩:=J.get Y;obtain⟨z,C,L⟩:=Q.get B;cases C.symm.trans U;exact T (Bb.mp (show xs.all (qo n)=true from h) x (Cj Y)) O L
  |_=>exact Dn h
end
def neT:D->As
 |.tup (_::_)=>true
 |_=>false
def n_ (xs:Aa D):As:=xs.all λa=>neT a&&qo 6 a&&xs.all λb=>wX a b
theorem yO (h:n_ xs=true){x:D}(Y:x∈xs):neT x=true/\Tr 6 x/\∀ y∈xs,wX x y=true:=by
 have:=Bb.mp h x Y;simp only[Az] at this;exact⟨this.1.1,OO this.1.2,λy Q=>Bb.mp this.2 y Q⟩
noncomputable def qm:D->Ad
 |.tup (.int _::_)=>.type "int"
 |_=>.type "tuple"
def K_ (h:Cb)(k:Aa Aj)(v:Ad):Prop:=∃ d,gf h 6 d v/\qZ d=k
section
open PySem.W
variable {prog:Bo}{w:Cd}{h0:Cb}
theorem eR {s:Ah}{b:As}{Q:As->Ah->Prop}:∀ {xs J:Aa D} {us vs:ag} {n m i N M:Ag},xs.length=us.length->J.length=vs.length ->
  (∀ (j:Ag) (x:D) (u:Ad),xs[j]? = Ab x->us[j]? = Ab u->gf s.heap n x u)->(∀ (j:Ag) (x:D) (u:Ad),J[j]? = Ab x->vs[j]? = Ab u->gf s.heap m x u)->yE xs J=true->A.units+n<Ed->((b&&i == 0)=true->∀ x,xs[0]? = Ab x->∃ j,x=.int j) ->
  N+vs.length=M+us.length->Q (_H.lexLt (zA xs) (zA J)) s->KatLex prog w A b (decide (N<M)) Q (us.zip vs) i s
 |[],[],[],[],_,_,_,N,M,_,_,_,_,_,_,_,U,h=>by
  have:decide (N<M)=false:=Co (by simp at U;lia)
  rw[this];exact h
 |[],y::J,[],v::vs,_,_,_,N,M,_,_,_,B,_,_,_,U,h=>by
  have:decide (N<M)=true:=Bm (by simp at U;lia)
  rw[this];obtain⟨k,t,e,p⟩:=vA (B 0 y v rfl rfl).tr;rw[x9,e] at h;have q:_H.lexLt (zA []) (k::t++zA J)=true:=by
   show _H.lexLt [0] (k::_)=_;rw[_H.aw,Bh li];exact Bm p
  rw[q] at h;exact h
 |x::xs,[],u::us,[],_,_,_,N,M,_,_,T,_,_,_,_,U,h=>by
  have:decide (N<M)=false:=Co (by simp at U;lia)
  rw[this];obtain⟨k,t,e,p⟩:=vA (T 0 x u rfl rfl).tr;rw[x9,e] at h;have q:_H.lexLt (k::t++zA xs) (zA []) = false:=by
   show _H.lexLt (k::_) [0]=_;rw[_H.aw,Bh li];exact Co li
  rw[q] at h;exact h
 |x::xs,y::J,u::us,v::vs,n,m,i,N,M,G,O,T,B,o,I,g,U,h=>by
  have Y:(wX x y&&yE xs J)=true:=o;rw[Az] at Y;have L:=T 0 x u rfl rfl;have C:=B 0 y v rfl rfl;rw[uD L.tr C.tr Y.1] at h;rw[Im];refine kat_cons (L.eq C Y.1 I prog w _ _ ?_);refine kat_go (λe=>kat_yes ?_) λe=>kat_no ?_
  .rw[Bi e] at h
   refine eR (n:=n) (m:=m) (by simpa using G) (by simpa using O) (λj a b E H=>T (j+1) a b (by simpa using E) (by simpa using H)) (λj a b E H=>B (j+1) a b (by simpa using E) (by simpa using H)) Y.2 I (λz=>?_) (by simp at U;lia) h
   simp at z
  .rw[Bh (by rw[e];simp)] at h
   cases l:b&&i == 0 with
   |true =>
    obtain⟨j,rfl⟩:=g l x rfl;cases L with
    |int _ _ t =>
     cases C with
     |int _ k c =>
      rw[fF] at h;exact oneLt_int h
     |tup _ _ _ _ _ _ _=>exact Dn Y.1
   |false=>exact kat_one _ _ (L.lt C Y.1 I prog w _ _ h)
 |[],_,_::_,_,_,_,_,_,_,G,_,_,_,_,_,_,_,_=>by simp at G
 |_::_,_,[],_,_,_,_,_,_,G,_,_,_,_,_,_,_,_=>by simp at G
 |_,[],_,_::_,_,_,_,_,_,_,O,_,_,_,_,_,_,_=>by simp at O
 |_,_::_,_,[],_,_,_,_,_,_,O,_,_,_,_,_,_,_=>by simp at O
theorem N5 {Q:Aa D}(N:wX (.tup xs) (.tup Q)=true)(h1:xs≠[])(h2:Q≠[]){n m:Ag}(J:Tr n (.tup xs))(t2:Tr m (.tup Q)):qm (.tup xs)=qm (.tup Q):=by
 cases xs with
 |nil=>exact absurd rfl h1
 |cons x xs =>
  cases Q with
  |nil=>exact absurd rfl h2
  |cons y Q =>
   have Y:(wX x y&&yE xs Q)=true:=N;rw[Az] at Y;cases J with
   |tup _ _ J =>
    cases t2 with
    |tup _ _ t2 =>
     have G:=J x (by simp)
     have U:=t2 y (by simp)
     cases G with
     |int _ i=>cases U with
      |int _ j=>rfl
      |tup _ _ _=>exact Dn Y.1
     |tup _ _ _=>cases U with
      |int _ j=>exact Dn Y.1
      |tup _ _ _=>rfl
theorem PQ {M:Pw}{T:Ad}:∀ {vs:ag},(∀ v∈vs,∃ d,gf h 6 d v/\neT d=true/\qm d=T)->∃ Q,KatTups h vs Q/\Q.length=vs.length/\∀ f∈Q,Looks M h (typeOf f) T
 |[],_=>⟨[],trivial,rfl,λf I=>by simp at I⟩
 |v::vs,hv=>by
  obtain⟨Q,L,E,B⟩:=PQ (M:=M) (vs:=vs) λu z=>hv u (by simp[z])
  obtain⟨d,t,O,G⟩:=hv v (by simp)
  cases t with
  |int _ _ _=>cases O
  |tup n a xs N p j hs =>
   cases xs with
   |nil=>cases O
   |cons x xs =>
    cases N with
    |nil=>simp at j
    |cons f N =>
     obtain⟨o,l,H,k,c⟩:=p;refine⟨f::Q,KatTups.cons l H c rfl L,by simp[E],λg hg=>?_⟩
     rcases Bc.mp hg with rfl|hg
     .have q:=hs 0 x g rfl rfl
      cases q with
      |int _ i m =>
       rw[<- G];exact Looks.of_pure rfl
      |tup _ b r C U _ _ =>
       obtain⟨y,J,Y,_⟩:=U;rw[<- G,show qm (.tup (.tup r::xs))=y.cls from Y.symm]
       exact(Looks.ld J).andThen .now
     .exact B g hg
theorem X2 (ok:n_ xs=true){vs:ag}{ks:Aa (Aa Aj)}(hl:vs.length=ks.length)(hv:∀ i v,vs[i]? = Ab v->K_ h0 (ks.getD i []) v)(hf:∀ k∈ks,∃ x∈xs,qZ x=k)(h2:2<=vs.length):_S.vp prog w h0 vs (_S.rE _H.lexLt ks []):=by
 have Y:∀ i (J:i<vs.length),∃ d,d∈xs/\gf h0 6 d (vs.getD i Dd)/\qZ d=ks.getD i []:=λi J=>by
  obtain⟨d,t,e⟩:=hv i vs[i] (Ap J);obtain⟨x,N,e2⟩:=hf (ks.getD i []) (by simp[Ie,show i<ks.length by lia])
  have:=gM t.tr (yO ok N).2.1 (e.trans e2.symm);subst this;exact⟨d,N,by simpa [Ie,J] using t,e⟩
 obtain⟨G,U,_,_⟩:=Y 0 li;have ty:∀ d∈xs,qm d=qm G:=λd hd=>by
  obtain⟨B,t1,H⟩:=yO ok hd;obtain⟨L,o,_⟩:=yO ok U;have c:=H G U;cases d with
  |tup as =>
   cases G with
   |tup bs=>exact N5 c (λz=>by subst z;cases B) (λz=>by subst z;cases L) t1 o
   |_=>cases L
  |_=>cases B
 refine⟨tuples' (qm G != Jr "tuple"),λA hu s hS=>⟨λQ E h=>?_,λi j C J hj h=>?_⟩⟩
 .obtain⟨fs,O,a2,l⟩:=PQ (M:=Au prog w) (h:=s.heap) (T:=qm G) (vs:=vs) λv hm=>by
   obtain⟨i,J,e⟩:=Cp.mp hm;obtain⟨d,q1,q2,_⟩:=Y i J;have:vs.getD i Dd=v:=by simp[Ie,J,e]
   rw[this] at q2;exact⟨d,q2.sup hS,(yO ok q1).1,ty d q1⟩
  refine kat_kind O li l ?_ h;unfold qm
  split <;> decide
 .obtain⟨a,O,a2,l⟩:=Y i J
  obtain⟨b,b1,b2,b3⟩:=Y j hj;unfold _S.rE at h;unfold kas_ask;rw[<- l,<- b3] at h;have t1:=a2.sup hS;have o:=b2.sup hS;obtain⟨B,_,H⟩:=yO ok O;obtain⟨L,_,_⟩:=yO ok b1;have zb:=ty a O;have c:=H b b1;generalize vs.getD i Dd=u at *;generalize vs.getD j Dd=v at *;cases t1 with
  |int _ _ _=>cases B
  |tup n p I am f l1 s1 =>
   cases o with
   |int _ _ _=>cases L
   |tup m q qs zc g l2 s2 =>
    obtain⟨o1,r,_,k1,d1⟩:=f;obtain⟨o2,y,_,k2,d2⟩:=g;have h':C (_H.lexLt (zA I) (zA qs)) s:=by
     have:=@fG I qs;unfold ltN at this;rw[this] at h;exact h
    refine kat_lt r d1 y d2 (eR (n:=5) (m:=5) l1 l2 s1 s2 c li (λz x N=>?_) (by simp;lia) h')
    rw[<- zb] at z;cases I with
    |nil=>cases N
    |cons x' I =>
     cases N;cases x with
     |int i=>exact⟨i,rfl⟩
     |_=>exact absurd z (by simp[qm])
theorem AR (ok:n_ xs=true):_S.Kind prog w (K_ h0) (λ_=>0) _H.lexLt [] (λk=>∃ x∈xs,qZ x=k) h0:=
 ⟨_S.zW,λ{k C v} ⟨d,t,e⟩ ⟨O,Y,J⟩=>by rw[<- e,<- J,t.det Y],λQ G U N=>X2 ok Q G U N⟩
end
def gO (xs:Aa D)(k:Aa Aj):D:=(xs.find? λx=>qZ x == k).getD .non
theorem uV (ok:n_ xs=true){x:D}(Q:x∈xs):gO xs (qZ x)=x:=by
 unfold gO;cases h:xs.find? λy=>qZ y == qZ x with
 |none=>exact absurd (Ln.mp h x Q) (by simp)
 |some y =>
  have:=NE h;exact gM (yO ok (Ik h)).2.1 (yO ok Q).2.1 (by simpa using this)
def w5:DF:=λQ S=>match Q with
 |[d]=>match KA d with
  |some xs=>if (decide (xs.length<=100000)&&n_ xs)=true then .ok (.lst (pG xs)) S else .bad
  |none=>.bad
 |_=>.bad
section
variable {X:Cx}{ai:aa}{σ : _L.St}{H P:Hp}{α : Aa Af}{S:ak}{s:Ah}
theorem VC (hu:X.A.units+64<Ed):wM X (.builtin "sorted") w5:=by
 intro ai σ H s P α S vs us ds Q I r rv l Y
 match ds,Y,l with
 |[],Y,_=>exact Ar Y
 |_::_::_,Y,_=>exact Ar Y
 |[d],Y,l =>
  simp only[w5] at Y;cases T:KA d with
  |none=>rw[T] at Y;exact Ar Y
  |some xs =>
   rw[T] at Y;dsimp only at Y;obtain⟨O,Y⟩:=vI (X:=X) Y;rw[Az,Cf] at O;obtain⟨O,ok⟩:=O;obtain⟨v,u,rfl,rfl,p,q⟩:=yX l rv;obtain⟨a,vs,f,rfl,t1,M,e1,m⟩:=cH I r p q T;have U:∀ (i:Ag) (u:Ad),f[i]? = Ab u->∃ x N,xs[i]? = Ab x/\gf s.heap 6 x u/\qG N u/\aq X.K P α x N:=λi u J=>by
    have t:i<f.length:=(Ax.mp J).1;have C:xs[i]? = Ab xs[i]:=Ap li;obtain⟨y,f1,g⟩:=t1.get C;obtain⟨z,g1,c⟩:=M.get f1;cases g1.symm.trans J;refine⟨_,y,C,YJ I r 6 ?_ g c,c,g⟩;have:=Bb.mp ok _ (Mt (by lia:i<xs.length))
    simp only[Az] at this;exact this.1.2
   have e:(_S.jQ _H.lexLt (xs.map qZ)).map (gO xs)=pG xs:=by
    rw[<- sF,Dj]
    conv=>rhs;rw[<- Lb (pG xs)]
    exact Dy λy hy=>uV ok ((bV xs).mem_iff.mp hy)
   have G:=YF (X:=X) (ai:=ai) (σ:=σ) (H:=H) (P:=P) (α:=α) (S:=S) (E:=X.xe) (d:=[]) (AR (prog:=X.prog) (w:=X.w) (h0:=s.heap) ok) hu I r e1 (xs.map qZ) (by simpa using m) (λi u J=>by
     obtain⟨x,N,B,L,_⟩:=U i u J;exact⟨x,L,by simp[Ie,B]⟩) (by simpa using O) (λk o=>by
     obtain⟨x,C,e⟩:=Ba.mp o;exact⟨x,C,e⟩) (gO xs) λk u o hm=>by
    obtain⟨i,J,e⟩:=Cp.mp hm;obtain⟨x,N,B,L,q3,b⟩:=U i u (by rw[Ap J,e])
    obtain⟨d',t',e'⟩:=o;have:=t'.det L;subst this;rw[<- e',uV ok (Cj B)];exact⟨N,q3,b⟩
   rw[e] at G;refine bq G λu' s3 ⟨D,zb,e,hn,I',j⟩=>?_;subst e;exact⟨.ref D,_,I',rfl,wO r hn j Y⟩
end
end _D
namespace _D
open _L
noncomputable def uO (d:D)(S:ak):An (Aa (bo × D)):=match d with
 |.loc n=>match S[n]? with
  |some (.dct Q)=>Ab Q
  |_=>none
 |_=>none
def u4:DF:=λY S=>match Y with
 |[d]=>match uO d S with
  |some Q=>.ok (.int Q.length) S
  |none=>.bad
 |_=>.bad
def mI:G2:=λa b S=>match uO a S,yI b with
 |some Q,Ab k=>match xC Q k with
  |some d=>.ok d S
  |none=>.bad
 |_,_=>.bad
section
variable {X:Cx}{ai:aa}{σ : _L.St}{H P:Hp}{α : Aa Af}{S:ak}{s:Ah}
set_option tactic.hygienic true in
theorem eA (r:bf X.K H P α S){d:D}{kvs:Aa (bo × D)}{v:V}(h:uO d S=Ab kvs)(p:aq X.K P α d v):∃ a Q,v=.ref a/\H a=Ab (.dK Q)/\md X.K P α kvs Q:=by
 unfold uO at h
 split at h
 .split at h
  .rename_i Y
   cases h;simp only[aq] at p;obtain⟨b,rfl,q⟩:=p;obtain⟨Q,z,t⟩:=r.at' _ b _ q Y;exact⟨b,Q,rfl,z,t⟩
  .cases h
 .cases h
theorem PX:wM X (.builtin "len") u4:=by
 intro ai σ H s P α S A E B Q I r N U Y
 match B,Y,U with
 |[],Y,_=>exact Ar Y
 |_::_::_,Y,_=>exact Ar Y
 |[d],Y,U =>
  simp only[u4] at Y;cases J:uO d S with
  |none=>rw[J] at Y;exact Ar Y
  |some C =>
   rw[J] at Y;obtain⟨v,u,rfl,rfl,p,q⟩:=yX U N;obtain⟨a,G,rfl,z,t⟩:=eA r J p;cases (show u=Cy a from q)
   refine CW I (.inl z) λO T L=>⟨.int G.length,H,L,⟨O,rfl⟩,xr Y r ?_⟩;simp only[aq];rw[lD t]
set_option tactic.hygienic true in
theorem LL {o i:Bz}{B fi:DE}{f:Fn}(hu:X.A.units+1<Ed)(e:PE X o (tD X B))(hi:PE X i (tD X fi))(hs:V1 i:=by intro _ _;rfl):PE X (.Subscript o i f) (tD X (d2 mI B fi)):=by
 intro ai s σ H Q I h;obtain⟨P,α,n,S,r,j,af⟩:=h;refine N0 PySem.F.slot_dict_getitem.lookup hs (bq (zX e I r j af) λvv s1 ⟨v,H1,L,U,a,S1,J,N⟩=>?_);refine bq (zX hi J.inv J.rel J.env (P:=L) (α:=U) (Ok:=jj X L U Q) (g:=λy T=>mI a y T) (qV.base J.same J.pre N)) λuu s2 ⟨u,E,P2,l,b,T,G2,G⟩=>?_;have x:=aq.mono G2.same G2.pre _ _ J.rep;have pb:=G2.rep;have C:=G2.inv;have A:=G2.rel;have Y:=qV.base G2.same G2.pre G;unfold mI at Y
 split at Y
 .rename_i zb k hd hk
  split at Y
  .rename_i d hv
   obtain⟨p,ws,rfl,z,t⟩:=eA A hd x;have m:=tP hk pb;subst m;cases (show vv=Cy p from J.val)
   obtain⟨w,M,q⟩:=(fD t).1 d hv;have g:gI E p (kV k) (Ab w):=.inl ⟨_,k,.inl z,rfl,M.symm⟩;exact⟨cV C g,XA hu C g G2.val λw' s3 c O=>⟨w,E,c,O,xr Y A q⟩⟩
  .exact Ar Y
 .exact Ar Y
end
end _D
section
end
section
end
namespace _D
open _L
inductive vq {K:Type}(w:Cd)(hash:K->Aj)(enc:K->D)(Kf:Ak)(P:Hp)(α : Aa Af)(ds:Aa D)(o:Cw):Prop
 |mk (es:Ay (Aj × Ad)) (ep:Ag) (t:Fx) (ks:Aa K) (kv:Aa (K × Ad)) (ho:o=_S.jx es ep t) (T:_S.ja t es) (led:t.led=_S.vM w) (hds:ds=ks.map enc) (hes:es.toList=kv.map λp=>(hash p.1,p.2)) (nd:(kv.map (·.1)).Nodup) (mem:∀ k,k∈kv.map (·.1)↔k∈ks) (rp:∀ p∈kv,∃ v,qG v p.2/\aq Kf P α (enc p.1) v):vq w hash enc Kf P α ds o
section
variable {K:Type}{w:Cd}{ax:K->Aj}{cq:K->D}{Kf:Ak}{P P1:Hp}{α α1:ae}{ds:Aa D}{o:Cw}
theorem vq.cell (a:vq w ax cq Kf P α ds o):∀ v,o.data≠.cell v:=by
 obtain⟨U,Y,t,J,Q,rfl,_⟩:=a;intro v z;cases z
end
def rP (ds:Aa D):As:=match uS ds with
 |some Q=>decide ((_S.jl _H.lexLt Q).length<=1000)&&Q.all λk=>!k.isEmpty
 |none=>false
end _D
namespace _D
open _L
variable {X:Cx}
def lT:DS:=λ_ _=>.bad
theorem LZ {st:Fz}:PS X st (iu X lT):=λ_ _ _ _ _ _ ⟨_,_,_,_,_,_,h⟩=>Ar h
theorem EY {st:Fz}:QS X st lT:=⟨LZ⟩
end _D
namespace _D
open _L
variable {xs:Aa (Aa Aj × Af × V)}{kvs:Aa (Aa Aj × D)}{ai:aa}{α:ae}{Q:ab}{P H:Hp}{σ:_L.St}
abbrev TU:=Aa Aj × Af × Ad
theorem XH {a:Af}{h1 h2:Cb}(q:rA a xs h1)(k:∀ o,h1.get? a=Ab o->h2.get? a=Ab o):rA a xs h2:=
 let ⟨Y,p,o,U,J,e,c⟩:=q
 ⟨Y,p,o,U,J,k _ e,c⟩
theorem XG {P:Bo}{w:Cd}{h:Cb}{a:Af}(q:rA a xs h):zM P w H h a (tw a xs):=
 ⟨q,let ⟨_,_,o,_,_,e,_⟩:=q;⟨o,e⟩,λ_ _=>XH⟩
section
variable {X:Cx}{ao:Fn}
noncomputable def Q3:DE:=λ_ S=>.ok (.loc S.length) (S++[.dcT []])
theorem BA:PE X (.Dict [] [] ao) (tD X Q3):=λai s σ H Q I ⟨P,α,U,S,r,O,G⟩=>by
 have N:=I.hok.fresh (Av s.heap.objs.size);have J:=I.laid (a:=s.heap.objs.size) (o:=tw s.heap.objs.size []) (h':=s.heap.push { cls:=.type "dict",data:=.dict #[] }) (t':=s.toks) (λ_ _ q=>Ai _ q) (Av _) (XG ⟨[],.nil,_,#[],0,Be _ rfl,⟨rfl,rfl,rfl⟩,rfl,rfl⟩);have Y:=r.new (o:=tw s.heap.objs.size []) (m:=.dcT []) N ⟨[],z9,Kq.mpr (Gb (Cu I.big)),Gh _,Mp,.nil⟩;refine x0 ⟨.ref s.heap.objs.size,_,J,rfl,G _ _ _ _ Y (qF.refl _) (Ft _ _) ?_⟩;simp only[aq];exact⟨_,rfl,by rw[<- r.len];simp⟩
end
theorem W6 {X:Cx}{s:Ah}{b:Af}{Y:Aa Aj}(I:Inv X ai σ H s)(q:iq X.K H b (Y.map V.int)):(Eu (Gg X.prog X.w)).is s.heap Y b:=by
 obtain⟨J,r,⟨o,G,N,n,C⟩,_⟩:=I.tuple q;refine⟨o,J.toArray,n,G,N,C,?_⟩;have O:∀ {Y:Aa Aj} {J:ag},qI (Y.map V.int) J->ItemsAre (Gg X.prog X.w) Y J:=by
  intro Y
  induction Y with
  |nil=>intro J v;cases v;exact .nil
  |cons n r U =>
   intro J v;cases v with
   |cons z t =>
    obtain⟨k,rfl⟩:=(show ∃ t,_=Vp n t from z)
    exact .cons (by show Sa n (.int n k)=true;simp[Sa]) (U t)
 simpa using O r
theorem eB {X:Cx}{s:Ah}{a:Af}(I:Inv X ai σ H s)(sub:qF P H)(z:H a=Ab (tw a xs))(nd:(xs.map (·.1)).Nodup)(t:si X.K P α kvs xs) :
  ∃ us:Aa TU,Paired (λ(p:Aa Aj × Af × V) (q:TU)=>p.1=q.1/\p.2.1=q.2.1/\qG p.2.2 q.2.2) xs us/\s.heap.DictOfH (Eu (Gg X.prog X.w)) a us:=by
 obtain⟨⟨us,p,o,O,G,U,N,C,B⟩,_⟩:=(show zM X.prog X.w H s.heap a (tw a xs) from I.hok a _ z)
 refine⟨us,p,o,O,G,U,N,C,B,?_,?_⟩
 .have Y:∀ {kvs:Aa (Aa Aj × D)} {xs:Aa (Aa Aj × Af × V)} {us:Aa TU},si X.K P α kvs xs->Paired (λ(p:Aa Aj × Af × V) (q:TU)=>p.1=q.1/\p.2.1=q.2.1/\qG p.2.2 q.2.2) xs us->∀ x∈us,(Eu (Gg X.prog X.w)).is s.heap x.1 x.2.1:=by
   intro kvs xs us t
   induction t generalizing us with
   |nil=>intro p x hx;cases p;cases hx
   |cons z t J =>
    intro p x hx;cases p with
    |cons w p =>
     rcases Bc.mp hx with rfl|hx
     .rw[<- w.1,<- w.2.1]
      exact W6 I (wC sub z.2.1)
     .exact J p x hx
  exact Y t p
 .have Y:∀ {xs:Aa (Aa Aj × Af × V)} {us:Aa TU},Paired (λ(p:Aa Aj × Af × V) (q:TU)=>p.1=q.1/\p.2.1=q.2.1/\qG p.2.2 q.2.2) xs us->us.map (·.1)=xs.map (·.1):=by
   intro xs us p
   induction p with
   |nil=>rfl
   |cons z _ J=>rw[Df,Df,J,z.1]
  rw[Y p];exact nd
section
variable {prog:Bo}{w:Cd}{A:Bu}{E:ab}{s:Ah}{d a:Af}{us:Aa TU}{k:Aa Aj}{dflt:Ad}
theorem _g (L:A.units<Ed)(Y:(Eu (Gg prog w)).is s.heap k a)(hm:s.heap.DictOfH (Eu (Gg prog w)) d us)
  (h1:∀ p,Md us k=Ab p->Q p.2 { s with toks:=s.toks+(Eu (Gg prog w)).draws k })
  (h2:Md us k=none->∀ h',h'.DictOfH (Eu (Gg prog w)) d (us++[(k,a,dflt)])->El d s.heap h'->Q dflt { s with heap:=h',toks:=s.toks+(Eu (Gg prog w)).draws k }) (hsz:us.length<=sizeLine) :
  Aq (Au prog w) A (Wx d (.ref a) dflt) Q E s:=by
 obtain⟨o,M,T,U,z,J,O,N,C⟩:=hm;unfold Wx
 try with_reducible refine EQ ?_
 refine Ac ((Eu (Gg prog w)).pyHash (s:=s) L Y ?_);refine Ac (wpAny_dictFind_heap (s:={ s with toks:=s.toks+(Eu (Gg prog w)).draws k }) L Y U J O N C (λG=>?_) λj p B=>?_)
 .have hz:M.size<=sizeLine:=by rw[size_of_entries O];exact hsz
  refine Ac (Gf (Ac (wpAny_updateDictKeys (hz:=hz) (s:={ s with toks:=s.toks+(Eu (Gg prog w)).draws k }) U J (Am (h2 (atKey_none_of_get G) _ ⟨_,_,T+1,Ev _ U (Obj.isFreed_of_dict (Xg J _)),z.mapDictKeys _,Xg J _,?_,?_,?_⟩ (Fl ..))))))
  .simp[O,entryOfKey]
  .intro x hx
   rcases Bq.mp hx with hx|hx
   .exact(Eu (Gg prog w)).keeps (N x hx) U J (Fl ..)
   .cases Cz.mp hx
    exact(Eu (Gg prog w)).keeps Y U J (Fl ..)
  .rw[Dl,Gm]
   exact⟨C,by simp,λx hx y I e=>not_mem_keys_of_get G ((e.trans (Cz.mp I):x=k)▸hx)⟩
 .refine Ac (Pj (s:={ s with toks:=s.toks+(Eu (Gg prog w)).draws k }) U J ?_)
  rw[entry_at O j,B];exact Ac (Gf (Am (h1 p (atKey_of_get C B))))
theorem YE (L:(d == Hn)=false)(dflt:Ad) :
  MeetsIn prog w (Hr.«dict.setdefault» ⟨[.ref d,.ref a,dflt],[]⟩) (λA R s=>A.units+1<Ed/\∃ k us,(Eu (Gg prog w)).is s.heap k a/\s.heap.DictOfH (Eu (Gg prog w)) d us/\us.length<=sizeLine /\
   (∀ p,Md us k=Ab p->R (.ok (.ret p.2)) { s with toks:=s.toks+(Eu (Gg prog w)).draws k }) /\
   (Md us k=none->∀ h',h'.DictOfH (Eu (Gg prog w)) d (us++[(k,a,dflt)])->El d s.heap h'->R (.ok (.ret dflt)) { s with heap:=h',toks:=s.toks+(Eu (Gg prog w)).draws k })):=
 .of_wp λA R s ⟨T,k,us,I,U,B,G,N⟩=>by
  unfold Hr.«dict.setdefault»;refine Ac ?_;unfold Builtin.Dict.keyAndDefault;refine Ac (Wi U.typeIs ?_);show Aq _ _ (pure (d,Cy a,Ab dflt)) _ _ s;refine Am ?_;show Aq _ _ (if (d == Hn)=true then _ else (Wx d (.ref a) dflt >>= _)) _ _ s
  rw[Bh (by rw[L];exact Es)]
  exact Ac (_g T I U (λp O=>Am ⟨_,rfl,G p O⟩) (λC h' J Y=>Am ⟨_,rfl,N C h' J Y⟩) B)
end
def UQ:D->An (Aa Aj)
 |.tup xs=>yG xs
 |_=>none
def vW (kvs:Aa (Aa Aj × D))(k:Aa Aj):An D:=(kvs.find? λY=>decide (Y.1=k)).map (·.2)
def l6 (n:Ag)(kvs:Aa (Aa Aj × D))(ds:Aa D)(S:ak):ba D:=match ds with
 |[i,x]=>match UQ i,S[n]? with
  |some k,Ab (.dcT kvs)=>match vW kvs k with
   |some d=>.ok d S
   |none=>if kvs.length<bn then .ok x (S.set n (.dcT (kvs++[(k,x)]))) else .bad
  |_,_=>.bad
 |_=>.bad
def rZ (G:DE)(O:DA):DE:=λY S=>(G Y S).bind λa J=>match a with
 |.loc n=>match J[n]? with
  |some (.dcT kvs)=>(O Y J).bind λU N=>l6 n kvs U N
  |_=>.bad
 |_=>.bad
abbrev RT (p:Aa Aj × Af × V)(q:TU):Prop:=p.1=q.1/\p.2.1=q.2.1/\qG p.2.2 q.2.2
theorem D9 {K:Ak}{k:Aa Aj}{us:Aa TU}(t:si K P α kvs xs)(p:Paired RT xs us) :
  (∀ d,vW kvs k=Ab d->∃ v q,Md us k=Ab q/\qG v q.2/\aq K P α d v)/\(vW kvs k=none->Md us k=none):=by
 induction t generalizing us with
 |nil=>cases p;exact⟨λd h=>nn h,λ_=>rfl⟩
 |@cons a b l m z t U =>
  cases p with
  |@cons _ c _ us w p =>
   have e:b.1=c.1:=w.1;by_cases h:a.1=k
   .have J:vW (a::l) k=Ab a.2:=by simp[vW,Fv,h]
    have Y:Md (c::us) k=Ab c.2:=by simp[Md,Fv,<- e,<- z.1,h]
    rw[J,Y];exact⟨λd h=>by cases h;exact⟨b.2.2,c.2,rfl,w.2.2,z.2.2⟩,λh=>by cases h⟩
   .have J:vW (a::l) k=vW l k:=by simp[vW,Fv,h]
    have Y:Md (c::us) k=Md us k:=by simp[Md,Fv,<- e,<- z.1,h]
    rw[J,Y];exact U p
theorem MC {us:Aa TU}(p:Paired RT xs us):us.map (·.1)=xs.map (·.1):=by
 induction p with
 |nil=>rfl
 |cons z _ Y=>rw[Df,Df,Y,z.1]
theorem fT {β γ:Type}{F:β->γ->Prop}{l:Aa β}{m:Aa γ}{x:β}{y:γ}(h:Paired F l m)(e:F x y):Paired F (l++[x]) (m++[y]):=by
 induction h with
 |nil=>exact .cons e .nil
 |cons z _ Y=>exact .cons z Y
theorem pB {β γ:Type}{F:β->γ->Prop}{l:Aa β}{m:Aa γ}(h:Paired F l m):l.length=m.length:=by
 induction h with
 |nil=>rfl
 |cons z _ Y=>simp[Y]
section
variable {X:Cx}{o e:Bz}{es:Aa Bz}{fo:DE}{fa:DA}{de cu:Fn}
set_option tactic.hygienic true in
theorem LQ (hu:X.A.units+1<Ed)(ho:PE X o (tD X fo))(ha:PA X (e::es) (lv X fa))
  (O:Kb o "setdefault" X.env (eval o X.env)=eval o X.env:=by rfl)
  (g:((Gi cu (Bs (e::es) X.env)).all (λx=>!x.1)&&(AaK cu (Vw [] X.env)).all (λx=>x.1.isSome)
   && decide ((e::es).length+([]:Aa Sx).length+(if ([] : Aa Sx).isEmpty then 0 else 1)<30))=true:=by rfl)
  (B:(de.endLine == cu.line)=true:=by rfl) (hs:Bs (e::es) X.env=(false,eval e X.env)::Bs es X.env:=by rfl) (G:(Gi cu (Bs es X.env)).any (·.1)=false:=by rfl) :
  PE X (.Call (.Attribute o "setdefault" de) (e::es) [] cu) (tD X (rZ fo fa)):=by
 intro ai s σ H Q I h;obtain⟨P,α,zx,S,r,re,af⟩:=h;refine Vb O g B rfl (bq (zX ho I r re af) λvv s1 ⟨v,H1,P1,w,d,S1,N,J⟩=>?_);cases d with
 |loc n =>
  simp only at J
  split at J
  .rename_i kvs hS
   have rp:=N.rep;have I1:=N.inv;have r1:=N.rel;simp only[aq] at rp;obtain⟨a,rfl,L⟩:=rp;cases (show vv=Cy a from N.val)
   obtain⟨xs,z,hd,hz,nd,t⟩:=r1.at' n a _ L hS;obtain⟨us,p,T⟩:=eB I1 r1.sub z nd t;obtain⟨ob,_,_,E,A,_⟩:=id T;refine⟨"dict","dict.setdefault",IN,Jf,Ma,T.typeIs,λb e=>by cases e;exact⟨ob,E,A.2.1⟩,?_⟩
   have hA:=yM ha N.inv N.rel N.env (P:=P1) (α:=w) (Ok:=jj X P1 w Q) (qV.base N.same N.pre (r:=(fa zx S1).bind λC S2=>l6 n kvs C S2) J) cu;rw[hs] at hA ⊢;refine Lv (by show (false||(Gi cu (Bs es X.env)).any (·.1))=false;rw[G] <;> rfl) (WP ?_)
   refine bq hA λws s2 ⟨vs,H2,P2,l,C,S2,I2,rv,u,z5,zy,e1,e2,f⟩=>?_;have Y:=qV.base e1 e2 f;clear f hA T p t z nd hz A E;cases C with
   |nil=>exact Ar Y
   |cons i C =>
    cases C with
    |nil=>exact Ar Y
    |cons x C =>
     cases C with
     |cons _ _=>exact Ar Y
     |nil =>
      obtain⟨vi,j,ui,ux,rfl,rfl,pi,px,qi,qx⟩:=fM zy rv;have M:l[n]? = Ab a:=by
       obtain⟨y,hy⟩:=e2;rw[<- hy,AT (Ax.mp L).1];exact L
      unfold l6 at Y;simp only at Y;cases hk:UQ i with
      |none=>rw[hk] at Y;exact Ar Y
      |some k =>
       rw[hk] at Y;cases U:S2[n]? with
       |none=>rw[U] at Y;exact Ar Y
       |some m =>
        rw[U] at Y;cases m with
        |dcT kvs =>
         simp only at Y;obtain⟨xs,z,hd,hz,nd,t⟩:=u.at' n a _ M U;obtain⟨us,p,T⟩:=eB I2 u.sub z nd t;cases i with
         |tup ts =>
          have z4:=mM (show yG ts=Ab k from hk)
          subst z4;simp only[aq] at pi;obtain⟨b,ys,rfl,sq,z1⟩:=pi;have zw:=bJ z1;subst zw;cases (show ui=Cy b from qi)
          have zv:us.length<=sizeLine:=by rw[<- pB p];exact hz
          obtain⟨k1,k2⟩:=D9 (k:=k) t p;refine Uh Jf T.typeIs Qx (uL _ _ _) (YE hd ux) ⟨hu,k,us,W6 I2 (wC u.sub sq),T,zv,λq hq=>?_,λhn h' zl z3=>?_⟩
          .cases hv:vW kvs k with
           |none=>rw[k2 hv] at hq;cases hq
           |some d =>
            obtain⟨w',q',e3,e4,e5⟩:=k1 d hv;rw[e3] at hq;cases hq;rw[hv] at Y;exact⟨w',H2,I2.tok _,e4,xr Y u e5⟩
          .cases hv:vW kvs k with
           |some d =>
            obtain⟨w',q',e3,e4,e5⟩:=k1 d hv;rw[e3] at hn;cases hn
           |none =>
            rw[hv] at Y;obtain⟨hl,zb⟩:=vI (X:=X) Y;obtain⟨zs,lr,zc,g1,g2,g3,g4,_,g5⟩:=zl;have dt:rA a (xs++[(k,b,j)]) h':=⟨_,fT p ⟨rfl,rfl,qx⟩,zs,lr,zc,g1,g2,g3,g4⟩;have I3:=I2.write (x:=a) (e:=a) (o:=tw a (xs++[(k,b,j)])) (t':=s2.toks+(Eu (Gg X.prog X.w)).draws k) (by rw[z];exact Jd) (.inl rfl) (λc q hc zz=>(z3.2 c hc).trans zz) ⟨_,g1⟩ (XG dt)
            have kx:us.map (·.1)=xs.map (·.1):=MC p
            have z2:(xs++[(k,b,j)]).length<=sizeLine:=by
             have:=pB t;rw[<- xN];simp;lia
            have r3:=u.put (o:=tw a (xs++[(k,b,j)])) (m':=.dcT (kvs++[(k,x)])) M U (by intro z;cases z) ⟨_,z9,hd,z2,by rw[Dl,<- kx];rw[Dl] at g5;exact g5,fT t ⟨rfl,sq,px⟩⟩
            exact⟨j,_,I3,qx,zb _ _ P2 l r3 (qF.refl _) (Bd _) px⟩
         |_=>cases hk
        |_=>exact Ar Y
  .exact Ar J
 |_=>exact Ar J
end
section
variable {prog:Bo}{w:Cd}{A:Bu}{E:ab}{s:Ah}{it d v:Af}{i ep:Ag}{es:Ay DictEntry}{od:Cw}
theorem N8 (hv:s.heap.IsValuesView v d)(U:s.heap.get? d=Ab od)(G:od.data=.dict es ep)
  (O:Q (.ref s.heap.objs.size) { s with heap:=s.heap.push { cls:=.type "dict_valueiterator",data:=.fields #[.ref d,.int 0 0,.int es.size 0,.int ep 0] } }) :
  Aq (Au prog w) A (Px (.ref v)) Q E s:=by
 obtain⟨C,Y,N,J⟩:=id hv;refine Tf hv.typeIs Um (Dv Um hv.typeIs F.entry_dict_values_iter ?_ (F.args_dict_values_iter_1 _));unfold Hr.«dict_values.__iter__»;refine Ac (Am (Ac ?_));unfold AbA;refine Ac (Ei Y J (x:=.ref d) rfl (Am (Ac ?_)));unfold AaF;refine Ac (Pj U G (Ac (Vm U G ?_)));simp only[show Mb "dict_valueiterator" = false from by decide,Bn,Ds]
 refine Dt (Am ⟨_,rfl,"dict_valueiterator",_,⟨_,Be _ rfl,rfl⟩,Gj.lookup,?_⟩);simpa [Ks] using O
theorem N7 {Q:An Ad->Ah->Prop}(Y:s.heap.IsValIter it d i es.size ep)(N:s.heap.get? d=Ab od)(G:od.data=.dict es ep)(U:i<es.size)
  (B:∀ h',h'.IsValIter it d (i+1) es.size ep->El it s.heap h'->Q (Ab es[i].val) { s with heap:=h' }) :
  Aq (Au prog w) A (Li (.ref it)) Q E s:=by
 obtain⟨o,C,L,O⟩:=id Y;unfold Li;refine Ac (Je (Dw (name:=Hk "__next__") Y.typeIs Gj
  (Dv Gj Y.typeIs Qi ?_ (Pu _))))
 refine Ac (Am (Ac (Ac ?_)))
 first|refine Ac (Iw Y.typeIs (Am ?_))|refine Ac (Kk Y.typeIs (Am ?_))
 refine Ac (Ww C O ?_);simp only[show Mb "dict_valueiterator" = false from by decide,Bn,Ds]
 show Aq _ _ (if (Cy d == Dd)=true then _ else _) _ _ s
 rw[Bh (show ¬ ((Cy d == Dd)=true) from Es)]
 refine Ac (Am (Ac (Pj N G ?_)));rw[Bh (by simp)]
 refine Ac (Am (Ac (Vm N G ?_)));rw[Bh (by simp)]
 refine Am ?_;simp only[show ¬ ((i:Aj)<0) from by fin2,Ds,Ez,Dr U]
 refine Ac ?_
 first|refine Ac (Iw Y.typeIs (Am ?_))|refine Ac (Kk Y.typeIs (Am ?_))
 refine Ac (Qj Y.typeIs ?_);show Aq _ _ (Yh (.ref it) 1 (Ks ((i:Aj)+1)) >>= _) _ _ s;refine Ac (Kn C O (by simp) ?_)
 have J:(s.heap.update it (Ni (·.setIfInBounds 1 (Ks ((i:Aj)+1))))).IsValIter it d (i+1) es.size ep:=
  ⟨_,Ev _ C (Vx (Og O _)),(Zt ..).trans L,by rw[Og O];simp[Ks]⟩
 refine Ac (EQ ?_);refine Ac (Qj (s:={ s with heap:=s.heap.update it (Ni (·.setIfInBounds 1 (Ks ((i:Aj)+1)))) }) J.typeIs ?_)
 refine Ac (Qj (s:={ s with heap:=s.heap.update it (Ni (·.setIfInBounds 1 (Ks ((i:Aj)+1)))) }) J.typeIs ?_)
 show Aq _ _ (pure es[i].val) _ _ _;exact Am (Am ⟨_,rfl,Am (B _ J (Fl ..))⟩)
theorem CC {Q:An Ad->Ah->Prop}(B:A.handled=none)(Y:s.heap.IsValIter it d i es.size ep)(U:s.heap.get? d=Ab od)(J:od.data=.dict es ep)(G:es.size<=i)
  (C:∀ h',Aa2 it s.heap h'->Q none { s with heap:=h' }) : Aq (Au prog w) A (Li (.ref it)) Q E s:=by
 obtain⟨o,N,L,O⟩:=id Y;unfold Li;refine Ac (Je (Dw (name:=Hk "__next__") Y.typeIs Gj
  (Dv Gj Y.typeIs Qi ?_ (Pu _))))
 refine Ac (Am (Ac (Ac ?_)))
 first|refine Ac (Iw Y.typeIs (Am ?_))|refine Ac (Kk Y.typeIs (Am ?_))
 refine Ac (Ww N O ?_);simp only[show Mb "dict_valueiterator" = false from by decide,Bn,Ds]
 show Aq _ _ (if (Cy d == Dd)=true then _ else _) _ _ s
 rw[Bh (show ¬ ((Cy d == Dd)=true) from Es)]
 refine Ac (Am (Ac (Pj U J ?_)));rw[Bh (by simp)]
 refine Ac (Am (Ac (Vm U J ?_)));rw[Bh (by simp)]
 refine Am ?_;simp only[show ¬ ((i:Aj)<0) from by fin2,Ds,Ez,Pr G]
 refine Ac ?_
 first|refine Ac (Iw Y.typeIs (Am ?_))|refine Ac (Kk Y.typeIs (Am ?_))
 show Aq _ _ (Yh (.ref it) 0 .none >>= _) _ _ s;refine Ac (Kn N O (by simp) ?_)
 show Aq _ _ (Aa3 (.type "StopIteration") [] >>= _) _ _ _;refine Ac ?_;simp only[Aa3,AaL];refine Ac (Dt ?_ (by size_fits))
 refine Ac (m:=Mn _ _) (Vy (a:=Dd) (by first|rfl|(simp only[Mn];rfl)) ?_)
 refine Dt ?_ (by size_fits)
 simp only[AaM];refine Ac (Xv ?_);rw[show A.in1.handled=none from B]
 refine Ac (Am (Aa4 ?_));refine Ac (Ky (T:="StopIteration") (b:=true) ⟨_,Be _ rfl,rfl⟩ Rm ?_);exact Am (C _ (((Fl ..).extBut.push _).push _))
theorem CD {r:Af}{n:Ag}(M:od.data=.dict es ep)(y:es.size=n):PySem.W.KdlSrc prog w "dict_values" r d n (λi v=>es[i]?.map (·.val)=Ab v) (λh=>h.IsValuesView r d/\h.get? d=Ab od) where
 type:=λ_ Y=>Y.1.typeIs
 there:=λ_ Y=>⟨let ⟨_,I,_⟩:=Y.1;Bg I,Bg Y.2⟩
 keep:=λ_ _ Y O=>⟨let ⟨o,I,x⟩:=Y.1;⟨o,O r (.inl rfl) o I,x⟩,O d (.inr rfl) _ Y.2⟩
 notList:=by decide
 notTuple:=by decide
 hint:=λ_ _ _ _ Y T=>PySem.W.kdl_hint_values Y.1.typeIs T
 iter:=λA s k Y=>by
  subst y;have z:d≠s.heap.objs.size:=Cu (Bg Y.2);refine⟨_,λi h=>h.IsValIter s.heap.objs.size d i es.size ep/\h.get? d=Ab od,λ_ _ T=>N8 Y.1 Y.2 M T,?_,⟨_,Be _ rfl,rfl,rfl⟩,Ai _ Y.2⟩;exact {
   sub:=λb J=>by simp at J;simp[J]
   frame:=λ_ _ _ st O=>⟨st.1.at λo e=>O _ (by simp) o e,O d (by simp) _ st.2⟩
   item:=λi B Q E j st U=>N7 st.1 st.2 M j λC G N=>U _ C B.toks (by rw[Dr j];rfl) ⟨G,(N.2 d z).trans st.2⟩ λb o J e=>N.extBut b o (λh=>J (by simp[h])) e
   done:=λB Q E st U=>CC k st.1 st.2 M (Av _) λC L=>U C B.toks λb o J e=>L b o (λh=>J (by simp[h])) e
   self:=λ_ _ _ _ st U=>wpAny_pyIter_valiter st.1 U }
end
def tF (f:DE):DE:=λY S=>(f Y S).bind λd J=>match d with
 |.loc n=>match J[n]? with
  |some (.dcT kvs)=>.ok (.lst (kvs.map (·.2))) J
  |_=>.bad
 |_=>.bad
theorem MD {us:Aa TU}(p:Paired RT xs us):qI (xs.map (·.2.2)) (us.map (·.2.2)):=by
 induction p with
 |nil=>exact .nil
 |cons z _ Y=>exact .cons z.2.2 Y
theorem U1 {K:Ak}(h:si K P α kvs xs):qC K P α (kvs.map (·.2)) (xs.map (·.2.2)):=by
 induction h with
 |nil=>exact .nil
 |cons z t Y=>exact .cons z.2.2 Y
section
variable {X:Cx}{o:Bz}{fo:DE}{de cu ao p2:Fn}
theorem cX {prog:Bo}{w:Cd}(d:Af)(J:(d == Hn)=false) :
  MeetsIn prog w (Hr.«dict.values» ⟨[.ref d],[]⟩) (λ_ R s=>s.TypeIs (.ref d) "dict" /\
   R (.ok (.ret (.ref s.heap.objs.size))) { s with heap:=s.heap.push { cls:=.type "dict_values",data:=.fields #[.ref d] } }):=
 .of_wp λA R s ⟨Y,h⟩=>by
  refine Ac ?_;unfold Builtin.Dict.noArgs;refine Ac (Wi Y ?_);show Aq _ _ (pure d) _ _ s;refine Am ?_;show Aq _ _ (Wj d >>= _) _ _ s;unfold Wj;rw[Bh (by rw[J];exact Es)]
  exact Ac (Am (Ac (Dt (Am ⟨_,rfl,h⟩))))
set_option tactic.hygienic true in
theorem VR (hc:X.calm=true)(hg:Gl X "list")(hm:X.mg "list" = none)(ho:PE X o (tD X fo))(G:Kb o "values" X.env (eval o X.env)=eval o X.env:=by rfl)(U:(de.endLine == cu.line)=true:=by rfl)
  (l:Bs [.Call (.Attribute o "values" de) [] [] cu] X.env=(false,eval (.Call (.Attribute o "values" de) [] [] cu) X.env)::Bs [] X.env:=by rfl) :
  PE X (.Call (.Name "list" p2) [.Call (.Attribute o "values" de) [] [] cu] [] ao) (tD X (tF fo)):=by
 intro ai s σ H Q I h;obtain⟨P,α,zb,S,r,re,af⟩:=h;refine Call_ (vL I hg hm ZX (Gc ?_ l rfl));rw[l];refine Of (Uk G U (bq (zX ho I r re af) λvv T ⟨v,H1,P1,w,d,S1,O,Y⟩=>?_));cases d with
 |loc n =>
  simp only at Y
  split at Y
  .rename_i kvs hS
   have x:=O.rep;have k:=O.inv;have y:=O.rel;simp only[aq] at x;obtain⟨a,rfl,ha⟩:=x;cases (show vv=Cy a from O.val)
   obtain⟨xs,z,hd,f,nd,t⟩:=y.at' n a _ ha hS;obtain⟨N,p,E⟩:=eB k y.sub z nd t;obtain⟨ob,es,ep,C,A,B,L,_⟩:=id E;refine⟨"dict","dict.values",IN,Tt,PySem.F.type_dict_values,E.typeIs,λb e=>by cases e;exact⟨ob,C,A.2.1⟩,Lv rfl (Yc ?_)⟩
   refine Uh Tt E.typeIs PySem.F.entry_dict_values (PySem.F.args_dict_values_1 _) (cX a hd) ⟨E.typeIs,?_⟩;refine Pa ?_;have M:N.length<=sizeLine:=by rw[<- pB p];exact f
   refine PySem.W.kdl_call (s:={ T with heap:=T.heap.push { cls:=.type "dict_values",data:=.fields #[.ref a] } }) (CD (n:=N.length) B (size_of_entries L)) (k.ok.hd hc) ⟨⟨_,Be _ rfl,rfl,rfl⟩,Ai _ C⟩ M λh' tk i c hk hL J=>?_
   have q:=k.kept (t':=T.toks) (h':=T.heap.push { cls:=.type "dict_values",data:=.fields #[.ref a] }) λb u e=>Ai _ e;have ev:i.toList=N.map (·.2.2):=by
    refine Tg λj=>?_;rw[Bp,Du];cases g:i[j]? with
    |none =>
     have:N.length<=j:=by rw[<- J.1];exact Sh.mp g
     rw[Vv this];rfl
    |some v =>
     have this:es[j]?.map (·.val)=Ab v:=J.2 j v g
     rw[entry_at L] at this;cases m:N[j]? with
     |none=>rw[m] at this;cases this
     |some u=>rw[m] at this;exact this.symm
   have I3:=Inv.laid (o:=HO.lst (xs.map (·.2.2))) (t':=tk) q hk (Av _) ⟨by rw[Ao];exact f,N.map (·.2.2),c,MD p,by rw[hL,<- ev]⟩
   obtain⟨r3,e3⟩:=y.pure (o:=HO.lst (xs.map (·.2.2))) (q.hok.fresh (Av _))
   refine⟨.ref _,_,I3,rfl,Y _ _ _ w r3 (O.same.trans e3) O.pre ?_⟩;exact fK (.inl (.inl z9)) (U1 (si.mono e3 (Bd _) t))
  .exact Ar Y
 |_=>exact Ar Y
end
section
variable {X:Cx}{o e:Bz}{es:Aa Bz}{fo:DE}{fA:DA}{de cu ao p2:Fn}{cm:As}{k:Ag}
theorem MJ:QE X (.Dict [] [] ao) Q3:=⟨BA⟩
theorem EL (O:az cm k X.A)(C:QE X o fo)(N:QA X (e::es) fA)(U:Kb o "setdefault" X.env (eval o X.env)=eval o X.env:=by rfl)
  (G:((Gi ao (Bs (e::es) X.env)).all (λx=>!x.1)&&(AaK ao (Vw [] X.env)).all (λx=>x.1.isSome)&&decide ((e::es).length+([]:Aa Sx).length+(if ([] : Aa Sx).isEmpty then 0 else 1)<30))=true:=by rfl)
  (J:(de.endLine == ao.line)=true:=by rfl) (hs:Bs (e::es) X.env=(false,eval e X.env)::Bs es X.env:=by rfl) (Y:(Gi ao (Bs es X.env)).any (·.1)=false:=by rfl) :
  QE X (.Call (.Attribute o "setdefault" de) (e::es) [] ao) (rZ fo fA):=⟨LQ (sy O) C.1 N.1 U G J hs Y⟩
theorem JP (G:X.calm=true)(N:Gl X "list")(hm:X.mg "list" = none)(U:QE X o fo)(Y:Kb o "values" X.env (eval o X.env)=eval o X.env:=by rfl)(J:(de.endLine == cu.line)=true:=by rfl)
  (O:Bs [.Call (.Attribute o "values" de) [] [] cu] X.env=(false,eval (.Call (.Attribute o "values" de) [] [] cu) X.env)::Bs [] X.env:=by rfl):QE X (.Call (.Name "list" p2) [.Call (.Attribute o "values" de) [] [] cu] [] ao) (tF fo):=⟨VR G N hm U.1 Y J O⟩
end
end _D
section
namespace _D
open _L
mutual
def jY:D->Aj
 |.int i=>hashInt i
 |.tup Q=>Xu (Ib (vH Q))
 |_=>0
def vH:Aa D->Aa Aj
 |[]=>[]
 |d::Q=>jY d::vH Q
end
theorem DH {n:Ag}{a:D}(N:Tr n a):∀ {m:Ag} {b:D},Tr m b->e_ a b=true->a=b:=by
 induction N with
 |int n i =>
  intro m b J e;cases J with
  |int _ j=>exact congrArg D.int (Rf.mp (show (i == j)=true from e))
  |tup _ Q _=>cases e
 |tup n Y hs L =>
  intro m b J e;cases J with
  |int _ j=>cases e
  |tup m Q C =>
   have U:∀ (Y Q:Aa D),(∀ x∈Y,∀ y∈Q,e_ x y=true->x=y)->zE Y Q=true->Y=Q:=by
    intro Y
    induction Y with
    |nil=>intro Q _ e;cases Q with
     |nil=>rfl
     |cons _ _=>cases e
    |cons x Y G =>
     intro Q h e;cases Q with
     |nil=>cases e
     |cons y Q =>
      rw[jX,Az] at e;rw[h x (.head _) y (.head _) e.1,G Q (λa N b J=>h a (.tail _ N) b (.tail _ J)) e.2]
   exact congrArg D.tup (U Y Q (λx B y O e=>L x B (C y O) e) e)
theorem tK:∀ (xs Q:Aa D),vH (xs++Q)=vH xs++vH Q
 |[],_=>rfl
 |x::xs,Q=>congrArg (jY x::·) (tK xs Q)
theorem cO {xs:Aa D}{am:ag}(Y:xs.length=am.length):∀ v∈am,∃ (j:Ag) (x:D),xs[j]? = Ab x/\am[j]? = Ab v:=λv hv=>by
 obtain⟨j,Q,e⟩:=Cp.mp hv;exact⟨j,_,Ap li,by rw[Ap Q,e]⟩
section
variable {prog:Bo}{w:Cd}{h:Cb}
theorem IsTuple.at {h:Cb}{a:Af}{xs:Ay Ad}(t:h.IsTuple a xs):∃ o m,h.get? a=Ab o/\o.cls=.type "tuple" /\ o.data=.seq xs m:=by
 obtain⟨o,e,c,m,d⟩:=t;exact⟨o,m,e,c,d⟩
theorem gf.hash {n:Ag}{d:D}{v:Ad}(t:gf h n d v):∀ {A:Bu} {E:ab} {s:Ah} {Q:Aj->Ah->Prop},s.heap=h->A.units+n<Ed->(∀ J,s.toks<=J->Q (jY d) { s with toks:=J }) -> Aq (Au prog w) A (pyHash v) Q E s:=by
 induction t with
 |int n i t =>
  intro A E s Q hs c k;exact(Gg prog w).pyHash (k:=i) (v:=.int i t) (by simp[Gg,Sa]) (k _ (Mu _ _))
 |tup n a U B I f hs q =>
  intro A E s Q l c k;subst l;obtain⟨o,m,y,g,p⟩:=IsTuple.at I;have O:s.TypeIs (.ref a) "tuple":=⟨o,y,g⟩;unfold pyHash;unfold pyHashByItsType;refine Ac (wpAny_cRoomFor_or (.inr li) ?_);refine Ac (Ls O Ja.lookup ?_);show Aq _ _ (if (Ab (Value.builtin "tuple.__hash__") == Ab Dd)=true then _ else _) Q E s
  rw[Bh (by rw[beq_builtin_none];exact Es)]
  refine Ac (Ls O Ja.lookup ?_);show Aq _ _ (callSpecialIfBoundUnlessNone? (.ref a) "__hash__" _ >>= _) Q E s;refine Ac (wpAny_callSpecialIfBoundUnlessNone?_slot O Ja (Dv Ja O PySem.F.entry_tuple_hash ?_ (PySem.F.args_tuple_hash_1 _)));show Aq _ _ (Ms (.ref a) >>= _) _ _ s;refine Ac (wpAny_tupleItemsOf y p ?_);refine Ac ?_;rw[<- Om];refine HT _ (λM (b:Ay Aj) L=>∃ i,M=B.drop i/\b.toList=vH (U.take i)/\∃ J,s.toks<=J/\L={ s with toks:=J }) _ ?_ ?_ _ _ ⟨0,rfl,rfl,_,Av _,rfl⟩
  .rintro x M b L ⟨i,Y,C,J,G,rfl⟩
   have T:i<B.length:=Nat.lt_of_not_le λz=>by rw[Ji z] at Y;cases Y
   rw[Fa T] at Y;cases Y;have u:i<U.length:=by lia
   refine Ac (q i U[i] B[i] (Ap u) (Ap T) (s:={ s with toks:=J }) rfl ?_ λN j=>?_)
   .show A.units+1+n<Ed
    lia
   .have e:(b.push (jY U[i])).toList=vH (U.take (i+1)):=by
     rw[En,C,List.take_succ_eq_append_getElem u,tK];rfl
    first
     |exact Am ⟨i+1,rfl,e,N,Ch G j,rfl⟩
     |exact Ac (Am (Am ⟨i+1,rfl,e,N,Ch G j,rfl⟩))
  .rintro b L ⟨i,Y,C,J,G,rfl⟩
   have T:B.length<=i:=Aa0 λz=>by rw[Fa z] at Y;cases Y
   rw[Ht li] at C;show Aq _ _ (retInt (Ib b.toList)) _ _ _;rw[C];refine wpAny_ret_mkInt ?_;have k:=λt I=>k t I;rw[show jY (.tup U)=Xu (Ib (vH U)) from rfl] at k
   generalize Ib (vH U)=H at k ⊢;show Aq _ _ (if (decide (-(2:Aj) ^ 63<=H)&&decide (H<2 ^ 63))=true then _ else _) Q E _
   unfold Xu at k;by_cases Y:(decide (-(2:Aj) ^ 63<=H)&&decide (H<2 ^ 63))=true
   .rw[Bi Y]
    rw[Bi Y] at k;exact Am (k _ (by show s.toks<=J+1;lia))
   .rw[Bh Y]
    rw[Bh Y] at k;exact Ac (Gf (Am (k _ (by show s.toks<=J+1;lia))))
theorem gf.byV {n:Ag}{d:D}{v:Ad}(t:gf h n d v):∀ {f:Ag} {A:Bu} {E:ab} {s:Ah} {Q:As->Ah->Prop},s.heap=h->n<=f->Q true s->Aq (Au prog w) A (Wb f v) Q E s:=by
 induction t with
 |int n i t =>
  intro f A E s Q hs p k;rw[show Wb f (.int i t)=pure true from by cases f <;> rfl]
  exact Am k
 |tup n a y C T l hs H =>
  intro f A E s Q z p k;subst z;obtain⟨g,rfl⟩:∃ g,f=g+1:=⟨f-1,by lia⟩
  obtain⟨o,m,O,q,M⟩:=IsTuple.at T;have I:s.TypeIs (.ref a) "tuple":=⟨o,O,q⟩;unfold Wb;refine Ac (Ls I Ja.lookup ?_);show Aq _ _ (seqItems? (.ref a) >>= _) Q E s;refine Ac (Gu O M ?_);refine Ac ?_;show Aq _ _ (forIn C.toArray _ _) _ _ s;rw[<- Om];refine HT _ (λN r J=>r.1=none/\J=s/\∀ v∈N,∃ (j:Ag) (x:D),y[j]? = Ab x/\C[j]? = Ab v) _ ?_ ?_ _ _ ⟨rfl,rfl,cO l⟩
  .rintro v N r J ⟨U,rfl,Y⟩
   obtain⟨j,x,B,L⟩:=Y v De;refine Ac (H j x v B L rfl li ?_);simp only[Jg,Bn,Ds];exact Am ⟨rfl,rfl,λu G=>Y u (Ce _ G)⟩
  .rintro⟨e,c⟩ J ⟨U,rfl,_⟩
   simp only at U;subst U;exact Am k
theorem gf.cls {n:Ag}{d:D}{v:Ad}(t:gf h n d v):∀ {f:Ag} {A:Bu} {E:ab} {s:Ah} {Q:As->Ah->Prop},s.heap=h->n<=f->Q false s->Aq (Au prog w) A (Ph f v) Q E s:=by
 induction t with
 |int n i t =>
  intro f A E s Q hs p k;rw[show Ph f (.int i t)=pure false from by cases f <;> rfl]
  exact Am k
 |tup n a y C T l hs H =>
  intro f A E s Q z p k;subst z;obtain⟨g,rfl⟩:∃ g,f=g+1:=⟨f-1,by lia⟩
  obtain⟨o,m,O,q,M⟩:=IsTuple.at T;have I:s.TypeIs (.ref a) "tuple":=⟨o,O,q⟩;unfold Ph;refine Ac (Oq I ?_);dsimp only;refine Ac (Am ?_);simp only[Jg,Bn,Ds];refine Ac (Gu O M ?_);refine Ac ?_;show Aq _ _ (forIn C.toArray _ _) _ _ s;rw[<- Om];refine HT _ (λN r J=>r.1=none/\J=s/\∀ v∈N,∃ (j:Ag) (x:D),y[j]? = Ab x/\C[j]? = Ab v) _ ?_ ?_ _ _ ⟨rfl,rfl,cO l⟩
  .rintro v N r J ⟨U,rfl,Y⟩
   obtain⟨j,x,B,L⟩:=Y v De;refine Ac (H j x v B L rfl li ?_);simp only[Bn,Ds];exact Am ⟨rfl,rfl,λu G=>Y u (Ce _ G)⟩
  .rintro⟨e,c⟩ J ⟨U,rfl,_⟩
   simp only at U;subst U;exact Am k
theorem gf.quiet {n:Ag}{d:D}{v:Ad}(t:gf h n d v):∀ {f:Ag} {A:Bu} {E:ab} {s:Ah} {Q:As->Ah->Prop},s.heap=h->n<=f->Q true s->Aq (Au prog w) A (ZB f v) Q E s:=by
 induction t with
 |int n i t =>
  intro f A E s Q hs p k;rw[show ZB f (.int i t)=pure true from by cases f <;> rfl]
  exact Am k
 |tup n a y B I l hs H =>
  intro f A E s Q z p k;subst z;obtain⟨g,rfl⟩:∃ g,f=g+1:=⟨f-1,by lia⟩
  obtain⟨o,m,C,q,M⟩:=IsTuple.at I;have O:s.TypeIs (.ref a) "tuple":=⟨o,C,q⟩;unfold ZB;refine Ac (Ls O PySem.F.slot_tuple_eq.lookup ?_);show Aq _ _ (isInstance (.ref a) (.type "tuple") >>= _) _ _ s;refine Ac (Ky O isSubtype_tuple_tuple ?_);simp only[Jg,Bn,Ds];refine Ac (Gu C M ?_);refine Ac ?_;show Aq _ _ (forIn B.toArray _ _) _ _ s;rw[<- Om];refine HT _ (λN r J=>r.1=none/\J=s/\∀ v∈N,∃ (j:Ag) (x:D),y[j]? = Ab x/\B[j]? = Ab v) _ ?_ ?_ _ _ ⟨rfl,rfl,cO l⟩
  .rintro v N r J ⟨U,rfl,Y⟩
   obtain⟨j,x,L,T⟩:=Y v De;refine Ac (H j x v L T rfl li ?_);simp only[Jg,Bn,Ds];exact Am ⟨rfl,rfl,λu G=>Y u (Ce _ G)⟩
  .rintro⟨e,c⟩ J ⟨U,rfl,_⟩
   simp only at U;subst U;exact Am k
def vw (xs:Aa D)(h:Cb)(k:Aa Aj)(v:Ad):Prop:=∃ d,d∈xs/\gf h 6 d v/\qZ d=k
variable {xs:Aa D}
theorem vw.ref (ok:n_ xs=true){k:Aa Aj}{v:Ad}(t:vw xs h k v):∃ a,v=.ref a:=by
 obtain⟨d,Y,t,_⟩:=t;have Q:=(yO ok Y).1;cases t with
 |int _ _ _=>cases Q
 |tup _ a _ _ _ _ _=>exact⟨a,rfl⟩
theorem SY (ok:n_ xs=true):_S.wx prog w (vw xs h) (λk=>jY (gO xs k)) h where
 inj:=λ⟨d,_,t,e⟩ ⟨N,_,G,O⟩=>by rw[<- e,<- O,t.det G]
 ref:=vw.ref ok
 hsh:=λ{A E s k v Q} B Y ⟨d,U,t,e⟩ k=>by
  subst e;rw[uV ok U] at k;exact(t.sup Y).hash rfl li k
 eq:=λ{A E s k L v T Q} B Y ⟨d,U,t,e⟩ ⟨N,C,G,O⟩ J=>by
  subst e O;refine(t.sup Y).eq (G.sup Y) ((yO ok U).2.2 N C) li _ _ _ _ ?_;have:e_ d N=decide (qZ d=qZ N):=by
   rw[Jw,Cf];exact⟨λz=>by rw[DH t.tr G.tr z],λz=>by rw[gM t.tr G.tr z];exact XQ G.tr⟩
  rw[this];exact J
 byV:=λY ⟨d,U,t,e⟩ J=>(t.sup Y).byV rfl (by decide) J
 cls:=λY ⟨d,U,t,e⟩ J=>(t.sup Y).cls rfl (by decide) J
 quiet:=λY ⟨d,U,t,e⟩ J=>(t.sup Y).quiet rfl (by decide) J
theorem NR (ok:n_ xs=true):_S.sk prog w (vw xs h) (λk=>jY (gO xs k)) h:=⟨λY J Z G Q U O N h=>_S.qAX (SY ok) Y J Z G Q U O N h⟩
theorem AQ (ok:n_ xs=true):_S.Kind prog w (vw xs h) (λk=>jY (gO xs k)) _H.lexLt [] (λk=>∃ x∈xs,qZ x=k) h:=
 ⟨_S.zW,(SY (prog:=prog) (w:=w) ok).inj,λQ J Y U=>X2 ok Q (λi v hv=>let ⟨d,_,t,e⟩:=J i v hv;⟨d,t,e⟩) Y U⟩
end
def yC (xs:Aa D):An (Aa D):=if (decide ((_S.jl _H.lexLt (xs.map qZ)).length<=1000)&&n_ xs)=true then Ab ((_S.jl _H.lexLt (xs.map qZ)).map (gO xs)) else none
def wL (U:As)(f:DE):DE:=λY S=>(f Y S).bind λd Q=>match (bU d Q).bind yC with
 |some J=>if U then .ok (.loc Q.length) (Q++[.lst J]) else .ok (.lst J) Q
 |none=>.bad
section
variable {X:Cx}{e:Bz}{fa:DE}{p1 p2 pv pq:Fn}{mu:As}
set_option tactic.hygienic true in
theorem cU (hc:X.calm=true)(hu:X.A.units+64<Ed)(hg:Gl X "sorted")(hm:X.mg "sorted" = none)(l:Gl X "set")(j:X.mg "set" = none)(ha:PE X e (tD X fa))(he:Bs [e] X.env=(false,eval e X.env)::Bs [] X.env:=by rfl) :
  PE X (.Call (.Name "sorted" p1) [.Call (.Name "set" p2) [e] [] pq] [] pv) (tD X (wL mu fa)):=by
 intro ai s σ H Q I h;obtain⟨P,α,zv,S,r,re,af⟩:=h;refine Lj (vL I hg hm ZY ?_);refine Ql ?_ rfl rfl;refine Of ?_;refine Call_ (vL I l j V8 (Gc ?_ he rfl));rw[he];refine Of (bq (zX ha I r re af) λc E ⟨v,H1,P1,C,d,S1,Y,J⟩=>Pa ?_);cases n:(bU d S1).bind yC with
 |none=>simp only[n] at J;exact Ar J
 |some ys =>
   simp only[n] at J;obtain⟨N,hd,hs⟩:=Hl.mp n;obtain⟨a,vs,am,rfl,t1,zb,O,l1⟩:=TK Y.inv Y.rel Y.rep Y.val hd;have L:Aq (Au X.prog X.w) X.A (call (.type "set") [.ref a]) (λu E=>Aq (Au X.prog X.w) X.A (call (.builtin "sorted") [u]) (rn X ai σ H1 P1 C ys) X.xe E) X.xe E:=by
    unfold yC at hs
    split at hs
    .rename_i U
     cases hs;rw[Az,Cf] at U;obtain⟨U,ok⟩:=U;have T:∀ (i:Ag) (u:Ad),am[i]? = Ab u->∃ x c,N[i]? = Ab x/\x∈N/\gf E.heap 6 x u/\qG c u/\aq X.K P1 C x c:=λi u hi=>by
      have zs:i<am.length:=(Ax.mp hi).1;have A:N[i]? = Ab N[i]:=Ap li;obtain⟨y,f1,f2⟩:=t1.get A;obtain⟨z,g1,g2⟩:=zb.get f1;cases g1.symm.trans hi;refine⟨_,y,A,Mt _,YJ Y.inv Y.rel 6 ?_ f2 g2,g2,f2⟩;have:=Bb.mp ok _ (Mt (by lia:i<N.length))
      simp only[Az] at this;exact this.1.2
     refine aE (d:=[]) (AQ ok) (NR ok) hc hu Y.inv Y.rel O (N.map qZ) (by rw[Ao];exact l1) (λi u zc=>?_) U (λk hk=>?_) (gO N) λk u hk zl=>?_
     .obtain⟨x,_,ex,mx,g,_⟩:=T i u zc
      refine⟨x,mx,g,?_⟩;rw[Mx,Du,ex];rfl
     .obtain⟨x,A,rfl⟩:=Ba.mp hk
      exact⟨x,A,rfl⟩
     .obtain⟨i,b,rfl⟩:=Cp.mp zl
      obtain⟨x,w,ex,mx,g,o,pw⟩:=T i _ (Ap b);obtain⟨d,_,td,rfl⟩:=hk;have:=td.det g;subst this;rw[uV ok mx];exact⟨w,o,pw⟩
    .cases hs
   refine bq L λu s2 h2=>Pa (bq h2 λu' s3 ⟨D,zw,e,hn,I',B⟩=>?_);subst e;cases mu with
   |true=>exact⟨.ref D,_,I',rfl,lK Y.rel hn B λq M p G m O t f=>J q M p G m (Y.same.trans O) (Y.pre.trans t) f⟩
   |false=>exact⟨.ref D,_,I',rfl,wO Y.rel hn B λq M p G m O t f=>J q M p G m (Y.same.trans O) (Y.pre.trans t) f⟩
end
section
variable {X:Cx}{cm:As}{k:Ag}{e:Bz}{fa:DE}{p1 p2 pv pq:Fn}{mu:As}
theorem aA (G:X.calm=true)(O:az cm k X.A)(N:Gl X "sorted")(hm:X.mg "sorted" = none)(Y:Gl X "set")(Q:X.mg "set" = none)(U:QE X e fa)(J:Bs [e] X.env=(false,eval e X.env)::Bs [] X.env:=by rfl) :
  QE X (.Call (.Name "sorted" p1) [.Call (.Name "set" p2) [e] [] pq] [] pv) (wL mu fa):=⟨cU G O.units N hm Y Q U.1 J⟩
end
end _D
end
namespace _D
open _L
def l4:G2:=λa b S=>match uO b S,yI a with
 |some Q,Ab k=>.ok (.bl (xC Q k).isSome) S
 |_,_=>.bad
section
variable {X:Cx}
set_option tactic.hygienic true in
theorem RI (M:X.A.units+1<Ed):fv X (Ci .In) l4:=by
 intro l σ H s P α S v u f B a b Q I r L U T E Y;unfold l4 at Y
 split at Y
 .rename_i J k A y
  obtain⟨p,N,rfl,z,t⟩:=eA r A E;have C:=tP y T;subst C;cases (show B=Cy p from U)
  obtain⟨G,w⟩:=fD (k:=k) t;have g:gI H p (kV k) (yJ N k):=.inl ⟨_,k,.inl z,rfl,rfl⟩;refine _X M I g L λq j=>⟨.bl _,H,j,rfl,?_⟩;cases hv:xC J k with
  |none=>rw[hv] at Y;rw[w hv];exact xr Y r (by simp only[aq];rfl)
  |some d =>
   obtain⟨c,O,o⟩:=G d hv;rw[hv] at Y;rw[O];exact xr Y r (by simp only[aq];rfl)
 .exact Ar Y
end
section
variable {X:Cx}{cm:As}{k:Ag}{o i:Bz}{fo fi:DE}{ao:Fn}
theorem NJ (Q:az cm k X.A):fg X (.builtin "sorted") w5:=⟨VC Q.units⟩
theorem CH:fg X (.builtin "len") u4:=⟨PX⟩
theorem EG (Y:az cm k X.A)(Q:QE X o fo)(hi:QE X i fi)(hs:V1 i:=by intro _ _;rfl):QE X (.Subscript o i ao) (d2 mI fo fi):=⟨LL (sy Y) Q.1 hi.1 hs⟩
end
section
variable {X:Cx}{cm:As}{k:Ag}{e ei ek:Bz}{fe fi fk:DE}{p2 ao:Fn}
theorem qAD (Q:az cm k X.A):ip X (Ci .In) l4:=⟨RI (sy Q)⟩
end
end _D
namespace _D
variable {kvs:Aa (_L.bo × D)}{ds as:Aa D}{n p:Ag}{o2:An (Ag × MO)}{lo hi:An Aj}{f1:DE}{F:DF}{S1 S' S2:ak}
def Nx (o:jf)(Q:qB->ak->Prop):Prop:=∃ Y S,o=.nx Y S/\Q Y S
def Rt (o:jf)(Q:D->ak->Prop):Prop:=∃ d S,o=.rt d S/\Q d S
def Ok {β:Type}(r:ba β)(Q:β->ak->Prop):Prop:=∃ d S,r=.ok d S/\Q d S
theorem qQ {β:Type}{r:ba β}{Q:β->ak->Prop}{d:β}{S:ak}(h:r=.ok d S)(q:Q d S):Ok r Q:=⟨d,S,h,q⟩
theorem YC {f g:DS}{env:qB}{S:ak}{Q:D->ak->Prop}(h:Nx (f env S) λY S1=>Rt (g Y S1) Q):Rt (qH f g env S) Q:=by
 obtain⟨Y,S1,e,J,S2,U,q⟩:=h;exact⟨J,S2,by unfold qH;rw[e];exact U,q⟩
theorem WN {f:DE}{i:Ag}{env:qB}{S:ak}{Q:qB->ak->Prop}(h:Ok (f env S) λd S1=>Q (env.set i (Ab d)) S1):Nx (qT f (bi i) env S) Q:=by
 obtain⟨d,S1,e,q⟩:=h;exact⟨_,S1,by unfold qT bi;rw[e];rfl,q⟩
theorem HF {f:DE}{env:qB}{S:ak}{Q:D->ak->Prop}(h:Ok (f env S) Q):Rt (qU f env S) Q:=by
 obtain⟨d,S1,e,q⟩:=h;exact⟨_,S1,by unfold qU;rw[e];rfl,q⟩
theorem FR {g:DG}{f:DS}{Q:qB->ak->Prop}(I:Aa D->qB->ak->Prop)(turn:∀ d ds env S,I (d::ds) env S->∃ Y S1,g d env S=.ok Y S1/\Nx (f Y S1) (I ds))(J:∀ env S,I [] env S->Q env S) :
  ∀ {ds:Aa D} {env:qB} {S:ak},I ds env S->Nx (vN g f ds env S) Q
 |[],env,S,h=>⟨env,S,rfl,J env S h⟩
 |d::ds,env,S,h=>by
  obtain⟨Y,S1,B,G,S2,O,C⟩:=turn d ds env S h;obtain⟨U,N,L,q⟩:=FR I turn J (ds:=ds) C;refine⟨U,N,?_,q⟩;unfold vN;simp only[B,ba.toS,O];exact L
theorem FQ {fi:me}{g:DG}{f:DS}{env:qB}{S:ak}{o:An (Ag × MO)}{Q:qB->ak->Prop}(h:fi env S=.ok (o,ds) S1)(k:Nx (wH o g f ds env S1) Q):Nx (nH fi g f env S) Q:=by
 obtain⟨Y,S2,J,q⟩:=k;exact⟨Y,S2,by unfold nH;rw[h];exact J,q⟩
theorem hX {o:An (Ag × MO)}{g:DG}{f:DS}{Q:qB->ak->Prop}(I:Aa D->qB->ak->Prop)(G:∀ ds env S,I ds env S->ke o S)(turn:∀ d ds env S,I (d::ds) env S->∃ Y S1,g d env S=.ok Y S1/\Nx (f Y S1) (I ds))(J:∀ env S,I [] env S->Q env S) :
  ∀ {ds:Aa D} {env:qB} {S:ak},I ds env S->Nx (wH o g f ds env S) Q
 |[],env,S,h=>⟨env,S,by unfold wH;rw[Bi (wD.mpr (G _ _ _ h))],J env S h⟩
 |d::ds,env,S,h=>by
  obtain⟨Y,S1,L,N,S2,C,B⟩:=turn d ds env S h;obtain⟨U,O,T,q⟩:=hX I G turn J (ds:=ds) B;refine⟨U,O,?_,q⟩;unfold wH;rw[Bi (wD.mpr (G _ _ _ h))];simp only[L,ba.toS,C];exact T
theorem f9 {o:An (Ag × MO)}{g:DG}{t:DT}{k:DK}(J:D->Aa D)(C:qB->ak->Prop)(N:∀ env S,C env S->ke o S) :
  ∀ (items:Aa D) (env:qB) (S:ak) (ar:Aa D),C env S->ar.length+(items.flatMap J).length<=bn ->
  (∀ d∈items,∀ env S ar,C env S->ar.length+(J d).length<=bn->∃ Q S1 b S2,g d env S=.ok Q S1/\t Q S1=.ok b S2/\((b=false/\J d=[]/\C Q S2)\/(b=true/\∃ U O,k Q S2 ar=.ok (U,ar++J d) O/\C U O))) ->
  ∃ Y S',ik o g t k items env S ar=.ok (Y,ar++items.flatMap J) S'/\C Y S'
 |[],env,S,ar,h,T,_=>⟨env,S,by simp[ik,wD.mpr (N _ _ h)],h⟩
 |d::ds,env,S,ar,h,T,step=>by
  rw[Fb,By] at T;obtain⟨Q,S1,b,S2,L,E,r⟩:=step d (De ..) env S ar h om;have G:=wD.mpr (N _ _ h);rcases r with⟨rfl,I,H⟩|⟨rfl,U,O,M,A⟩
  .obtain⟨Y,S',e,q⟩:=f9 J C N ds Q S2 ar H om λd B=>step d (Ce _ B)
   refine⟨Y,S',?_,q⟩;simp only[ik,G,Dp,L,E,ba.bind,Bn,Ds,Fb,I,Gz];exact e
  .obtain⟨Y,S',e,q⟩:=f9 J C N ds U O (ar++J d) A (by rw[By];fin2) λd B=>step d (Ce _ B)
   refine⟨Y,S',?_,q⟩;simp only[ik,G,Dp,L,E,ba.bind,M,Fb];rw[e,Cc]
theorem jE {fe:DE}{env:qB}{S:ak}{ar:Aa D}{x:D}(h:fe env S=.ok x S1)(Q:ar.length<bn):z0 fe env S ar=.ok (env,ar++[x]) S1:=by
 unfold z0;rw[h];simp[ba.bind,Q]
theorem u9 {bu:Aa (An Ag)}{fi:me}{g:DG}{t:DT}{k:DK}{env Q:qB}{S:ak}{o:An (Ag × MO)}{items:Aa D}(h:fi env S=.ok (o,items) S1)(e:ik o g t k items (xF bu env) S1 [] = .ok (Q,ds) S'):qW false bu fi g t k env S=.ok (.lst ds) S':=by
 unfold qW;rw[h];simp only[ba.bind,e,ur];rfl
theorem iY {f:DE}{S:ak}{d:D}{env:qB}(hs:yP n ds=env)(h:f env S=.ok d S'):qL n (qU f) ds S=.ok d S':=by
 subst hs;unfold qL qU;rw[h];rfl
theorem HH {g:DS}{S:ak}{d:D}{env:qB}(hs:yP n ds=env)(h:g env S=.rt d S'):qL n g ds S=.ok d S':=by
 subst hs;unfold qL;rw[h];rfl
theorem TZ {o:An (Ag × MO)}{S:ak}(h:ke o S)(e:S<+:S'):ke o S':=by
 cases o with
 |none=>trivial
 |some p =>
  obtain⟨r,rfl⟩:=e;have Q:S[p.1]? = Ab p.2:=h;show (S++r)[p.1]? = Ab p.2;rw[AT (Ax.mp Q).1];exact Q
theorem l9 {S:ak}{i:Ag}{m:MO}(h:S[i]? = Ab m)(e:S<+:S'):S'[i]? = Ab m:=by
 obtain⟨r,rfl⟩:=e;rw[AT (Ax.mp h).1];exact h
theorem vB {α β:Type}(Q:α->As)(val:α->β)(l:Aa α) : (l.flatMap λd=>if Q d then [val d] else []) = (l.filter Q).map val:=by
 induction l with
 |nil=>rfl
 |cons d l Y =>
  rw[Fb,Y];cases h:Q d <;> simp[h]
theorem cW {α β:Type}(f:α->Aa β)(n:Ag)(l:Aa α)(h:∀ x∈l,(f x).length<=n):(l.flatMap f).length<=l.length*n:=by
 induction l with
 |nil=>simp
 |cons d l Y =>
  rw[Fb,By,Bv,Nat.succ_mul];have J:=h d (De ..);have U:=Y λx Q=>h x (Ce _ Q);fin2
section
variable {bu:Aa (An Ag)}{fi:me}{g:DG}{t:DT}{fe:DE}{env:qB}{S S0:ak}{o:An (Ag × MO)}{items:Aa D}
theorem L8 {rd:me}{g2:DG}{t2:DT}(h:fi env S=.ok (o,items) S)(H:ke o S)(B:ke o2 S)(Y:D->Aa D)(J:D->D->As)(val:D->D->D)(C:qB->Prop)(O:D->qB->Prop)(h0:C (xF bu env))(I:∀ d env,O d env->C env)
  (T:(items.flatMap λd=>((Y d).filter (J d)).map (val d)).length<=bn)
  (step:∀ d∈items,∀ env,C env->∃ Q,g d env S=.ok Q S/\O d Q/\t Q S=.ok true S/\rd Q S=.ok (o2,Y d) S)
  (N:∀ d∈items,∀ x∈Y d,∀ env,O d env->∃ Q,g2 x env S=.ok Q S/\O d Q/\t2 Q S=.ok (J d x) S/\(J d x=true->fe Q S=.ok (val d x) S)) :
  qW false bu fi g t (kIn rd g2 t2 (z0 fe)) env S=.ok (.lst (items.flatMap λd=>((Y d).filter (J d)).map (val d))) S:=by
 obtain⟨z,S',e,_,q⟩:=f9 (o:=o) (g:=g) (t:=t) (k:=kIn rd g2 t2 (z0 fe)) (λd=>((Y d).filter (J d)).map (val d)) (λenv S'=>C env/\S'=S) (λ_ _ h=>h.2▸H) items (xF bu env) S [] ⟨h0,rfl⟩ (by simpa using T) (λd w env S' j E T=>by
  obtain⟨A,rfl⟩:=E;obtain⟨Q,l,y,u,c⟩:=step d w env A;obtain⟨L,S2,m,q,r⟩:=f9 (o:=o2) (g:=g2) (t:=t2) (k:=z0 fe) (λx=>if J d x then [val d x] else []) (λenv U=>O d env/\U=S') (λ_ _ h=>h.2▸B) (Y d) Q S' j ⟨y,rfl⟩ (by rw[vB];exact T) (λx i env U j E T=>by
   obtain⟨A,rfl⟩:=E;obtain⟨G,f1,M,f,v⟩:=N d w x i env A;refine⟨G,U,J d x,U,f1,f,?_⟩;cases hs:J d x with
   |false=>exact .inl ⟨rfl,by simp,M,rfl⟩
   |true =>
    refine .inr ⟨rfl,G,U,?_,M,rfl⟩;simp only[Dp];exact jE (v hs) (by simp only[hs,Dp,Ia] at T;fin2))
  subst r;refine⟨Q,S2,true,S2,l,u,.inr ⟨rfl,L,S2,?_,I d _ q,rfl⟩⟩;unfold kIn;rw[c];simp only[ba.bind];rw[m,vB])
 subst q;have:=u9 (bu:=bu) h e
 rwa [Gz] at this
end
theorem ut {α:Type}{cq:α->D}{o:An (Ag × MO)}{g:DG}{t:DT}{k:DK}(J:α->Aa D)(C:qB->ak->Prop)(N:∀ env S,C env S->ke o S) :
  ∀ (xs:Aa α) (env:qB) (S:ak) (ar:Aa D),C env S->ar.length+(xs.flatMap J).length<=bn ->
  (∀ x∈xs,∀ env S ar,C env S->ar.length+(J x).length<=bn->∃ Q S1 b S2,g (cq x) env S=.ok Q S1/\t Q S1=.ok b S2/\((b=false/\J x=[]/\C Q S2)\/(b=true/\∃ U O,k Q S2 ar=.ok (U,ar++J x) O/\C U O))) ->
  ∃ Y S',ik o g t k (xs.map cq) env S ar=.ok (Y,ar++xs.flatMap J) S'/\C Y S'
 |[],env,S,ar,h,E,_=>⟨env,S,by simp[ik,wD.mpr (N _ _ h)],h⟩
 |x::xs,env,S,ar,h,E,step=>by
  rw[Fb,By] at E;obtain⟨Q,S1,b,S2,T,L,r⟩:=step x (De ..) env S ar h om;have G:=wD.mpr (N _ _ h);rcases r with⟨rfl,I,H⟩|⟨rfl,U,O,A,M⟩
  .obtain⟨Y,S',e,q⟩:=ut J C N xs Q S2 ar H om λd B=>step d (Ce _ B)
   refine⟨Y,S',?_,q⟩;simp only[Df,ik,G,Dp,T,L,ba.bind,Bn,Ds,Fb,I,Gz];exact e
  .obtain⟨Y,S',e,q⟩:=ut J C N xs U O (ar++J x) M (by rw[By];fin2) λd B=>step d (Ce _ B)
   refine⟨Y,S',?_,q⟩;simp only[Df,ik,G,Dp,T,L,ba.bind,A,Fb];rw[e,Cc]
section
variable {α β:Type}{cq:α->D}{rf:β->D}{bu:Aa (An Ag)}{fi:me}{g:DG}{t:DT}{fe:DE}{env:qB}{S S0:ak}{o:An (Ag × MO)}{xs:Aa α}
theorem _R (G:ke o S)(Y:α->As)(val:α->D)(C:qB->Prop)(h0:C env)(N:xs.length<=bn)
  (step:∀ x∈xs,∀ env S',C env->S<+:S'->∃ Q S1,g (cq x) env S'=.ok Q S'/\C Q/\t Q S'=.ok (Y x) S1/\S'<+:S1/\(Y x=true->∃ S2,fe Q S1=.ok (val x) S2/\S1<+:S2)) :
  ∃ J S',ik o g t (z0 fe) (xs.map cq) env S [] = .ok (J,(xs.filter Y).map val) S'/\S<+:S':=by
 have L:(xs.flatMap λd=>if Y d then [val d] else []).length<=bn:=by
  rw[vB,Ao];exact Ch (Ec _ _) N
 obtain⟨J,S',e,_,q⟩:=ut (cq:=cq) (o:=o) (g:=g) (t:=t) (k:=z0 fe) (λd=>if Y d then [val d] else []) (λenv S'=>C env/\S<+:S') (λ_ _ h=>TZ G h.2) xs env S [] ⟨h0,Bd _⟩ (by simpa using L) (λd E env S' M U N=>by
  obtain⟨Q,S1,H,O,T,B,k⟩:=step d E env S' U.1 U.2;refine⟨Q,S',Y d,S1,H,T,?_⟩;cases hs:Y d with
  |false=>exact .inl ⟨rfl,by simp,O,U.2.trans B⟩
  |true =>
   obtain⟨S2,A,I⟩:=k hs;refine .inr ⟨rfl,Q,S2,?_,O,(U.2.trans B).trans I⟩;simp only[Dp];exact jE A (by simp only[hs,Dp,Ia] at N;fin2))
 refine⟨J,S',?_,q⟩;rw[e,Gz,vB]
theorem X4 (h:fi env S0=.ok (o,xs.map cq) S)(J:ke o S)(Y:α->As)(val:α->D)(C:qB->Prop)(h0:C (xF bu env))(G:xs.length<=bn)
  (step:∀ x∈xs,∀ env S',C env->S<+:S'->∃ Q S1,g (cq x) env S'=.ok Q S'/\C Q/\t Q S'=.ok (Y x) S1/\S'<+:S1/\(Y x=true->∃ S2,fe Q S1=.ok (val x) S2/\S1<+:S2)) :
  ∃ S',qW false bu fi g t (z0 fe) env S0=.ok (.lst ((xs.filter Y).map val)) S'/\S<+:S':=by
 obtain⟨U,S',e,q⟩:=_R J Y val C h0 G step;exact⟨S',u9 h e,q⟩
theorem AI (U:ke o S)(Y:α->As)(val:α->D)(C:qB->Prop)(h0:C env)(G:xs.length<=bn)
  (step:∀ x∈xs,∀ env,C env->∃ Q,g (cq x) env S=.ok Q S/\C Q/\t Q S=.ok (Y x) S/\(Y x=true->fe Q S=.ok (val x) S)) :
  ∃ J,ik o g t (z0 fe) (xs.map cq) env S [] = .ok (J,(xs.filter Y).map val) S:=by
 have B:(xs.flatMap λd=>if Y d then [val d] else []).length<=bn:=by
  rw[vB,Ao];exact Ch (Ec _ _) G
 obtain⟨J,S',e,_,q⟩:=ut (cq:=cq) (o:=o) (g:=g) (t:=t) (k:=z0 fe) (λd=>if Y d then [val d] else []) (λenv S'=>C env/\S'=S) (λ_ _ h=>h.2▸U) xs env S [] ⟨h0,rfl⟩ (by simpa using B) (λd T env S' H O G=>by
  obtain⟨E,rfl⟩:=O;obtain⟨Q,I,N,L,k⟩:=step d T env E;refine⟨Q,S',Y d,S',I,L,?_⟩;cases hs:Y d with
  |false=>exact .inl ⟨rfl,by simp,N,rfl⟩
  |true =>
   refine .inr ⟨rfl,Q,S',?_,N,rfl⟩;simp only[Dp];exact jE (k hs) (by simp only[hs,Dp,Ia] at G;fin2))
 subst q;refine⟨J,?_⟩;rw[e,Gz,vB]
theorem nP (h:fi env S=.ok (o,xs.map cq) S)(J:ke o S)(Y:α->As)(val:α->D)(C:qB->Prop)(h0:C (xF bu env))(G:xs.length<=bn)
  (step:∀ x∈xs,∀ env,C env->∃ Q,g (cq x) env S=.ok Q S/\C Q/\t Q S=.ok (Y x) S/\(Y x=true->fe Q S=.ok (val x) S)) :
  qW false bu fi g t (z0 fe) env S=.ok (.lst ((xs.filter Y).map val)) S:=by
 obtain⟨U,e⟩:=AI J Y val C h0 G step;exact u9 h e
theorem B3 {rd:me}{g2:DG}{t2:DT}(h:fi env S=.ok (o,xs.map cq) S)(H:ke o S)(B:ke o2 S)(N:α->Aa β)(Y:α->β->As)(val:α->β->D)(C:qB->Prop)(O:α->qB->Prop)(h0:C (xF bu env))(I:∀ x env,O x env->C env)
  (T:(xs.flatMap λx=>((N x).filter (Y x)).map (val x)).length<=bn)
  (step:∀ x∈xs,∀ env,C env->∃ Q,g (cq x) env S=.ok Q S/\O x Q/\t Q S=.ok true S/\rd Q S=.ok (o2,(N x).map rf) S)
  (G:∀ x∈xs,∀ y∈N x,∀ env,O x env->∃ Q,g2 (rf y) env S=.ok Q S/\O x Q/\t2 Q S=.ok (Y x y) S/\(Y x y=true->fe Q S=.ok (val x y) S)) :
  qW false bu fi g t (kIn rd g2 t2 (z0 fe)) env S=.ok (.lst (xs.flatMap λx=>((N x).filter (Y x)).map (val x))) S:=by
 obtain⟨z,S',e,_,q⟩:=ut (cq:=cq) (o:=o) (g:=g) (t:=t) (k:=kIn rd g2 t2 (z0 fe)) (λx=>((N x).filter (Y x)).map (val x)) (λenv S'=>C env/\S'=S) (λ_ _ h=>h.2▸H) xs (xF bu env) S [] ⟨h0,rfl⟩ (by simpa using T) (λd w env S' j E T=>by
  obtain⟨A,rfl⟩:=E;obtain⟨Q,c,u,l,v⟩:=step d w env A;obtain⟨L,S2,i,q,r⟩:=ut (cq:=rf) (o:=o2) (g:=g2) (t:=t2) (k:=z0 fe) (λx=>if Y d x then [val d x] else []) (λenv J=>O d env/\J=S') (λ_ _ h=>h.2▸B) (N d) Q S' j ⟨u,rfl⟩ (by rw[vB];exact T) (λx s env J j E T=>by
   obtain⟨A,rfl⟩:=E;obtain⟨U,f1,M,m,f⟩:=G d w x s env A;refine⟨U,J,Y d x,J,f1,m,?_⟩;cases hs:Y d x with
   |false=>exact .inl ⟨rfl,by simp,M,rfl⟩
   |true =>
    refine .inr ⟨rfl,U,J,?_,M,rfl⟩;simp only[Dp];exact jE (f hs) (by simp only[hs,Dp,Ia] at T;fin2))
  subst r;refine⟨Q,S2,true,S2,c,l,.inr ⟨rfl,L,S2,?_,I d _ q,rfl⟩⟩;unfold kIn;rw[v];simp only[ba.bind];rw[i,vB])
 subst q;have:=u9 (bu:=bu) h e
 rwa [Gz] at this
end
theorem t9 {o:G2}{f g:DE}{env:qB}{S:ak}{a b:D}(h1:f env S=.ok a S1)(h2:g env S1=.ok b S2):d2 o f g env S=o a b S2:=by
 unfold d2;rw[h1];simp only[ba.bind];rw[h2]
theorem oZ {env:qB}{S:ak}{a:D}(h1:f1 env S=.ok a S1):qD 1 F (q8 f1 qA) env S=F [a] S1:=by
 simp only[qD,q8,qA,h1,ba.bind,Bv,Eh,Dp]
theorem CN {Q:DE}{env:qB}{S:ak}{a b:D}(h1:f1 env S=.ok a S1)(h2:Q env S1=.ok b S2):qD 2 F (q8 f1 (q8 Q qA)) env S=F [a,b] S2:=by
 simp only[qD,q8,qA,h1,h2,ba.bind,Bv,Eh,Dp]
theorem CO {J Q:DE}{env:qB}{S Y:ak}{a b c:D}(h1:f1 env S=.ok a S1)(h2:J env S1=.ok b S2)(h3:Q env S2=.ok c Y):qD 3 F (q8 f1 (q8 J (q8 Q qA))) env S=F [a,b,c] Y:=by
 simp only[qD,q8,qA,h1,h2,h3,ba.bind,Bv,Eh,Dp]
theorem t7 {env:qB}{S:ak}{a:D}(h1:f1 env S=.ok a S1):qM F (q8 f1 qA) env S=F [a] S1:=by
 simp only[qM,q8,qA,h1,ba.bind]
theorem PN {f:DE}{env:qB}{S:ak}{b:As}(h:f env S=.ok (.bl b) S1):ci f env S=.ok b S1:=by
 unfold ci;rw[h];rfl
theorem XC {env:qB}{S:ak}{a:D}(h1:f1 env S=.ok a S1):q8 f1 qA env S=.ok [a] S1:=by
 simp only[q8,qA,h1,ba.bind]
theorem SV {g:DA}{env:qB}{S:ak}(k:g env S=.ok as S1)(h:as.length<=bn):wA g env S=.ok (.lst as) S1:=by
 simp only[wA,k,ba.bind,h,Dp]
theorem YK {g:DA}{env:qB}{S:ak}(k:g env S=.ok as S1)(h:as.length<=bn):zD g env S=.ok (.tup as) S1:=by
 simp only[zD,k,ba.bind,h,Dp]
theorem vR {env:qB}{i:Ag}{d:D}{S:ak}(h:env[i]? = Ab (Ab d)):q9 i env S=.ok d S:=by simp only[q9,h]
theorem dJ {α:Type}(l:Aa α) : l.filter (λ_=>true)=l:=by simp
theorem ZW {α:Type}(p:α->As)(l:Aa α) : y7 (l.map λx=>D.bl (p x))=Ab (l.map p):=by
 induction l with
 |nil=>rfl
 |cons x l Q =>
  show (y7 (l.map λx=>D.bl (p x))).map (p x::·)=_
  rw[Q];rfl
section
variable {β γ:Type}{env:qB}{S:ak}
theorem qS {r:ba β}{k:β->ak->ba γ}{Q:γ->ak->Prop}(h:Ok r λd S1=>Ok (k d S1) Q):Ok (r.bind k) Q:=by
 obtain⟨d,S1,rfl,h⟩:=h;exact h
theorem wN {r:ba β}{d:β}(h:Ok r λd' S'=>d'=d/\S'=S):r=.ok d S:=by
 obtain⟨_,_,e,rfl,rfl⟩:=h;exact e
theorem zI {r:ba β}{Q Y:β->ak->Prop}(h:Ok r Q)(k:∀ d S,Q d S->Y d S):Ok r Y:=by
 obtain⟨d,S,e,q⟩:=h;exact⟨d,S,e,k d S q⟩
variable {Q:D->ak->Prop}{f g:DE}{fa:DA}{o:G2}{i j:Ag}
theorem o_c {d:D}(h:Q d S):Ok (dC d env S) Q:=⟨_,_,rfl,h⟩
theorem o_v {d:D}(e:env[i]? = Ab (Ab d))(h:Q d S):Ok (q9 i env S) Q:=⟨_,_,vR e,h⟩
theorem o_2 (h:Ok (f env S) λa S1=>Ok (g env S1) λb S2=>Ok (o a b S2) Q):Ok (d2 o f g env S) Q:=qS (zI h λ_ _=>qS)
theorem o_1 {u:D->ak->ba D}(h:Ok (f env S) λa S1=>Ok (u a S1) Q):Ok (d1 u f env S) Q:=qS h
theorem Z2 {Q:Aa D->ak->Prop}(h:Q [] S):Ok (qA env S) Q:=⟨_,_,rfl,h⟩
theorem bR {Q:Aa D->ak->Prop}(h:Ok (f env S) λa S1=>Ok (fa env S1) λas S2=>Q (a::as) S2):Ok (q8 f fa env S) Q:=qS (zI h λ_ _ k=>qS (zI k λ_ _ q=>⟨_,_,rfl,q⟩))
theorem qB1 (h:Ok (fa env S) λas S1=>as.length<=bn/\Q (.tup as) S1):Ok (zD fa env S) Q:=qS (zI h λ_ _ k=>⟨_,_,Bi k.1,k.2⟩)
theorem IF (h:Ok (fa env S) λas S1=>as.length<=bn/\Q (.lst as) S1):Ok (wA fa env S) Q:=qS (zI h λ_ _ k=>⟨_,_,Bi k.1,k.2⟩)
theorem qBf (h:Ok (fa env S) λas S1=>as.length<=bn/\Q (.loc S1.length) (S1++[.lst as])):Ok (vY fa env S) Q:=qS (zI h λ_ _ k=>⟨_,_,Bi k.1,k.2⟩)
theorem qBs (h:Q (.loc S.length) (S++[.dct []])) : Ok (rY env S) Q:=⟨_,_,rfl,h⟩
theorem R7 (h:Ok (fa env S) λas S1=>as.length=n/\Ok (F as S1) Q):Ok (qD n F fa env S) Q:=qS (zI h λ_ _ k=>by rw[Bi k.1];exact k.2)
theorem qBx (h:Ok (F as S) Q):Ok (l_ F as S) Q:=by
 obtain⟨d,S1,e,q⟩:=h;exact⟨d,S1,WU e,q⟩
theorem qB6 (h:Ok (fa env S) λas S1=>Ok (F as S1) Q):Ok (qM F fa env S) Q:=qS h
theorem qBr {a b:Aj}(h:Q (.int (a+b)) S):Ok (zP (.int a) (.int b) S) Q:=⟨_,_,rfl,h⟩
theorem tX {a b:Aa D}(l:a.length+b.length<=bn)(h:Q (.lst (a++b)) S):Ok (zP (.lst a) (.lst b) S) Q:=⟨_,_,Bi l,h⟩
theorem qB0 {a b:Aj}(h:Q (.int (a-b)) S):Ok (zV (.int a) (.int b) S) Q:=⟨_,_,rfl,h⟩
theorem qBw {a:Aj}(h:Q (.int (-a)) S):Ok (kI (.int a) S) Q:=⟨_,_,rfl,h⟩
theorem qBv {a b:Aj}(l : -(2 ^ 64)<a/\a<2 ^ 64)(h:Q (.int (a*b)) S):Ok (zK (.int a) (.int b) S) Q:=by
 refine⟨_,_,?_,h⟩;unfold zK i2;rw[rL];unfold rK;simp only[l,and_self,La,Bool.true_or,Dp]
theorem qBq {a:Aj}(h:Q (.int (if a<0 then -a else a)) S):Ok (nY [.int a] S) Q:=⟨_,_,rfl,h⟩
theorem tY {a b:Aj}(l:b≠0/\b.natAbs.log2<9000)(h:Q (.int (a.fdiv b)) S):Ok (gS (.int a) (.int b) S) Q:=by
 refine⟨_,_,?_,h⟩;unfold gS i2;rw[rJ];exact Bi (Bm l)
theorem qBu {a b:Aj}(l:0<b)(h:Q (.int (a % b)) S):Ok (uF (.int a) (.int b) S) Q:=by
 refine⟨_,_,?_,h⟩;unfold uF i2;simp[l]
theorem qBt {a b:Aj}(l:0<b/\b<1073741824)(h:Q (.int (a/b)) S):Ok (kH (.int a) (.int b) S) Q:=by
 refine⟨_,_,?_,h⟩;unfold kH i2 NW;simp[l]
theorem qCE {a b:Aj}(h:Q (.bl (decide (a<b))) S):Ok (mj (.int a) (.int b) S) Q:=⟨_,_,rfl,h⟩
theorem qCD {a b:Aj}(h:Q (.bl (decide (a<=b))) S):Ok (lq (.int a) (.int b) S) Q:=⟨_,_,rfl,h⟩
theorem qCC {a b:Aj}(h:Q (.bl (decide (b<a))) S):Ok (tm (.int a) (.int b) S) Q:=⟨_,_,rfl,h⟩
theorem qCA {a b:Aj}(h:Q (.bl (decide (b<=a))) S):Ok (vy (.int a) (.int b) S) Q:=⟨_,_,rfl,h⟩
theorem qA0 {a b:Aj}(h:Q (.bl (decide (a=b))) S):Ok (jy (.int a) (.int b) S) Q:=⟨_,_,by kernel_rfl!,h⟩
theorem qCF {a b:Aj}(h:Q (.bl (!decide (a=b))) S):Ok (im (.int a) (.int b) S) Q:=⟨_,_,by kernel_rfl!,h⟩
theorem GX {a:Aa D}{k:Aj}{d:D}(e:_L.ky a k=Ab d)(h:Q d S):Ok (dy (.tup a) (.int k) S) Q:=⟨d,S,by show _D.v7 (_L.ky a k) S=_;rw[e];rfl,h⟩
theorem QZ {a:Aa D}{k:Aj}{d:D}(e:_L.ky a k=Ab d)(h:Q d S):Ok (dy (.lst a) (.int k) S) Q:=⟨d,S,by show _D.v7 (_L.ky a k) S=_;rw[e];rfl,h⟩
theorem qBe {a:Aa D}(h:Q (.int a.length) S):Ok (xE [.tup a] S) Q:=⟨_,_,rfl,h⟩
theorem qBd {a:Aa D}(h:Q (.int a.length) S):Ok (xE [.lst a] S) Q:=⟨_,_,rfl,h⟩
theorem qBj {a:Aa D}(h:Q (.tup a) S):Ok (uB [.lst a] S) Q:=⟨_,_,rfl,h⟩
theorem qBg {a:Aa D}(h:Q (.lst a) S):Ok (sV [.tup a] S) Q:=⟨_,_,rfl,h⟩
theorem QX (h:Ok (f env S) λd S1=>∃ b,d=.bl b/\(b=true->Ok (g env S1) Q)/\(b=false->Q (.bl false) S1)):Ok (mB f g env S) Q:=qS (zI h λd S1 ⟨b,e,Y,J⟩=>by
 subst e;cases b with
 |true=>exact Y rfl
 |false=>exact⟨_,_,rfl,J rfl⟩)
theorem qCK {J Y:DO}(h:Ok (f env S) λd S1=>Ok (J env S1) λlo S2=>Ok (Y env S2) λhi U=>Ok (s_ d lo hi U) Q):Ok (pc f J Y env S) Q:=qS (zI h λ_ _ k=>qS (zI k λ_ _=>qS))
theorem qBz {a:Aa D}(h:Q (.tup (wG a lo hi)) S):Ok (s_ (.tup a) lo hi S) Q:=⟨_,_,rfl,h⟩
theorem qBy {a:Aa D}(h:Q (.lst (wG a lo hi)) S):Ok (s_ (.lst a) lo hi S) Q:=⟨_,_,rfl,h⟩
theorem qB7 {Q:An Aj->ak->Prop}(h:Q none S):Ok (uA env S) Q:=⟨_,_,rfl,h⟩
theorem qB8 {Q:An Aj->ak->Prop}(h:Ok (f env S) λd S1=>∃ k,d=.int k/\Q (Ab k) S1):Ok (wU f env S) Q:=qS (zI h λ_ _ ⟨_,e,q⟩=>by subst e;exact⟨_,_,rfl,q⟩)
theorem qB5 {T:Ex}{m:D->Aa D->ak->ba D}(h:Ok (f env S) λa S1=>mh a S1=Ab T/\Ok (fa env S1) λas S2=>Ok (m a as S2) Q):Ok (p_ T m f fa env S) Q:=qS (zI h λ_ _ k=>by rw[k.1,Bi (by simp)];exact qS k.2)
theorem QY {xs:Aa D}{d:D}(e:S[i]? = Ab (.lst xs))(l:xs.length<bn)(h:Q .non (S.set i (.lst (xs++[d])))):Ok (xS (.loc i) [d] S) Q:=by
 refine⟨_,_,?_,h⟩;show (match S[i]? with|some (.lst xs)=>(if xs.length<bn then ba.ok D.non (S.set i (.lst (xs++[d]))) else .bad)|_=>.bad)=_
 rw[e];exact Bi l
theorem qA1 {t:DT}(h:Ok (t env S) λb S1=>(b=true->Ok (f env S1) Q)/\(b=false->Ok (g env S1) Q)):Ok (vz t f g env S) Q:=qS (zI h λb S1 k=>by
 cases b with
 |true=>exact k.1 rfl
 |false=>exact k.2 rfl)
variable {Q:As->ak->Prop}{t u:DT}
theorem qCL (h:Ok (f env S) λd S1=>∃ b,xM d S1=Ab b/\Q b S1):Ok (ci f env S) Q:=qS (zI h λd S1 ⟨b,e,k⟩=>by
 rw[e];exact⟨_,_,rfl,k⟩)
theorem qBh (h:Ok (t env S) λb S1=>Q (!b) S1):Ok (yQ t env S) Q:=qS (zI h λ_ _ k=>⟨_,_,rfl,k⟩)
theorem qB2 (h:Q true S):Ok (zN env S) Q:=⟨_,_,rfl,h⟩
theorem tZ (h:Ok (t env S) λb S1=>(b=true->Q true S1)/\(b=false->Ok (u env S1) Q)):Ok (bD t u env S) Q:=qS (zI h λb S1 k=>by
 cases b with
 |true=>exact⟨_,_,rfl,k.1 rfl⟩
 |false=>exact k.2 rfl)
theorem bQ (h:Ok (t env S) λb S1=>(b=true->Ok (u env S1) Q)/\(b=false->Q false S1)):Ok (zS t u env S) Q:=qS (zI h λb S1 k=>by
 cases b with
 |true=>exact k.1 rfl
 |false=>exact⟨_,_,rfl,k.2 rfl⟩)
theorem rF {xs:Aa D}{a:Ag}(h:a<xs.length):_L.ky xs (a:Aj)=Ab xs[a]:=by
 have e:_L.og xs.length (a:Aj)=Ab a:=by simp[_L.og];lia
 simp[_L.ky,e,h]
theorem uT (S:ak)(m:MO):(S++[m])[S.length]? = Ab m:=by simp
theorem KC (S:ak)(m m':MO):(S++[m]).set S.length m'=S++[m']:=by simp
theorem pM {xs:Aa D}(h:S[j]? = Ab (.lst xs)):mh (.loc j) S=Ab "list":=by
 show (match S[j]? with|some (.lst _)=>Ab "list" | some (.dct _)=>Ab "dict" | _=>none)=_
 rw[h]
theorem GW {Q:D->ak->Prop}{a:Aa D}{k:Ag}(h:k<a.length)(q:∀ d∈a,Q d S):Ok (dy (.lst a) (.int (k:Aj)) S) Q:=QZ (rF h) (q _ (Mt h))
theorem qBc {Q:Aa D->ak->Prop}(h:Ok (f env S) λd S1=>∃ xs,d=.tup xs/\Q (yR xs) S1):Ok (sT (q8 f qA) env S) Q:=qS (bR (zI h λ_ _ ⟨xs,e,q⟩=>Z2 ⟨_,_,by rw[e];rfl,q⟩))
theorem FS {Q:Aa D->ak->Prop}(h:Ok (f env S) λd S1=>∃ ds,zU d=Ab ds/\Q ds S1):Ok (yL f env S) Q:=qS (zI h λd S1 ⟨ds,e,k⟩=>⟨ds,S1,by rw[e];rfl,k⟩)
theorem GY {Q:Aa D->ak->Prop}(h:Ok (fa env S) λas S1=>∃ ds,jN as=Ab ds/\Q ds S1):Ok (wB fa env S) Q:=qS (zI h λd S1 ⟨ds,e,k⟩=>⟨ds,S1,by rw[e];rfl,k⟩)
theorem PH (n:Ag)(h:n<=1000000):jN [.int (n:Aj)]=Ab ((Cg n).map λ(i:Ag)=>D.int (i:Aj)):=by
 unfold jN;have : -(2 ^ 62)<=(n:Aj)/\(n:Aj)<2 ^ 62:=⟨by lia,by lia⟩
 refine(Bi this).trans ?_;unfold w6;rw[Ez]
 congr 2
 funext i
 rw[Int.zero_add]
theorem qBi {Q:Aa D->ak->Prop}(h:Ok (f env S) λd S1=>∃ k:Aj,d=.int k/\0<=k/\k<=1000000/\Q ((Cg k.toNat).map λ(i:Ag)=>D.int (i:Aj)) S1):Ok (wB (q8 f qA) env S) Q:=GY (bR (zI h λ_ _ ⟨k,e,Y,J,q⟩=>Z2 ⟨_,by
 have:=PH k.toNat li;rw[Int.toNat_of_nonneg Y] at this;rw[e,this],q⟩))
theorem pA {Q:D->ak->Prop}{xs:Aa D}{k:Aj}{d:D}(e:S[i]? = Ab (.lst xs))(Y:_L.ky xs k=Ab d)(h:Q d S):Ok (dy (.loc i) (.int k) S) Q:=by
 refine⟨d,S,?_,h⟩;show (match S[i]? with|some (.lst xs)=>_D.v7 (_L.ky xs k) S|_=>.bad)=_
 rw[e];show _D.v7 (_L.ky xs k) S=_;rw[Y];rfl
theorem c5 {Q:D->ak->Prop}{xs:Aa D}(e:S[i]? = Ab (.lst xs))(h:Q (.int xs.length) S):Ok (xE [.loc i] S) Q:=by
 refine⟨_,_,?_,h⟩;have Y:QN (.loc i) S=Ab xs.length:=by
  show (match S[i]? with|some (.lst xs)=>Ab xs.length|_=>none)=_
  rw[e]
 show (match QN (.loc i) S with|some n=>ba.ok (D.int n) S|none=>.bad)=_
 rw[Y]
theorem IJ {Q:D->ak->Prop}{xs:Aa D}{k:Ag}(e:S[i]? = Ab (.lst xs))(Y:k<xs.length)(J:k<1000000)(h:Q xs[k] (S.set i (.lst (xs.eraseIdx k)))):Ok (bI (.loc i) [.int (k:Aj)] S) Q:=by
 refine⟨_,_,?_,h⟩;show fH S i (λxs=>if 0<=(k:Aj)/\(k:Aj)<1000000 then (match xs[(k:Aj).toNat]? with|some d=>ba.ok d (S.set i (.lst (xs.eraseIdx (k:Aj).toNat)))|none=>.bad) else .bad)=_
 unfold fH;rw[e];show (if 0<=(k:Aj)/\(k:Aj)<1000000 then _ else _)=_
 rw[Bi ⟨by lia,by lia⟩,Ez,Ap Y]
theorem RD {Q:Uv->ak->Prop}{d:D}{n:Aj}(e:S[i]? = Ab (.dct kvs))(Y:kvs.length<bn)(h:Q () (S.set i (.dct (wQ kvs (.inl n) d)))):Ok (yS (.loc i) (.int n) d S) Q:=by
 refine⟨_,_,?_,h⟩;show (match S[i]? with|some (.dct kvs)=>(match yI (.int n) with|some k=>(if kvs.length<bn then ba.ok () (S.set i (.dct (wQ kvs k d))) else .bad)|none=>.bad)|_=>mJ (.loc i) (.int n) d S)=_
 rw[e];exact Bi Y
theorem WR {Q:Uv->ak->Prop}{xs:Aa D}{d:D}{n:Aj}(e:S[i]? = Ab (.lst xs))(Y:_L.og xs.length n=Ab j)(h:Q () (S.set i (.lst (xs.set j d)))):Ok (yS (.loc i) (.int n) d S) Q:=by
 refine⟨_,_,?_,h⟩;simp[yS,mJ,e,Y]
theorem XD (h:S[i]? = Ab (.dct kvs)):uO (.loc i) S=Ab kvs:=by
 show (match S[i]? with|some (.dct kvs)=>Ab kvs|_=>none)=_
 rw[h]
theorem IB {Q:D->ak->Prop}{n:Aj}(e:S[i]? = Ab (.dct kvs))(h:Q (.bl (xC kvs (.inl n)).isSome) S):Ok (l4 (.int n) (.loc i) S) Q:=⟨_,_,by unfold l4;rw[XD e];rfl,h⟩
theorem ID {Q:D->ak->Prop}{n:Aj}{d:D}(e:S[i]? = Ab (.dct kvs))(Y:xC kvs (.inl n)=Ab d)(h:Q d S):Ok (mI (.loc i) (.int n) S) Q:=by
 refine⟨d,S,?_,h⟩;unfold mI;rw[XD e];show (match xC kvs (.inl n) with|some d=>ba.ok d S|none=>.bad)=_
 rw[Y]
theorem QL {xs:Aa D}(h:env[i]? = Ab (Ab (.tup xs))):ge (q9 i) env S=.ok (none,xs) S:=by
 unfold ge;rw[vR h];rfl
theorem SH {xs:Aa D}(h:env[i]? = Ab (Ab (.lst xs))):ge (q9 i) env S=.ok (none,xs) S:=by
 unfold ge;rw[vR h];rfl
theorem _N {xs:Aa D}(h:env[i]? = Ab (Ab (.loc j)))(e:S[j]? = Ab (.lst xs)):ge (q9 i) env S=.ok (Ab (j,.lst xs),xs) S:=by
 unfold ge;rw[vR h];show (match S[j]? with|some (.lst xs)=>ba.ok (Ab (j,MO.lst xs),xs) S|_=>.bad)=_
 rw[e]
theorem _M (h:n<=1000000):xQ (wB (q8 (dC (.int (n:Aj))) qA)) env S=.ok (none,(Cg n).map λ(i:Ag)=>D.int (i:Aj)) S:=wN (qS (GY (bR (o_c (Z2 ⟨_,PH n h,_,_,rfl,rfl,rfl⟩)))))
theorem eI {α:Type}(f:α->β):∀ l:Aa α,l.flatMap (λx=>[f x])=l.map f
 |[]=>rfl
 |x::l=>by rw[Fb,eI f l];rfl
theorem yN {α:Type}{cq:α->D}{o:An (Ag × MO)}{bu:Aa (An Ag)}{fi:me}{O:DG}{fe:DE}{Q:D->ak->Prop}(xs:Aa α)(val:α->D)(C:qB->ak->Prop)(hi:fi env S=.ok (o,xs.map cq) S1)(h0:C (xF bu env) S1)(N:xs.length<=bn)(G:∀ env S,C env S->ke o S)
  (step:∀ x∈xs,∀ env S,C env S->Ok (O (cq x) env S) λY S1=>Ok (t Y S1) λb S2=>b=true/\Ok (fe Y S2) λd U=>d=val x/\C Y U) (q:∀ J S',C J S'->Q (.lst (xs.map val)) S'):Ok (qW false bu fi O t (z0 fe) env S) Q:=by
 have B:=eI val xs;obtain⟨J,S',e,c⟩:=ut (cq:=cq) (o:=o) (g:=O) (t:=t) (k:=z0 fe) (λx=>[val x]) C G xs (xF bu env) S1 [] h0 (by rw[B,Ao];simpa using N) (λx H env S M L N=>by
  obtain⟨Y,S1,E,b,S2,T,rfl,d,U,I,rfl,A⟩:=step x H env S L;exact⟨Y,S1,true,S2,E,T,.inr ⟨rfl,Y,U,jE I (by simp at N;lia),A⟩⟩)
 rw[B,Gz] at e;exact⟨_,_,u9 hi e,q J S' c⟩
theorem sX {α:Type}{Q:D->ak->Prop}{l:Aa α}{p:α->As}(h:Q (.bl (l.all p)) S):Ok (bG false [.lst (l.map λx=>.bl (p x))] S) Q:=by
 refine⟨_,_,?_,h⟩;show (match (zU (.lst (l.map λx=>D.bl (p x)))).bind y7 with|some Y=>ba.ok (D.bl (Y.all id)) S|none=>.bad)=_
 rw[show (zU (.lst (l.map λx=>D.bl (p x)))).bind y7=Ab (l.map p) from ZW p l]
 simp only[Ff];rfl
theorem WQ {Q:D->ak->Prop}{gg:G2}{a b x y:D}{z:D}(e1:xT mC S a=Ab x)(e2:xT mC S b=Ab y)(e3:gg x y (uP S)=.ok z (uP S))(Y:oW z=true)(h:Q z S):Ok (jZ gg a b S) Q:=by
 refine⟨z,S,?_,h⟩;unfold jZ;rw[e1,e2];show QP (gg x y (uP S)) S=_;rw[e3];exact Bi Y
theorem FL {f:D->An D}{xs:Aa D}(h:∀ x∈xs,f x=Ab x):mapO f xs=Ab xs:=by
 induction xs with
 |nil=>rfl
 |cons x xs J=>simp[mapO,h x (De ..),J λy Y=>h y (Ce _ Y)]
theorem cG {xs:Aa D}(e:S[i]? = Ab (.lst xs))(h:∀ x∈xs,xT 19 S x=Ab x):xT mC S (.loc i)=Ab (.lst xs):=by
 show (match S[i]? with|some (.lst xs)=>(mapO (xT 19 S) xs).map D.lst|_=>none)=_
 rw[e];show (mapO (xT 19 S) xs).map D.lst=_;rw[FL h];rfl
theorem qCJ {Q:qB->ak->Prop}{h:G3}{d:D}(k:Ok (f env S) λa S1=>Ok (g env S1) λb S2=>Ok (h a b d S2) λ_ Y=>Q env Y):Ok (tj f g h d env S) Q:=qS (zI k λ_ _ k=>qS (zI k λ_ _ k=>qS (zI k λ_ _ q=>⟨_,_,rfl,q⟩)))
variable {Q:qB->ak->Prop}
theorem qCG {d:D}(h:Q (env.set i (Ab d)) S):Ok (bi i d env S) Q:=⟨_,_,rfl,h⟩
theorem qA3 {Y:pf}{xs:Aa D}(h:xs.length=n/\Ok (Y xs env S) Q):Ok (nq n Y (.tup xs) env S) Q:=by
 obtain⟨d,S1,e,q⟩:=h.2;exact⟨d,S1,by show (if xs.length=n then Y xs env S else .bad)=_;rw[Bi h.1];exact e,q⟩
theorem qCB (h:Q env S):Ok (yT [] env S) Q:=⟨_,_,rfl,h⟩
theorem qB9 {t:DG}{J:pf}{x:D}{xs:Aa D}(h:Ok (t x env S) λY S1=>Ok (J xs Y S1) Q):Ok (x8 t J (x::xs) env S) Q:=qS h
def Wo (P:jf->Prop)(o:jf):Prop:=P o
def KB (g:DS)(P:jf->Prop):jf->Prop
 |.nx env S=>P (g env S)
 |o=>P o
def cD (b:As)(f g:DS):DS:=match b with
 |true=>f
 |false=>g
def DD (Q:D->ak->Prop):jf->Prop
 |.rt d S=>Q d S
 |.nx _ S=>Q .non S
 |_=>Ey
def QR {α:Type}(I:Aa α -> qB->ak->Prop)(xs:Aa α)(P:jf->Prop):jf->Prop
 |.nx env S=>I xs env S
 |.ct env S=>I xs env S
 |.bk env S=>P (.nx env S)
 |o=>P o
variable {P:jf->Prop}{sf sg:DS}{fi:DI}{tg:DG}{d:D}
theorem PR (h:Wo (KB sg P) (sf env S)):Wo P (qH sf sg env S):=by
 unfold qH;unfold Wo at h ⊢;cases e:sf env S <;> rw[e] at h <;> exact h
theorem OS (R:qB->ak->Prop)(h:∀ Y:jf->Prop,(∀ env S,R env S->Wo Y (.nx env S))->Wo Y (sf env S))(k:∀ env S,R env S->Wo P (sg env S)):Wo P (qH sf sg env S):=PR (h _ k)
theorem KO (h:Wo P (sg env S)):Wo (KB sg P) (.nx env S):=h
theorem qCO (h:Wo P (.rt d S)):Wo (KB sg P) (.rt d S):=h
theorem qBl (h:Wo P (.nx env S)):Wo P (zQ env S):=h
theorem pN {r:ba β}{k:β->ak->jf}(h:Ok r λd S1=>Wo P (k d S1)):Wo P (r.toS env k):=by
 obtain⟨d,S1,rfl,h⟩:=h;exact h
theorem OR (h:Ok (f env S) λd S1=>Ok (tg d env S1) λY S2=>Wo P (.nx Y S2)):Wo P (qT f tg env S):=pN (zI h λ_ _=>pN)
theorem qBk (h:Ok (f env S) λ_ S1=>Wo P (.nx env S1)):Wo P (xH f env S):=pN h
theorem ZN (h:Ok (f env S) λd S1=>Wo P (.rt d S1)):Wo P (qU f env S):=pN h
theorem qB4 (h:Ok (fa env S) λds S1=>∃ a b,ds=[a,b]/\Wo P (.nx ((env.set i (Ab a)).set j (Ab b)) S1)):Wo P (jO i j fa env S):=pN (zI h λ_ _ ⟨_,_,e,q⟩=>by subst e;exact q)
theorem qCN (h:Ok (t env S) λb S1=>Wo P (cD b sf sg env S1)):Wo P (gq t sf sg env S):=pN (zI h λb S1 q=>by cases b <;> exact q)
theorem w_t (h:Wo P (sf env S)):Wo P (cD true sf sg env S):=h
theorem w_f (h:Wo P (sg env S)):Wo P (cD false sf sg env S):=h
theorem qB3 {b:As}(h:Wo P (cD b sg sf env S)):Wo P (cD (!b) sf sg env S):=by cases b <;> exact h
theorem yY {p:Prop}[Hy p](h1:p->Wo P (sf env S))(h2:¬ p->Wo P (sg env S)):Wo P (cD (decide p) sf sg env S):=by
 by_cases h:p
 .rw[Bm h];exact h1 h
 .rw[Co h];exact h2 h
theorem OU (h:Ok (fi env S) λds S1=>Wo P (vN tg sf ds env S1)):Wo P (v8 fi tg sf env S):=pN h
theorem wK {α:Type}{cq:α->D}(I:Aa α -> qB->ak->Prop)(turn:∀ x xs env S,I (x::xs) env S->Ok (tg (cq x) env S) λJ S1=>Wo (QR I xs P) (sf J S1))(U:∀ env S,I [] env S->Wo P (.nx env S)) :
  ∀ {xs:Aa α} {env:qB} {S:ak},I xs env S->Wo P (vN tg sf (xs.map cq) env S)
 |[],env,S,h=>U env S h
 |x::xs,env,S,h=>by
  obtain⟨J,S1,O,Y⟩:=turn x xs env S h;rw[Df,vN];unfold Wo at Y ⊢;simp only[O,ba.toS];cases N:sf J S1 with
  |nx G S2=>rw[N] at Y;exact wK I turn U Y
  |ct G S2=>rw[N] at Y;exact wK I turn U Y
  |bk G S2=>rw[N] at Y;exact Y
  |rt d2 S2=>rw[N] at Y;exact Y
  |ex C B G S2=>rw[N] at Y;exact Y
  |bad=>rw[N] at Y;exact Y
theorem oC (I:Aa D->qB->ak->Prop)(turn:∀ x xs env S,I (x::xs) env S->Ok (tg x env S) λJ S1=>Wo (QR I xs P) (sf J S1))(Y:∀ env S,I [] env S->Wo P (.nx env S)){xs:Aa D}{env:qB}{S:ak}(h:I xs env S):Wo P (vN tg sf xs env S):=by
 have:=wK (cq:=id) I turn Y h
 rwa [Lb] at this
def zq (I:Ag->qB->ak->Prop)(n:Ag)(P:jf->Prop):jf->Prop
 |.nx env S=>∃ m,m<n/\I m env S
 |.ct env S=>∃ m,m<n/\I m env S
 |.bk env S=>P (.nx env S)
 |o=>P o
theorem oD (I:Ag->qB->ak->Prop)(turn:∀ n env S,I n env S->Ok (t env S) λb S1=>(b=true->Wo (zq I n P) (sf env S1))/\(b=false->Wo P (.nx env S1))){n:Ag}(T:n<big)(h:I n env S):Wo P (gE t sf env S):=by
 have G:∀ N n env S,n<N->I n env S->Wo P (uE t sf N env S):=by
  intro N
  induction N with
  |zero=>intro n env S h;lia
  |succ N O =>
   intro n env S h C;obtain⟨b,S1,L,B,H⟩:=turn n env S C;unfold uE;rw[L];cases b with
   |false=>exact H rfl
   |true =>
    have k:=B rfl;unfold Wo at k ⊢;simp only[ba.toS,Dp];cases U:sf env S1 with
    |nx Y S2=>rw[U] at k;obtain⟨m,E,J⟩:=k;exact O m Y S2 li J
    |ct Y S2=>rw[U] at k;obtain⟨m,E,J⟩:=k;exact O m Y S2 li J
    |bk Y S2=>rw[U] at k;exact k
    |rt d2 S2=>rw[U] at k;exact k
    |ex A M Y S2=>rw[U] at k;exact k
    |bad=>rw[U] at k;exact k
 exact G big n env S T h
theorem YT {I:Ag->qB->ak->Prop}(m:Ag)(hm:m<n)(h:I m env S):Wo (zq I n P) (.nx env S):=⟨m,hm,h⟩
theorem wR {α:Type}{I:Aa α -> qB->ak->Prop}{xs:Aa α}(h:I xs env S):Wo (QR I xs P) (.nx env S):=h
theorem OT {Q:D->ak->Prop}(h:Q d S):Wo (DD Q) (.rt d S):=h
theorem zC {Q:D->ak->Prop}(hs:yP n ds=env)(h:Wo (DD Q) (sf env S)):Ok (qL n sf ds S) Q:=by
 subst hs;unfold qL;unfold Wo at h;cases e:sf (yP n ds) S <;> rw[e] at h <;> first|exact⟨_,_,rfl,h⟩|exact Ar h
end
abbrev Pt:=Aj × Aj
variable {ps:Aa Pt}
noncomputable def au (p:Pt):D:=.tup [.int p.1,.int p.2]
def qE (l:Aa Pt):D:=.tup (l.map au)
def kP (p:Pt):Aa Aj:=[p.1,p.2]
def pK (k:Aa Aj):Pt:=(k.getD 0 0,k.getD 1 0)
theorem gA (ps:Aa Pt):ps.map au=(ps.map kP).map gp:=by
 rw[Dj];rfl
def kf (p q:Pt):As:=_H.lexLt [p.1,p.2] [q.1,q.2]
abbrev Up (l:Aa Pt):Prop:=l.Pairwise λp q=>kf p q=true
def wY (ps:Aa Pt):Aa Pt:=(_S.jl _H.lexLt (ps.map kP)).map pK
theorem aL {ks:Aa (Aa Aj)}(h:∀ k∈ks,k∈ps.map kP):ks.map gp=(ks.map pK).map au/\(ks.map pK).map kP=ks:=by
 have e:∀ k∈ks,kP (pK k)=k:=λk Y=>by
  obtain⟨p,_,rfl⟩:=Ba.mp (h k Y);rfl
 have Q:(ks.map pK).map kP=ks:=by
  rw[Dj]
  conv=>rhs;rw[<- Lb ks]
  exact Dy e
 exact⟨by rw[gA,Q],Q⟩
theorem W3 {p q:Pt}(h:kP p=kP q):p=q:=by
 injection h with Y Q
 injection Q with Q _
 exact Np Y Q
theorem YH (ps:Aa Pt):∀ k∈_S.jl _H.lexLt (ps.map kP),k∈ps.map kP:=λk Q=>(_S.yH _S.zW k _).mp Q
theorem vV (ps:Aa Pt)(p:Pt):p∈wY ps↔p∈ps:=by
 unfold wY;constructor
 .intro h
  obtain⟨k,Y,rfl⟩:=Ba.mp h;obtain⟨q,Q,rfl⟩:=Ba.mp (YH ps k Y);exact Q
 .intro h
  exact Ba.mpr ⟨kP p,(_S.yH _S.zW _ _).mpr (Ba.mpr ⟨p,h,rfl⟩),rfl⟩
theorem lU (ps:Aa Pt):Up (wY ps):=by
 have h:=_S.jR _S.zW (ps.map kP);rw[<- (aL (YH ps)).2,Cs] at h;exact h
theorem eP {K:Type}(lt':K->K->As)(x:K):∀ l:Aa K,(_S.jC lt' x l).length<=l.length+1
 |[]=>by simp[_S.jC]
 |y::l=>by
  have:=eP lt' x l;unfold _S.jC
  split
  .simp
  .split <;> simp <;> fin2
theorem o9 {K:Type}(lt':K->K->As):∀ l:Aa K,(_S.jl lt' l).length<=l.length
 |[]=>by simp[_S.jl]
 |x::l=>by
  have Q:=eP lt' x (_S.jl lt' l);have Y:=o9 lt' l;rw[_S.jl,Bv];fin2
theorem mS (ps:Aa Pt):(wY ps).length<=ps.length:=by
 unfold wY;rw[Ao];exact Ch (o9 _ _) (by simp)
def wJ (ps:Aa Pt):Aa Pt:=(_S.jQ _H.lexLt (ps.map kP)).map pK
theorem TV (ps:Aa Pt):∀ k∈_S.jQ _H.lexLt (ps.map kP),k∈ps.map kP:=λk Q=>(_S.zY _).mem_iff.mp Q
theorem cK (ps:Aa Pt):(wJ ps).map kP=_S.jQ _H.lexLt (ps.map kP):=(aL (TV ps)).2
theorem xR (ps:Aa Pt):(wJ ps).Perm ps:=by
 have h:=(_S.zY (lt':=_H.lexLt) (ps.map kP)).map pK;rw[Dj] at h;have e:ps.map (pK∘kP)=ps:=by
  conv=>rhs;rw[<- Lb ps]
  exact Dy λq _=>rfl
 rw[e] at h;exact h
theorem TX (nd:ps.Nodup):Up (wJ ps):=by
 have h:=_S.vD _S.zW (ps.map kP);unfold _S.Nf at h;rw[<- cK,Cs] at h;have Q:(wJ ps).Nodup:=(xR ps).nodup_iff.mpr nd;refine(List.pairwise_and_iff.mpr ⟨h,Q⟩).imp λ{a b} ⟨Y,J⟩=>?_;rcases _S.zW.tri Y with z|z
 .exact absurd (W3 z).symm J
 .exact z
theorem qCH {Q:D->ak->Prop}{p:Pt}{S:ak}(h:Q (.int p.1) S):Ok (dy (au p) (.int 0) S) Q:=⟨_,_,rfl,h⟩
theorem qCI {Q:D->ak->Prop}{p:Pt}{S:ak}(h:Q (.int p.2) S):Ok (dy (au p) (.int 1) S) Q:=⟨_,_,rfl,h⟩
theorem E5 (ps:Aa Pt):pl zH (.lst (ps.map au))=true:=by
 show ((ps.map au).all (pl 29))=true;rw[Ff];exact Bb.mpr λp _=>rfl
theorem tI:∀ (a b:Aa Pt),zE (a.map au) (b.map au)=decide (a=b)
 |[],[]=>rfl
 |[],_::_=>by simp[zE]
 |_::_,[]=>by simp[zE]
 |x::a,y::b=>by
  show ((x.1 == y.1&&(x.2 == y.2&&true))&&zE (a.map au) (b.map au))=_;rw[tI a b,Jw];simp[Prod.ext_iff,and_assoc]
theorem TL {S:ak}{a:Ag}{xs:Aa D}(h:S[a]? = Ab (.lst xs)):bU (.loc a) S=Ab xs:=by
 show (match S[a]? with|some (.lst xs)=>Ab xs|_=>none)=_
 rw[h]
def d_ (B:Aj)(q:Pt):Prop:=-B<=q.1/\q.1<=B /\ -B<=q.2/\q.2<=B
instance (B:Aj)(q:Pt):Hy (d_ B q):=by unfold d_;exact inferInstance
structure nh (M:Ag)(l:Aa Pt):Prop where
 ne:l≠[]
 len:l.length<=M
 up:Up l
 box:∀ q∈l,d_ 1000 q
theorem r9 {l:Aa Pt}(h:Up l):l.Nodup:=h.imp λ{a b} h e=>by
 subst e;rw[show kf a a=false from _S.zW.irr _] at h
 cases h
theorem QU {M:Ag}(Y:ps≠[])(U:ps.length<=M)(nd:ps.Nodup)(J:∀ q∈ps,d_ 1000 q):nh M (wJ ps):=by
 have p:=xR ps;refine⟨λz=>?_,by rw[p.length_eq];exact U,TX nd,λq Q=>J q (p.mem_iff.mp Q)⟩
 rw[z] at p;exact Y p.symm.eq_nil
def uN (S:ak)(p:Ag):Prop:=∃ v f:Aj,S[p]? = Ab (.lst [.int v,.int f])
theorem lM {S:ak}(h:uN S p)(e:S<+:S'):uN S' p:=by
 obtain⟨Y,J,Q⟩:=h;obtain⟨r,rfl⟩:=e;exact⟨Y,J,by rw[AT (Ax.mp Q).1];exact Q⟩
structure Kp (p:Ag)(S S':ak):Prop where
 pen:uN S' p
 len:S.length<=S'.length
 same:∀ m,m<S.length->m≠p->S'[m]? = S[m]?
theorem Kp.trans {S:ak}(a:Kp p S S1)(b:Kp p S1 S2):Kp p S S2:=⟨b.pen,Ch a.len b.len,λm Q Y=>(b.same m (Bl Q a.len) Y).trans (a.same m Q Y)⟩
theorem WW {S:ak}(h:uN S p):p<S.length:=by
 obtain⟨v,f,e⟩:=h;exact(Ax.mp e).1
theorem Kp.pre {S:ak}(h:uN S p)(e:S<+:S'):Kp p S S':=⟨lM h e,e.length_le,λm Q _=>(Tu.mp e m Q).trans (Ap Q).symm⟩
theorem Kp.set {j:Ag}{S:ak}(h:Kp p S S')(Y:S.length<=j)(m:MO)(hp:p≠j):Kp p S (S'.set j m):=by
 obtain⟨v,f,e⟩:=h.pen;exact⟨⟨v,f,by rw[Br (Gb hp)];exact e⟩,by rw[Uy];exact h.len,λi hi Q=>by rw[Br om];exact h.same i hi Q⟩
end _D
local macro_rules|`(tactic|array_get_dec)=>`(tactic| first | (with_reducible first | apply _D.PR | apply _D.KO | apply _D.OR | apply _D.o_2 | apply _D.o_c | apply _D.bR | apply _D.Z2 | apply _D.qBr | apply _D.qB0 | apply _D.qB1 | apply _D.IF | apply _D.R7 | apply _D.qB6 | apply _D.qBx | apply _D.qCL | apply _D.qBh | apply _D.qCN | apply _D.w_t | apply _D.w_f | apply _D.qB3 | apply _D.qBl | apply _D.qBk | apply _D.ZN | apply _D.qCO | apply _D.qB4 | apply _D.OU | apply _D.qCE | apply _D.qCD | apply _D.qCC | apply _D.qCA | apply _D.qA0 | apply _D.qCF | apply _D.o_1 | apply _D.qBw | apply _D.qBe | apply _D.qBd | apply _D.qBj | apply _D.qBg | apply _D.qBf | apply _D.qCK | apply _D.qBz | apply _D.qBy | apply _D.qB7 | apply _D.qB8 | apply _D.qB5 | apply _D.qBs | apply _D.qA3 | apply _D.qB9 | apply _D.qCB | apply _D.qB2 | apply _D.qBq | apply _D.qCH | apply _D.qCI | apply _D.qCJ | apply _D.qBc | apply _D.FS | apply _D.qBi) | ((with_reducible apply _D.o_v); exact rfl) | ((with_reducible apply _D.qCG); dsimp only [List.set_cons_succ, List.set_cons_zero]) | ((with_reducible (first | apply _D.qBv | apply _D.qBu | apply _D.qBt)); fin2) | ((with_reducible apply And.intro); (first | exact rfl | exact Nat.le_of_ble_eq_true rfl)) | ((with_reducible apply Exists.intro); (with_reducible apply And.intro); exact rfl) | ((with_reducible apply Exists.intro); (with_reducible apply Exists.intro); (with_reducible apply And.intro); exact rfl; dsimp only [List.set_cons_succ, List.set_cons_zero]) | ((with_reducible apply Exists.intro); (with_reducible apply Exists.intro); (with_reducible apply Exists.intro); (with_reducible apply And.intro); exact rfl; dsimp only [List.set_cons_succ, List.set_cons_zero]))
local macro_rules|`(tactic|rfl')=>`(tactic| repeat array_get_dec)
namespace _D
variable {kvs:Aa (_L.bo × D)}{ks:Aa Aj}{xs:Aa D}{n:Ag}{i:D}{S:ak}
def Pn (d:D):Prop:=∃ p,um d=Ab p
theorem pns:∀ {ps:Aa PyData},mR xs=Ab ps->∀ x∈xs,Pn x:=by
 induction xs with
 |nil=>intro ps _ x hx;cases hx
 |cons d N U =>
  intro ps h x hx;simp only[mR] at h;obtain⟨p,Q,G⟩:=Hl.mp h;obtain⟨J,Y,_⟩:=Ej.mp G;rcases Bc.mp hx with rfl|hx
  .exact⟨p,Q⟩
  .exact U Y x hx
theorem WY (h:Pn (.tup xs)):∀ x∈xs,Pn x:=by
 obtain⟨p,h⟩:=h;simp only[um] at h;obtain⟨Y,Q,_⟩:=Ej.mp h;exact pns Q
theorem WZ:∀ {xs:Aa D},(∀ x∈xs,Pn x)->∃ l,mR xs=Ab l
 |[],_=>⟨[],rfl⟩
 |x::xs,h=>by
  obtain⟨l,e⟩:=WZ (xs:=xs) λy Q=>h y (Ce _ Q);obtain⟨q,Y⟩:=h x (De ..);refine⟨q::l,?_⟩;show (um x).bind (λx=>(mR xs).map (x::·))=_
  rw[e,Y];rfl
theorem qA8 (h:∀ x∈xs,Pn x):Pn (.tup xs):=by
 obtain⟨l,e⟩:=WZ h;exact⟨.tuple l,by simp only[um,e,Vg]⟩
theorem Z8 (q:Pt):Pn (au q):=⟨.tuple [.int q.1,.int q.2],rfl⟩
theorem nE (l:Aa Pt):Pn (qE l):=qA8 λx Q=>by
 obtain⟨q,_,rfl⟩:=Ba.mp Q;exact Z8 q
noncomputable def inR (a b:Aj):D->As
 |.int i=>decide (a<=i/\i<=b)
 |_=>false
def isW:D->As
 |.int _=>true
 |_=>false
def lx:D->As
 |.tup _=>true
 |_=>false
theorem GO {d:D}(h:Pn d)(S:ak):jA [d,.ty "tuple"] S=.ok (.bl (lx d)) S:=by
 obtain⟨p,h⟩:=h;cases d <;> first|kernel_rfl!|simp[um] at h
theorem iO {Q:D->ak->Prop}{J U Y:DE}{env:qB}{a b c:Aj}(h1:J env S=.ok (.int a) S)(h2:U env S=.ok (.int b) S)(h3:Y env S=.ok (.int c) S)(q:Q (.bl (decide (a<=b/\b<=c))) S):Ok (w4 lq lq J U Y env S) Q:=by
 refine⟨_,_,?_,q⟩;unfold w4;rw[h1,ba.bind_ok,h2,ba.bind_ok];show (match xM (.bl (decide (a<=b))) S with|some true=>(Y env S).bind λw G=>lq (.int b) w G|some false=>ba.ok (.bl (decide (a<=b))) S|none=>.bad)=_
 by_cases h:a<=b
 .rw[Bm h]
  show (Y env S).bind _=_;rw[h3];simp only[h,true_and];rfl
 .rw[Co h,Co λz=>h z.1]
  rfl
abbrev ya:D->As:=inR (-1000) 1000
def y9:D->As
 |.tup [a,b]=>ya a&&ya b
 |_=>false
theorem lA (q:Pt):y9 (au q)=decide (d_ 1000 q):=by
 show (decide (-1000<=q.1/\q.1<=1000)&&decide (-1000<=q.2/\q.2<=1000))=_;rw[<- Bool.decide_and];exact Lc.mpr ⟨λh=>⟨h.1.1,h.1.2,h.2.1,h.2.2⟩,λh=>⟨⟨h.1,h.2.1⟩,h.2.2.1,h.2.2.2⟩⟩
theorem DZ (h:xs.length=2):y9 (.tup xs)=xs.all ya:=by
 match xs,h with
 |[a,b],_=>simp[y9]
theorem SA (h:xs.length≠2):y9 (.tup xs)=false:=by
 match xs,h with
 |[],_=>rfl
 |[_],_=>rfl
 |[_,_],h=>exact absurd rfl h
 |_::_::_::_,_=>rfl
theorem SB {d:D}(h:lx d=false):y9 d=false:=by
 cases d <;> first|rfl|cases h
def ot (ks:Aa (Aa Aj)):As:=(ks.zip (ks.drop 1)).all λp=>_H.lexLt p.1 p.2
def sW:D->As
 |.tup xs=>decide (1<=xs.length/\xs.length<=40)&&xs.all y9&&(match uS xs with|some ks=>ot ks|none=>false)
 |_=>false
theorem i0 {a b:Aj}{d:D}(h:inR a b d=true):∃ i,d=.int i/\a<=i/\i<=b:=by
 cases d <;> first|exact⟨_,rfl,Cq h⟩|cases h
theorem UK {d:D}(h:y9 d=true):∃ q,d=au q/\d_ 1000 q:=by
 unfold y9 at h
 split at h
 .rw[Az] at h
  obtain⟨x,rfl,Y⟩:=i0 h.1;obtain⟨y,rfl,Q⟩:=i0 h.2;exact⟨(x,y),rfl,Y.1,Y.2,Q.1,Q.2⟩
 .cases h
theorem Y2:∀ {xs:Aa D},xs.all y9=true->∃ Q:Aa Pt,xs=Q.map au/\∀ q∈Q,d_ 1000 q
 |[],_=>⟨[],rfl,λ_ h=>by cases h⟩
 |d::U,h=>by
  rw[Sw,Az] at h;obtain⟨Q,rfl,Y⟩:=Y2 h.2;obtain⟨q,rfl,J⟩:=UK h.1;refine⟨q::Q,rfl,λz hz=>?_⟩;rcases Bc.mp hz with rfl|hz
  .exact J
  .exact Y z hz
theorem AW (a b:Aa Aj)(S:ak):l5 (gp a) (gp b) S=.ok (.bl (_H.lexLt a b)) S:=by
 unfold l5 gp;simp only[dO]
theorem YQ:∀ (ks:Aa (Aa Aj)),ot ks=true↔ks.Pairwise (λa b=>_H.lexLt a b=true)
 |[]=>by simp[ot]
 |[a]=>by simp[ot]
 |a::b::r=>by
  have J:=YQ (b::r);have e:ot (a::b::r)=(_H.lexLt a b&&ot (b::r)):=by simp[ot]
  rw[e,Az,J,Dx (a:=a)];constructor
  .rintro⟨Q,Y⟩
   refine⟨λx hx=>?_,Y⟩;rcases Bc.mp hx with rfl|hx
   .exact Q
   .exact _S.zW.tr Q ((Dx.mp Y).1 x hx)
  .rintro⟨Q,Y⟩
   exact⟨Q b (by simp),Y⟩
theorem CL (ks Q:Aa (Aa Aj)):vX (ks.map gp) (Q.map gp)=(ks.zip Q).map λp=>D.tup [gp p.1,gp p.2]:=by
 unfold vX
 induction ks generalizing Q with
 |nil=>rfl
 |cons k ks Y =>
  cases Q with
  |nil=>rfl
  |cons m Q=>exact congrArg (_::·) (Y Q)
theorem F3 {d:D}(h:lx d=false):sW d=false:=by
 cases d <;> first|rfl|cases h
theorem gU {M:Ag}(G:M<=40){l:Aa Pt}(h:nh M l):sW (qE l)=true:=by
 show (decide (1<=(l.map au).length/\(l.map au).length<=40)&&(l.map au).all y9&&(match uS (l.map au) with|some ks=>ot ks|none=>false))=true
 have Y:1<=(l.map au).length/\(l.map au).length<=40:=by
  rw[Ao];exact⟨Yd.mpr h.ne,by have:=h.len;lia⟩
 have U:(l.map au).all y9=true:=by
  rw[Ff];exact Bb.mpr λq Q=>(lA q).trans (Bm (h.box q Q))
 have J:ot (l.map kP)=true:=by
  rw[YQ,Cs];exact h.up
 rw[Bm Y,U,gA,sH];exact J
theorem CV (xs:Aa D):wG xs (Ab 1) none=xs.drop 1:=by
 unfold wG;have Q:_H.cg xs.length 0 (Ab 1)=min 1 xs.length:=rfl;have Y:_H.cg xs.length xs.length none=xs.length:=rfl;rw[Q,Y];cases xs with
 |nil=>rfl
 |cons x r=>simp
theorem LD (xs:Aa D)(n:Ag)(h:n<=xs.length):wG xs (Ab (n:Aj)) none=xs.drop n:=by
 unfold wG;have Q:_H.cg xs.length xs.length none=xs.length:=rfl;have Y:_H.cg xs.length 0 (Ab (n:Aj))=min n xs.length:=by
  show (if (n:Aj)<0 then ((n:Aj)+(xs.length:Aj)).toNat else min (n:Aj).toNat xs.length)=_
  rw[Bh li,Ez]
 rw[Q,Y,Oa h];exact Ht (by rw[Ku];exact Av _)
theorem VH (xs:Aa D)(i:Ag):wG xs (Ab ((i:Aj)+1)) none=xs.drop (i+1):=by
 unfold wG;have Q:_H.cg xs.length 0 (Ab ((i:Aj)+1))=min (i+1) xs.length:=by
  have:((i:Aj)+1)=((i+1:Ag):Aj):=by lia
  rw[this,_H.qy]
 rw[Q,_H.pp];by_cases h:i+1<=xs.length
 .rw[Oa h,Ht (by simp)]
 .have:xs.drop (i+1)=[]:=Ji li
  rw[this,Ua li];simp
def eL:Ag->Aa D->Aa D
 |_,[]=>[]
 |k,x::xs=>D.tup [.int (k:Aj),x]::eL (k+1) xs
theorem U3 (xs:Aa D):yR xs=eL 0 xs:=by
 have Q:∀ (xs:Aa D) (k:Ag),(xs.mapIdx λi x=>D.tup [.int ((i+k:Ag):Aj),x])=eL k xs:=by
  intro xs
  induction xs with
  |nil=>intro k;rfl
  |cons x xs Y =>
   intro k;rw[List.mapIdx_cons];show _::_=D.tup [.int (k:Aj),x]::eL (k+1) xs
   congr 1
   .simp
   .rw[<- Y (k+1)]
    congr 1
    funext i y
    congr 4
    lia
 have:=Q xs 0;simpa [yR] using this
noncomputable def bj (p q:Pt):Aj:=(p.1-q.1)*(p.1-q.1)+(p.2-q.2)*(p.2-q.2)
def xV:Aa Pt->Aa (Pt × Pt)
 |[]=>[]
 |p::Q=>Q.map (λq=>(p,q))++xV Q
def kG (x:Pt × Pt):Aj:=bj x.1 x.2
def bg (l:Aa Pt):Aa Aj:=(xV l).map kG
def uo (x:Pt × Pt):D:=.tup [au x.1,au x.2]
structure GI {β : Type}(key:β->Aj)(enc:β->D)(n:Ag)(prs:Aa β)(kvs:Aa (_L.bo × D))(S:ak):Prop where
 dict:S[n]? = Ab (.dct kvs)
 lists:∀ kv∈kvs,∃ (f:Aj) (j:Ag),kv=(.inl f,.loc j)/\n<j/\S[j]? = Ab (.lst ((prs.filter λx=>key x == f).map enc))
 nd:(kvs.map (·.2)).Nodup
 keys:kvs.map (·.1)=((prs.map key).foldl Bk []).map Jx
set_option tactic.hygienic true in
theorem KI {l:Aa Aj}{k x:Aj}:x∈Bk l k↔x∈l\/x=k:=by
 unfold Bk
 split
 .rename_i h
  simp at h;constructor
  .exact λz=>.inl z
  .rintro (z|rfl)
   .exact z
   .exact h
 .simp
theorem gF {l:Aa Aj}{k:Aj}(h:k∈l):Bk l k=l:=by
 unfold Bk;rw[Bi (by simpa using h)]
theorem mT {l:Aa Aj}{k:Aj}(h:k ∉ l):Bk l k=l++[k]:=by
 unfold Bk;rw[Bh (by simpa using h)]
theorem mH:∀ {l:Aa Aj} {x:Aj},x∈ks.foldl Bk l↔x∈l\/x∈ks:=by
 induction ks with
 |nil=>intro l x;simp
 |cons k ks Q =>
  intro l x;rw[Nu,Q,KI,Bc];constructor
  .rintro ((h|h)|h)
   .exact .inl h
   .exact .inr (.inl h)
   .exact .inr (.inr h)
  .rintro (h|h|h)
   .exact .inl (.inl h)
   .exact .inl (.inr h)
   .exact .inr h
theorem mG:∀ {l:Aa Aj},(ks.foldl Bk l).length<=l.length+ks.length:=by
 induction ks with
 |nil=>intro l;simp
 |cons k ks Q =>
  intro l;rw[Nu];have Y:=Q (l:=Bk l k);have J:(Bk l k).length<=l.length+1:=by
   unfold Bk
   split <;> simp
  rw[Bv]
  lia
theorem KN {k:_L.bo}{d:D}(h:xC kvs k=Ab d):(k,d)∈kvs:=by
 unfold xC at h;obtain⟨Y,Q,rfl⟩:=Ej.mp h;have U:=NE Q;have J:=Ik Q;have G:Y.1=k:=by simpa using U
 subst G;exact J
theorem KM {k:_L.bo}(h:xC kvs k=none):∀ Q∈kvs,Q.1≠k:=by
 unfold xC at h;have Y:=Option.map_eq_none_iff.mp h;intro Q J e;have:=Ln.mp Y Q J;simp[e] at this
theorem PL {x:D}{k:_L.bo}(Q:S[n]? = Ab (.dct kvs))(Y:yI i=Ab k):wW (.loc n) [i,x] S=(match xC kvs k with|some d=>.ok d S|none=>if kvs.length<bn then .ok x (S.set n (.dct (wQ kvs k x))) else .bad):=by
 show (match S[n]? with|some (.dct kvs)=>(match yI i with|some k=>(match xC kvs k with|some d=>ba.ok d S|none=>if kvs.length<bn then .ok x (S.set n (.dct (wQ kvs k x))) else .bad)|none=>.bad)|_=>.bad)=_
 rw[Q,Y]
theorem TH {x d:D}{k:_L.bo}(Q:S[n]? = Ab (.dct kvs))(Y:yI i=Ab k)(hv:xC kvs k=Ab d):wW (.loc n) [i,x] S=.ok d S:=by
 rw[PL Q Y,hv]
theorem TF {x:D}{k:_L.bo}(Q:S[n]? = Ab (.dct kvs))(Y:yI i=Ab k)(hv:xC kvs k=none)(J:kvs.length<bn):wW (.loc n) [i,x] S=.ok x (S.set n (.dct (wQ kvs k x))):=by
 rw[PL Q Y,hv];exact Bi J
theorem tU {β γ:Type}{l:Aa β}{f:β->γ}(nd:(l.map f).Nodup){x y:β}(U:x∈l)(Q:y∈l)(e:f x=f y):x=y:=by
 obtain⟨a,Y,rfl⟩:=Cp.mp U;obtain⟨b,J,rfl⟩:=Cp.mp Q;have:a=b:=(Tw nd (h₀:=by simpa using Y) (h₁:=by simpa using J)).mp (by simpa using e)
 subst this;rfl
set_option tactic.hygienic true in
theorem aY:∀ (ks l:Aa Aj),l.Nodup->(ks.foldl Bk l).Nodup:=by
 intro ks
 induction ks with
 |nil=>exact λl h=>h
 |cons k ks G =>
  intro l h;rw[Nu];apply G;unfold Bk
  split
  .exact h
  .rename_i J
   rw[Gm];refine⟨h,by simp,?_⟩
   intro a U b Y Q;simp at Y J;subst Y;subst Q;exact J U
theorem FA (h:kvs.map (·.1)=(ks.foldl Bk []).map Jx):(kvs.map (·.1)).Nodup:=by
 rw[h,TD,Cs];exact(aY ks [] Mp).imp λQ e=>Q (Vr e)
theorem oV {j:Ag}(h:S[j]? = Ab (.lst xs))(Q:xs.length<bn)(d:D):xS (.loc j) [d] S=.ok .non (S.set j (.lst (xs++[d]))):=wN (QY h Q ⟨rfl,rfl⟩)
theorem BY {β:Type}{Q:β->Aj}{cq:β->D}{Y:Aa β}(I:GI Q cq n Y kvs S)(x:β)(hl:Y.length<bn) :
  ∃ (j:Ag) (S1 v:ak) (z:Aa (_L.bo × D)),wW (.loc n) [.int (Q x),.loc S.length] (S++[.lst []]) = .ok (.loc j) S1/\mh (.loc j) S1=Ab "list" /\ xS (.loc j) [cq x] S1=.ok .non v/\GI Q cq n (Y++[x]) z v/\∀ m,m<n->v[m]? = S[m]?:=by
 have u:n<S.length:=(Ax.mp I.dict).1;have s:(S++[MO.lst []])[n]? = Ab (.dct kvs):=by rw[AT u];exact I.dict
 have zc:kvs.length<=Y.length:=by
  have p:kvs.length=(kvs.map (·.1)).length:=by simp
  rw[p,I.keys,Ao];have:=mG (ks:=Y.map Q) (l:=[]);simpa using this
 have M:kvs.length<bn:=by lia
 have zl:∀ {f:Aj} {j:Ag},((Jx f:_L.bo),D.loc j)∈kvs->n<j/\j<S.length/\S[j]? = Ab (.lst ((Y.filter λx=>Q x == f).map cq)):=by
  intro f j O;obtain⟨N,B,e,p,H⟩:=I.lists _ O;cases e;exact⟨p,(Ax.mp H).1,H⟩
 cases hv:xC kvs (.inl (Q x)) with
 |some d =>
  have O:=KN hv;obtain⟨f,j,e,p,H⟩:=I.lists _ O;have e1:f=Q x:=by
   have:=congrArg AbE e;exact(Vr this).symm
  have e2:d=.loc j:=congrArg AbF e;subst e1;subst e2;have t:=(Ax.mp H).1;have w:(S++[MO.lst []])[j]? = Ab (.lst ((Y.filter λy=>Q y == Q x).map cq)):=by rw[AT t];exact H
  have g:((Y.filter λy=>Q y == Q x).map cq).length<bn:=by
   rw[Ao];have:=Ec (λy=>Q y == Q x) Y
   lia
  refine⟨j,S++[MO.lst []],(S++[MO.lst []]).set j (.lst ((Y.filter λy=>Q y == Q x).map cq++[cq x])),kvs,?_,?_,?_,⟨?_,?_,I.nd,?_⟩,?_⟩
  .exact TH s rfl hv
  .exact pM w
  .exact oV w g _
  .rw[Br li];exact s
  .intro U hk
   obtain⟨N,B,rfl,o,E⟩:=I.lists U hk;refine⟨N,B,rfl,o,?_⟩;have G:=(Ax.mp E).1;by_cases L:j=B
   .subst L
    have zb:N=Q x:=Vr (congrArg AbE (tU (f:=(·.2)) I.nd hk O rfl))
    subst zb;rw[Dk (by simp;lia)]
    rw[Ip];simp
   .rw[Br L,AT G,E]
    have T:(Q x == N)=false:=by
     rw[Kq];rintro rfl;exact L (D.loc.inj (congrArg AbF (tU (f:=(·.1)) (FA I.keys) O hk rfl)))
    rw[Ip];simp[T]
  .rw[Dl,t3]
   show _=(Bk ((Y.map Q).foldl Bk []) (Q x)).map Jx;have J:Q x∈(Y.map Q).foldl Bk []:=by
    have:(Jx (Q x):_L.bo)∈kvs.map (·.1):=Ba.mpr ⟨_,O,rfl⟩
    rw[I.keys] at this;obtain⟨y,c,e⟩:=Ba.mp this;cases e;exact c
   rw[gF J];exact I.keys
  .intro m O
   rw[Br li,AT li]
 |none =>
  have C:=KM hv;have k:wQ kvs (.inl (Q x)) (.loc S.length)=kvs++[(.inl (Q x),.loc S.length)]:=by
   unfold wQ;rw[Bh];rw[Il];rintro⟨U,hk,e⟩;exact C U hk (by simpa using e)
  have A:Q x ∉ Y.map Q:=by
   intro J;have:(Jx (Q x):_L.bo)∈kvs.map (·.1):=by
    rw[I.keys];exact Ba.mpr ⟨_,mH.mpr (.inr J),rfl⟩
   obtain⟨U,hk,e⟩:=Ba.mp this;exact C U hk e
  have q:((S++[MO.lst []]).set n (.dct (kvs++[(Jx (Q x),.loc S.length)])))[S.length]? = Ab (.lst []):=by
   rw[Br li];simp
  refine⟨S.length,(S++[MO.lst []]).set n (.dct (kvs++[(.inl (Q x),.loc S.length)])),((S++[MO.lst []]).set n (.dct (kvs++[(.inl (Q x),.loc S.length)]))).set S.length (.lst [cq x]),kvs++[(.inl (Q x),.loc S.length)],?_,?_,?_,⟨?_,?_,?_,?_⟩,?_⟩
  .rw[<- k]
   exact TF s rfl hv M
  .exact pM q
  .have:(0:Ag)<bn:=by decide
   exact oV q this _
  .rw[Br li,Dk (by simp;lia)]
  .intro U hk
   rcases Bq.mp hk with hk|hk
   .obtain⟨N,B,rfl,o,E⟩:=I.lists U hk
    have G:=(Ax.mp E).1;refine⟨N,B,rfl,o,?_⟩;rw[Br li,Br li,AT G,E];have T:(Q x == N)=false:=by
     rw[Kq];intro e;exact C _ hk (by rw[e])
    rw[Ip];simp[T]
   .have:U=(.inl (Q x),.loc S.length):=by simpa using hk
    subst this;refine⟨Q x,S.length,rfl,u,?_⟩;rw[Dk (by simp)]
    have:(Y.filter λy=>Q y == Q x)=[]:=by
     rw[Hu];intro y c e;exact A (by rw[<- (by simpa using e:Q y=Q x)];exact Ba.mpr ⟨y,c,rfl⟩)
    rw[Ip,this];simp
  .rw[Dl,Gm]
   refine⟨I.nd,by simp,?_⟩
   intro a ha b hb r;simp at hb;subst hb;subst r;obtain⟨U,hk,e⟩:=Ba.mp ha;obtain⟨N,B,rfl,o,E⟩:=I.lists U hk;have G:=(Ax.mp E).1;have:B=S.length:=D.loc.inj e
   lia
  .rw[Dl,I.keys,Dl,t3]
   show _=(Bk ((Y.map Q).foldl Bk []) (Q x)).map Jx;have J:Q x ∉ (Y.map Q).foldl Bk []:=by
    intro h;rcases mH.mp h with h|h
    .simp at h
    .exact A h
   rw[mT J,Dl];rfl
  .intro m O
   rw[Br li,Br li,AT li]
theorem fW (l:Aa Pt):(xV l).length<=l.length*l.length:=by
 induction l with
 |nil=>simp[xV]
 |cons p l Q =>
  have e:(p::l).length*(p::l).length=l.length*l.length+l.length+l.length+1:=by
   simp only[Bv,Nat.add_mul,Nat.mul_add]
   lia
  rw[e];simp only[xV,By,Ao]
  lia
theorem cA {Q:ak}(h:∀ m,m<S.length->Q[m]? = S[m]?):S<+:Q:=by
 rw[Tu];intro i Y;rw[h i Y,Ap Y]
theorem AX {l:Aa Pt}(h:l.length<=41):(xV l).length<4000:=by
 have Q:=fW l;have Y:l.length*l.length<=41*41:=Gd h h
 lia
def kg (Q:Aa Aj):Aa Aj:=Q.foldl Bk []
def ph (Q:Aa Aj):Aa (Aa Aj):=(kg Q).map λf=>[f,(Q.count f:Aj)]
def tbl (Q:Aa Aj):Aa (Aa Aj):=_S.jQ _H.lexLt (ph Q)
theorem xX {Q:Aa Aj}{x:Aj}:x∈kg Q↔x∈Q:=by
 unfold kg;rw[mH];simp
theorem bL (Q:Aa Aj):(kg Q).Nodup:=aY Q [] Mp
theorem a9 {α:Type}[No α]{a b:Aa α}(Q:a.Nodup)(Y:b.Nodup)(h:∀ x,x∈a↔x∈b):a.Perm b:=by
 rw[Nl];intro x;rw[Q.count,Y.count];simp only[h]
theorem pI {Y Q:Aa Aj}(h:Y.Perm Q):tbl Y=tbl Q:=by
 refine _S.uW _S.zW (_S.vD _S.zW _) (_S.vD _S.zW _) ((_S.zY _).trans (Ny ?_ (_S.zY _).symm));have e:ph Q=(kg Q).map λf=>[f,(Y.count f:Aj)]:=Dy λf _=>by rw[h.count_eq]
 rw[e];exact(a9 (bL Y) (bL Q) λx=>by rw[xX,xX,h.mem_iff]).map _
theorem UA (Q:Aa (Pt × Pt))(f:Aj):(Q.filter λx=>kG x == f).length=(Q.map kG).count f:=by
 rw[List.count,List.countP_map,List.countP_eq_length_filter];rfl
noncomputable def yc (Q:Aa Aj)(k:_L.bo):D:=match k with
 |.inl f=>.tup [.int f,.int (Q.count f:Aj)]
 |.inr _=>.non
theorem wV {p q:Pt}(h:p≠q):0<bj p q:=by
 unfold bj;have s:∀ x:Aj,0<=x*x:=λx=>by rw[<- Int.natAbs_mul_self' x];exact Ox li li
 have z:∀ x:Aj,x≠0->0<x*x:=λx Y=>by
  rcases Int.lt_trichotomy x 0 with y|y|y
  .exact Int.mul_pos_of_neg_of_neg y y
  .exact absurd y Y
  .exact Int.mul_pos y y
 have U:=s (p.1-q.1);have J:=s (p.2-q.2);by_cases Q:p.1=q.1
 .have G:p.2≠q.2:=λe=>h (Np Q e)
  have:=z (p.2-q.2) li
  lia
 .have:=z (p.1-q.1) li
  lia
theorem xI (p q:Pt):bj p q=bj q p:=by
 have e:∀ a b:Aj,(a-b)*(a-b)=(b-a)*(b-a):=λa b=>by
  rw[<- Int.neg_sub b a,Int.neg_mul_neg]
 unfold bj;rw[e p.1 q.1,e p.2 q.2]
theorem xD (p:Pt)(l:Aa Pt):bg (p::l)=l.map (bj p)++bg l:=by
 unfold bg;rw[xV,Dl,Dj];rfl
theorem bH {l m:Aa Pt}(h:l.Perm m):(bg l).Perm (bg m):=by
 induction h with
 |nil=>exact Ko _
 |cons x h Y=>rw[xD,xD];exact(h.map _).append Y
 |swap x y l =>
  rw[xD,xD,xD,xD,Df,Df,xI y x,Ld,Ld];refine List.Perm.cons _ ?_;rw[<- Cc,<- Cc];exact Jl _ Jq
 |trans _ _ Q J=>exact Q.trans J
end _D
namespace _K
open _D
theorem C7 (b:As)(S:ak):xM (.bl b) S=Ab b:=rfl
theorem C_ (i:Aj)(S:ak):xM (.int i) S=Ab (i != 0):=rfl
theorem B_ (C:Aj->Aj->As)(f:Aj->Aj->D)(i j:Aj)(S:ak):i2 C f (.int i) (.int j) S=if C i j=true then .ok (f i j) S else .bad:=rfl
theorem D_ (d:D)(S:ak):Z6 (.rt d S)=.ok d S:=rfl
theorem E_ (e:qB)(S:ak):Z6 (.nx e S)=.ok .non S:=rfl
theorem F_ (c:Ad)(x:D)(e:qB)(S:ak):Z6 (.ex c x e S)=.ex c x S:=rfl
theorem I_ (i j:Ag)(env:qB)(S:ak)(x y:D):c9 i j env S [x,y]=.nx ((env.set i (Ab x)).set j (Ab y)) S:=rfl
theorem H_ (x:Aa D):zU (.lst x)=Ab x:=rfl
theorem G_ (x:Aa D):zU (.tup x)=Ab x:=rfl
end _K
open _D _K
namespace _K
open _L _D
noncomputable def top (i:Ag):Fz:=Qq.main.body.getD i (.Pass ⟨0,0,0,0⟩)
structure Cl where
 (FarError NoPoint NoLot NoNumber:Af)
def Q1 (c:Cl):Aa Af:=[c.NoPoint,c.NoLot,c.NoNumber]
def NY (c:Cl):Aa Ad:=[.ref c.NoPoint,.ref c.NoLot,.ref c.NoNumber]
noncomputable abbrev ow (c:Cl):Aa (Aw × Af):=[("FarError",c.FarError),("NoPoint",c.NoPoint),("NoLot",c.NoLot),("NoNumber",c.NoNumber)]
abbrev qq (c:Cl):Aa (Aw × Af):=[("NoPoint",c.NoPoint),("NoLot",c.NoLot),("NoNumber",c.NoNumber)]
noncomputable abbrev qt:Aa (Aw × Aj):=[("LEAST_NUMBER",-1000),("MOST_NUMBER",1000),("MOST_POINTS_points",40),("MOST_SIDE",5),("LEAST_POINTS",2),("MOST_POINTS_two",5)]
noncomputable abbrev bl:Aa Aw:=["ValueError","abs","all","bool","enumerate","int","isinstance","len","list","min","range","set","sorted","tuple","zip"]
noncomputable abbrev tab:Aa (Aw × Ag × Aa Aw):=[(("board_points" : Aw),(1:Ag),[("w" : Aw),("h" : Aw)]),(("grown" : Aw),(2:Ag),[("lots" : Aw),("points" : Aw)]),(("is_whole" : Aw),(9:Ag),[("thing" : Aw)]),(("is_within" : Aw),(10:Ag),[("thing" : Aw),("least" : Aw),("most" : Aw)]),(("is_rising" : Aw),(11:Ag),[("some" : Aw)]),(("need_within" : Aw),(12:Ag),[("thing" : Aw),("least" : Aw),("most" : Aw)]),(("is_point" : Aw),(17:Ag),[("thing" : Aw)]),(("is_lot" : Aw),(18:Ag),[("thing" : Aw)]),(("need_point" : Aw),(19:Ag),[("thing" : Aw)]),(("need_lot" : Aw),(20:Ag),[("thing" : Aw)]),(("far_between" : Aw),(21:Ag),[("one" : Aw),("other" : Aw)]),(("far_of" : Aw),(22:Ag),[("one" : Aw),("other" : Aw)]),(("pairs_by_far" : Aw),(23:Ag),[("points" : Aw)]),(("far_table" : Aw),(24:Ag),[("lot" : Aw)]),(("fars" : Aw),(25:Ag),[("lot" : Aw)]),(("two_lots" : Aw),(30:Ag),[("w" : Aw),("h" : Aw),("n" : Aw)]),(("is_square" : Aw),(31:Ag),[("lot" : Aw)]),(("many_squares" : Aw),(32:Ag),[("w" : Aw),("h" : Aw)]),(("square_at" : Aw),(33:Ag),[("one" : Aw),("other" : Aw)]),(("many_fars" : Aw),(35:Ag),[("lot" : Aw)]),(("greatest_common" : Aw),(37:Ag),[("one" : Aw),("other" : Aw)]),(("fraction" : Aw),(38:Ag),[("top" : Aw),("bottom" : Aw)]),(("slant" : Aw),(39:Ag),[("point" : Aw),("one" : Aw),("other" : Aw)]),(("round_groups" : Aw),(40:Ag),[("one" : Aw),("other" : Aw),("points" : Aw)]),(("is_round" : Aw),(41:Ag),[("lot" : Aw)]),(("turned_about" : Aw),(43:Ag),[("lot" : Aw)]),(("mirrored" : Aw),(44:Ag),[("lot" : Aw)]),(("_law_cell" : Aw),(46:Ag),[("_law_script" : Aw),("_law_k" : Aw)]),(("_law_pen" : Aw),(47:Ag),[("_law_cell_here" : Aw)]),(("_law_draw" : Aw),(48:Ag),[("_law_pen_here" : Aw),("_law_many" : Aw)]),(("_law_circle" : Aw),(49:Ag),[("_law_number" : Aw)]),(("_law_rich" : Aw),(50:Ag),[("_law_pen_here" : Aw),("_law_most" : Aw)]),(("_law_lot" : Aw),(51:Ag),[("_law_pen_here" : Aw),("_law_most" : Aw)]),(("_law_combos" : Aw),(52:Ag),[("_law_some" : Aw),("_law_n" : Aw)]),(("_law_square_right" : Aw),(53:Ag),[("_law_one" : Aw),("_law_other" : Aw)]),(("law" : Aw),(54:Ag),[("_law_script" : Aw)])]
abbrev Txt (K:Ak)(Q:ah)(c:Cl):Prop:=yg K Q top tab bl (ow c) (qq c) (NY c) (Q1 c) qt
abbrev SR:Aa Aw:=[]
abbrev vc (a:DE):=q8 a qA
abbrev vd (a b:DE):=q8 a (vc b)
abbrev vf (a b c:DE):=q8 a (vd b c)
abbrev vg (a b c d:DE):=q8 a (vf b c d)
abbrev ic (i:Int):DE:=dC (.int i)
abbrev gy:DS:=qU (qW false [none,none,Ab 1] (xQ (wB (vc (q9 0)))) (bi 0) zN (kIn (xQ (wB (vc (q9 2)))) (bi 1) zN (z0 (zD (vd (q9 0) (q9 1))))))
@[irreducible] def dc:DF:=sh (qL 2 gy)
theorem uG:dc=qL 2 gy:=by delta dc;exact zL _
abbrev oj:DS:=qU (qW false [none,none,Ab 1] (ge (q9 0)) (bi 0) zN (kIn (ge (q9 2)) (bi 1) (zS (ci (d2 l3 (q9 1) (d2 dy (q9 0) (d1 kI (ic 1))))) zN) (z0 (d2 zP (q9 0) (zD (vc (q9 1)))))))
@[irreducible] def gz:DF:=sh (qL 2 oj)
theorem mY:gz=qL 2 oj:=by delta gz;exact zL _
abbrev kn:DS:=qU (mB (qM jA (vd (q9 0) (dC (.ty "int")))) (VM (qM jA (vd (q9 0) (dC (.ty "bool"))))))
@[irreducible] def fy:DF:=sh (qL 1 kn)
theorem pT:fy=qL 1 kn:=by delta fy;exact zL _
abbrev jp:DS:=qU (mB (qD 1 fy (vc (q9 0))) (w4 lq lq (q9 1) (q9 0) (q9 2)))
@[irreducible] def dn:DF:=sh (qL 3 jp)
theorem kU:dn=qL 3 jp:=by delta dn;exact zL _
abbrev jr:DS:=qU (qM (bG false) (vc (qW false [none,none] (xQ (Q4 (vd (q9 0) (pc (q9 0) (wU (ic 1)) uA)))) (nq 2 (x8 (bi 0) (x8 (bi 1) yT))) zN (z0 (d2 l5 (q9 0) (q9 1))))))
@[irreducible] def fj:DF:=sh (qL 1 jr)
theorem kS:fj=qL 1 jr:=by delta fj;exact zL _
abbrev g_ (c:Cl):DS:=gq (yQ (ci (qD 3 dn (vf (q9 0) (q9 1) (q9 2))))) lT zQ
@[irreducible] def br (c:Cl):DF:=sh (qL 3 (g_ c))
theorem j8 (c:Cl):br c=qL 3 (g_ c):=by delta br;exact zL _
abbrev kq:DS:=qH (gq (bD (yQ (ci (qM jA (vd (q9 0) (dC (.ty "tuple")))))) (ci (d2 im (qM xE (vc (q9 0))) (ic 2)))) (qU (dC (.bl false))) zQ) (qU (qM (bG false) (vc (qW false [none] (ge (q9 0)) (bi 0) zN (z0 (qD 3 (l_ dn) (vf (q9 0) (dC (.int (-1000))) (ic 1000))))))))
@[irreducible] def ez:DF:=sh (qL 1 kq)
theorem pR:ez=qL 1 kq:=by delta ez;exact zL _
abbrev mq:DS:=qH (gq (bD (yQ (ci (qM jA (vd (q9 0) (dC (.ty "tuple")))))) (yQ (ci (w4 lq lq (ic 1) (qM xE (vc (q9 0))) (ic 40))))) (qU (dC (.bl false))) zQ) (qU (mB (qM (bG false) (vc (qW false [none] (ge (q9 0)) (bi 0) zN (z0 (qD 1 (l_ ez) (vc (q9 0))))))) (qD 1 fj (vc (q9 0)))))
@[irreducible] def jd:DF:=sh (qL 1 mq)
theorem fP:jd=qL 1 mq:=by delta jd;exact zL _
abbrev i_ (c:Cl):DS:=gq (yQ (ci (qD 1 ez (vc (q9 0))))) lT zQ
@[irreducible] def bp (c:Cl):DF:=sh (qL 1 (i_ c))
theorem jW (c:Cl):bp c=qL 1 (i_ c):=by delta bp;exact zL _
abbrev ki (c:Cl):DS:=gq (yQ (ci (qD 1 jd (vc (q9 0))))) lT zQ
@[irreducible] def cz (c:Cl):DF:=sh (qL 1 (ki c))
theorem pV (c:Cl):cz c=qL 1 (ki c):=by delta cz;exact zL _
abbrev h_:DS:=qH (qT (d2 zV (d2 dy (q9 0) (ic 0)) (d2 dy (q9 1) (ic 0))) (bi 2)) (qH (qT (d2 zV (d2 dy (q9 0) (ic 1)) (d2 dy (q9 1) (ic 1))) (bi 3)) (qU (d2 zP (d2 zK (q9 2) (q9 2)) (d2 zK (q9 3) (q9 3)))))
@[irreducible] def cx:DF:=sh (qL 4 h_)
theorem j7:cx=qL 4 h_:=by delta cx;exact zL _
abbrev mr (c:Cl):DS:=qH (xH (qD 1 (bp c) (vc (q9 0)))) (qH (xH (qD 1 (bp c) (vc (q9 1)))) (qU (qD 2 cx (vd (q9 0) (q9 1)))))
@[irreducible] def lh (c:Cl):DF:=sh (qL 2 (mr c))
theorem fO (c:Cl):lh c=qL 2 (mr c):=by delta lh;exact zL _
abbrev gw:DS:=qH (qT rY (bi 1)) (qH (v8 (sT (vc (q9 0))) (nq 2 (x8 (bi 2) (x8 (bi 3) yT))) (v8 (yL (pc (q9 0) (wU (d2 zP (q9 2) (ic 1))) uA)) (bi 4) (xH (p_ "list" xS (p_ "dict" wW (q9 1) (vd (qD 2 cx (vd (q9 3) (q9 4))) (vY qA))) (vc (zD (vd (q9 3) (q9 4)))))))) (qU (q9 1)))
@[irreducible] def be:DF:=sh (qL 5 gw)
theorem uI:be=qL 5 gw:=by delta be;exact zL _
abbrev jt (c:Cl):DS:=qH (xH (qD 1 (cz c) (vc (q9 0)))) (qU (qM w5 (vc (qW false [none,none] (xQ (tB (qD 1 be (vc (q9 0))))) (nq 2 (x8 (bi 0) (x8 (bi 1) yT))) zN (z0 (zD (vd (q9 0) (qM xE (vc (q9 1))))))))))
@[irreducible] def cp (c:Cl):DF:=sh (qL 1 (jt c))
theorem kR (c:Cl):cp c=qL 1 (jt c):=by delta cp;exact zL _
abbrev qe (c:Cl):DS:=qU (qW false [none,none] (ge (qD 1 (cp c) (vc (q9 0)))) (nq 2 (x8 (bi 0) (x8 (bi 1) yT))) zN (z0 (q9 0)))
@[irreducible] def lc (c:Cl):DF:=sh (qL 1 (qe c))
theorem lX (c:Cl):lc c=qL 1 (qe c):=by delta lc;exact zL _
abbrev kh (c:Cl):DS:=qH (xH (qD 3 (br c) (vf (q9 0) (ic 1) (ic 5)))) (qH (xH (qD 3 (br c) (vf (q9 1) (ic 1) (ic 5)))) (qH (xH (qD 3 (br c) (vf (q9 2) (ic 2) (ic 5)))) (qH (qT (qD 2 dc (vd (q9 0) (q9 1))) (bi 3)) (qH (qT (qW false [none] (ge (q9 3)) (bi 0) zN (z0 (zD (vc (q9 0))))) (bi 4)) (qH (v8 (wB (vc (d2 zV (q9 2) (ic 1)))) (bi 5) (qT (qW false [none] (ge (qD 2 gz (vd (q9 4) (q9 3)))) (bi 0) (zS (ci (d2 lq (qM u4 (vc (qD 1 (l_ be) (vc (q9 0))))) (ic 2))) zN) (z0 (q9 0))) (bi 4))) (qU (q9 4)))))))
@[irreducible] def bz (c:Cl):DF:=sh (qL 6 (kh c))
theorem pW (c:Cl):bz c=qL 6 (kh c):=by delta bz;exact zL _
abbrev jq (c:Cl):DS:=qH (qT (qD 1 (cp c) (vc (q9 0))) (bi 1)) (qH (gq (ci (d2 im (qM xE (vc (q9 0))) (ic 4))) (qU (dC (.bl false))) zQ) (qH (qT (d2 dy (d2 dy (q9 1) (ic 0)) (ic 0)) (bi 2)) (qU (d2 jy (q9 1) (wA (vd (zD (vd (q9 2) (ic 4))) (zD (vd (d2 zK (ic 2) (q9 2)) (ic 2)))))))))
@[irreducible] def bw (c:Cl):DF:=sh (qL 3 (jq c))
theorem kT (c:Cl):bw c=qL 3 (jq c):=by delta bw;exact zL _
abbrev gx (c:Cl):DS:=qH (xH (qD 3 (br c) (vf (q9 0) (ic 1) (d2 eO (ic 10) (ic 6))))) (qH (xH (qD 3 (br c) (vf (q9 1) (ic 1) (d2 eO (ic 10) (ic 6))))) (qH (qT (d2 zV (qM tJ (vd (q9 0) (q9 1))) (ic 1)) (bi 2)) (qH (qT (d2 kH (d2 zK (q9 2) (d2 zP (q9 2) (ic 1))) (ic 2)) (bi 3)) (qH (qT (d2 kH (d2 zK (d2 zK (q9 2) (d2 zP (q9 2) (ic 1))) (d2 zP (d2 zK (ic 2) (q9 2)) (ic 1))) (ic 6)) (bi 4)) (qH (qT (d2 zK (q9 3) (q9 3)) (bi 5)) (qU (d2 zP (d2 zV (d2 zK (d2 zK (q9 0) (q9 1)) (q9 3)) (d2 zK (d2 zP (q9 0) (q9 1)) (q9 4))) (q9 5))))))))
@[irreducible] def db (c:Cl):DF:=sh (qL 6 (gx c))
theorem uH (c:Cl):db c=qL 6 (gx c):=by delta db;exact zL _
abbrev jn (c:Cl):DS:=qH (xH (qD 1 (bp c) (vc (q9 0)))) (qH (xH (qD 1 (bp c) (vc (q9 1)))) (qH (gq (ci (d2 jy (q9 0) (q9 1))) lT zQ) (qH (qT (d2 zV (d2 dy (q9 1) (ic 0)) (d2 dy (q9 0) (ic 0))) (bi 2)) (qH (qT (d2 zV (d2 dy (q9 1) (ic 1)) (d2 dy (q9 0) (ic 1))) (bi 3)) (qH (qT (wA (vg (q9 0) (q9 1) (zD (vd (d2 zV (d2 dy (q9 0) (ic 0)) (q9 3)) (d2 zP (d2 dy (q9 0) (ic 1)) (q9 2)))) (zD (vd (d2 zV (d2 dy (q9 1) (ic 0)) (q9 3)) (d2 zP (d2 dy (q9 1) (ic 1)) (q9 2)))))) (bi 4)) (qH (v8 (yL (q9 4)) (bi 5) (xH (qD 1 (bp c) (vc (q9 5))))) (qU (qM uB (vc (qM w5 (vc (q9 4))))))))))))
@[irreducible] def dk (c:Cl):DF:=sh (qL 6 (jn c))
theorem kX (c:Cl):dk c=qL 6 (jn c):=by delta dk;exact zL _
abbrev jo (c:Cl):DS:=qU (qM xE (vc (qD 1 (lc c) (vc (q9 0)))))
@[irreducible] def cj (c:Cl):DF:=sh (qL 1 (jo c))
theorem kW (c:Cl):cj c=qL 1 (jo c):=by delta cj;exact zL _
abbrev ff:DS:=qH (gE (ci (d2 tm (q9 1) (ic 0))) (jO 0 1 (vd (q9 1) (d2 uF (q9 0) (q9 1))))) (qU (q9 0))
@[irreducible] def cc:DF:=sh (qL 2 ff)
theorem vE:cc=qL 2 ff:=by delta cc;exact zL _
abbrev kr:DS:=qH (qT (qD 2 cc (vd (qM nY (vc (q9 0))) (qM nY (vc (q9 1))))) (bi 2)) (qH (gq (ci (d2 mj (q9 1) (ic 0))) (qT (d1 kI (q9 2)) (bi 2)) zQ) (qU (zD (vd (d2 gS (q9 0) (q9 2)) (d2 gS (q9 1) (q9 2))))))
@[irreducible] def f_:DF:=sh (qL 3 kr)
theorem pQ:f_=qL 3 kr:=by delta f_;exact zL _
abbrev oi:DS:=qH (jO 3 4 (vd (d2 zV (d2 dy (q9 1) (ic 0)) (d2 dy (q9 0) (ic 0))) (d2 zV (d2 dy (q9 1) (ic 1)) (d2 dy (q9 0) (ic 1))))) (qH (jO 5 6 (vd (d2 zV (d2 dy (q9 2) (ic 0)) (d2 dy (q9 0) (ic 0))) (d2 zV (d2 dy (q9 2) (ic 1)) (d2 dy (q9 0) (ic 1))))) (qH (qT (d2 zV (d2 zK (q9 3) (q9 6)) (d2 zK (q9 4) (q9 5))) (bi 7)) (qU (vz (ci (d2 jy (q9 7) (ic 0))) (dC .non) (qD 2 f_ (vd (d2 zP (d2 zK (q9 3) (q9 5)) (d2 zK (q9 4) (q9 6))) (q9 7)))))))
@[irreducible] def kb:DF:=sh (qL 8 oi)
theorem mZ:kb=qL 8 oi:=by delta kb;exact zL _
abbrev gv:DS:=qH (qT Q3 (bi 3)) (qH (v8 (yL (q9 2)) (bi 4) (qH (qT (qD 3 kb (vf (q9 4) (q9 0) (q9 1))) (bi 5)) (gq (ci (d2 eM (q9 5) (dC .non))) (xH (p_ "list" xS (rZ (q9 3) (vd (q9 5) (vY qA))) (vc (q9 4)))) zQ))) (qU (tF (q9 3))))
@[irreducible] def da:DF:=sh (qL 6 gv)
theorem uJ:da=qL 6 gv:=by delta da;exact zL _
abbrev ko (c:Cl):DS:=qH (xH (qD 1 (cz c) (vc (q9 0)))) (qH (gq (ci (d2 mj (qM xE (vc (q9 0))) (ic 3))) (qU (dC (.bl true))) zQ) (qU (d2 (jZ jy) (qD 3 da (vf (d2 dy (q9 0) (ic 0)) (d2 dy (q9 0) (ic 1)) (pc (q9 0) (wU (ic 2)) uA))) (wA (vc (qM sV (vc (pc (q9 0) (wU (ic 2)) uA))))))))
@[irreducible] def fz (c:Cl):DF:=sh (qL 1 (ko c))
theorem pS (c:Cl):fz c=qL 1 (ko c):=by delta fz;exact zL _
abbrev gu (c:Cl):DS:=qH (xH (qD 1 (cz c) (vc (q9 0)))) (qU (qM uB (vc (qM w5 (vc (qW false [none,none] (ge (q9 0)) (nq 2 (x8 (bi 0) (x8 (bi 1) yT))) zN (z0 (zD (vd (d1 kI (q9 1)) (q9 0))))))))))
@[irreducible] def c_ (c:Cl):DF:=sh (qL 1 (gu c))
theorem uK (c:Cl):c_ c=qL 1 (gu c):=by delta c_;exact zL _
abbrev kj (c:Cl):DS:=qH (xH (qD 1 (cz c) (vc (q9 0)))) (qU (qM uB (vc (qM w5 (vc (qW false [none,none] (ge (q9 0)) (nq 2 (x8 (bi 0) (x8 (bi 1) yT))) zN (z0 (zD (vd (q9 1) (q9 0))))))))))
@[irreducible] def fx (c:Cl):DF:=sh (qL 1 (kj c))
theorem pU (c:Cl):fx c=qL 1 (kj c):=by delta fx;exact zL _
abbrev jw:DS:=qH (gq (ci (d2 mj (q9 1) (qM xE (vc (q9 0))))) (qU (d2 dy (q9 0) (q9 1))) zQ) (qU (ic 0))
@[irreducible] def dw:DF:=sh (qL 2 jw)
theorem kN:dw=qL 2 jw:=by delta dw;exact zL _
abbrev ku:DS:=qU (vY (vd (q9 0) (qM Q8 (vc (d2 vy (q9 0) (d2 eO (ic 10) (ic 18)))))))
@[irreducible] def gb:DF:=sh (qL 1 ku)
theorem pP:gb=qL 1 ku:=by delta gb;exact zL _
abbrev jv:DS:=qH (gq (ci (d2 jy (d2 dy (q9 0) (ic 1)) (ic 1))) (qH (qT (d2 uF (d2 dy (q9 0) (ic 0)) (q9 1)) (bi 2)) (qH (qT (d2 kH (d2 dy (q9 0) (ic 0)) (q9 1)) (tj (q9 0) (ic 0) yS)) (qU (q9 2)))) zQ) (qH (qT (d2 uF (d2 zP (d2 zK (d2 uF (d2 dy (q9 0) (ic 0)) (ic 2147483629)) (ic 48271)) (ic 11)) (ic 2147483629)) (tj (q9 0) (ic 0) yS)) (qU (d2 uF (d2 kH (d2 uF (d2 zP (d2 zK (d2 dy (q9 0) (ic 0)) (d2 dy (q9 0) (ic 0))) (d2 zK (ic 40692) (d2 dy (q9 0) (ic 0)))) (ic 2147483647)) (ic 8)) (q9 1))))
@[irreducible] def ay:DF:=sh (qL 3 jv)
theorem kO:ay=qL 3 jv:=by delta ay;exact zL _
abbrev ig:DS:=qH (jO 1 2 (vd rY (wA qA))) (qH (v8 (wB (vc (ic 1001))) (bi 3) (qT (q9 3) (tj (q9 1) (d2 zK (q9 3) (q9 3)) yS))) (qH (v8 (wB (vc (ic 1001))) (bi 4) (gq (ci (d2 l4 (d2 zV (q9 0) (d2 zK (q9 4) (q9 4))) (q9 1))) (qH (qT (d2 mI (q9 1) (d2 zV (q9 0) (d2 zK (q9 4) (q9 4)))) (bi 5)) (qH (qT (d2 zP (q9 2) (wA (vf (zD (vd (q9 4) (q9 5))) (zD (vd (d2 zV (ic 0) (q9 4)) (q9 5))) (zD (vd (q9 4) (d2 zV (ic 0) (q9 5))))))) (bi 2)) (qT (d2 zP (q9 2) (wA (vc (zD (vd (d2 zV (ic 0) (q9 4)) (d2 zV (ic 0) (q9 5))))))) (bi 2)))) zQ)) (qU (wL false (q9 2)))))
@[irreducible] def dj:DF:=sh (qL 6 ig)
theorem j3:dj=qL 6 ig:=by delta dj;exact zL _
abbrev ju:DS:=qH (qT (ic 1) (bi 2)) (qH (v8 (wB (vc (d2 zP (ic 1) (qD 2 ay (vd (q9 0) (ic 6)))))) (bi 3) (qH (qT (d2 dy (wA (q8 (ic 2) (q8 (ic 5) (q8 (ic 13) (q8 (ic 17) (vg (ic 4) (ic 9) (ic 5) (ic 29))))))) (qD 2 ay (vd (q9 0) (ic 8)))) (bi 4)) (gq (ci (d2 lq (d2 zK (q9 2) (q9 4)) (q9 1))) (qT (d2 zK (q9 2) (q9 4)) (bi 2)) zQ))) (qU (q9 2)))
@[irreducible] def fq:DF:=sh (qL 5 ju)
theorem kQ:fq=qL 5 ju:=by delta fq;exact zL _
abbrev kw:DS:=qH (jO 2 3 (vd (qD 2 ay (vd (q9 0) (ic 6))) (d2 zP (ic 1) (qD 2 ay (vd (q9 0) (q9 1)))))) (qH (qT (zD (vd (d2 zV (qD 2 ay (vd (q9 0) (ic 21))) (ic 10)) (d2 zV (qD 2 ay (vd (q9 0) (ic 21))) (ic 10)))) (nq 2 (x8 (bi 4) (x8 (bi 5) yT)))) (qH (qT (d2 dy (wA (vf (ic 3) (ic 6) (ic 900))) (qD 2 ay (vd (q9 0) (ic 3)))) (bi 6)) (qH (gq (ci (d2 mj (q9 2) (ic 2))) (qT (qD 1 dj (vc (qD 2 fq (vd (q9 0) (ic 5000))))) (bi 7)) (gq (ci (d2 jy (q9 2) (ic 2))) (qT (qW false [none] (xQ (wB (vc (ic 25)))) (bi 0) zN (z0 (zD (vd (d2 kH (q9 0) (ic 5)) (d2 uF (q9 0) (ic 5)))))) (bi 7)) (gq (ci (d2 jy (q9 2) (ic 3))) (qH (qT (qW false [none] (xQ (wB (vc (ic 20)))) (bi 0) zN (z0 (zD (vd (d2 zK (ic 2) (q9 0)) (d2 zK (ic 3) (q9 0)))))) (bi 7)) (qT (d2 zP (q9 7) (qW false [none] (xQ (wB (vc (ic 5)))) (bi 0) zN (z0 (zD (vd (q9 0) (ic 0)))))) (bi 7))) (gq (ci (d2 jy (q9 2) (ic 4))) (qT (wA (q8 (zD (vd (ic 0) (ic 0))) (q8 (zD (vd (ic 0) (ic 4))) (q8 (zD (vd (ic 4) (ic 0))) (q8 (zD (vd (ic 4) (ic 4))) (q8 (zD (vd (ic 2) (ic 2))) (q8 (zD (vd (d1 kI (ic 1)) (ic 2))) (q8 (zD (vd (ic 2) (d1 kI (ic 1)))) (vg (zD (vd (ic 5) (ic 2))) (zD (vd (ic 2) (ic 5))) (zD (vd (ic 1) (ic 1))) (zD (vd (ic 6) (ic 6)))))))))))) (bi 7)) (qH (qT (vY qA) (bi 7)) (v8 (wB (vc (q9 1))) (bi 8) (qH (qT (d2 zV (qD 2 ay (vd (q9 0) (d2 zP (d2 zK (ic 2) (q9 6)) (ic 1)))) (q9 6)) (bi 9)) (xH (p_ "list" xS (q9 7) (vc (zD (vd (q9 9) (d2 zV (qD 2 ay (vd (q9 0) (q9 6))) (ic 2)))))))))))))) (qH (qT (wL true (q9 7)) (bi 7)) (qH (qT (vY qA) (bi 10)) (qH (gE (zS (ci (d2 (jZ im) (q9 7) (vY qA))) (ci (d2 mj (qM xE (vc (q9 10))) (q9 3)))) (xH (p_ "list" xS (q9 10) (vc (p_ "list" bI (q9 7) (vc (qD 2 ay (vd (q9 0) (qM xE (vc (q9 7))))))))))) (qU (qM uB (vc (qM w5 (vc (qW false [none,Ab 4,Ab 5] (ge (q9 10)) (bi 0) zN (z0 (zD (vd (d2 zP (d2 dy (q9 0) (ic 0)) (q9 1)) (d2 zP (d2 dy (q9 0) (ic 1)) (q9 2)))))))))))))))))
@[irreducible] def gc:DF:=sh (qL 11 kw)
theorem pO:gc=qL 11 kw:=by delta gc;exact zL _
abbrev dh:DS:=qH (qT (wA (vc (zD qA))) (bi 2)) (qH (nH (ge (q9 0)) (bi 3) (qT (d2 zP (q9 2) (qW false [none,Ab 1,Ab 3] (ge (q9 2)) (bi 0) (zS (ci (d2 mj (qM xE (vc (q9 0))) (q9 1))) zN) (z0 (d2 zP (q9 0) (zD (vc (q9 2))))))) (bi 2))) (qU (qM w5 (vc (qW false [none,Ab 1] (ge (q9 2)) (bi 0) (zS (ci (d2 jy (qM xE (vc (q9 0))) (q9 1))) zN) (z0 (q9 0)))))))
@[irreducible] def di:DF:=sh (qL 4 dh)
theorem j6:di=qL 4 dh:=by delta di;exact zL _
abbrev dz (c:Cl):DS:=qH (jO 2 3 (vd (qD 2 (dk c) (vd (q9 0) (q9 1))) (qD 2 (lh c) (vd (q9 0) (q9 1))))) (qH (gq (ci (d2 kZ (qD 1 (bw c) (vc (q9 2))) (dC (.bl true)))) (qU (dC (.bl false))) zQ) (qH (gq (ci (d2 im (qD 1 (cp c) (vc (q9 2))) (wA (vd (zD (vd (q9 3) (ic 4))) (zD (vd (d2 zK (ic 2) (q9 3)) (ic 2))))))) (qU (dC (.bl false))) zQ) (qH (gq (ci (d2 kZ (qD 1 (fz c) (vc (q9 2))) (dC (.bl true)))) (qU (dC (.bl false))) zQ) (qH (gq (bD (ci (d2 g9 (q9 0) (q9 2))) (bD (ci (d2 g9 (q9 1) (q9 2))) (ci (d2 jy (qD 2 (dk c) (vd (q9 1) (q9 0))) (q9 2))))) (qU (dC (.bl false))) zQ) (qU (mB (d2 eK (qD 1 (bw c) (vc (qD 1 (c_ c) (vc (q9 2))))) (dC (.bl true))) (d2 eK (qD 1 (bw c) (vc (qD 1 (fx c) (vc (q9 2))))) (dC (.bl true)))))))))
@[irreducible] def bv (c:Cl):DF:=sh (qL 4 (dz c))
theorem yK (c:Cl):bv c=qL 4 (dz c):=by delta bv;exact zL _
abbrev qd (c:Cl):DS:=qH (v8 (yL (d2 zP (wA (vc (qD 2 dw (vd (q9 0) (ic 0))))) (pc (q9 0) (wU (ic 1)) (wU (ic 2))))) (bi 1) (qH (qT (qD 1 gb (vc (q9 1))) (bi 2)) (qH (qT (zD (vd (d2 zP (ic 1) (qD 2 ay (vd (q9 2) (ic 5)))) (d2 zP (ic 1) (qD 2 ay (vd (q9 2) (ic 5)))))) (nq 2 (x8 (bi 3) (x8 (bi 4) yT)))) (qH (qT (qD 3 (bz c) (vf (q9 3) (q9 4) (ic 4))) (bi 5)) (qH (gq (ci (d2 im (q9 5) (wL false (q9 5)))) (qU (dC (.bl false))) zQ) (qH (v8 (yL (q9 5)) (bi 6) (gq (ci (d2 im (qW false [none,Ab 4,Ab 3] (ge (q9 6)) (bi 0) (zS (yQ (zS (ci (w4 lq mj (ic 0) (d2 dy (q9 0) (ic 0)) (q9 2))) (ci (w4 lq mj (ic 0) (d2 dy (q9 0) (ic 1)) (q9 1))))) zN) (z0 (q9 0))) (wA qA))) (qU (dC (.bl false))) zQ)) (qH (gq (bD (ci (d2 im (qM xE (vc (q9 5))) (qD 2 (db c) (vd (q9 3) (q9 4))))) (yQ (ci (qM (bG false) (vc (qW false [none] (ge (q9 5)) (bi 0) zN (z0 (qD 1 (l_ (bw c)) (vc (q9 0)))))))))) (qU (dC (.bl false))) zQ) (qH (gq (ci (d2 im (qD 3 (bz c) (vf (q9 3) (q9 4) (ic 5))) (wA qA))) (qU (dC (.bl false))) zQ) (qH (gq (ci (d2 im (qW false [none] (ge (qD 3 (bz c) (vf (q9 3) (q9 4) (ic 3)))) (bi 0) (zS (ci (d2 im (qD 1 (l_ (cj c)) (vc (q9 0))) (ic 2))) zN) (z0 (q9 0))) (wA qA))) (qU (dC (.bl false))) zQ) (qH (gq (ci (d2 im (qM xE (vc (qD 3 (bz c) (vf (q9 3) (q9 4) (ic 2))))) (d2 kH (d2 zK (d2 zK (q9 3) (q9 4)) (d2 zV (d2 zK (q9 3) (q9 4)) (ic 1))) (ic 2)))) (qU (dC (.bl false))) zQ) (qH (qT (zD (vd (d2 zV (qD 2 ay (vd (q9 2) (ic 400))) (ic 200)) (d2 zV (qD 2 ay (vd (q9 2) (ic 400))) (ic 200)))) (bi 7)) (qH (qT (zD (vd (d2 zV (qD 2 ay (vd (q9 2) (ic 400))) (ic 200)) (d2 zV (qD 2 ay (vd (q9 2) (ic 400))) (ic 200)))) (bi 8)) (qH (gq (zS (ci (d2 im (q9 7) (q9 8))) (yQ (ci (qD 2 (bv c) (vd (q9 7) (q9 8)))))) (qU (dC (.bl false))) zQ) (qH (qT (qD 2 gc (vd (q9 2) (ic 9))) (bi 6)) (v8 (yL (qD 2 di (vd (q9 6) (ic 4)))) (bi 9) (gq (ci (d2 im (qD 1 (bw c) (vc (q9 9))) (d2 mj (qM xE (vc (qD 1 (lc c) (vc (q9 9))))) (ic 3)))) (qU (dC (.bl false))) zQ)))))))))))))))) (qU (dC (.bl true)))
end _K
namespace _K
open _D
variable {L:Aa (Aa Pt)}{kvs:Aa (_L.bo × D)}{bt ps:Aa Pt}{w j:Ag}{c A B C:Pt}{κ:Pt->An Pt}{env:qB}
theorem T6 {d:D}(h:Pn d)(S:ak):fy [d] S=.ok (.bl (isW d)) S:=by
 rw[pT];obtain⟨p,h⟩:=h;cases d <;> first|kernel_rfl!|simp[um] at h
theorem cB {d:D}(h:Pn d)(a b:Aj)(S:ak):dn [d,.int a,.int b] S=.ok (.bl (inR a b d)) S:=by
 rw[kU];refine wN (zC (env:=[Ab d,Ab (.int a),Ab (.int b)]) rfl ?_);rfl';refine QX ?_;rfl';refine qQ (T6 h S) ⟨_,rfl,λe=>?_,λe=>?_⟩
 .cases d with
  |int i=>exact iO rfl rfl rfl ⟨rfl,rfl⟩
  |_=>cases e
 .cases d <;> first|exact⟨rfl,rfl⟩|cases e
theorem nF {d:D}(h:Pn d)(S:ak):ez [d] S=.ok (.bl (y9 d)) S:=by
 rw[pR];refine wN (zC (env:=[Ab d]) rfl ?_);rfl';refine tZ ?_;rfl';refine qQ (GO h S) ?_;rfl';refine⟨λe=>?_,λe=>?_⟩
 .rfl'
  exact⟨by rw[SB (by simpa using e)],rfl⟩
 .cases d with
  |tup J =>
   rfl';refine yY (λe=>?_) λe=>?_
   .rfl'
    refine yN (cq:=id) (o:=none) J (λx=>.bl (ya x)) (λenv Q=>Q=S/\∃ a,env=[a]) ((QL rfl).trans (by rw[Lb])) ⟨rfl,none,rfl⟩ (by unfold bn;lia) (λ_ _ _=>trivial) (λx G env Q ⟨Y,a,U⟩=>?_) λenv Q ⟨Y,_⟩=>?_
    .subst Y U
     rfl';exact qQ (cB (WY h x G) _ _ _) ⟨rfl,rfl,_,rfl⟩
    .subst Y
     rfl';exact sX ⟨by rw[DZ li],rfl⟩
   .rfl'
    exact⟨by rw[SA li],rfl⟩
  |_=>cases e
theorem JZ (Q:Aa Pt)(N:Q.length<=1000)(S:ak):fj [qE Q] S=.ok (.bl (ot (Q.map kP))) S:=by
 rw[kS];refine wN (zC (env:=[Ab (.tup (Q.map au))]) rfl ?_);rfl';have U:xQ (Q4 (q8 (q9 0) (q8 (pc (q9 0) (wU (dC (.int 1))) uA) qA))) [Ab (.tup (Q.map au))] S=.ok (none,(((Q.map kP).zip ((Q.map kP).drop 1)).map λp=>D.tup [gp p.1,gp p.2])) S:=by
  show ba.ok (none,vX (Q.map au) (wG (Q.map au) (Ab 1) none)) S=_;rw[CV,gA,<- Ye,CL]
 refine yN _ (λp=>.bl (_H.lexLt p.1 p.2)) (λenv Y=>Y=S/\∃ a b,env=[a,b]) U ⟨rfl,none,none,rfl⟩ ?_ (λ_ _ _=>trivial) (λx O env Y ⟨J,a,b,G⟩=>?_) λenv Y ⟨J,_⟩=>?_
 .rw[Vl,Ao]
  unfold bn
  lia
 .subst J G
  rfl';exact qQ (AW _ _ _) ⟨rfl,rfl,_,_,rfl⟩
 .subst J
  rfl';exact sX ⟨rfl,rfl⟩
theorem JY {d:D}(h:Pn d)(S:ak):jd [d] S=.ok (.bl (sW d)) S:=by
 rw[fP];refine wN (zC (env:=[Ab d]) rfl ?_);rfl';refine tZ ?_;rfl';refine qQ (GO h S) ?_;rfl';refine⟨λe=>?_,λe=>?_⟩
 .rfl'
  exact⟨by rw[F3 (by simpa using e)],rfl⟩
 .cases d with
  |tup Q =>
   rfl';refine iO (b:=(Q.length:Aj)) rfl rfl rfl ?_;rfl';refine yY (λz=>?_) λz=>?_
   .have O:1<=Q.length/\Q.length<=40:=by lia
    rfl';refine QX ?_;rfl';refine yN (cq:=id) (o:=none) Q (λx=>.bl (y9 x)) (λenv N=>N=S/\∃ a,env=[a]) ((QL rfl).trans (by rw[Lb])) ⟨rfl,none,rfl⟩ (by unfold bn;lia) (λ_ _ _=>trivial) (λx E env N ⟨G,a,T⟩=>?_) λenv N ⟨G,_⟩=>?_
    .subst G T
     rfl';exact qQ (nF (WY h x E) _) ⟨rfl,rfl,_,rfl⟩
    .subst G
     rfl';refine sX ⟨_,rfl,λU=>?_,λU=>?_⟩
     .obtain⟨J,rfl,_⟩:=Y2 U
      rw[Ao] at O;rfl';refine qQ (JZ J li _) ⟨?_,rfl⟩;show _=D.bl (decide (1<=(J.map au).length/\(J.map au).length<=40)&&(J.map au).all y9&&(match uS (J.map au) with|some Y=>ot Y|none=>false))
      rw[U,Ao,Bm O,gA,sH];rfl
     .refine⟨?_,rfl⟩
      show _=D.bl (decide (1<=Q.length/\Q.length<=40)&&Q.all y9&&(match uS Q with|some Y=>ot Y|none=>false))
      rw[U,Ro,Km]
   .rfl'
    refine⟨?_,rfl⟩;show _=D.bl (decide (1<=Q.length/\Q.length<=40)&&Q.all y9&&(match uS Q with|some Y=>ot Y|none=>false))
    rw[Co li,Km,Km]
  |_=>cases e
theorem u7 (c:Cl){d:D}(S:ak)(h:Pn d)(k:sW d=true):cz c [d] S=.ok .non S:=by
 rw[pV];refine wN (zC (env:=[Ab d]) rfl ?_);rfl';refine qQ (JY h S) ?_;rw[k];rfl';exact⟨rfl,rfl⟩
theorem gC (c:Cl){i a b:Aj}(S:ak)(h:a<=i/\i<=b):br c [.int i,.int a,.int b] S=.ok .non S:=by
 rw[j8];refine wN (zC (env:=[Ab (.int i),Ab (.int a),Ab (.int b)]) rfl ?_);rfl';refine qQ (cB ⟨.int i,rfl⟩ a b S) ?_;rw[show inR a b (.int i)=true from Bm h]
 rfl';exact⟨rfl,rfl⟩
theorem pY (c:Cl){d:D}(S:ak)(h:Pn d)(k:y9 d=true):bp c [d] S=.ok .non S:=by
 rw[jW];refine wN (zC (env:=[Ab d]) rfl ?_);rfl';refine qQ (nF h S) ?_;rw[k];rfl';exact⟨rfl,rfl⟩
theorem xO {Q:D->ak->Prop}{S:ak}{p:Ag}{m:Aj}(h:uN S p)(hm:0<m/\m<1073741824)(q:∀ (r:Ag) S1,Kp p S S1->(r:Aj)<m->Q (.int r) S1):Ok (ay [.loc p,.int m] S) Q:=by
 have J:∀ r v f:Aj,0<=r->r<m->Q (.int r) (S.set p (.lst [.int v,.int f])):=λr v f N O=>by
  obtain⟨r,rfl⟩:=Int.eq_ofNat_of_zero_le N;obtain⟨M,y,e⟩:=h;have Y:=(Ax.mp e).1;exact q r _ ⟨⟨v,f,by simp[Y]⟩,by simp,λi H E=>Br (Gb E)⟩ O
 obtain⟨v,f,e⟩:=h;have Y:=(Ax.mp e).1;rw[kO];refine zC (env:=[Ab (.loc p),Ab (.int m),none]) rfl ?_;rfl';refine pA e (d:=.int f) rfl ?_;rfl';refine yY (λz=>?_) λz=>?_
 .rfl'
  refine pA e (d:=.int v) rfl ?_;rfl';refine pA e (d:=.int v) rfl ?_;rfl';refine WR e rfl ?_;rfl';exact J _ _ _ (Nt _ om) (Lm _ hm.1)
 .rfl'
  refine pA e (d:=.int v) rfl ?_;have hv:=Nt v (show (2147483629:Aj)≠0 by fin2)
  have T:=Lm v (show (0:Aj)<2147483629 by fin2)
  rfl';have I:=Nt (v % 2147483629*48271+11) (show (2147483629:Aj)≠0 by fin2)
  have G:=Lm (v % 2147483629*48271+11) (show (0:Aj)<2147483629 by fin2)
  generalize (v % 2147483629*48271+11) % 2147483629=w at I G;refine WR e rfl ?_;have U:(S.set p (MO.lst [.int w,.int f]))[p]? = Ab (.lst [.int w,.int f]):=by simp[Y]
  rfl';refine pA U (d:=.int w) rfl ?_;rfl';refine pA U (d:=.int w) rfl ?_;rfl';refine pA U (d:=.int w) rfl ?_;rfl';exact J _ _ _ (Nt _ om) (Lm _ hm.1)
theorem II {Q:D->ak->Prop}{S:ak}{x:Aj}(q:∀ p S1,uN S1 p->Q (.loc p) S1):Ok (gb [.int x] S) Q:=by
 rw[pP];refine zC (env:=[Ab (.int x)]) rfl ?_;rfl';refine qQ (d:=.int 1000000000000000000) rfl ?_;rfl';refine qQ (d:=.int (yd (decide (1000000000000000000<=x)))) rfl ?_;rfl';exact q _ _ ⟨_,_,uT _ _⟩
theorem T1 (Y:Aa Aj)(O:Y.length<=63)(k:Aj){Q:Aa D->ak->Prop}{env:qB}{S:ak}(h0:env[0]? = Ab (Ab (.lst (Y.map D.int))))(q:∀ U:Aa Aj,Q (U.map D.int) S):Ok (yL (d2 zP (wA (q8 (qD 2 dw (q8 (q9 0) (q8 (dC (.int 0)) qA))) qA)) (pc (q9 0) (wU (dC (.int 1))) (wU (dC (.int k))))) env S) Q:=by
 have G:∃ x:Aj,dw [.lst (Y.map D.int),.int 0] S=.ok (.int x) S:=by
  rw[kN];cases Y with
  |nil=>exact⟨0,wN (zC (env:=[Ab (.lst []),Ab (.int 0)]) rfl (by rfl';exact⟨rfl,rfl⟩))⟩
  |cons n Y =>
   refine⟨n,wN (zC (env:=[Ab (.lst ((n::Y).map D.int)),Ab (.int 0)]) rfl ?_)⟩;rfl';refine yY (λ_=>?_) λe=>absurd (by rw[Ao,Bv];fin2) e
   rfl';exact QZ (rF (a:=0) (by simp)) ⟨rfl,rfl⟩
 obtain⟨x,N⟩:=G;refine FS (o_2 (IF (bR (R7 (bR (o_v h0 ?_))))));rfl';refine qQ N ?_;rfl';refine o_v h0 ?_;rfl';have J:wG (Y.map D.int) (Ab 1) (Ab k)=((Y.drop (_H.cg (Y.map D.int).length 0 (Ab 1))).take (_H.cg (Y.map D.int).length (Y.map D.int).length (Ab k)-_H.cg (Y.map D.int).length 0 (Ab 1))).map D.int:=by
  unfold wG;rw[List.map_take,Ye]
 rw[J];refine tX ?_ ⟨_,rfl,q (x::_)⟩;rw[Ao,Hg,Ku];show 1+_<=bn;unfold bn;fin2
def iD (n:Ag):D:=.int (n:Aj)
noncomputable def pt (x y:Ag):Pt:=((x:Aj),(y:Aj))
def qN (w h:Ag):Aa Pt:=(Cg w).flatMap λ(x:Ag)=>(Cg h).map λ(y:Ag)=>pt x y
theorem b8 (w h:Ag):(qN w h).length=w*h:=by
 unfold qN
 induction w with
 |zero=>simp
 |succ w Q=>rw[Vn,List.flatMap_append,By,Q];simp[Nat.succ_mul]
theorem d9 {h:Ag}{p:Pt}(m:p∈qN w h):0<=p.1/\p.1<w/\0<=p.2/\p.2<h:=by
 unfold qN at m;obtain⟨x,Y,m⟩:=My.mp m;obtain⟨y,Q,rfl⟩:=Ba.mp m;simp at Y Q;unfold pt;refine⟨?_,?_,?_,?_⟩ <;> dsimp only <;> fin2
theorem OG (n:Ag)(h:n<=1000000):jN [.int (n:Aj)]=Ab (w6 0 (n:Aj).toNat):=by
 unfold jN;have : -(2 ^ 62)<=(n:Aj)/\(n:Aj)<2 ^ 62:=⟨by fin2,by fin2⟩
 exact Bi this
theorem K0 (n:Ag):w6 0 (n:Aj).toNat=(Cg n).map iD:=by
 unfold w6;rw[Ez]
 congr 1
 funext i
 unfold iD;rw[Int.zero_add]
theorem T9 (n:Ag)(h:n<=1000000):jN [.int (n:Aj)]=Ab ((Cg n).map iD):=by
 rw[OG n h,K0]
theorem Y8 {β:Type}(b:β)(S:ak):_D.v7 (Ab b) S=.ok b S:=rfl
theorem F5 (f:DE)(n:Ag)(env:qB)(S:ak)(h:n<=1000000)(e:f env S=.ok (.int (n:Aj)) S):wB (q8 f qA) env S=.ok ((Cg n).map iD) S:=by
 have Q:q8 f qA env S=.ok [.int (n:Aj)] S:=by unfold q8 qA;rw[e];rfl
 unfold wB;rw[Q,ba.bind_ok,T9 n h,Y8]
theorem W0 (f:DE)(n:Ag)(env:qB)(S:ak)(h:n<=1000000)(e:f env S=.ok (.int (n:Aj)) S):xQ (wB (q8 f qA)) env S=.ok (none,(Cg n).map iD) S:=by
 unfold xQ;rw[F5 f n env S h e,ba.bind_ok]
theorem dJ {α:Type}(l:Aa α) : l.filter (λ_=>true)=l:=by simp
theorem MZ (w h:Ag)(S:ak)(hw:w<=12)(U:h<=12):dc [.int (w:Aj),.int (h:Aj)] S=.ok (.lst ((qN w h).map au)) S:=by
 have Q:((Cg w).map iD).flatMap (λd=>(((Cg h).map iD).filter (λ_=>true)).map (λe=>D.tup [d,e]))=(qN w h).map au:=by
  rw[List.flatMap_map];unfold qN;rw[AaD]
  congr 1
  funext x
  rw[dJ,Dj,Dj];rfl
 have N:((qN w h).map au).length<=bn:=by
  rw[Ao,b8];have:w*h<=12*12:=Gd hw U;unfold bn;fin2
 have Y:=L8 (bu:=[none,none,Ab 1]) (fi:=xQ (wB (q8 (q9 0) qA))) (g:=bi 0) (t:=zN) (rd:=xQ (wB (q8 (q9 2) qA))) (g2:=bi 1) (t2:=zN) (fe:=zD (q8 (q9 0) (q8 (q9 1) qA))) (env:=[Ab (.int (w:Aj)),Ab (.int (h:Aj))]) (S:=S) (o:=none) (o2:=none) (items:=(Cg w).map iD)
  (W0 _ w _ S om rfl) trivial trivial (λ_=>(Cg h).map iD) (λ_ _=>true) (λd e=>D.tup [d,e]) (λenv=>∃ a b,env=[a,b,Ab (.int (h:Aj))]) (λd env=>∃ b,env=[Ab d,b,Ab (.int (h:Aj))]) ⟨none,none,rfl⟩ (λd env ⟨b,e⟩=>⟨_,_,e⟩) (by rw[Q];exact N)
  (λd J env ⟨a,b,e⟩=>by
   subst e;exact⟨[Ab d,b,Ab (.int (h:Aj))],rfl,⟨b,rfl⟩,rfl,W0 _ h _ S om rfl⟩)
  (λd J x O env ⟨b,e⟩=>by
   subst e;have G:2<=bn:=by decide
   exact⟨[Ab d,Ab x,Ab (.int (h:Aj))],rfl,⟨_,rfl⟩,rfl,λ_=>by simp[qL,yP,D_,E_,F_,qH,gq,qU,zQ,xH,qT,bi,tj,nq,x8,yT,jO,I_,z_,dC,q9,d1,d2,q8,qA,qM,qD,ci,yQ,bD,zS,zN,vz,mB,VM,w4,zD,wA,vY,p_,pc,wU,uA,yL,wB,ba.bind,ba.toS,_D.jM,_D.v7,C7,C_,G_,H_,B_,mj,lq,tm,vy,_D.zV,A_,G]⟩)
 rw[Q] at Y;rw[uG];exact iY rfl Y
def vK (l:Aa Pt):Pt:=l.getLastD (0,0)
def grow (bt:Aa Pt)(L:Aa (Aa Pt)):Aa (Aa Pt):=L.flatMap λQ=>(bt.filter λp=>kf (vK Q) p).map λp=>Q++[p]
def mf:Aa Pt->Aa Pt->As
 |[],[]=>false
 |[],_::_=>true
 |_::_,[]=>false
 |p::ps,q::Q=>if p=q then mf ps Q else kf p q
theorem FK (p:Pt):kf p p=false:=_S.zW.irr _
theorem eX {p q r:Pt}(h1:kf p q=true)(h2:kf q r=true):kf p r=true:=_S.zW.tr h1 h2
theorem jG {p q:Pt}(h:kf p q=true):p≠q:=λe=>by subst e;rw[FK] at h;cases h
theorem r8 (n:Ag)(p:Pt):Tr (n+1) (au p):=.tup n _ λx Q=>by
 simp only[Bc,Do,Gy] at Q;rcases Q with rfl|rfl <;> exact .int _ _
theorem C4 (n:Ag)(l:Aa Pt):Tr (n+2) (qE l):=.tup _ _ λx Q=>by
 obtain⟨p,_,rfl⟩:=Ba.mp Q;exact r8 n p
theorem cP (n:Ag)(p:Pt):qo (n+1) (au p)=true:=by cases n <;> rfl
theorem oB (n:Ag)(l:Aa Pt):qo (n+2) (qE l)=true:=Bb.mpr λx Q=>by
 obtain⟨p,_,rfl⟩:=Ba.mp Q;exact cP n p
theorem bF (p q:Pt):e_ (au p) (au q)=decide (p=q):=by
 show (p.1 == q.1&&(p.2 == q.2&&true))=_;rw[Jw];simp[Prod.ext_iff]
theorem m9:∀ a b:Aa Pt,yE (a.map au) (b.map au)=true
 |[],_=>rfl
 |_::_,[]=>rfl
 |p::a,q::b=>by
  show (wX (au p) (au q)&&yE (a.map au) (b.map au))=true;rw[m9 a b];rfl
theorem eV (p q:Pt):ltN (au p) (au q)=kf p q:=by
 have Q:=@uD 0 0 (.int p.1) (.int q.1) [.int p.2] [.int q.2] (.int _ _) (.int _ _) rfl;have Y:=@uD 0 0 (.int p.2) (.int q.2) [] [] (.int _ _) (.int _ _) rfl;unfold au;rw[fG,Q,Y,fF,fF];unfold kf;rw[_H.aw,_H.aw];show (if (p.1 == q.1)=true then if (p.2 == q.2)=true then _ else _ else _)=_
 simp only[Rf];rfl
theorem lI (a b:Aa Pt):ltN (qE a) (qE b)=mf a b:=by
 unfold qE;rw[fG]
 induction a generalizing b with
 |nil=>cases b with
  |nil=>rfl
  |cons q b=>exact(by rfl:_H.lexLt [0] (2::_)=true)
 |cons p a Q=>cases b with
  |nil=>exact(by rfl:_H.lexLt (2::_) [0]=false)
  |cons q b =>
   rw[Df,Df,uD (r8 0 p) (r8 0 q) rfl,Q,bF,eV];simp[mf]
theorem WE {a b:Aa Pt}(h:mf a b=true):mf b a=false:=by
 rw[<- lI] at *;cases q:ltN (qE b) (qE a) with
 |false=>rfl
 |true=>exact absurd (_S.zW.tr h q) (by rw[_S.zW.irr];simp)
set_option tactic.hygienic true in
theorem iM:∀ {a b:Aa Pt} (c d:Aa Pt),mf a b=true->a.length=b.length->mf (a++c) (b++d)=true
 |[],[],_,_,h,_=>by cases h
 |[],_::_,_,_,_,l=>by simp at l
 |_::_,[],_,_,h,_=>by cases h
 |p::a,q::b,c,d,h,l=>by
  simp only[Ld,mf] at *
  split
  .rename_i e
   rw[Bi e] at h;exact iM c d h (by simpa using l)
  .rename_i e
   rw[Bh e] at h;exact h
theorem lH {c d:Aa Pt}(h:mf c d=true):∀ a:Aa Pt,mf (a++c) (a++d)=true
 |[]=>h
 |p::a=>by
  simp only[Ld,mf,Dp];exact lH h a
theorem iN {p q:Pt}(h:kf p q=true):mf [p] [q]=true:=by
 simp only[mf,Bh (jG h)];exact h
def yW (bt:Aa Pt):Ag->Aa (Aa Pt)
 |0=>bt.map λp=>[p]
 |k+1=>grow bt (yW bt k)
theorem gD {α:Type}(l:Aa α) : l=[]\/∃ Q b,l=Q++[b]:=by simpa only [List.concat_eq_append] using List.eq_nil_or_concat l
theorem bM (l:Aa Pt)(p:Pt):vK (l++[p])=p:=by simp[vK]
theorem N6 {l:Aa Pt}{p:Pt}(h:Up l)(Q:kf (vK l) p=true):∀ x∈l,kf x p=true:=by
 intro x hx;rcases gD l with rfl|⟨Y,q,rfl⟩
 .cases hx
 .rw[bM] at Q
  rcases Bq.mp hx with hx|hx
  .exact eX ((Ct.mp h).2.2 x hx q (by simp)) Q
  .have:x=q:=by simpa using hx
   subst this;exact Q
theorem vT (bt:Aa Pt):∀ (k:Ag) (l:Aa Pt),l∈yW bt k↔l.length=k+1/\Up l/\∀ x∈l,x∈bt
 |0,l=>by
  constructor
  .intro h
   obtain⟨p,U,rfl⟩:=Ba.mp h;refine⟨rfl,by simp,λx hx=>?_⟩
   have:x=p:=by simpa using hx
   subst this;exact U
  .rintro⟨Y,_,J⟩
   match l,Y with
   |[p],_=>exact Ba.mpr ⟨p,J p (by simp),rfl⟩
 |k+1,l=>by
  constructor
  .intro h
   obtain⟨Q,E,h⟩:=My.mp h;obtain⟨p,U,rfl⟩:=Ba.mp h;obtain⟨G,N⟩:=Gw.mp U;obtain⟨z,O,M⟩:=(vT bt k Q).mp E;refine⟨by simp[z],?_,λx hx=>?_⟩
   .exact Ct.mpr ⟨O,by simp,λx hx y H=>by
     have:y=p:=by simpa using H
     subst this;exact N6 O N x hx⟩
   .rcases Bq.mp hx with hx|hx
    .exact M x hx
    .have:x=p:=by simpa using hx
     subst this;exact G
  .rintro⟨Y,I,J⟩
   rcases gD l with rfl|⟨Q,p,rfl⟩
   .cases Y
   .have T:Q.length=k+1:=by simpa using Y
    obtain⟨u,_,o⟩:=Ct.mp I;refine My.mpr ⟨Q,(vT bt k Q).mpr ⟨T,u,λx hx=>J x (by simp[hx])⟩,Ba.mpr ⟨p,Gw.mpr ⟨J p (by simp),?_⟩,rfl⟩⟩
    rcases gD Q with rfl|⟨g,q,rfl⟩
    .cases T
    .rw[bM]
     exact o q (by simp) p (by simp)
theorem iK (hs:Up bt):∀ k:Ag,(yW bt k).Pairwise λa b=>mf a b=true
 |0=>by
  show (bt.map λp=>[p]).Pairwise _;rw[Cs];exact hs.imp λh=>iN h
 |k+1=>by
  show (grow bt (yW bt k)).Pairwise _;unfold grow;rw[Wk];refine⟨λQ _=>?_,?_⟩
  .rw[Cs]
   exact(hs.filter _).imp λh=>lH (iN h) Q
  .refine(iK hs k).imp_of_mem λ{a b} Y U h x G y J=>?_
   obtain⟨p,_,rfl⟩:=Ba.mp G;obtain⟨q,_,rfl⟩:=Ba.mp J;refine iM _ _ h ?_;rw[((vT bt k a).mp Y).1,((vT bt k b).mp U).1]
theorem V6 (w h:Ag):Up (qN w h):=by
 unfold Up qN;rw[Wk];refine⟨λx _=>?_,?_⟩
 .rw[Cs]
  exact Pq.imp λ{a b} Q=>by
   show _H.lexLt [(x:Aj),(a:Aj)] [(x:Aj),(b:Aj)]=true;rw[_H.aw,Bi rfl,_H.aw,Bh om];exact Bm om
 .refine Pq.imp λ{a b} Q p J q Y=>?_
  obtain⟨y,_,rfl⟩:=Ba.mp J;obtain⟨z,_,rfl⟩:=Ba.mp Y;show _H.lexLt [(a:Aj),(y:Aj)] [(b:Aj),(z:Aj)]=true;rw[_H.aw,Bh om];exact Bm om
theorem AJ (p q:Pt)(S:ak):l3 (au p) (au q) S=.ok (.bl (kf q p)) S:=rfl
theorem X0 (Q:Aa Pt)(p:Pt)(S:ak)(h:Q.length<=50):zP (qE Q) (.tup [au p]) S=.ok (qE (Q++[p])) S:=by
 have Y:(Q.map au).length+1<=bn:=by
  rw[Ao];unfold bn;fin2
 have e:zP (.tup (Q.map au)) (.tup [au p]) S=.ok (.tup (Q.map au++[au p])) S:=Bi Y;unfold qE;rw[e,Dl];rfl
theorem F9 (Q:Aa Pt)(S:ak)(h:Q≠[]):dy (qE Q) (.int (-1)) S=.ok (au (vK Q)) S:=by
 rcases gD Q with rfl|⟨l,p,rfl⟩
 .exact absurd rfl h
 .rw[bM]
  have e:_L.ky ((l++[p]).map au) (-1)=Ab (au p):=by
   have Y:_L.og ((l++[p]).map au).length (-1)=Ab l.length:=by
    unfold _L.og;simp;fin2
   unfold _L.ky;rw[Y];simp
  show _D.v7 (_L.ky ((l++[p]).map au) (-1)) S=_;rw[e];rfl
theorem mO (bt:Aa Pt)(L:Aa (Aa Pt)):(grow bt L).length<=L.length*bt.length:=by
 refine cW _ bt.length L λQ _=>?_;rw[Ao];exact Ec _ _
theorem I9 (env:qB)(S:ak):d1 kI (dC (.int 1)) env S=.ok (.int (-1)) S:=rfl
theorem T3 (bt:Aa Pt)(L:Aa (Aa Pt))(S:ak)(H:∀ Q∈L,Q≠[]/\Q.length<=50)(M:L.length*bt.length<=bn):gz [.lst (L.map qE),.lst (bt.map au)] S=.ok (.lst ((grow bt L).map qE)) S:=by
 have U:(L.flatMap λQ=>(bt.filter λp=>kf (vK Q) p).map λp=>qE (Q++[p]))=(grow bt L).map qE:=by
  unfold grow;rw[AaD]
  congr 1
  funext Q
  rw[Dj];rfl
 have z:((grow bt L).map qE).length<=bn:=by
  rw[Ao];exact Ch (mO bt L) M
 have J:ge (q9 0) [Ab (.lst (L.map qE)),Ab (.lst (bt.map au))] S=.ok (none,L.map qE) S:=rfl;have T:1<=bn:=by decide
 have G:=B3 (cq:=qE) (rf:=au) (bu:=[none,none,Ab 1]) (g:=bi 0) (t:=zN) (rd:=ge (q9 2)) (g2:=bi 1) (t2:=zS (ci (d2 l3 (q9 1) (d2 dy (q9 0) (d1 kI (dC (.int 1)))))) zN) (fe:=d2 zP (q9 0) (zD (q8 (q9 1) qA))) (o2:=none) J trivial trivial (λ_=>bt) (λQ p=>kf (vK Q) p) (λQ p=>qE (Q++[p]))
  (λenv=>∃ a b,env=[a,b,Ab (.lst (bt.map au))]) (λQ env=>∃ b,env=[Ab (qE Q),b,Ab (.lst (bt.map au))]) ⟨none,none,rfl⟩ (λQ env ⟨b,e⟩=>⟨_,_,e⟩) (by rw[U];exact z)
  (λQ Y env ⟨a,b,e⟩=>by
   subst e;exact⟨[Ab (qE Q),b,Ab (.lst (bt.map au))],rfl,⟨_,rfl⟩,rfl,rfl⟩)
  (λQ Y p y env ⟨b,e⟩=>by
   subst e;obtain⟨E,I⟩:=H Q Y;have O:=F9 Q S E;have N:=X0 Q p S I;refine⟨[Ab (qE Q),Ab (au p),Ab (.lst (bt.map au))],rfl,⟨_,rfl⟩,?_,λ_=>?_⟩
   .simp only[zS,ci,d2,q9,List.getElem?_cons_zero,Os,ba.bind,I9,O,AJ,C7,_D.jM,zN]
    cases kf (vK Q) p <;> rfl
   .simp[qL,yP,D_,E_,F_,qH,gq,qU,zQ,xH,qT,bi,tj,nq,x8,yT,jO,I_,z_,dC,q9,d1,d2,q8,qA,qM,qD,ci,yQ,bD,zS,zN,vz,mB,VM,w4,zD,wA,vY,p_,pc,wU,uA,yL,wB,ba.bind,ba.toS,_D.jM,_D.v7,C7,C_,G_,H_,B_,mj,lq,tm,vy,_D.zV,A_,T,N])
 rw[U] at G;rw[mY];exact iY rfl G
theorem TY (ps:Aa Pt):pG (ps.map au)=(wJ ps).map au:=by
 refine o8 (n:=1) (λx Q=>?_) ((xR ps).map au) ?_
 .obtain⟨p,_,rfl⟩:=Ba.mp Q
  exact r8 0 p
 .have h:=_S.vD _S.zW (ps.map kP)
  unfold _S.Nf at h;rw[<- cK,Cs] at h;rw[Cs];exact h.imp λ{a b} h=>by rw[eV];exact h
theorem n6 {Q:D->ak->Prop}{S:ak}(l:ps.length<=100000)(h:Q (.lst ((wJ ps).map au)) S):Ok (w5 [.lst (ps.map au)] S) Q:=by
 refine⟨_,_,?_,by rw[<- TY] at h;exact h⟩
 refine Bi ?_;rw[Az,Cf];refine⟨by rw[Ao];lia,Bb.mpr λx J=>?_⟩
 obtain⟨p,_,rfl⟩:=Ba.mp J;rw[Az,Az];refine⟨⟨rfl,cP 5 p⟩,Bb.mpr λy Y=>?_⟩;obtain⟨q,_,rfl⟩:=Ba.mp Y;rfl
theorem HM (ps:Aa Pt):n_ (ps.map au)=true:=by
 unfold n_;rw[Ff];refine Bb.mpr λp _=>?_;show (neT (au p)&&qo 6 (au p)&&(ps.map au).all λb=>wX (au p) b)=true;rw[cP 5 p,Ka,Az,Ff];exact⟨rfl,Bb.mpr λ_ _=>rfl⟩
theorem oA (ps:Aa Pt)(Y:ps.length<=1000):yC (ps.map au)=Ab ((wY ps).map au):=by
 have ok:=HM ps;have e:_S.jl _H.lexLt ((ps.map au).map qZ)=((wY ps).map au).map qZ:=by
  refine _S.gG _S.zW (_S.jR _S.zW _) ?_ λx=>?_
  .rw[Cs,Cs]
   refine(lU ps).imp λ{a b} h=>?_;have:=eV a b;rw[h] at this;exact this
  .rw[_S.yH _S.zW,Dj,Dj,Ba,Ba]
   exact exists_congr λp=>and_congr (vV ps p).symm Iff.rfl
 have Q:(wY ps).length<=1000:=Ch (mS ps) Y;unfold yC;rw[e,ok,Ka,Ao,Ao,Bm Q,Bi rfl,Dj]
 congr 1
 conv=>rhs;rw[<- Lb ((wY ps).map au)]
 refine Dy λx J=>uV ok ?_;obtain⟨p,U,rfl⟩:=Ba.mp J;exact Ba.mpr ⟨p,(vV ps p).mp U,rfl⟩
theorem qA2 {Q:D->ak->Prop}{f:DE}{S:ak}(h:Ok (f env S) λd S1=>∃ ps:Aa Pt,bU d S1=Ab (ps.map au)/\ps.length<=1000/\Q (.lst ((wY ps).map au)) S1):Ok (wL false f env S) Q:=qS (zI h λd S1 ⟨ps,e,l,q⟩=>⟨_,_,by rw[e,Ub,oA ps l];rfl,q⟩)
theorem IL {Q:D->ak->Prop}{f:DE}{S:ak}(h:Ok (f env S) λd S1=>∃ ps:Aa Pt,bU d S1=Ab (ps.map au)/\ps.length<=1000/\Q (.loc S1.length) (S1++[.lst ((wY ps).map au)])):Ok (wL true f env S) Q:=qS (zI h λd S1 ⟨ps,e,l,q⟩=>⟨_,_,by rw[e,Ub,oA ps l];rfl,q⟩)
theorem HU (Y:Aa Aj)(S:ak)(G:(kg Y).length<=1600):w5 [.lst ((ph Y).map gp)] S=.ok (.lst ((tbl Y).map gp)) S:=by
 have U:((kg Y).map λf=>((f,(Y.count f:Aj)):Pt)).map kP=ph Y:=by rw[Dj];rfl
 have h:=wN (n6 (Q:=λd J=>d=_/\J=S) (S:=S) (ps:=(kg Y).map λf=>((f,(Y.count f:Aj)):Pt)) (by rw[Ao];lia) ⟨rfl,rfl⟩)
 rw[gA,gA,cK,U] at h;exact h
theorem GV {Q:D->ak->Prop}{p q:Pt}{S:ak}(hp:d_ 1000 p)(Y:d_ 1000 q)(h:Q (.int (bj p q)) S):Ok (cx [au p,au q] S) Q:=by
 unfold d_ at hp Y;rw[j7];refine zC (env:=[Ab (au p),Ab (au q),none,none]) rfl ?_;rfl';exact h
theorem iP {Q:D->ak->Prop}{l:Aa Pt}{S:ak}(e:∀ p∈l,d_ 1000 p)(hl:l.length<=41)(q:∀ kvs T,GI kG uo S.length (xV l) kvs T->(∀ m,m<S.length->T[m]? = S[m]?)->Q (.loc S.length) T):Ok (be [qE l] S) Q:=by
 rw[uI];refine zC (env:=[Ab (.tup (l.map au)),none,none,none,none]) rfl ?_;rfl';refine oC (λn env T=>∃ i u v I done kvs,env=[Ab (.tup (l.map au)),Ab (.loc S.length),u,v,I]/\n=eL i ((l.drop i).map au)/\GI kG uo S.length done kvs T/\done++xV (l.drop i)=xV l/\∀ m,m<S.length->T[m]? = S[m]?) ?_ ?_ ⟨0,_,_,_,[],[],rfl,U3 _,⟨uT _ _,λ_ h=>(by cases h),Mp,rfl⟩,rfl,λm M=>AT M⟩
 .rintro d n _ T ⟨i,u,v,I,done,kvs,rfl,O,G,Y,J⟩
  cases N:l.drop i with
  |nil=>rw[N] at O;cases O
  |cons p o =>
   rw[N] at O Y;injection O with b x
   subst b x;have U:l.drop (i+1)=o:=by
    have:=congrArg List.tail N;simpa [List.tail_drop] using this
   have E:∀ z∈p::o,z∈l:=λz f=>Xc (N▸f);rfl';rw[VH,<- Ye,U];refine wK (λr env T=>∃ I done kvs,env=[Ab (.tup (l.map au)),Ab (.loc S.length),Ab (.int (i:Aj)),Ab (au p),I]/\(∀ z∈r,z∈l)/\GI kG uo S.length done kvs T/\done++(r.map (λz=>(p,z))++xV o)=xV l/\∀ m,m<S.length->T[m]? = S[m]?) ?_ ?_ ⟨_,done,kvs,rfl,λz f=>E z (Ce _ f),G,Y,J⟩
   .rintro z r _ T ⟨I,done,kvs,rfl,k,G,Y,J⟩
    have g:done.length<bn:=by
     have:=congrArg Mc Y;have h3:=AX hl;simp only[By] at this;unfold bn
     lia
    obtain⟨j,S1,S2,H,f1,a,f3,s,t⟩:=BY G (p,z) g;rfl';refine⟨YO G.dict,?_⟩;rfl';refine GV (e p (E p (De ..))) (e z (k z (De ..))) ?_;rfl';refine qQ f1 ⟨a,?_⟩;rfl';refine qQ f3 ?_;exact wR ⟨_,done++[(p,z)],H,rfl,λy hy=>k y (Ce _ hy),s,by rw[<- Y];simp,λm M=>(t m M).trans (J m M)⟩
   .rintro _ T ⟨I,done,kvs,rfl,k,G,Y,J⟩
    exact wR ⟨i+1,_,_,_,done,kvs,rfl,by rw[U],G,by rw[U];simpa using Y,J⟩
 .rintro _ T ⟨i,u,v,I,done,kvs,rfl,O,G,Y,J⟩
  rfl';refine q kvs T ?_ J;cases N:l.drop i with
  |cons _ _=>rw[N] at O;cases O
  |nil =>
   rw[N] at Y;have:done=xV l:=by simpa [xV] using Y
   rw[<- this];exact G
abbrev rD (p:Pt):Prop:=d_ 1000 p
theorem V5 {h:Ag}(hw:w<=12)(Q:h<=12){p:Pt}(m:p∈qN w h):rD p:=by
 have:=d9 m;unfold rD d_
 lia
theorem T4 (l:Aa Pt)(S:ak)(U:∀ p∈l,rD p)(O:l.length<=41):∃ (kvs:Aa (_L.bo × D)) (Y:ak),be [qE l] S=.ok (.loc S.length) Y/\GI kG uo S.length (xV l) kvs Y/\∀ m,m<S.length->Y[m]? = S[m]?:=by
 obtain⟨_,T,N,rfl,kvs,G,J⟩:=iP (S:=S) (Q:=λd Y=>d=.loc S.length/\∃ kvs,GI kG uo S.length (xV l) kvs Y/\∀ m,m<S.length->Y[m]? = S[m]?) U O λkvs Y G J=>⟨rfl,kvs,G,J⟩;exact⟨kvs,T,N,G,J⟩
theorem cM (Q:Aa Aj):((tbl Q).map λk=>k.headD 0).Perm (kg Q):=by
 have p:=(_S.zY (lt':=_H.lexLt) (ph Q)).map λk=>k.headD 0;unfold tbl;refine p.trans ?_;unfold ph;rw[Dj];have e:((λk:Aa Aj=>k.headD 0)∘λf=>[f,(Q.count f:Aj)])=id:=rfl;rw[e,Lb]
theorem lL {Q:D->ak->Prop}(c:Cl){l:Aa Pt}{M:Ag}(r:M<=40)(h:nh M l){S:ak}(q:∀ Y,S<+:Y->Q (.lst ((tbl (bg l)).map gp)) Y):Ok (cp c [qE l] S) Q:=by
 have T:=h.len;have y:(xV l).length<=1600:=Ch (fW l) (Gd (show l.length<=40 by lia) (show l.length<=40 by lia))
 obtain⟨_,U,I,rfl,kvs,G,N⟩:=iP (S:=S) (Q:=λd Y=>d=.loc S.length/\∃ kvs,GI kG uo S.length (xV l) kvs Y/\∀ m,m<S.length->Y[m]? = S[m]?) h.box li λkvs Y G N=>⟨rfl,kvs,G,N⟩;have z:xQ (tB (qD 1 be (q8 (q9 0) qA))) [Ab (qE l)] S=.ok (none,kvs.map λp=>D.tup [kD p.1,p.2]) (U.set S.length .dead):=by
  unfold xQ tB;rw[(oZ (f1:=q9 0) (env:=[Ab (qE l)]) (S:=S) rfl).trans I];simp only[ba.bind,G.dict];rfl
 have J:kvs.map (·.1)=(kg (bg l)).map Jx:=G.keys
 have H:(kg (bg l)).length<=1600:=by
  have:=mG (ks:=bg l) (l:=[]);have t:(bg l).length=(xV l).length:=Ao _;unfold kg;simp only[Eh] at this
  lia
 have g:kvs.length<=1600:=by
  have:=congrArg Mc J;rw[Ao,Ao] at this
  lia
 have u:(kvs.map λp=>yc (bg l) p.1)=(ph (bg l)).map gp:=by
  rw[show (kvs.map λp=>yc (bg l) p.1)=(kvs.map (·.1)).map (yc (bg l)) by rw[Dj];rfl,J]
  unfold ph;rw[Dj,Dj];rfl
 have hs:w5 [.lst ((ph (bg l)).map gp)] (U.set S.length .dead)=.ok (.lst ((tbl (bg l)).map gp)) (U.set S.length .dead):=HU _ _ li;rw[kR];refine zC (env:=[Ab (qE l)]) rfl ?_;rfl';refine qQ (u7 c S (nE l) (gU li h)) ?_;rfl';refine yN kvs (λp=>yc (bg l) p.1) (λenv Y=>Y=U.set S.length .dead/\∃ a b,env=[a,b]) z ⟨rfl,none,none,rfl⟩ (by unfold bn;lia) (λ_ _ _=>trivial) (λp v env Y ⟨O,a,b,o⟩=>?_) λenv Y ⟨O,_⟩=>?_
 .subst O o
  obtain⟨f,j,rfl,n,E⟩:=G.lists p v;rfl';refine c5 (xs:=((xV l).filter λx=>kG x == f).map uo) (by rw[Br li];exact E) ?_
  rw[Ao,UA];rfl';exact⟨_,_,rfl⟩
 .subst O
  rw[u];rfl';exact qQ hs (q _ (cA λm k=>by rw[Br li];exact N m k))
theorem WO {Q:D->ak->Prop}(c:Cl){l:Aa Pt}{M:Ag}(y:M<=40)(h:nh M l){S:ak}(q:∀ ds Y,S<+:Y->ds.length=(kg (bg l)).length->Q (.lst ds) Y):Ok (lc c [qE l] S) Q:=by
 obtain⟨_,O,z,rfl,I⟩:=lL (S:=S) (Q:=λd Y=>d=.lst ((tbl (bg l)).map gp)/\S<+:Y) c y h λY p=>⟨rfl,p⟩;have J:(tbl (bg l)).length=(kg (bg l)).length:=by
  have:=(cM (bg l)).length_eq
  rwa [Ao] at this
 have U:∀ k∈tbl (bg l),∃ a b,k=[a,b]:=λk G=>by
  obtain⟨f,_,rfl⟩:=Ba.mp ((_S.zY _).mem_iff.mp G);exact⟨_,_,rfl⟩
 have o:(tbl (bg l)).length<=1600:=by
  have T:=mG (ks:=bg l) (l:=[]);have u:(bg l).length=(xV l).length:=Ao _;have g:=fW l;have v:=Gd (show l.length<=40 by have:=h.len;lia) (show l.length<=40 by have:=h.len;lia)
  rw[J];unfold kg;simp only[Eh] at T
  lia
 have E:ge (qD 1 (cp c) (q8 (q9 0) qA)) [Ab (qE l)] S=.ok (none,(tbl (bg l)).map gp) O:=by
  unfold ge;rw[(oZ (f1:=q9 0) (env:=[Ab (qE l)]) (S:=S) rfl).trans z];rfl
 rw[lX];refine zC (env:=[Ab (qE l)]) rfl ?_;rfl';refine yN (tbl (bg l)) (λk=>.int (k.headD 0)) (λenv Y=>Y=O/\∃ a b,env=[a,b]) E ⟨rfl,none,none,rfl⟩ (by unfold bn;lia) (λ_ _ _=>trivial) (λk G env Y ⟨N,a,b,H⟩=>?_) λenv Y ⟨N,_⟩=>?_
 .subst N H
  obtain⟨f,m,rfl⟩:=U k G;refine qA3 (xs:=[.int f,.int m]) ?_;rfl';exact⟨_,_,rfl⟩
 .subst N
  exact q _ _ I (by rw[Ao,J])
theorem R9 {Q:D->ak->Prop}(c:Cl){l:Aa Pt}{M:Ag}(G:M<=40)(h:nh M l){S:ak}(q:∀ Y,S<+:Y->Q (.int ((kg (bg l)).length:Ag)) Y):Ok (cj c [qE l] S) Q:=by
 rw[kW];refine zC (env:=[Ab (qE l)]) rfl ?_;rfl';refine WO c G h λN O U J=>?_;rfl';rw[J];exact q _ U
def wI (l:Aa Pt):Ag:=(kg (bg l)).length
def xU (l:Aa Pt):As:=decide (wI l<=2)
theorem tV {α:Type}[No α] : ∀ {L G:Aa α},L.Nodup->(∀ s∈L,s∈G)->L.length<=G.length
 |[],_,_,_=>Gh _
 |x::L,G,Y,h=>by
  have Q:=Jv.mp Y;have p:=List.perm_cons_erase (h x (.head _));have:=tV (L:=L) (G:=G.erase x) Q.2 λs hs=>(Bc.mp (p.mem_iff.mp (h s (.tail _ hs)))).resolve_left λe=>Q.1 (e▸hs);rw[p.length_eq,Bv,Bv];exact wT this
theorem U8 {l m:Aa Pt}(s:l.Sublist m):∀ x∈bg l,x∈bg m:=by
 induction s with
 |slnil=>exact λx Q=>Q
 |cons a s Y =>
  intro x Q;rw[xD];exact Ca _ (Y x Q)
 |cons_cons a s Y =>
  intro x Q;rw[xD] at Q ⊢;rcases Bq.mp Q with h|h
  .obtain⟨q,J,rfl⟩:=Ba.mp h
   exact Dm _ (Ba.mpr ⟨q,s.subset J,rfl⟩)
  .exact Ca _ (Y x h)
theorem R6 {l m:Aa Pt}(s:l.Sublist m):wI l<=wI m:=tV (bL _) λx Q=>xX.mpr (U8 s x (xX.mp Q))
theorem TJ {l:Aa Pt}{p:Pt}(h:xU (l++[p])=true):xU l=true:=Bm (Ch (R6 (List.sublist_append_left l [p])) (Cq h))
def zB (bt:Aa Pt):Ag->Aa (Aa Pt)
 |0=>bt.map λp=>[p]
 |k+1=>(grow bt (zB bt k)).filter xU
theorem UG (bt:Aa Pt)(L:Aa (Aa Pt)):(grow bt (L.filter xU)).filter xU=(grow bt L).filter xU:=by
 induction L with
 |nil=>rfl
 |cons l L Y =>
  have e:∀ (l:Aa Pt) (L:Aa (Aa Pt)),grow bt (l::L)=((bt.filter λp=>kf (vK l) p).map λp=>l++[p])++grow bt L:=λl L=>Fb;rw[e,Ip,<- Y];cases hs:xU l with
  |true=>rw[Lh hs,e,Ip]
  |false =>
   rw[Jb (by rw[hs];exact Es)]
   have:(((bt.filter λp=>kf (vK l) p).map λp=>l++[p]).filter xU)=[]:=by
    rw[Hu];intro a Q h;obtain⟨p,_,rfl⟩:=Ba.mp Q;rw[TJ h] at hs;cases hs
   rw[this,Gz]
theorem jF (bt:Aa Pt):∀ k,zB bt k=(yW bt k).filter xU
 |0=>by
  show (bt.map λp=>[p])=(bt.map λp=>[p]).filter xU;rw[Nm.mpr];intro l Q;obtain⟨p,_,rfl⟩:=Ba.mp Q;rfl
 |k+1=>by
  show (grow bt (zB bt k)).filter xU=(grow bt (yW bt k)).filter xU;rw[jF bt k,UG]
theorem t5 {k:Ag}{l:Aa Pt}(h:l∈zB bt k):l∈yW bt k:=by
 rw[jF] at h;exact(Gw.mp h).1
theorem B7 {S:ak}{n:Ag}(h:S[n]? = Ab (.dct kvs)):uO (.loc n) S=Ab kvs:=by
 show (match S[n]? with|some (.dct kvs)=>Ab kvs|_=>none)=_
 rw[h]
theorem FI {S:ak}{n:Ag}(h:S[n]? = Ab (.dct kvs)):u4 [.loc n] S=.ok (.int kvs.length) S:=by
 show (match uO (.loc n) S with|some kvs=>ba.ok (D.int kvs.length) S|none=>.bad)=_
 rw[B7 h]
theorem HK {l:Aa Pt}{S:ak}(h0:env[0]? = Ab (Ab (qE l)))(U:∀ p∈l,rD p)(T:l.length<=41):∃ G,zS (ci (d2 lq (qM u4 (q8 (qD 1 (l_ be) (q8 (q9 0) qA)) qA)) (dC (.int 2)))) zN env S=.ok (xU l) G/\S<+:G:=by
 obtain⟨kvs,J,O,N,Y⟩:=T4 l S U T;have Q:=(t7 (F:=u4) ((oZ (f1:=q9 0) (vR h0)).trans (WU O))).trans (FI N.dict);have I:kvs.length=wI l:=by
  have:=congrArg Mc N.keys;rw[Ao,Ao] at this;exact this
 rw[I] at Q;have E:ci (d2 lq (qM u4 (q8 (qD 1 (l_ be) (q8 (q9 0) qA)) qA)) (dC (.int 2))) env S=.ok (xU l) J:=PN ((t9 (o:=lq) (b:=.int 2) Q rfl).trans (show lq (.int (wI l)) (.int 2) J=.ok (.bl (xU l)) J from by
  show ba.ok (D.bl (decide ((wI l:Aj)<=2))) J=_;rw[Lc.mpr (show ((wI l:Aj)<=2)↔wI l<=2 by lia)]
  rfl))
 refine⟨J,?_,cA Y⟩;unfold zS;rw[E];cases xU l <;> rfl
theorem eT (hp:bt.length<=25):∀ k:Ag,(yW bt k).length<=25 ^ (k+1)
 |0=>by simpa [yW] using hp
 |k+1=>by
  show (grow bt (yW bt k)).length<=_;refine Ch (mO _ _) ?_;rw[Nat.pow_succ 25 (k+1)];exact Gd (eT hp k) hp
theorem oQ (hp:bt.length<=25){k:Ag}(Q:k<=3):(zB bt k).length*bt.length<=bn:=by
 refine Ch (Gd (Ch (by rw[jF];exact Ec _ _) (eT hp k)) hp) ?_
 have:25 ^ (k+1)<=25 ^ 4:=Xh li li;unfold bn
 lia
structure B5 (w h:Ag):Prop where
 hw:1<=w/\w<=5
 hh:1<=h/\h<=5
theorem B5.len {h:Ag}(o:B5 w h):(qN w h).length<=25:=by
 rw[b8];exact Gd o.hw.2 o.hh.2
theorem oP {h k:Ag}(o:B5 w h){l:Aa Pt}(m:l∈yW (qN w h) k):l.length=k+1/\Up l/\(∀ p∈l,rD p)/\∀ p∈l,p∈qN w h:=by
 obtain⟨a,u,b⟩:=(vT _ _ l).mp m;exact⟨a,u,λp Q=>V5 (by have:=o.hw;lia) (by have:=o.hh;lia) (b p Q),b⟩
theorem HE {h:Ag}(o:B5 w h)(G:j<=3)(S:ak)(env:qB)(h3:env[3]? = Ab (Ab (.lst ((qN w h).map au))))(z:env[4]? = Ab (Ab (.lst ((zB (qN w h) j).map qE)))) :
  ∃ Q,qW false [none] (ge (qD 2 gz (q8 (q9 4) (q8 (q9 3) qA)))) (bi 0) (zS (ci (d2 lq (qM u4 (q8 (qD 1 (l_ be) (q8 (q9 0) qA)) qA)) (dC (.int 2)))) zN) (z0 (q9 0)) env S=.ok (.lst ((zB (qN w h) (j+1)).map qE)) Q/\S<+:Q:=by
 have E:=T3 (qN w h) (zB (qN w h) j) S (λU Y=>by
  have:=((vT _ j U).mp (t5 Y)).1;exact⟨λe=>(by subst e;cases this),by lia⟩) (oQ o.len G)
 have J:ge (qD 2 gz (q8 (q9 4) (q8 (q9 3) qA))) env S=.ok (none,(grow (qN w h) (zB (qN w h) j)).map qE) S:=by
  unfold ge;rw[(CN (vR z) (vR h3)).trans E];rfl
 have mem:∀ l∈grow (qN w h) (zB (qN w h) j),l∈yW (qN w h) (j+1):=λl Y=>by
  obtain⟨H,O,h⟩:=My.mp Y;exact My.mpr ⟨H,t5 O,h⟩
 obtain⟨Q,e,q⟩:=X4 (cq:=qE) (bu:=[none]) (g:=bi 0) (t:=zS (ci (d2 lq (qM u4 (q8 (qD 1 (l_ be) (q8 (q9 0) qA)) qA)) (dC (.int 2)))) zN) (fe:=q9 0) J trivial xU qE (λenv=>∃ a,env=[a]) ⟨none,rfl⟩ (Ch (mO _ _) (oQ o.len G))
  (λl Y env Q ⟨a,e⟩ _=>by
   subst e;obtain⟨y,_,T,_⟩:=oP o (mem l Y);obtain⟨N,M,I⟩:=HK (l:=l) (env:=[Ab (qE l)]) (S:=Q) rfl T li;exact⟨[Ab (qE l)],N,rfl,⟨_,rfl⟩,M,I,λ_=>⟨N,rfl,Bd _⟩⟩)
 exact⟨Q,e,q⟩
theorem sY {Q:D->ak->Prop}(c:Cl){w h k:Ag}{S:ak}(o:B5 w h)(t:1<=k/\k<=4){W H N:Aj}(u:W=w)(y:H=h)(M:N=(k:Aj)+1)(q:∀ Y,S<+:Y->Q (.lst ((zB (qN w h) k).map qE)) Y):Ok (bz c [.int W,.int H,.int N] S) Q:=by
 subst u y M;have v:=o.hw;have f:=o.hh;have r:=o.len;rw[pW];refine zC (env:=[Ab (.int w),Ab (.int h),Ab (.int ((k:Aj)+1)),none,none,none]) rfl ?_;rfl';refine qQ (gC c S ⟨by lia,by lia⟩) ?_
 rfl';refine qQ (gC c S ⟨by lia,by lia⟩) ?_
 rfl';refine qQ (gC c S ⟨by lia,by lia⟩) ?_
 rfl';refine qQ (MZ w h S li li) ?_;rfl';refine yN (qN w h) (λp=>qE [p]) (λenv Y=>Y=S/\∃ a,env=[a]) (SH rfl) ⟨rfl,none,rfl⟩ (by unfold bn;lia) (λ_ _ _=>trivial) (λp g env Y ⟨T,a,l⟩=>?_) λenv Y ⟨T,_⟩=>?_
 .subst T l
  rfl';exact⟨_,rfl⟩
 subst T;have z:((qN w h).map λp=>qE [p])=(zB (qN w h) 0).map qE:=by simp[zB]
 rw[z];rfl';refine⟨by lia,by lia,?_⟩
 rw[show ((k:Aj)+1-1).toNat=k by lia]
 refine wK (cq:=λ(i:Ag)=>D.int (i:Aj)) (λE env J=>Y<+:J/\∃ j O,j+E.length=k/\env=[Ab (.int (w:Aj)),Ab (.int (h:Aj)),Ab (.int ((k:Aj)+1)),Ab (.lst ((qN w h).map au)),Ab (.lst ((zB (qN w h) j).map qE)),O]) ?_ ?_ ⟨Bd _,0,none,by simp,rfl⟩
 .rintro x E _ J ⟨G,j,O,U,rfl⟩
  rw[Bv] at U;rfl';obtain⟨d,e,I⟩:=HE o (j:=j) li J [Ab (.int (w:Aj)),Ab (.int (h:Aj)),Ab (.int ((k:Aj)+1)),Ab (.lst ((qN w h).map au)),Ab (.lst ((zB (qN w h) j).map qE)),Ab (.int (x:Aj))] rfl rfl;refine qQ e ?_;rfl';exact wR ⟨G.trans I,j+1,_,by lia,rfl⟩
 .rintro _ J ⟨G,j,O,U,rfl⟩
  have:j=k:=by simpa using U
  subst this;rfl';exact q J G
theorem FY (Q:∀ l∈L,l≠[]):n_ (L.map qE)=true:=by
 unfold n_;rw[Ff];refine Bb.mpr λl Y=>?_;show (neT (qE l)&&qo 6 (qE l)&&(L.map qE).all λb=>wX (qE l) b)=true;rw[oB 4 l,Ka,Az,Ff];refine⟨?_,Bb.mpr λm _=>m9 l m⟩;cases l with
 |nil=>exact absurd rfl (Q _ Y)
 |cons _ _=>rfl
theorem KE (Y:L.Pairwise λa b=>mf a b=true)(U:L.length<=1000)(Q:∀ l∈L,l≠[]):yC (L.map qE)=Ab (L.map qE):=by
 have ok:=FY Q;have e:_S.jl _H.lexLt ((L.map qE).map qZ)=(L.map qE).map qZ:=by
  refine _S.gG _S.zW (_S.jR _S.zW _) ?_ λx=>_S.yH _S.zW x _;rw[Cs,Cs];refine Y.imp λ{a b} h=>?_;have:=lI a b;rw[h] at this;exact this
 unfold yC;rw[e,ok,Ka,Ao,Ao,Bm U,Bi rfl,Dj]
 congr 1
 conv=>rhs;rw[<- Lb (L.map qE)]
 exact Dy λx J=>uV ok J
theorem qAV (w h k:Ag):(zB (qN w h) k).Pairwise λa b=>mf a b=true:=by
 rw[jF];exact(iK (V6 w h) k).filter _
noncomputable def vt (t:Aa (Aa Aj)):As:=match t with
 |(s::_)::_=>decide (t=[[s,4],[2*s,2]])
 |_=>false
theorem aU:∀ (a b:Aa Aj),zE (a.map D.int) (b.map D.int)=decide (a=b)
 |[],[]=>rfl
 |[],_::_=>by simp[zE]
 |_::_,[]=>by simp[zE]
 |x::a,y::b=>by
  show (x == y&&zE (a.map D.int) (b.map D.int))=_;rw[aU a b];by_cases h:x=y <;> by_cases k:a=b <;> simp[h,k]
theorem eD:∀ (a b:Aa (Aa Aj)),zE (a.map gp) (b.map gp)=decide (a=b)
 |[],[]=>rfl
 |[],_::_=>by simp[zE]
 |_::_,[]=>by simp[zE]
 |x::a,y::b=>by
  show (zE (x.map D.int) (y.map D.int)&&zE (a.map gp) (b.map gp))=_;rw[eD a b,aU];by_cases h:x=y <;> by_cases k:a=b <;> simp[h,k]
theorem nD (ks:Aa (Aa Aj)):pl zH (.lst (ks.map gp))=true:=by
 show ((ks.map gp).all (pl 29))=true;rw[Ff];refine Bb.mpr λk _=>?_;show ((k.map D.int).all (pl 28))=true;rw[Ff];exact Bb.mpr λi _=>rfl
theorem DN (a b:Aa (Aa Aj))(S:ak):jy (.lst (a.map gp)) (.lst (b.map gp)) S=.ok (.bl (decide (a=b))) S:=by
 unfold jy;rw[nD,nD];show ba.ok (D.bl (zE (a.map gp) (b.map gp))) S=_;rw[eD]
theorem jI {Q:D->ak->Prop}(c:Cl){l:Aa Pt}{M:Ag}(H:M<=5)(h:nh M l){S:ak}(q:∀ O,S<+:O->Q (.bl (decide (l.length=4)&&vt (tbl (bg l)))) O):Ok (bw c [qE l] S) Q:=by
 rw[kT];refine zC (env:=[Ab (.tup (l.map au)),none,none]) rfl ?_;rfl';refine lL c li h λG T=>?_;rfl';rw[Ao];refine yY (λz=>?_) λz=>?_
 .have E:l.length=4:=by fin2
  have U:∃ s r t,tbl (bg l)=(s::r)::t:=by
   cases Y:tbl (bg l) with
   |nil =>
    match l,E with
    |[a,b,x,y],_ =>
     have N:[bj a b,((bg [a,b,x,y]).count (bj a b):Aj)]∈tbl (bg [a,b,x,y]):=(_S.zY _).mem_iff.mpr (Ba.mpr ⟨bj a b,xX.mpr (show bj a b∈bg [a,b,x,y] from De ..),rfl⟩)
     rw[Y] at N;cases N
   |cons k t =>
    have I:k∈tbl (bg l):=by rw[Y];simp
    obtain⟨f,_,rfl⟩:=Ba.mp ((_S.zY _).mem_iff.mp I);exact⟨_,_,_,rfl⟩
  have J:=q G T;obtain⟨s,r,t,Y⟩:=U;rw[Y,Bm E,Xx] at J;rw[Y];rfl';refine QZ (d:=gp (s::r)) (rF (a:=0) (by simp)) ?_
  rfl';refine GX (a:=(s::r).map D.int) (d:=.int s) (rF (a:=0) (by simp)) ?_
  rfl';exact qQ (DN ((s::r)::t) [[s,4],[2*s,2]] G) J
 .have J:=q G T
  rw[Co om,Km] at J;rfl';exact J
theorem _G (J U Q Y:Aj):(J-(J-(Y-U)))*(J-(J-(Y-U)))+(U-(U+(Q-J)))*(U-(U+(Q-J)))=(J-Q)*(J-Q)+(U-Y)*(U-Y)/\(J-(Q-(Y-U)))*(J-(Q-(Y-U)))+(U-(Y+(Q-J)))*(U-(Y+(Q-J)))=2*((J-Q)*(J-Q)+(U-Y)*(U-Y))/\(Q-(J-(Y-U)))*(Q-(J-(Y-U)))+(Y-(U+(Q-J)))*(Y-(U+(Q-J)))=2*((J-Q)*(J-Q)+(U-Y)*(U-Y))/\(Q-(Q-(Y-U)))*(Q-(Q-(Y-U)))+(Y-(Y+(Q-J)))*(Y-(Y+(Q-J)))=(J-Q)*(J-Q)+(U-Y)*(U-Y)/\((J-(Y-U))-(Q-(Y-U)))*((J-(Y-U))-(Q-(Y-U)))+((U+(Q-J))-(Y+(Q-J)))*((U+(Q-J))-(Y+(Q-J)))=(J-Q)*(J-Q)+(U-Y)*(U-Y):=by
 refine⟨?_,?_,?_,?_,?_⟩ <;> grind
def io (p q:Pt):Aa Pt:=[p,q,(p.1-(q.2-p.2),p.2+(q.1-p.1)),(q.1-(q.2-p.2),q.2+(q.1-p.1))]
theorem rV (p q:Pt):bg (io p q)=[bj p q,bj p q,2*bj p q,2*bj p q,bj p q,bj p q]:=by
 obtain⟨a,b⟩:=p;obtain⟨c,d⟩:=q;obtain⟨Y,U,J,G,Q⟩:=_G a b c d;show [bj _ _,bj _ _,bj _ _,bj _ _,bj _ _,bj _ _]=_;unfold bj;dsimp only;rw[Y,U,J,G,Q]
theorem cN (s:Aj)(hs:0<s):tbl [s,s,2*s,2*s,s,s]=[[s,4],[2*s,2]]:=by
 have Y:s≠2*s:=by fin2
 have Q:kg [s,s,2*s,2*s,s,s]=[s,2*s]:=by
  show Bk (Bk (Bk (Bk (Bk (Bk [] s) s) (2*s)) (2*s)) s) s=_;rw[mT (l:=[]) (by simp),gF (l:=[]++[s]) (by simp),mT (l:=[]++[s]) (by simp;fin2),gF (l:=[]++[s]++[2*s]) (by simp),gF (l:=[]++[s]++[2*s]) (by simp),gF (l:=[]++[s]++[2*s]) (by simp)]
  rfl
 have J:ph [s,s,2*s,2*s,s,s]=[[s,4],[2*s,2]]:=by
  unfold ph;rw[Q];simp[Ra,Y,Y.symm]
 unfold tbl;rw[J];refine _S.uW _S.zW (_S.vD _S.zW _) ?_ (_S.zY _);refine List.Pairwise.cons ?_ (Ot _ _);intro k U;rw[Cz.mp U,_H.aw,Bh om];exact Co om
theorem HY {Q:Aa Aj}{s:Aj}(h:tbl Q=[[s,4],[2*s,2]]):∀ f∈Q,f=s\/f=2*s:=by
 intro f Y;have:[f,(Q.count f:Aj)]∈tbl Q:=(_S.zY _).mem_iff.mpr (Ba.mpr ⟨f,xX.mpr Y,rfl⟩);rw[h] at this;simp at this;rcases this with z|z
 .exact .inl z.1
 .exact .inr z.1
theorem HZ (Q:Aa Aj):(tbl Q).length=(kg Q).length:=by
 have:=(cM Q).length_eq
 rwa [Ao] at this
theorem yq {p:Aj}(Y:1<p)(hp:∀ x:Aj,x*x % p=0->x % p=0):∀ (n:Ag) (x y:Aj),y.natAbs<=n->x*x=p*(y*y)->y=0
 |0,_,_,h,_=>by lia
 |n+1,x,y,h,e=>by
  obtain⟨k,rfl⟩:=Uo (hp x (by rw[e];exact Yv _ _))
  have Q:y*y=p*(k*k):=Tk (show p≠0 by lia) (by rw[<- e];grind)
  obtain⟨m,rfl⟩:=Uo (hp y (by rw[Q];exact Yv _ _))
  have J:k*k=p*(m*m):=Tk (show p≠0 by lia) (by rw[<- Q];grind)
  by_cases z:m=0
  .rw[z,Uq]
  .have:m=0:=yq Y hp n k m (by
    rw[Oy] at h;have:2*m.natAbs<=p.natAbs*m.natAbs:=Nat.mul_le_mul_right _ li
    lia) J
   exact absurd this z
theorem m3 (x:Aj)(h:x*x % 3=0):x % 3=0:=by
 have:x % 3=0\/x % 3=1\/x % 3=2:=by lia
 rw[Int.mul_emod] at h;rcases this with e|e|e
 .exact e
 .rw[e] at h;cases h
 .rw[e] at h;cases h
theorem m5 (x:Aj)(h:x*x % 5=0):x % 5=0:=by
 have:x % 5=0\/x % 5=1\/x % 5=2\/x % 5=3\/x % 5=4:=by lia
 rw[Int.mul_emod] at h;rcases this with e|e|e|e|e
 .exact e
 all_goals rw[e] at h;cases h
theorem _s (a b c d s:Aj)(h1:a*a+b*b=s)(h2:c*c+d*d=s)(h3:(a-c)*(a-c)+(b-d)*(b-d)=s):(2*(a*d-b*c))*(2*(a*d-b*c))=3*(s*s):=by grind
theorem DY {a b c d e f A B C x y z:Aj}(U:a*a+b*b=A)(Q:c*c+d*d=B)(J:e*e+f*f=C)(G:2*(a*c+b*d)=x)(Y:2*(c*e+d*f)=y)(hz:2*(a*e+b*f)=z):4*(A*B*C)-A*(y*y)-C*(x*x)-B*(z*z)+x*y*z=0:=by
 subst U Q J G Y hz
 grind
theorem mD {a b c d s t r:Aj}(h1:a*a+b*b=s)(h2:c*c+d*d=t)(h3:(a-c)*(a-c)+(b-d)*(b-d)=r):2*(a*c+b*d)=s+t-r:=by grind
theorem qA6 (a b c d e f s t:Aj)(h1:a*a+b*b=s)(h2:c*c+d*d=s)(h3:(c-e)*(c-e)+(d-f)*(d-f)=s)(J:(a-c)*(a-c)+(b-d)*(b-d)=t)(Q:e*e+f*f=t)(Y:(a-e)*(a-e)+(b-f)*(b-f)=t):(s+t)*(s*s-3*(s*t)+t*t)=0:=by
 have:=DY h1 h2 Q (mD h1 h2 J) (mD h2 Q h3) (mD h1 Q Y);clear h1 h2 h3 J Q Y
 grind
theorem _Y (a b c d e f s t:Aj)(h1:a*a+b*b=s)(h2:e*e+f*f=s)(h3:c*c+d*d=t)(J:(a-c)*(a-c)+(b-d)*(b-d)=s)(Y:(c-e)*(c-e)+(d-f)*(d-f)=s)(Q:(a-e)*(a-e)+(b-f)*(b-f)=t):t*t*(2*s-t)=0:=by
 have:=DY h1 h3 h2 (mD h1 h3 J) (mD h3 h2 Y) (mD h1 h2 Q);clear h1 h2 h3 J Y Q
 grind
theorem LC (x y z:Aj):x-y=(x-z)-(y-z):=by lia
theorem uC (A B C:Pt):bj A B=((A.1-C.1)-(B.1-C.1))*((A.1-C.1)-(B.1-C.1))+((A.2-C.2)-(B.2-C.2))*((A.2-C.2)-(B.2-C.2)):=by
 rw[<- LC,<- LC];rfl
theorem tW (Q:A≠B)(h1:bj A C=bj A B)(h2:bj B C=bj A B):Ey:=by
 have p:=wV Q;rw[xI A C] at h1;have k:=_s (B.1-A.1) (B.2-A.2) (C.1-A.1) (C.2-A.2) (bj A B) (xI B A) h1 (by rw[<- uC,h2])
 have:=yq li m3 _ _ _ (Av _) k
 lia
theorem uX {E:Pt}(Q:A≠B)(h1:bj B C=bj A B)(h2:bj C E=bj A B)(h3:bj B E=bj A C)(Y:bj A E=bj A C):Ey:=by
 have p:=wV Q;have J:0<=bj A C:=by
  by_cases z:A=C
  .rw[z]
   unfold bj
   lia
  .exact Gv (wV z)
 have k:=qA6 (A.1-B.1) (A.2-B.2) (C.1-B.1) (C.2-B.2) (E.1-B.1) (E.2-B.2) (bj A B) (bj A C) rfl ((xI C B).trans h1) (by rw[<- uC,h2]) (by rw[<- uC]) ((xI E B).trans h3) (by rw[<- uC,Y])
 generalize bj A B=s at *;generalize bj A C=t at *;have k:=(Ix.mp k).resolve_left li;have:=yq li m5 _ (2*t-3*s) s (Av _) (by grind)
 lia
theorem oh {E:Pt}(Q:A≠C)(h1:bj B C=bj A B)(h2:bj C E=bj A B)(h3:bj A E=bj A B)(Y:bj B E=bj A C):bj A C=2*bj A B:=by
 have p:=wV Q;have k:=_Y (B.1-A.1) (B.2-A.2) (C.1-A.1) (C.2-A.2) (E.1-A.1) (E.2-A.2) (bj A B) (bj A C) (xI B A) ((xI E A).trans h3) (xI C A) (by rw[<- uC,h1]) (by rw[<- uC,h2]) (by rw[<- uC,Y])
 generalize bj A C=t at *;have z:t*t≠0:=λz=>by rcases Ix.mp z with z|z <;> lia
 have:=(Ix.mp k).resolve_left z
 lia
set_option synthInstance.maxSize 4096 in
set_option synthInstance.maxHeartbeats 1000000 in
theorem pat:∀ p q r s t u:As,((q=p/\s=p)\/(r=p/\t=p)\/(r=q/\u=q)\/(t=s/\u=s))\/((s=q/\t=q/\r=q/\u=p)\/(s=p/\u=p/\r=p/\t=q)\/(t=p/\u=p/\q=p/\s=r))\/((s=p/\u=p/\t=q/\r=q)\/(t=p/\u=p/\s=q/\r=q)\/(s=q/\t=q/\u=p/\r=p)\/(u=q/\t=q/\s=p/\r=p)\/(t=r/\s=r/\u=p/\q=p)\/(u=r/\s=r/\t=p/\q=p)):=kd
theorem HR {a b e:Pt}(nd:[a,b,c,e].Nodup)(h:wI [a,b,c,e]<=2):∃ s,0<s/\(bg [a,b,c,e]).Perm [s,s,2*s,2*s,s,s]:=by
 obtain⟨x,y,Q⟩:∃ x y:Aj,∀ f∈bg [a,b,c,e],∃ z:As,f=cond z x y:=by
  have N:∀ f∈bg [a,b,c,e],f∈kg (bg [a,b,c,e]):=λf U=>xX.mpr U;unfold wI at h;generalize kg (bg [a,b,c,e])=K at h N
  match K,h with
  |[],_=>exact⟨0,0,λf U=>by cases N f U⟩
  |[x],_=>exact⟨x,x,λf U=>⟨true,Cz.mp (N f U)⟩⟩
  |[x,y],_=>exact⟨x,y,λf U=>by
   have:=N f U;simp only[Bc,Do,Gy] at this;rcases this with z|z
   .exact⟨true,z⟩
   .exact⟨false,z⟩⟩
  |_::_::_::_,h=>simp at h
 have l:bg [a,b,c,e]=[bj a b,bj a c,bj a e,bj b c,bj b e,bj c e]:=rfl;rw[l] at Q ⊢;obtain⟨p,H⟩:=Q (bj a b) (by simp)
 obtain⟨q,k⟩:=Q (bj a c) (by simp)
 obtain⟨r,O⟩:=Q (bj a e) (by simp)
 obtain⟨s,I⟩:=Q (bj b c) (by simp)
 obtain⟨t,T⟩:=Q (bj b e) (by simp)
 obtain⟨u,o⟩:=Q (bj c e) (by simp)
 clear Q l h;have Y:a≠b:=λz=>by simp[z] at nd
 have J:a≠c:=λz=>by simp[z] at nd
 have G:a≠e:=λz=>by simp[z] at nd
 have M:b≠c:=λz=>by simp[z] at nd
 have d:=xI b a;have v:=xI c a;have m:=xI c b;have g:=xI e a;have i:=xI e b;have n:=xI e c;rcases pat p q r s t u with (⟨rfl,rfl⟩|⟨rfl,rfl⟩|⟨rfl,rfl⟩|⟨rfl,rfl⟩)|(⟨rfl,rfl,rfl,rfl⟩|⟨rfl,rfl,rfl,rfl⟩|⟨rfl,rfl,rfl,rfl⟩)|(⟨rfl,rfl,rfl,rfl⟩|⟨rfl,rfl,rfl,rfl⟩|⟨rfl,rfl,rfl,rfl⟩|⟨rfl,rfl,rfl,rfl⟩|⟨rfl,rfl,rfl,rfl⟩|⟨rfl,rfl,rfl,rfl⟩)
 .exact(tW (C:=c) Y li li).elim
 .exact(tW (C:=e) Y li li).elim
 .exact(tW (C:=e) J li li).elim
 .exact(tW (C:=e) M li li).elim
 .have:=oh (A:=a) (B:=c) (C:=b) (E:=e) Y li li li li
  exact⟨bj a c,wV J,Nl.mpr λx=>by simp only[Ra,Wy,O,I,T,o,<- k,<- H,this] <;> lia⟩
 .have:=oh (A:=a) (B:=b) (C:=c) (E:=e) J li li li li
  exact⟨bj a b,wV Y,Nl.mpr λx=>by simp only[Ra,Wy,O,I,T,o,<- k,<- H,this] <;> lia⟩
 .have:=oh (A:=a) (B:=b) (C:=e) (E:=c) G li li li li
  exact⟨bj a b,wV Y,Nl.mpr λx=>by simp only[Ra,Wy,k,I,T,o,<- O,<- H,this] <;> lia⟩
 .exact(uX (A:=a) (B:=b) (C:=c) (E:=e) Y li li li li).elim
 .exact(uX (A:=a) (B:=b) (C:=e) (E:=c) Y li li li li).elim
 .exact(uX (A:=a) (B:=c) (C:=b) (E:=e) J li li li li).elim
 .exact(uX (A:=a) (B:=c) (C:=e) (E:=b) J li li li li).elim
 .exact(uX (A:=a) (B:=e) (C:=b) (E:=c) G li li li li).elim
 .exact(uX (A:=a) (B:=e) (C:=c) (E:=b) G li li li li).elim
theorem YG {l:Aa Pt}(Q:Up l)(Y:l.length=4):vt (tbl (bg l))=decide (wI l<=2):=by
 match l,Y with
 |[a,b,c,e],_ =>
  rw[Jw,Cf];constructor
  .intro h
   have n:(tbl (bg [a,b,c,e])).length<=2:=by
    generalize tbl (bg [a,b,c,e])=t at h
    match t,h with
    |(s::k)::t,h =>
     rw[Cq h];exact Av 2
   rw[HZ] at n;exact n
  .intro h
   obtain⟨s,hs,p⟩:=HR (r9 Q) h;rw[pI p,cN s hs];exact Bm rfl
noncomputable def xy (w h L:Aj):Aj:=w*h*(L*(L+1)/2)-(w+h)*(L*(L+1)*(2*L+1)/6)+L*(L+1)/2*(L*(L+1)/2)
def su (w h:Aj):Aj:=(if h<w then h else w)-1
theorem RA {Q:D->ak->Prop}{a b:Aj}{S:ak}(h:Q (.int (if b<a then b else a)) S):Ok (tJ [.int a,.int b] S) Q:=⟨_,_,rfl,h⟩
theorem IH {Q:D->ak->Prop}(c:Cl){w h:Ag}{S:ak}(o:B5 w h){W H:Aj}(G:W=w)(U:H=h)(q:Q (.int (xy w h (su w h))) S):Ok (db c [.int W,.int H] S) Q:=by
 subst G U;have N:=o.hw;have O:=o.hh;have Y:0<=su w h/\su w h<=4:=by unfold su;split <;> lia
 have J:0<=(w:Aj)*(h:Aj)/\(w:Aj)*(h:Aj)<=25:=by
  have:=Gd N.2 O.2;have e:(w:Aj)*(h:Aj)=((w*h:Ag):Aj):=by push_cast;rfl
  lia
 rw[uH];refine zC (env:=[Ab (.int w),Ab (.int h),none,none,none,none]) rfl ?_;rfl';refine qQ (d:=.int 1000000) rfl ?_;rfl';refine qQ (gC c S ⟨by lia,by lia⟩) ?_
 rfl';refine qQ (d:=.int 1000000) rfl ?_;rfl';refine qQ (gC c S ⟨by lia,by lia⟩) ?_
 rfl';refine RA ?_;rfl';rw[show (if (h:Aj)<w then (h:Aj) else w)-1=su w h from rfl]
 unfold xy at q;generalize su w h=L at *;have T:0<=L*(L+1)/\L*(L+1)<=4*5:=⟨Ox Y.1 li,Int.mul_le_mul Y.2 li li li⟩;rfl';exact q
theorem AD (p q:Pt)(S:ak):jy (au p) (au q) S=.ok (.bl (decide (p=q))) S:=by
 unfold jy;rw[show pl zH (au p)=true from rfl,show pl zH (au q)=true from rfl,Bi (show (true&&true)=true from rfl),bF]
theorem WS {Q:D->ak->Prop}(c:Cl){p q:Pt}{S:ak}(G:p≠q)(h:∀ z∈io p q,d_ 1000 z)(k:Q (qE (wJ (io p q))) S):Ok (dk c [au p,au q] S) Q:=by
 have J:∀ z∈io p q,bp c [au z] S=.ok .non S:=λz Y=>pY c S (Z8 z) (by rw[lA];exact Bm (h z Y))
 rw[kX];refine zC (env:=[Ab (au p),Ab (au q),none,none,none,none]) rfl ?_;rfl';refine qQ (J p (by simp[io])) ?_
 rfl';refine qQ (J q (by simp[io])) ?_
 rfl';refine qQ (AD p q S) ?_;rw[Co G];rfl';refine wK (cq:=au) (xs:=io p q) (λxs env N=>N=S/\(∀ z∈xs,z∈io p q)/\∃ U,env=[Ab (au p),Ab (au q),Ab (.int (q.1-p.1)),Ab (.int (q.2-p.2)),Ab (.lst ((io p q).map au)),U]) ?_ ?_ ⟨rfl,λ_ h=>h,_,rfl⟩
 .rintro z T _ _ ⟨rfl,Y,U,rfl⟩
  rfl';refine qQ (J z (Y z (.head _))) ?_;rfl';exact wR ⟨rfl,λx O=>Y x (.tail _ O),_,rfl⟩
 .rintro _ _ ⟨rfl,_,U,rfl⟩
  rfl';refine n6 (ps:=io p q) (Qk rfl) ?_;rfl';exact k
theorem R3 (a b:Aa (Aa Aj))(S:ak):im (.lst (a.map gp)) (.lst (b.map gp)) S=.ok (.bl (!decide (a=b))) S:=by
 unfold im;rw[nD,nD];show ba.ok (D.bl (!zE (a.map gp) (b.map gp))) S=_;rw[eD]
theorem OV {P:jf->Prop}{S:ak}(a b:Ag)(G:b<big)(Q:qB)(J:env=Ab (.int a)::Ab (.int b)::Q)(q:∀ e1,Wo P (.nx (Ab (.int (Yf a b))::e1::Q) S)):Wo P (gE (ci (d2 tm (q9 1) (dC (.int 0)))) (jO 0 1 (q8 (q9 1) (q8 (d2 uF (q9 0) (q9 1)) qA))) env S):=by
 subst J;refine oD (λn env U=>U=S/\∃ x:Ag,Yf x n=Yf a b/\env=Ab (.int x)::Ab (.int n)::Q) ?_ G ⟨rfl,a,rfl,rfl⟩;rintro n _ _ ⟨rfl,x,Y,rfl⟩;rfl';refine⟨λz=>?_,λz=>?_⟩
 .have z:=Cq z
  rfl';refine YT (x % n) (Pp _ li) ⟨rfl,n,?_,by rw[Int.natCast_emod]⟩
  rw[<- Y,Nat.gcd_comm x n,Nat.gcd_rec n x,Nat.gcd_comm]
 .have z:=Jm z
  have:n=0:=by lia
  subst this;rw[Nat.gcd_zero_right] at Y;rw[Y];exact q _
theorem IA {Q:D->ak->Prop}{S:ak}(a b:Ag)(Y:b<big)(q:Q (.int (Yf a b)) S):Ok (cc [.int a,.int b] S) Q:=by
 rw[vE];refine zC (env:=[Ab (.int a),Ab (.int b)]) rfl ?_;array_get_dec;refine OV a b Y [] rfl λJ=>?_;rfl';exact q
theorem aI (a:Aj):(if a<0 then -a else a)=(a.natAbs:Aj):=by
 split <;> lia
noncomputable def nr (t b:Aj):Aj × Aj:=let g:=(Lz t b:Aj);if b<0 then ((-t)/g,(-b)/g) else (t/g,b/g)
structure Fr (t b:Aj)(n m:Aj):Prop where
 pos:0<m
 eq:n*b=t*m
 one:Lz n m=1
 len:n.natAbs<=t.natAbs
 lem:m.natAbs<=b.natAbs
theorem eJ {t b:Aj}(k:b≠0):Fr t b (nr t b).1 (nr t b).2/\∃ g:Ag,0<g/\g<=b.natAbs/\(g=Yf t.natAbs b.natAbs)/\t.fdiv (if b<0 then -(g:Aj) else g)=(nr t b).1/\b.fdiv (if b<0 then -(g:Aj) else g)=(nr t b).2:=by
 have N:0<Lz t b:=Int.gcd_pos_of_ne_zero_right _ k;obtain⟨n,J⟩:=Int.gcd_dvd_left (a:=t) (b:=b);obtain⟨m,Y⟩:=Int.gcd_dvd_right (a:=t) (b:=b);have U:Lz t b<=b.natAbs:=Nat.le_of_dvd li (Int.gcd_dvd_natAbs_right ..);have I:Lz n m=1:=by
  have e:Lz ((Lz t b:Aj)*n) ((Lz t b:Aj)*m)=Lz t b:=by rw[<- J,<- Y]
  rw[Int.gcd_mul_left,Ry] at e;exact Nat.eq_of_mul_eq_mul_left N (by rw[e,Nat.mul_one])
 have T:n.natAbs<=t.natAbs:=by
  have:=congrArg Int.natAbs J;rw[Oy,Ry] at this;rw[this];exact Vo _ N
 have H:m.natAbs<=b.natAbs:=by
  have:=congrArg Int.natAbs Y;rw[Oy,Ry] at this;rw[this];exact Vo _ N
 have E:(Lz t b:Ag)=Yf t.natAbs b.natAbs:=rfl;generalize M:Lz t b=G at *;have Q:(G:Aj)≠0:=by lia
 by_cases z:b<0
 .have f:nr t b=(-n,-m):=by
   unfold nr;rw[M];simp only[z,Dp];rw[J,Y,<- Sj,<- Sj,Kl _ Q,Kl _ Q]
  rw[f];have O:m<0:=by
   by_cases y:m<0
   .exact y
   .have:=Ox (show (0:Aj)<=G by lia) (show 0<=m by lia)
    lia
  refine⟨⟨by dsimp only;lia,?_,by rw[Int.gcd_neg,Int.neg_gcd];exact I,by rw[Ab1];exact T,by rw[Ab1];exact H⟩,G,N,U,E,?_,?_⟩
  .show -n*b=t * -m
   rw[Y,J]
   grind
  .rw[Bi z,J,show (G:Aj)*n = -n * -(G:Aj) by grind,Nn _ li]
  .rw[Bi z,Y,show (G:Aj)*m = -m * -(G:Aj) by grind,Nn _ li]
 .have f:nr t b=(n,m):=by
   unfold nr;rw[M];simp only[z,Ds];rw[J,Y,Kl _ Q,Kl _ Q]
  rw[f];have O:0<m:=by
   by_cases y:0<m
   .exact y
   .have:=Ox (show (0:Aj)<=G by lia) (show 0 <= -m by lia)
    rw[Sj] at this
    lia
  refine⟨⟨O,?_,I,T,H⟩,G,N,U,E,?_,?_⟩
  .show n*b=t*m
   rw[Y,J]
   grind
  .rw[Bh z,J,Ur,Nn _ Q]
  .rw[Bh z,Y,Ur,Nn _ Q]
abbrev frD:Pt->D:=au
theorem R8 {Q:D->ak->Prop}{S:ak}{t b:Aj}(O:b≠0/\b.natAbs<2 ^ 60)(q:Q (frD (nr t b)) S):Ok (f_ [.int t,.int b] S) Q:=by
 obtain⟨_,g,E,G,T,U,Y⟩:=eJ (t:=t) O.1;rw[pQ];refine zC (env:=[Ab (.int t),Ab (.int b),none]) rfl ?_;rfl';rw[aI,aI];refine IA _ _ (by rw[ZU];exact O.2) ?_
 rw[<- T];have J:∀ k:Aj,k = -(g:Aj)\/k=g->k≠0/\k.natAbs.log2<9000:=λk I=>by
  have N:k.natAbs=g:=by lia
  refine⟨by lia,?_⟩
  rw[N];exact Hw ((Nat.log2_lt li).mpr (Ll G O.2)) li
 rfl';refine yY (λz=>?_) λz=>?_
 .rw[Bi z] at U Y
  rfl';refine tY (J _ (.inl rfl)) ?_;rfl';refine tY (J _ (.inl rfl)) ?_;rw[U,Y];rfl';exact q
 .rw[Bh z] at U Y
  rfl';refine tY (J _ (.inr rfl)) ?_;rfl';refine tY (J _ (.inr rfl)) ?_;rw[U,Y];rfl';exact q
def lu (p a b:Pt):Aj:=(a.1-p.1)*(b.2-p.2)-(a.2-p.2)*(b.1-p.1)
def dt (p a b:Pt):Aj:=(a.1-p.1)*(b.1-p.1)+(a.2-p.2)*(b.2-p.2)
def sl (a b p:Pt):An Pt:=if lu p a b=0 then none else Ab (nr (dt p a b) (lu p a b))
theorem BX {n m Q m':Aj}(h1:0<m)(h2:0<m')(G:Lz n m=1)(g2:Lz Q m'=1)(e:n*m'=Q*m):n=Q/\m=m':=by
 have Y:∀ {x y z:Aj},Lz x y=1->y∣x*z->y∣z:=λ{x y z} g d=>by
  have U:Nat.Coprime y.natAbs x.natAbs:=by rw[Nat.coprime_comm];exact g
  have J:y.natAbs∣x.natAbs*z.natAbs:=by rw[<- Oy];exact Wl.mpr d
  exact Wl.mp (U.dvd_of_dvd_mul_left J)
 have d1:m∣m':=Y G ⟨Q,by rw[e,Ur]⟩
 have d2:m'∣m:=Y g2 ⟨n,by rw[<- e,Ur]⟩
 have em:m=m':=Int.le_antisymm (Int.le_of_dvd h2 d1) (Int.le_of_dvd h1 d2);subst em;exact⟨Mz li e,rfl⟩
theorem DW {t b t' Q:Aj}(N:b≠0)(U:Q≠0):nr t b=nr t' Q↔t*Q=t'*b:=by
 obtain⟨⟨u,q,k,_,_⟩,_⟩:=eJ (t:=t) N;obtain⟨⟨I,T,H,_,_⟩,_⟩:=eJ (t:=t') U;generalize nr t b=X at *;generalize nr t' Q=Y at *;obtain⟨n,m⟩:=X;obtain⟨G,J⟩:=Y;dsimp only at *;constructor
 .intro h
  injection h with E M
  subst E M;refine Mz (show m≠0 by lia) ?_
  grind
 .intro h
  have:n*J=G*m:=by
   refine Mz (show b*Q≠0 from Int.mul_ne_zero N U) ?_
   have O:n*J*(b*Q)=(n*b)*Q*J:=by grind
   have o:G*m*(b*Q)=(G*Q)*b*m:=by grind
   rw[O,o,q,T];have z:t*m*Q*J=t*Q*m*J:=by grind
   have y:t'*J*b*m=t'*b*m*J:=by grind
   rw[z,y,h]
  obtain⟨rfl,rfl⟩:=BX u I k H this;rfl
def al (a b:Pt)(x:Pt × Pt):As:=(sl a b x.1).isSome&&decide (sl a b x.1=sl a b x.2)
def On (a b c d:Pt):Prop:=lu c a b≠0/\dt c a b*lu d a b=dt d a b*lu c a b
instance (a b c d:Pt):Hy (On a b c d):=by unfold On;exact inferInstance
theorem apart {a b d:Pt}(h1:d≠a)(h2:d≠b)(G:lu d a b=0)(U:dt d a b=0):Ey:=by
 unfold lu at G;unfold dt at U;have J:((a.1-d.1)*(a.1-d.1)+(a.2-d.2)*(a.2-d.2))*((b.1-d.1)*(b.1-d.1)+(b.2-d.2)*(b.2-d.2))=0:=by grind
 have z:∀ x y:Aj,x*x+y*y=0->x=0/\y=0:=λx y h=>by
  have Q:∀ t:Aj,0<=t*t:=λt=>by
   rcases Int.le_total 0 t with q|q
   .exact Ox q q
   .exact Int.mul_nonneg_of_nonpos_of_nonpos q q
  have T:=Q x;have O:=Q y;have N:x*x=0:=by fin2
  have Y:y*y=0:=by fin2
  exact⟨(Ix.mp N).elim id id,(Ix.mp Y).elim id id⟩
 rcases Ix.mp J with h|h
 .obtain⟨x,y⟩:=z _ _ h
  exact h1 (Np li li)
 .obtain⟨x,y⟩:=z _ _ h
  exact h2 (Np li li)
theorem CM {a b d:Pt}(h1:d≠a)(h2:d≠b):al a b (c,d)=decide (On a b c d):=by
 unfold al On sl;by_cases Y:lu c a b=0
 .simp[Y]
 .by_cases Q:lu d a b=0
  .have:¬ (dt c a b*lu d a b=dt d a b*lu c a b):=λe=>by
    rw[Q,Uq] at e;rcases Ix.mp e.symm with z|z
    .exact apart h1 h2 Q z
    .exact Y z
   simp[Y,Q,this];intro e;exact this (by rw[Q,Uq];exact e)
  .have:=DW (t:=dt c a b) (t':=dt d a b) Y Q
   simp[Y,Q,this]
noncomputable def Gp (κ : Pt->An Pt):Ag->Aa Pt->Aa (Aa Pt)
 |0,_=>[]
 |_,[]=>[]
 |n+1,p::ps=>match κ p with
  |none=>Gp κ n ps
  |some k=>(p::ps.filter λq=>decide (κ q=Ab k))::Gp κ n (ps.filter λq=>!decide (κ q=Ab k))
theorem oK (κ : Pt->An Pt):∀ (n:Ag) (ps:Aa Pt),∀ g∈Gp κ n ps,g.length<=ps.length
 |0,ps,g,h=>by cases h
 |n+1,[],g,h=>by cases h
 |n+1,p::ps,g,h=>by
  unfold Gp at h;cases Q:κ p with
  |none =>
   rw[Q] at h;have:=oK κ n ps g h;simp only[Bv]
   lia
  |some k =>
   rw[Q] at h;rcases Bc.mp h with rfl|h
   .simp only[Bv]
    have:=Ec (λq=>decide (κ q=Ab k)) ps
    lia
   .have Y:=oK κ n _ g h
    have J:=Ec (λq=>!decide (κ q=Ab k)) ps;simp only[Bv]
    lia
theorem NP (κ : Pt->An Pt)(n:Ag)(c:Pt)(ps:Aa Pt):Gp κ (n+1) (c::ps)=[c::ps]↔(κ c).isSome=true/\∀ q∈ps,κ q=κ c:=by
 unfold Gp;cases U:κ c with
 |none =>
  refine⟨λh=>?_,λh=>by cases h.1⟩
  have:=oK κ n ps (c::ps) (by dsimp only at h;rw[h];simp)
  simp at this
  lia
 |some k =>
  dsimp only;refine⟨λh=>⟨rfl,λq Q=>?_⟩,λh=>?_⟩
  .injection h with h _
   injection h with _ h
   have:=Nm.mp h q Q;simpa using this
  .have J:(ps.filter λq=>decide (κ q=Ab k))=ps:=Nm.mpr λq Q=>Bm (h.2 q Q)
   have Y:(ps.filter λq=>!decide (κ q=Ab k))=[]:=Hu.mpr λq Q=>by simp[h.2 q Q]
   rw[J,Y];cases n <;> rfl
theorem R0 {a b A B:Aj}(h1 : -A<=a/\a<=A)(h2 : -B<=b/\b<=B) : -(A*B)<=a*b/\a*b<=A*B:=by
 have J:a.natAbs*b.natAbs<=A.natAbs*B.natAbs:=Gd li li;have Y:((a*b).natAbs:Aj)=((a.natAbs*b.natAbs:Ag):Aj):=by rw[Oy]
 have Q:((A.natAbs*B.natAbs:Ag):Aj)=A*B:=by
  rw[Int.natCast_mul,Xi li,Xi li]
 lia
def _e:An Pt->D
 |none=>.non
 |some k=>au k
theorem CT {p a b:Pt}(hp:d_ 1000 p)(Q:d_ 1000 a)(J:d_ 1000 b) : -8000000<=lu p a b/\lu p a b<=8000000:=by
 unfold d_ at *;have Y:=R0 (show -2000<=a.1-p.1/\a.1-p.1<=2000 by lia) (show -2000<=b.2-p.2/\b.2-p.2<=2000 by lia)
 have U:=R0 (show -2000<=a.2-p.2/\a.2-p.2<=2000 by lia) (show -2000<=b.1-p.1/\b.1-p.1<=2000 by lia)
 unfold lu
 lia
theorem FT {Q:D->ak->Prop}{S:ak}{p a b:Pt}(hp:d_ 1000 p)(Y:d_ 1000 a)(J:d_ 1000 b)(q:Q (_e (sl a b p)) S):Ok (kb [au p,au a,au b] S) Q:=by
 have U:=CT hp Y J;have N : -1000<=p.1/\p.1<=1000 /\ -1000<=p.2/\p.2<=1000:=hp;have O : -1000<=a.1/\a.1<=1000 /\ -1000<=a.2/\a.2<=1000:=Y;have G : -1000<=b.1/\b.1<=1000 /\ -1000<=b.2/\b.2<=1000:=J;rw[mZ];refine zC (env:=[Ab (au p),Ab (au a),Ab (au b),none,none,none,none,none]) rfl ?_;rfl';have e:(a.1-p.1)*(b.2-p.2)-(a.2-p.2)*(b.1-p.1)=lu p a b:=rfl;rw[e];refine qA1 ?_;rfl';refine⟨λz=>?_,λz=>?_⟩
 .have z:=Cq z
  rfl';have:sl a b p=none:=Bi z;rw[this] at q;exact q
 .have z:=Jm z
  rfl';refine R8 ⟨z,by lia⟩ ?_
  rfl';have:sl a b p=Ab (nr (dt p a b) (lu p a b)):=Bh z;rw[this] at q;exact q
structure GT (κ : Pt->An Pt)(n:Ag)(done:Aa Pt)(gs:Aa (Pt × Ag × Aa Pt))(S:ak):Prop where
 dict:S[n]? = Ab (.dcT (gs.map λg=>(kP g.1,D.loc g.2.1)))
 lists:∀ g∈gs,n<g.2.1/\S[g.2.1]? = Ab (.lst (g.2.2.map au))
 nd:(gs.map (·.2.1)).Nodup
 kd:(gs.map (·.1)).Nodup
 len:gs.length<=done.length
 sz:∀ g∈gs,g.2.2.length<=done.length
theorem YR {k:Pt}:∀ {Q:Aa (Pt × Ag × Aa Pt)},vW (Q.map λg=>(kP g.1,D.loc g.2.1)) (kP k)=(Q.find? λg=>decide (g.1=k)).map λg=>D.loc g.2.1
 |[]=>rfl
 |g::Q=>by
  unfold vW;rw[Df,Fv,Fv];by_cases h:g.1=k
  .rw[Bm h,Bm (by rw[h])]
   rfl
  .rw[Co h,Co (λz=>h (W3 z))]
   exact YR
noncomputable def add (k p:Pt)(j:Ag)(Q:Aa (Pt × Ag × Aa Pt)):Aa (Pt × Ag × Aa Pt):=
 if (Q.find? λg=>decide (g.1=k)).isSome then Q.map λg=>if g.1=k then (g.1,g.2.1,g.2.2++[p]) else g else Q++[(k,j,[p])]
theorem HJ {n:Ag}{wg kvs:Aa (Aa Aj × D)}{S:ak}{i x:D}{k:Aa Aj}(Q:S[n]? = Ab (.dcT kvs))(Y:UQ i=Ab k):l6 n wg [i,x] S=(match vW kvs k with|some d=>ba.ok d S|none=>if kvs.length<bn then ba.ok x (S.set n (MO.dcT (kvs++[(k,x)]))) else .bad):=by
 unfold l6;simp only[Y,Q]
 try rfl
theorem F0 {n:Ag}{done:Aa Pt}{Q:Aa (Pt × Ag × Aa Pt)}{S:ak}(I:GT κ n done Q S)(k p:Pt)(hl:done.length<=1000) :
  ∃ (j:Ag) (S1 M:ak),l6 n (Q.map λg=>(kP g.1,D.loc g.2.1)) [au k,.loc S.length] (S++[.lst []]) = .ok (.loc j) S1/\mh (.loc j) S1=Ab "list" /\ xS (.loc j) [au p] S1=.ok .non M/\GT κ n (done++[p]) (add k p S.length Q) M/\(∀ m,m<n->M[m]? = S[m]?)/\S.length<=M.length:=by
 have E:n<S.length:=(Ax.mp I.dict).1;have hd:(S++[MO.lst []])[n]? = Ab (.dcT (Q.map λg=>(kP g.1,D.loc g.2.1))):=by rw[AT E];exact I.dict
 have zb:done.length<bn:=by unfold bn;lia
 have N:=HJ (wg:=Q.map λg=>(kP g.1,D.loc g.2.1)) (i:=au k) (x:=.loc S.length) (k:=kP k) hd rfl;rw[YR] at N;cases J:Q.find? λg=>decide (g.1=k) with
 |some g =>
  have u:=Ik J;have hk:g.1=k:=by simpa using NE J
  obtain⟨h1,t⟩:=I.lists g u;have hj:=(Ax.mp t).1;have T:(S++[MO.lst []])[g.2.1]? = Ab (.lst (g.2.2.map au)):=by rw[AT hj];exact t
  rw[J] at N;have d:add k p S.length Q=Q.map λg=>if g.1=k then (g.1,g.2.1,g.2.2++[p]) else g:=by unfold add;rw[J];rfl
  rw[d];have m1:((Q.map λg=>if g.1=k then (g.1,g.2.1,g.2.2++[p]) else g).map (·.2.1))=Q.map (·.2.1):=by
   rw[Dj];refine Dy λx _=>?_;show (if x.1=k then _ else _:Pt × Ag × Aa Pt).2.1=_
   split <;> rfl
  have m2:((Q.map λg=>if g.1=k then (g.1,g.2.1,g.2.2++[p]) else g).map (·.1))=Q.map (·.1):=by
   rw[Dj];refine Dy λx _=>?_;show (if x.1=k then _ else _:Pt × Ag × Aa Pt).1=_
   split <;> rfl
  have m3:((Q.map λg=>if g.1=k then (g.1,g.2.1,g.2.2++[p]) else g).map λg=>(kP g.1,D.loc g.2.1))=Q.map λg=>(kP g.1,D.loc g.2.1):=by
   rw[Dj];refine Dy λx _=>?_;show ((kP (if x.1=k then _ else _:Pt × Ag × Aa Pt).1,D.loc (if x.1=k then _ else _:Pt × Ag × Aa Pt).2.1))=_
   split <;> rfl
  refine⟨g.2.1,_,_,N,pM T,oV T (by rw[Ao];have:=I.sz g u;lia) _,⟨?_,?_,by rw[m1];exact I.nd,by rw[m2];exact I.kd,by rw[Ao,By];have:=I.len;lia,?_⟩,λm hm=>?_,by simp⟩
  .rw[m3,Br li]
   exact hd
  .intro x hx
   obtain⟨y,U,rfl⟩:=Ba.mp hx;obtain⟨s,y2⟩:=I.lists y U;by_cases Y:y.1=k
   .have:y=g:=tU (f:=(·.1)) I.kd U u (Y.trans hk.symm)
    subst this;rw[Bi Y];refine⟨s,?_⟩;rw[Dk (by simp;lia),Dl]
    rfl
   .rw[Bh Y]
    refine⟨s,?_⟩;have v:g.2.1≠y.2.1:=λz=>Y (by rw[<- tU (f:=(·.2.1)) I.nd u U z];exact hk)
    rw[Br v,AT (Ax.mp y2).1];exact y2
  .intro x hx
   obtain⟨y,U,rfl⟩:=Ba.mp hx;have:=I.sz y U;rw[By]
   split
   .show (y.2.2++[p]).length<=_
    rw[By];simp
    lia
   .lia
  .rw[Br li,AT li]
 |none =>
  have q:=Ln.mp J;rw[J] at N;have G:(Q.map λg=>(kP g.1,D.loc g.2.1)).length<bn:=by rw[Ao];have:=I.len;lia
  have e1:=N.trans (Bi G);have d:add k p S.length Q=Q++[(k,S.length,[p])]:=by unfold add;rw[J];rfl
  rw[d];have H:((S++[MO.lst []]).set n (.dcT ((Q.map λg=>(kP g.1,D.loc g.2.1))++[(kP k,.loc S.length)])))[S.length]? = Ab (.lst []):=by
   rw[Br li];simp
  refine⟨S.length,_,_,e1,pM H,oV H (by unfold bn;simp) _,⟨?_,?_,?_,?_,by rw[By,By];have:=I.len;simp;lia,?_⟩,λm hm=>?_,by simp⟩
  .rw[Br li,Dk (by simp;lia),Dl]
   rfl
  .intro x hx
   rcases Bq.mp hx with hx|hx
   .obtain⟨x1,h⟩:=I.lists x hx
    have l:=(Ax.mp h).1;refine⟨x1,?_⟩;rw[Br li,Br li,AT l];exact h
   .cases Cz.mp hx
    refine⟨E,?_⟩;rw[Dk (by simp)]
    rfl
  .rw[Dl,Gm]
   refine⟨I.nd,by simp,λa o b r e=>?_⟩
   obtain⟨x,hx,rfl⟩:=Ba.mp o;have:=(Ax.mp (I.lists x hx).2).1;have O:b=S.length:=by simpa using r
   lia
  .rw[Dl,Gm]
   refine⟨I.kd,by simp,λa o b r e=>?_⟩
   obtain⟨x,hx,rfl⟩:=Ba.mp o;have O:b=k:=by simpa using r
   exact q x hx (by simp[e,O])
  .intro x hx
   rcases Bq.mp hx with hx|hx
   .have:=I.sz x hx
    rw[By]
    lia
   .cases Cz.mp hx
    simp
  .rw[Br li,Br li,AT li]
abbrev KG:=Aa (Pt × Ag × Aa Pt)
def xq (κ : Pt->An Pt)(L:Ag)(Q:KG)(p:Pt):KG:=match κ p with
 |none=>Q
 |some k=>add k p L Q
def Is (κ : Pt->An Pt)(Q:KG)(ps:Aa Pt)(Y:KG):Prop:=∀ n,(ps.filter λq=>!(Q.any λg=>decide (κ q=Ab g.1))).length<=n ->
 Y.map (·.2.2)=(Q.map λg=>g.2.2++ps.filter λq=>decide (κ q=Ab g.1))++Gp κ n (ps.filter λq=>!(Q.any λg=>decide (κ q=Ab g.1)))
theorem SE (κ : Pt->An Pt)(Q:KG):Is κ Q [] Q:=λn _=>by
 have:Gp κ n ([] : Aa Pt)=[]:=by cases n <;> rfl
 simp[this]
theorem i7 {Q o:KG}{p:Pt}{L:Ag}(kd:(Q.map (·.1)).Nodup)(h:Is κ (xq κ L Q p) ps o):Is κ Q (p::ps) o:=by
 intro n U;unfold xq at h;cases J:κ p with
 |none =>
  rw[J] at h;have O:((p::ps).filter λq=>!(Q.any λg=>decide (κ q=Ab g.1)))=p::ps.filter λq=>!(Q.any λg=>decide (κ q=Ab g.1)):=Lh (by simp[J])
  rw[O] at U ⊢;cases n with
  |zero=>simp at U
  |succ n =>
   rw[h n (by simpa using U)]
   congr 1
   .refine Dy λg _=>?_
    rw[Jb (by simp[J])]
   .rw[Gp,J]
 |some k =>
  rw[J] at h;dsimp only at h;by_cases T:(Q.find? λg=>decide (g.1=k)).isSome
  .obtain⟨y,N⟩:=Ki.mp T
   have l:=Ik N;have r:y.1=k:=by simpa using NE N
   have M:add k p L Q=Q.map λg=>if g.1=k then (g.1,g.2.1,g.2.2++[p]) else g:=by unfold add;rw[Bi T]
   rw[M] at h;have d:∀ q,((Q.map λg=>if g.1=k then (g.1,g.2.1,g.2.2++[p]) else g).any λg=>decide (κ q=Ab g.1))=Q.any λg=>decide (κ q=Ab g.1):=λq=>by
    rw[Uf]
    congr 1
    funext g
    show decide (κ q=Ab (if g.1=k then _ else _:Pt × Ag × Aa Pt).1)=_
    split <;> rfl
   unfold Is at h;simp only[d] at h;have O:((p::ps).filter λq=>!(Q.any λg=>decide (κ q=Ab g.1)))=ps.filter λq=>!(Q.any λg=>decide (κ q=Ab g.1)):=Jb (by
    rw[J];have:(Q.any λg=>decide (Ab k=Ab g.1))=true:=Il.mpr ⟨y,l,by simp[r]⟩
    rw[this];simp)
   rw[O] at U ⊢;rw[h n U,Dj]
   congr 1
   refine Dy λg _=>?_;show (if g.1=k then _ else _:Pt × Ag × Aa Pt).2.2++List.filter (λq=>decide (κ q=Ab (if g.1=k then _ else _:Pt × Ag × Aa Pt).1)) ps=_
   by_cases Y:g.1=k
   .rw[Bi Y,Lh (by simp[J,Y])]
    simp
   .rw[Bh Y,Jb (by simp[J];exact λz=>Y z.symm)]
  .have I:=Ln.mp (Option.not_isSome_iff_eq_none.mp T)
   have G:∀ g∈Q,k≠g.1:=λg Y e=>I g Y (by simp[e])
   have M:add k p L Q=Q++[(k,L,[p])]:=by unfold add;rw[Bh T]
   rw[M] at h;have v:(Q.any λg=>decide (κ p=Ab g.1))=false:=Sn.mpr λg Y=>by
    rw[J];simpa using G g Y
   have O:((p::ps).filter λq=>!(Q.any λg=>decide (κ q=Ab g.1)))=p::ps.filter λq=>!(Q.any λg=>decide (κ q=Ab g.1)):=Lh (by rw[v];rfl)
   rw[O] at U ⊢;have u:(ps.filter λq=>!((Q++[(k,L,[p])]).any λg=>decide (κ q=Ab g.1)))=(ps.filter λq=>!(Q.any λg=>decide (κ q=Ab g.1))).filter λq=>!decide (κ q=Ab k):=by
    rw[Rz]
    congr 1
    funext q
    rw[List.any_append];simp[Bool.and_comm]
   have f:((ps.filter λq=>!(Q.any λg=>decide (κ q=Ab g.1))).filter λq=>decide (κ q=Ab k))=ps.filter λq=>decide (κ q=Ab k):=by
    rw[Rz]
    congr 1
    funext q
    cases E:decide (κ q=Ab k) with
    |false=>simp
    |true =>
     have E:=Cq E;have:(Q.any λg=>decide (κ q=Ab g.1))=false:=Sn.mpr λg Y=>by
      rw[E];simpa using G g Y
     rw[this];rfl
   cases n with
   |zero=>simp at U
   |succ n =>
    have H:(ps.filter λq=>!(Q.any λg=>decide (κ q=Ab g.1))).length<=n:=by simpa using U
    rw[h n (by rw[u];exact Ch (Ec _ _) H),Dl,Cc]
    congr 1
    .refine Dy λg Y=>?_
     rw[Jb (by rw[J];simpa using G g Y)]
    .rw[Gp,J,u]
     dsimp only;rw[f];rfl
structure zi (js:Aa Ag)(G:Aa (Aa Pt))(S S':ak):Prop where
 len:js.length=G.length
 at':∀ (i:Ag) (j:Ag) (g:Aa Pt),js[i]? = Ab j->G[i]? = Ab g->S'[j]? = Ab (.lst (g.map au))
 lo:∀ j∈js,S.length<=j
 pre:S<+:S'
inductive S_ (a b:Pt)(ps:Aa Pt)(S:ak)(ds:Aa D)(env:qB)(S':ak):Prop
 |mk (done rest:Aa Pt) (gs:KG) (e4 e5:An D) (h_0:done++rest=ps) (h_1:ds=rest.map au) (h_2:env=[Ab (au a),Ab (au b),Ab (.tup (ps.map au)),Ab (.loc S.length),e4,e5]) (h_3:GT (sl a b) S.length done gs S') (h_4:∀ m,m<S.length->S'[m]? = S[m]?) (h_5:∀ gs',Is (sl a b) gs rest gs'->Is (sl a b) [] ps gs'):S_ a b ps S ds env S'
theorem J9 {Q:D->ak->Prop}{a b:Pt}{S:ak}(n:d_ 1000 a)(hb:d_ 1000 b)(hp:∀ p∈ps,d_ 1000 p)(hl:ps.length<=1000)(q:∀ f J,zi f (Gp (sl a b) ps.length ps) S J->Q (.lst (f.map D.loc)) J):Ok (da [au a,au b,.tup (ps.map au)] S) Q:=by
 rw[uJ];refine zC (env:=[Ab (au a),Ab (au b),Ab (.tup (ps.map au)),none,none,none]) rfl ?_;refine PR (OR ⟨.loc S.length,S++[.dcT []],rfl,?_⟩);rfl';refine oC (S_ a b ps S) ?_ ?_ ⟨[],ps,[],none,none,rfl,rfl,rfl,⟨by simp,λ_ h=>(by cases h),by simp,by simp,by simp,λ_ h=>(by cases h)⟩,λm y=>AT y,λN h=>h⟩
 .rintro d ds _ J ⟨done,I,E,s,e5,U,O,rfl,G,Y,z⟩
  cases I with
  |nil=>cases O
  |cons p I =>
   injection O with h1 t
   subst h1 t;have l:p∈ps:=by rw[<- U];simp
   have u:done.length<=1000:=by
    have:=congrArg Mc U;rw[By] at this
    lia
   rfl';refine FT (hp p l) n hb ?_;rfl';cases hs:sl a b p with
   |none =>
    refine⟨.bl false,J,rfl,?_⟩;rfl';refine wR ⟨done++[p],I,E,_,_,by rw[<- U];simp,rfl,rfl,⟨G.dict,G.lists,G.nd,G.kd,by rw[By];have:=G.len;lia,λg H=>by rw[By];have:=G.sz g H;lia⟩,Y,λN h=>z N (i7 (L:=0) G.kd ?_)⟩
    unfold xq;rw[hs];exact h
   |some k =>
    refine⟨.bl true,J,rfl,?_⟩;rfl';obtain⟨j,S1,S2,r,x2,x3,x4,x5,x6⟩:=F0 G k p u;have o:rZ (q9 3) (q8 (q9 5) (q8 (vY qA) qA)) [Ab (au a),Ab (au b),Ab (.tup (ps.map au)),Ab (.loc S.length),Ab (au p),Ab (au k)] J=.ok (.loc j) S1:=by
     unfold rZ;show (match J[S.length]? with|some (.dcT kvs)=>_|_=>_)=_
     rw[G.dict];exact r
    refine qQ o ⟨x2,?_⟩;rfl';refine qQ x3 ?_;rfl';refine wR ⟨done++[p],I,_,_,_,by rw[<- U];simp,rfl,rfl,x4,λm y=>(x5 m y).trans (Y m y),λN h=>z N (i7 (L:=J.length) G.kd ?_)⟩
    unfold xq;rw[hs];exact h
 .rintro _ J ⟨done,I,E,s,e5,U,O,rfl,G,Y,z⟩
  cases I with
  |cons _ _=>cases O
  |nil =>
   have M:=z E (SE _ _) ps.length (Ec _ _);have e:(ps.filter λq=>!(([]:KG).any λg=>decide (sl a b q=Ab g.1)))=ps:=Nm.mpr λ_ _=>rfl;rw[e] at M;have M:E.map (·.2.2)=Gp (sl a b) ps.length ps:=M
   refine KO (ZN ⟨.lst ((E.map (·.2.1)).map D.loc),J,?_,?_⟩)
   .unfold tF
    show (match J[S.length]? with|some (MO.dcT kvs)=>ba.ok (D.lst (kvs.map λ(x:Aa Aj × D)=>x.2)) J|_=>.bad)=_
    rw[G.dict];simp only[Dj];rfl
   .rfl'
    refine q (E.map (·.2.1)) J ⟨by rw[<- M];simp,λi j g T H=>?_,λj T=>?_,cA Y⟩
    .rw[<- M] at H
     rw[Du] at T H;cases v:E[i]? with
     |none=>rw[v] at T;cases T
     |some x =>
      rw[v] at T H;cases T;cases H;exact(G.lists x (Cj v)).2
    .obtain⟨x,hx,rfl⟩:=Ba.mp T
     exact Ek (G.lists x hx).1
theorem G6 (l:Aa Pt)(i:Ag)(h:i<l.length)(S:ak):dy (.tup (l.map au)) (.int (i:Aj)) S=.ok (au (l.getD i (0,0))) S:=by
 refine wN (GX (rF (show i<(l.map au).length by rw[Ao];exact h)) ⟨?_,rfl⟩)
 rw[Qc]
 congr 1
 simp[Ie,h]
def Al (S:ak):Aa Ag->Aa (Aa Pt)->Prop
 |[],[]=>Rc
 |j::Q,g::G=>S[j]? = Ab (.lst (g.map au))/\Al S Q G
 |_,_=>Ey
theorem KZ {Y:ak}:∀ {Q:Aa Ag} {G:Aa (Aa Pt)},Q.length=G.length->(∀ (i j:Ag) (g:Aa Pt),Q[i]? = Ab j->G[i]? = Ab g->Y[j]? = Ab (.lst (g.map au)))->Al Y Q G
 |[],[],_,_=>trivial
 |[],_::_,h,_=>by simp at h
 |_::_,[],h,_=>by simp at h
 |j::Q,g::G,h,k=>⟨k 0 j g rfl rfl,KZ (by simpa using h) λi=>k (i+1)⟩
theorem lQ (S:ak)(n:Ag):∀ g:Aa Pt,mapO (xT (n+1) S) (g.map au)=Ab (g.map au)
 |[]=>rfl
 |p::g=>by
  have e:xT (n+1) S (au p)=Ab (au p):=by cases n <;> rfl
  rw[Df,mapO,e,lQ S n g]
theorem Y9 {S:ak}:∀ {Q:Aa Ag} {G:Aa (Aa Pt)},Al S Q G->mapO (xT 19 S) (Q.map D.loc)=Ab (G.map λg=>D.lst (g.map au))
 |[],[],_=>rfl
 |[],_::_,h=>h.elim
 |_::_,[],h=>h.elim
 |j::Q,g::G,h=>by
  have e:xT 19 S (.loc j)=Ab (.lst (g.map au)):=by
   show (match S[j]? with|some (MO.lst Y)=>(mapO (xT 18 S) Y).map D.lst|_=>none)=_
   rw[h.1];show (mapO (xT 18 S) (g.map au)).map D.lst=_;rw[lQ S 17 g];rfl
  rw[Df,mapO,e,Y9 h.2];rfl
theorem AB (G:Aa (Aa Pt))(ps:Aa Pt):zE (G.map λg=>D.lst (g.map au)) [.lst (ps.map au)]=decide (G=[ps]):=by
 match G with
 |[]=>simp[zE]
 |[g] =>
  show (zE (g.map au) (ps.map au)&&true)=_;rw[tI,Ka];exact Lc.mpr ⟨λh=>by rw[h],λh=>by injection h⟩
 |g::Q::G =>
  show (zE (g.map au) (ps.map au)&&false)=_;rw[Ro];exact(Co (by simp)).symm
theorem PC (G:Aa (Aa Pt)):pl zH (.lst (G.map λg=>D.lst (g.map au)))=true:=by
 show ((G.map λg=>D.lst (g.map au)).all (pl 29))=true;rw[Ff];refine Bb.mpr λg _=>?_;show ((g.map au).all (pl 28))=true;rw[Ff];exact Bb.mpr λp _=>rfl
def xt:Aa Pt->As
 |a::b::c::r=>decide (Gp (sl a b) (r.length+1) (c::r)=[c::r])
 |_=>true
theorem IC {Q:D->ak->Prop}(c:Cl){M:Ag}(E:M<=40){l:Aa Pt}(L:nh M l){S:ak}(q:∀ Y,S<+:Y->Q (.bl (xt l)) Y):Ok (fz c [qE l] S) Q:=by
 have T:=L.len;rw[pS];refine zC (env:=[Ab (qE l)]) rfl ?_;rfl';refine qQ (u7 c S (nE l) (gU E L)) ?_;unfold qE;rfl';rw[Ao];refine yY (λz=>?_) λz=>?_
 .rfl'
  have:xt l=true:=by
   match l with
   |[]=>rfl
   |[_]=>rfl
   |[_,_]=>rfl
   |_::_::_::_=>simp at z;lia
  rw[<- this];exact q S (Bd _)
 .match l,L with
  |[],_=>simp at z
  |[_],_=>simp at z
  |[_,_],_=>simp at z
  |a::b::p::r,L =>
   rfl';refine qQ (G6 (a::b::p::r) 0 (by simp) S) ?_
   rfl';refine qQ (G6 (a::b::p::r) 1 (by simp) S) ?_
   rfl';have N:wG (AaQ au (a::b::p::r)) (Ab 2) none=(p::r).map au:=by
    have:=LD (AaQ au (a::b::p::r)) 2 (by simp)
    exact this
   rw[N];have J:=L.box;refine J9 (J a (by simp)) (J b (by simp)) (λx U=>J x (by simp at U ⊢;exact .inr (.inr U))) (by simp at T ⊢;lia) λO Y G=>?_
   rfl';rw[N];rfl';have al:=KZ G.len G.at';refine WQ (gg:=jy) (x:=.lst ((Gp (sl a b) (p::r).length (p::r)).map λg=>D.lst (g.map au))) (y:=.lst [.lst ((p::r).map au)]) (z:=.bl (xt (a::b::p::r))) ?_ ?_ ?_ rfl (q Y G.pre)
   .show (mapO (xT 19 Y) (O.map D.loc)).map D.lst=_
    rw[Y9 al];rfl
   .show (mapO (xT 19 Y) [.lst ((p::r).map au)]).map D.lst=_
    have e:xT 19 Y (.lst ((p::r).map au))=Ab (.lst ((p::r).map au)):=by
     show (mapO (xT 18 Y) ((p::r).map au)).map D.lst=_;rw[lQ Y 17];rfl
    rw[mapO,e];rfl
   .unfold jy
    have:=PC [p::r];rw[PC,show pl zH (.lst [.lst ((p::r).map au)])=true from this]
    show ba.ok (D.bl (zE _ _)) _=_;rw[AB];rfl
theorem _h (A B Y Q J U d1 d2:Aj)(h1:Y*Y+Q*Q=A*Y+B*Q)(h2:J*J+U*U=A*J+B*U)(h3:d1*d1+d2*d2=A*d1+B*d2):(J*J+U*U-(J*Y+U*Q))*(d1*Q-d2*Y)=(d1*d1+d2*d2-(d1*Y+d2*Q))*(J*Q-U*Y):=by
 rw[h2,h3];have e:(A*J+B*U-(J*Y+U*Q))*(d1*Q-d2*Y)-(A*d1+B*d2-(d1*Y+d2*Q))*(J*Q-U*Y)=(J*d2-U*d1)*(Y*Y+Q*Q-(A*Y+B*Q)):=by grind
 rw[h1,Int.sub_self,Uq] at e
 lia
def v_ (X Y K:Aj)(z:Pt):Prop:=(2*z.1-X)*(2*z.1-X)+(2*z.2-Y)*(2*z.2-Y)=K
theorem K3 {x y a b X Y K:Aj}(h1:(2*x-X)*(2*x-X)+(2*y-Y)*(2*y-Y)=K)(h2:(2*a-X)*(2*a-X)+(2*b-Y)*(2*b-Y)=K):(x-a)*(x-a)+(y-b)*(y-b)=(X-2*a)*(x-a)+(Y-2*b)*(y-b):=by
 have e:4*((x-a)*(x-a)+(y-b)*(y-b)-((X-2*a)*(x-a)+(Y-2*b)*(y-b)))=(2*x-X)*(2*x-X)+(2*y-Y)*(2*y-Y)-((2*a-X)*(2*a-X)+(2*b-Y)*(2*b-Y)):=by grind
 lia
theorem IR {X Y K:Aj}{a b d:Pt}(Q:v_ X Y K a)(H:v_ X Y K b)(E:v_ X Y K c)(T:v_ X Y K d):dt c a b*lu d a b=dt d a b*lu c a b:=by
 have k:=_h _ _ _ _ _ _ _ _ (K3 H Q) (K3 E Q) (K3 T Q);have U:∀ z:Pt,dt z a b=(z.1-a.1)*(z.1-a.1)+(z.2-a.2)*(z.2-a.2)-((z.1-a.1)*(b.1-a.1)+(z.2-a.2)*(b.2-a.2)):=λz=>by unfold dt;generalize z.1=y;generalize z.2=I;generalize a.1=N;generalize a.2=O;generalize b.1=M;generalize b.2=G;grind
 have J:∀ z:Pt,lu z a b = -((z.1-a.1)*(b.2-a.2)-(z.2-a.2)*(b.1-a.1)):=λz=>by unfold lu;generalize z.1=y;generalize z.2=I;generalize a.1=N;generalize a.2=O;generalize b.1=M;generalize b.2=G;grind
 rw[U,U,J,J,Sj,Sj,k]
theorem LA (p q:Pt):∀ z∈io p q,v_ (p.1+q.1-(q.2-p.2)) (p.2+q.2+(q.1-p.1)) (2*bj p q) z:=by
 obtain⟨a,b⟩:=p;obtain⟨c,d⟩:=q;intro z Q;simp only[io,Bc,Do,Gy] at Q;unfold v_ bj;rcases Q with rfl|rfl|rfl|rfl
 all_goals dsimp only
 all_goals grind
theorem _Z {a b c d:Aj}{x y z:Aj}(h1:a*a+b*b=x)(h2:c*c+d*d=y)(h3:(a-c)*(a-c)+(b-d)*(b-d)=z):4*((a*d-b*c)*(a*d-b*c))=4*(x*y)-(x+y-z)*(x+y-z):=by
 have k:=mD h1 h2 h3;rw[<- k];subst h1 h2;clear k h3
 grind
theorem LB {a b:Pt}{s:Aj}(hs:0<s)(h1:bj a c=s\/bj a c=2*s)(h2:bj b c=s\/bj b c=2*s)(h3:bj a b=s\/bj a b=2*s):lu c a b≠0:=by
 intro z;have k:=_Z (a:=a.1-c.1) (b:=a.2-c.2) (c:=b.1-c.1) (d:=b.2-c.2) rfl rfl (uC a b c).symm;unfold lu at z;rw[z] at k;have Y:(a.1-c.1)*(a.1-c.1)+(a.2-c.2)*(a.2-c.2)=bj a c:=rfl;have Q:(b.1-c.1)*(b.1-c.1)+(b.2-c.2)*(b.2-c.2)=bj b c:=rfl;rw[Y,Q] at k;have J:s*s≠0:=λz=>by rcases Ix.mp z with z|z <;> lia
 generalize bj a c=x at *;generalize bj b c=y at *;generalize bj a b=t at *;clear z Y Q;rcases h1 with rfl|rfl <;> rcases h2 with rfl|rfl <;> rcases h3 with rfl|rfl <;> grind
theorem OD {p q:Pt}(O:p≠q){l:Aa Pt}(H:Up l)(hp:(io p q).Perm l):xt l=true:=by
 have hs:=wV O;have Y:∀ f∈bg l,f=bj p q\/f=2*bj p q:=HY (by rw[<- pI (bH hp),rV,cN _ hs])
 have J:=λz T=>LA p q z (hp.mem_iff.mpr T);have N:=r9 H
 match l,hp.length_eq with
 |[a,b,c,d],_ =>
  have I:bg [a,b,c,d]=[bj a b,bj a c,bj a d,bj b c,bj b d,bj c d]:=rfl;rw[I] at Y;have U:d≠a:=λz=>by simp[z] at N
  have G:d≠b:=λz=>by simp[z] at N
  have E:On a b c d:=⟨LB hs (Y _ (by simp)) (Y _ (by simp)) (Y _ (by simp)),IR (J a (by simp)) (J b (by simp)) (J c (by simp)) (J d (by simp))⟩
  have Q:=(CM U G).trans (Bm E);unfold al at Q;rw[Az,Cf] at Q;refine Bm ((NP (sl a b) 1 c [d]).mpr ⟨Q.1,λx M=>?_⟩);rw[Cz.mp M];exact Q.2.symm
noncomputable def vP:Aa Ag:=[1,2,4,5,8,9,10,13,16,17,18,20,25,26,29,32,34,36,40,45,50,52,58,64,65,68,72,80,81,85,90,100,104,116,117,125,128,130,136,144,145,153,160,162,169,170,180,200,208,221,225,232,234,250,256,260,261,272,288,289,290,306,320,324,325,338,340,360,377,400,405,416,425,442,450,464,468,493,500,512,520,522,544,576,578,580,585,612,625,640,648,650,676,680,720,725,729,754,765,800,810,832,841,845,850,884,900,928,936,986,1000,1024,1040,1044,1053,1088,1105,1125,1152,1156,1160,1170,1224,1250,1280,1296,1300,1305,1352,1360,1377,1440,1445,1450,1458,1508,1521,1530,1600,1620,1625,1664,1682,1690,1700,1768,1800,1856,1872,1885,1972,1989,2000,2025,2048,2080,2088,2106,2125,2176,2197,2210,2250,2304,2312,2320,2340,2349,2448,2465,2500,2560,2592,2600,2601,2610,2704,2720,2754,2873,2880,2890,2900,2916,2925,3016,3042,3060,3125,3200,3240,3250,3328,3364,3380,3393,3400,3536,3600,3625,3645,3712,3744,3757,3770,3825,3944,3978,4000,4050,4096,4160,4176,4205,4212,4225,4250,4352,4394,4420,4437,4500,4608,4624,4640,4680,4698,4896,4901,4913,4930,5000]
noncomputable def yv:Aa Ag:=[2,5,13,17,4,9,5,29]
theorem K7 {n f:Ag}(Y:n∈vP)(Q:f∈yv)(h:n*f<=5000):n*f∈vP:=by
 have k:vP.all (λn=>yv.all λf=>!Nat.ble (n*f) 5000||vP.contains (n*f))=true:=kd
 have:=Bb.mp (Bb.mp k n Y) f Q;rw[Wm h] at this;simpa using this
noncomputable def hs (n j:Ag):As:=(Cg 71).any λy=>Nat.beq (j*j+y*y) n
def cnt (n i:Ag):Ag:=(Cg i).countP (hs n)
noncomputable def msk:Ag:=(Cg 71).foldl (λm y=>m ||| 1 <<< (y*y)) 0
def ch (n j:Ag):As:=Nat.ble (j*j) n&&msk.testBit (n-j*j)
theorem CP {n:Ag}(h:hs n j=true):ch n j=true:=by
 have k:(Cg 71).all (λy=>msk.testBit (y*y))=true:=kd;obtain⟨y,Q,e⟩:=Il.mp h;have e:=Wn e;unfold ch;rw[show n-j*j=y*y by lia,Bb.mp k y Q,Wm li]
 rfl
theorem K6 {n:Ag}(Y:n∈vP):1<=cnt n 71/\cnt n 71<=15:=by
 have k:vP.all (λn=>Nat.ble ((Cg 71).countP (ch n)) 15&&(Cg 71).any λj=>ch n j&&hs n j)=true:=kd;have:=Bb.mp k n Y;rw[Az] at this;refine⟨?_,Ch (Qe λ_ _=>CP) (Qk this.1)⟩;obtain⟨j,Q,e⟩:=Il.mp this.2;rw[Az] at e;exact List.countP_pos_iff.mpr ⟨j,Q,e.2⟩
theorem iX {n:Ag}(Q:n∈vP):n<=5000:=by
 have k:vP.all (λn=>Nat.ble n 5000)=true:=kd;exact Qk (Bb.mp k n Q)
theorem RC {Q:D->ak->Prop}{S:ak}{p:Ag}{U:Aj}(T:U<=5000)(h:uN S p)(q:∀ (n:Ag) S1,Kp p S S1->n∈vP->Q (.int n) S1):Ok (fq [.loc p,.int U] S) Q:=by
 rw[kQ];refine zC (env:=[Ab (.loc p),Ab (.int U),none,none,none]) rfl ?_;rfl';refine xO h li λr S1 E M=>?_;rfl';refine⟨by lia,by lia,?_⟩
 refine wK (λ_ env J=>∃ (n:Ag) (N G:An D),env=[Ab (.loc p),Ab (.int U),Ab (.int n),N,G]/\Kp p S J/\n∈vP) ?_ ?_ ⟨1,_,_,rfl,E,by decide⟩
 .rintro x k _ J ⟨n,N,G,rfl,K,Y⟩
  rfl';refine xO K.pen li λr u O y=>?_;rfl';refine GW (show r<8 by lia) λd I=>?_
  obtain⟨f,H,rfl⟩:=Ba.mp (show d∈yv.map λ(f:Ag)=>D.int f from I)
  have:=iX Y;have e:(n:Aj)*(f:Aj)=((n*f:Ag):Aj):=by push_cast;rfl
  rfl';refine yY (λz=>?_) λz=>?_
  .rfl'
   exact wR ⟨n*f,_,_,by rw[e],K.trans O,K7 Y H li⟩
  .rfl'
   exact wR ⟨n,_,_,rfl,K.trans O,Y⟩
 .rintro _ J ⟨n,N,G,rfl,K,Y⟩
  rfl';exact q n J K Y
def pj (n:Ag):Aa (_L.bo × D):=(Cg n).map λ(i:Ag)=>(.inl ((i:Aj)*(i:Aj)),.int (i:Aj))
theorem HQ {a b:Ag}(h:(a:Aj)*(a:Aj)=(b:Aj)*(b:Aj)):a=b:=by
 have Q:a*a=b*b:=by exact_mod_cast h
 rcases Mi a b with z|z|z
 .exact absurd Q (Cu (Sk z (Ek z) li))
 .exact z
 .exact absurd Q.symm (Cu (Sk z (Ek z) li))
theorem TR (n:Ag):wQ (pj n) (.inl ((n:Aj)*(n:Aj))) (.int (n:Aj))=pj (n+1):=by
 unfold wQ;rw[Bh]
 .unfold pj
  rw[Vn,Dl];rfl
 .intro h
  obtain⟨J,Y,e⟩:=Il.mp h;obtain⟨i,Q,rfl⟩:=Ba.mp Y;have e:=Cq e;injection e with e
  have:=HQ e;have:=Ee.mp Q
  lia
theorem KF {n:Ag}{f:Aj}{d:D}(h:xC (pj n) (.inl f)=Ab d):∃ i:Ag,i<n/\d=.int (i:Aj)/\f=(i:Aj)*(i:Aj):=by
 unfold xC at h;obtain⟨U,Y,rfl⟩:=Ej.mp h;have Q:=NE Y;obtain⟨i,J,rfl⟩:=Ba.mp (Ik Y);have Q:=Cq Q;injection Q with Q
 exact⟨i,Ee.mp J,rfl,Q.symm⟩
theorem TQ {n i:Ag}(hi:i<n):(xC (pj n) (.inl ((i:Aj)*(i:Aj)))).isSome=true:=by
 unfold xC;rw[Ss,List.find?_isSome];exact⟨_,Ba.mpr ⟨i,Ee.mpr hi,rfl⟩,by simp⟩
theorem UV {c n:Ag}(h:c*c<=n)(Q:n<=5000):c<=70:=by
 rcases Js 70 c with z|z
 .have:=Gd (show 71<=c by lia) (show 71<=c by lia)
  lia
 .exact z
theorem AL {n y:Ag}(h:j*j+y*y=n)(Q:n<=5000):hs n j=true:=Il.mpr ⟨y,Ee.mpr (by have:=UV (show y*y<=n by lia) Q;lia),by subst h;exact Nat.beq_refl _⟩
theorem GD (n i:Ag):cnt n (i+1)=cnt n i+if hs n i=true then 1 else 0:=by
 unfold cnt;rw[Vn,List.countP_append,List.countP_singleton]
def DV (x y:Aj):Aa Pt:=[(x,y),(0-x,y),(x,0-y)]++[(0-x,0-y)]
theorem J8 {Q:D->ak->Prop}{S:ak}{n:Ag}(r:n∈vP)(q:∀ (ps:Aa Pt) G,S<+:G->ps≠[]->(∀ z∈ps,d_ 980 z)->ps.length<=60->Up ps->Q (.lst (ps.map au)) G):Ok (dj [.int n] S) Q:=by
 have o:=iX r;rw[j3];refine zC (env:=[Ab (.int n),none,none,none,none,none]) rfl ?_;rfl';refine⟨by lia,by lia,?_⟩
 refine wK (xs:=Cg 1001) (λxs env G=>∃ (i:Ag) (H:An D),i+xs.length=1001/\xs=List.range' i (1001-i)/\env=[Ab (.int n),Ab (.loc S.length),Ab (.lst []),H,none,none]/\G=S++[.dct (pj i)]) ?_ ?_ ⟨0,_,by simp,by rw[Xj],rfl,rfl⟩
 .rintro x xs _ _ ⟨i,H,J,U,rfl,rfl⟩
  have E:i<1001:=by simp at J;lia
  rw[show 1001-i=(1001-(i+1))+1 by lia,AaE] at U
  injection U with u I
  subst u;rfl';refine RD (uT _ _) (by unfold pj;rw[Ao,Pg];unfold bn;lia) ?_
  rw[KC,TR];rfl';exact wR ⟨x+1,_,by simp at J;lia,I,rfl,rfl⟩
 .rintro _ _ ⟨i,H,J,U,rfl,rfl⟩
  have E:i=1001:=by simpa using J
  subst E;have p:=uT S (.dct (pj 1001));have f:S<+:S++[.dct (pj 1001)]:=Ft _ _;generalize S++[.dct (pj 1001)]=T at p f;rfl';refine⟨by lia,by lia,?_⟩
  refine wK (xs:=Cg 1001) (λxs env G=>∃ (i:Ag) (Y:Aa Pt) (k l:An D),i+xs.length=1001/\xs=List.range' i (1001-i)/\env=[Ab (.int n),Ab (.loc S.length),Ab (.lst (Y.map au)),H,k,l]/\G=T/\Y.length=4*cnt n (min i 71)/\∀ z∈Y,d_ 980 z) ?_ ?_ ⟨0,[],_,_,by simp,by rw[Xj],rfl,rfl,rfl,λ_ h=>by cases h⟩
  .rintro x xs _ _ ⟨i,Y,k,l,J,U,rfl,rfl,N,M⟩
   have E:i<1001:=by simp at J;lia
   rw[show 1001-i=(1001-(i+1))+1 by lia,AaE] at U
   injection U with u I
   subst u;have cl:cnt n (min x 71)<=71:=Ch (List.countP_le_length) (by rw[Pg];lia)
   rfl';refine IB p ?_;rfl';cases hv:xC (pj 1001) (.inl ((n:Aj)-(x:Aj)*(x:Aj))) with
   |none =>
    rfl';refine wR ⟨x+1,Y,_,_,by simp at J;lia,I,rfl,rfl,?_,M⟩
    rcases Js x 71 with z|z
    .rw[Oa li] at N ⊢
     rw[GD,Bh,N]
     .rfl
     .intro w
      obtain⟨y,g,e⟩:=Il.mp w;have e:=Wn e;have v:=TQ (n:=1001) (i:=y) (by have:=Ee.mp g;lia)
      rw[show (n:Aj)-(x:Aj)*(x:Aj)=(y:Aj)*(y:Aj) by rw[<- e];push_cast;lia] at hv
      rw[hv] at v;cases v
    .rw[N,Ua z,Ua li]
   |some d =>
    obtain⟨y,g,rfl,e⟩:=KF hv;have b:x*x+y*y=n:=by
     have:((x*x+y*y:Ag):Aj)=(n:Aj):=by push_cast;lia
     exact_mod_cast this
    have m:=UV (show x*x<=n by lia) o
    have a:=UV (show y*y<=n by lia) o
    refine w_t ?_;rfl';refine ID p hv ?_;rfl';refine tX (by rw[Ao];show _+3<=bn;unfold bn;lia) ?_
    rfl';refine tX (by rw[By,Ao];show _+3+1<=bn;unfold bn;lia) ?_
    rfl';refine wR ⟨x+1,Y++DV (x:Aj) (y:Aj),_,_,by simp at J;lia,I,by rw[Dl,Cc];rfl,rfl,?_,λz hz=>?_⟩
    .rw[By,N,Oa li,Oa li,GD,Bi (AL b o)]
     show _+4=_
     lia
    .rcases Bq.mp hz with hz|hz
     .exact M z hz
     .simp only[DV,Ld,Gz,Bc,Do,Gy] at hz
      unfold d_;rcases hz with rfl|rfl|rfl|rfl <;> dsimp only <;> lia
  .rintro _ _ ⟨i,Y,k,l,J,U,rfl,rfl,N,M⟩
   have E:i=1001:=by simpa using J
   subst E;have s:=K6 r;have O:Y.length=4*cnt n 71:=N;rfl';refine qA2 ?_;rfl';refine⟨by lia,q (wY Y) _ f (λz=>?_) (λz hz=>M z ((vV Y z).mp hz)) (Ch (mS Y) li) (lU Y)⟩
   cases Y with
   |nil=>simp at O;lia
   |cons w t =>
    have:w∈wY (w::t):=(vV _ w).mpr (by simp)
    rw[z] at this;cases this
def G7:Aa Pt:=(Cg 25).map λ(i:Ag)=>((i:Aj)/5,(i:Aj) % 5)
def AU:Aa Pt:=(Cg 20).map λ(i:Ag)=>(2*(i:Aj),3*(i:Aj))
def AV:Aa Pt:=(Cg 5).map λ(i:Ag)=>((i:Aj),0)
noncomputable def CS:Aa Pt:=[(0,0),(0,4),(4,0),(4,4),(2,2),(-1,2),(2,-1),(5,2),(2,5),(1,1),(6,6)]
theorem Z3 {Q:D->ak->Prop}{fe:DE}{S:ak}(n:Ag)(E:n<=1000)(g:Ag->Pt)(step:∀ i:Ag,Ok (fe [Ab (.int i)] S) λd U=>d=au (g i)/\U=S)(q:Q (.lst (((Cg n).map g).map au)) S):Ok (qW false [none] (xQ (wB (q8 (dC (.int (n:Aj))) qA))) (bi 0) zN (z0 fe) env S) Q:=by
 refine yN (Cg n) (λi=>au (g i)) (λenv Y=>Y=S/\∃ a,env=[a]) (_M li) ⟨rfl,none,rfl⟩ (by rw[Pg];unfold bn;lia) (λ_ _ _=>trivial) (λx T env Y ⟨J,a,G⟩=>?_) λenv Y ⟨J,_⟩=>?_
 .subst J G
  rfl';exact zI (step x) λd U ⟨N,O⟩=>⟨N,O,_,rfl⟩
 .subst J
  rw[Dj] at q;exact q
structure za (p:Ag)(S:ak)(d:D)(S':ak)(ps:Aa Pt):Prop where
 seq:bU d S'=Ab (ps.map au)
 ne:ps≠[]
 len:ps.length<=60
 box:∀ q∈ps,d_ 980 q
 kp:Kp p S S'
theorem vG {α:Type}:∀ (l:Aa α) (i:Ag) (h:i<l.length),(l[i]::l.eraseIdx i).Perm l
 |[],i,h=>by simp at h
 |x::l,0,_=>Ko _
 |x::l,i+1,h=>(AaX x _ _).trans ((vG l i (by simpa using h)).cons x)
theorem dW {α β:Type}(f:α->β):∀ (l:Aa α) (i:Ag),(l.map f).eraseIdx i=(l.eraseIdx i).map f
 |[],_=>rfl
 |_::_,0=>rfl
 |x::l,i+1=>congrArg (f x::·) (dW f l i)
structure WI (p a many:Ag)(all:Aa Pt)(S S':ak)(done rest:Aa Pt):Prop where
 ra:S'[a]? = Ab (.lst (rest.map au))
 rb:S'[a+1]? = Ab (.lst (done.map au))
 perm:(done++rest).Perm all
 le:done.length<=many
 kp:Kp p S S'
theorem IE {Q:D->ak->Prop}(p M:Ag)(hM:1<=M/\M<=40){S:ak}(h:uN S p)(q:∀ (l:Aa Pt) J,Kp p S J->nh M l->(∀ z∈l,z.1<=990)->Q (qE l) J):Ok (gc [.loc p,.int (M:Aj)] S) Q:=by
 rw[pO];refine zC (env:=[Ab (.loc p),Ab (.int (M:Aj)),none,none,none,none,none,none,none,none,none]) rfl ?_;rfl';refine xO h li λH S1 k1 h1=>?_;rfl';refine xO k1.pen li λm S2 k2 h2=>?_;obtain⟨Y,em,hm⟩:∃ Y:Ag,1+(m:Aj)=(Y:Aj)/\1<=Y/\Y<=M:=⟨1+m,by lia,by lia,by lia⟩
 rfl';rw[em];refine xO k2.pen li λx S3 k3 h3=>?_;rfl';refine xO k3.pen li λy S4 k4 h4=>?_;rfl';refine xO k4.pen li λr S5 k5 h5=>?_;have hx : -10<=(x:Aj)-10/\(x:Aj)-10<=10:=by lia
 have hy : -10<=(y:Aj)-10/\(y:Aj)-10<=10:=by lia
 generalize (x:Aj)-10=x at hx;generalize (y:Aj)-10=y at hy;refine GW (show r<3 by lia) λd hd=>?_
 obtain⟨wide,rfl,hw⟩:∃ w:Aj,d=.int w/\3<=w/\w<=900:=by
  simp only[Bc,Do,Gy] at hd;rcases hd with rfl|rfl|rfl <;> exact⟨_,rfl,by lia⟩
 have k:Kp p S S5:=(((k1.trans k2).trans k3).trans k4).trans k5;clear k1 k2 k3 k4 k5 h1 h2 h3 h4 h5 hd em;array_get_dec;array_get_dec;refine OS (λenv J=>∃ d u o ps,env=[Ab (.loc p),Ab (.int (M:Aj)),Ab (.int H),Ab (.int (Y:Aj)),Ab (.int x),Ab (.int y),Ab (.int wide),Ab d,u,o,none]/\za p S d J ps) (λP' hP=>?_) ?_
 .rfl'
  refine yY (λz=>?_) λz=>?_
  .rfl'
   refine RC li k.pen λn O s hn=>?_;rfl';refine J8 hn λps S7 I ne hb f _=>?_;rfl';exact hP _ _ ⟨_,_,_,ps,rfl,rfl,ne,f,hb,(k.trans s).trans (Kp.pre s.pen I)⟩
  rfl';refine yY (λz=>?_) λz=>?_
  .rfl'
   refine Z3 25 li (λ(i:Ag)=>((i:Aj)/5,(i:Aj) % 5)) (λi=>?_) ?_
   .rfl'
    exact rfl
   .rfl'
    exact hP _ _ ⟨_,_,_,G7,rfl,rfl,by decide,by decide,kd,k⟩
  rfl';refine yY (λz=>?_) λz=>?_
  .rfl'
   refine Z3 20 li (λ(i:Ag)=>(2*(i:Aj),3*(i:Aj))) (λi=>?_) ?_
   .rfl'
    exact rfl
   .rfl'
    refine Z3 5 li (λ(i:Ag)=>((i:Aj),0)) (λi=>?_) ?_
    .rfl'
     exact rfl
    .refine tX (by rw[Ao,Ao];decide) ?_
     rw[<- Dl];rfl';exact hP _ _ ⟨_,_,_,AU++AV,rfl,rfl,by decide,by decide,kd,k⟩
  rfl';refine yY (λz=>?_) λz=>?_
  .rfl'
   exact hP _ _ ⟨_,_,_,CS,rfl,rfl,by decide,by decide,kd,k⟩
  rfl';refine⟨by lia,by lia,?_⟩
  have z1:p<S5.length:=WW k.pen;refine wK (λxs env J=>∃ (ps:Aa Pt) (u o:An D),ps.length+xs.length=M/\(∀ q∈ps,d_ 980 q)/\env=[Ab (.loc p),Ab (.int (M:Aj)),Ab (.int H),Ab (.int (Y:Aj)),Ab (.int x),Ab (.int y),Ab (.int wide),Ab (.loc S5.length),u,o,none]/\Kp p S5 J/\J[S5.length]? = Ab (.lst (ps.map au))) ?_ ?_ ⟨[],_,_,by simp,λ_ h=>(by cases h),rfl,Kp.pre k.pen (Ft _ _),uT _ _⟩
  .rintro t xs _ J ⟨ps,u,o,f,hb,rfl,K,hS⟩
   have la:=(Ax.mp hS).1;rfl';refine xO K.pen li λr1 O s h6=>?_;have g:=(s.same _ la li).trans hS;rfl';refine⟨pM g,?_⟩;rfl';refine xO s.pen li λr2 S7 I h7=>?_;have zs:=(I.same _ (Ax.mp g).1 li).trans g;rfl';refine QY zs (by rw[Ao];unfold bn;simp at f;lia) ?_
   rfl';refine wR ⟨ps++[((r1:Aj)-wide,(r2:Aj)-2)],_,_,by simp at f ⊢;lia,λz hz=>?_,rfl,((K.trans s).trans I).set (Av _) _ li,by rw[Dk (Ax.mp zs).1,Dl];rfl⟩
   rcases Bq.mp hz with hz|hz
   .exact hb z hz
   .rw[Cz.mp hz]
    unfold d_;dsimp only
    lia
  .rintro _ J ⟨ps,u,o,f,hb,rfl,K,hS⟩
   refine hP _ _ ⟨_,_,_,ps,rfl,TL hS,λz=>?_,by simp at f;lia,hb,k.trans K⟩
   subst z;simp at f
   lia
 .rintro _ O ⟨d,u,o,ps,rfl,E⟩
  have z2:p<O.length:=WW E.kp.pen;rfl';refine IL ?_;rfl';refine⟨ps,E.seq,by have:=E.len;lia,?_⟩
  rfl';have zz:=Ch (mS ps) E.len;have zv:wY ps≠[]:=λz=>by
   obtain⟨w,hw⟩:=List.exists_mem_of_ne_nil _ E.ne;have:=(vV ps w).mpr hw;rw[z] at this;cases this
  rw[By,Ia];refine oD (λn env J=>env=[Ab (.loc p),Ab (.int (M:Aj)),Ab (.int H),Ab (.int (Y:Aj)),Ab (.int x),Ab (.int y),Ab (.int wide),Ab (.loc O.length),u,o,Ab (.loc (O.length+1))]/\∃ done G,G.length=n/\WI p O.length Y (wY ps) S J done G) ?_ (n:=(wY ps).length) (by rw[ZU];lia) ⟨rfl,[],wY ps,rfl,by simp,by simp,by simp,by simp,E.kp.trans (Kp.pre E.kp.pen ((Ft _ _).trans (Ft _ _)))⟩
  rintro n _ J ⟨rfl,done,G,rfl,W⟩;have T:=W.perm.length_eq;rw[By] at T;have la:=(Ax.mp W.rb).1;refine bQ ?_;rfl';have U:J<+:J++[MO.lst []]:=Ft _ _;refine WQ (z:=.bl (!G.isEmpty)) (cG (l9 W.ra U) λx hx=>?_) (cG (xs:=[]) (uT _ _) λ_ h=>by cases h) ?_ rfl ?_
  .obtain⟨z,_,rfl⟩:=Ba.mp hx
   rfl
  .unfold im
   rw[E5,show pl zH (.lst []) = true from rfl]
   cases G <;> rfl
  have N:WI p O.length Y (wY ps) S (J++[MO.lst []]) done G:=⟨l9 W.ra U,l9 W.rb U,W.perm,W.le,W.kp.trans (Kp.pre W.kp.pen U)⟩;have zc:O.length+1<(J++[MO.lst []]).length:=by rw[By];lia
  generalize J++[MO.lst []] = J at N zc;clear W U la;have zb:¬ (G≠[]/\done.length<Y)->Ok (qM uB (q8 (qM w5 (q8 (qW false [none,Ab 4,Ab 5] (ge (q9 10)) (bi 0) zN (z0 (zD (q8 (d2 zP (d2 dy (q9 0) (dC (.int 0))) (q9 1)) (q8 (d2 zP (d2 dy (q9 0) (dC (.int 1))) (q9 2)) qA))))) qA)) qA) [Ab (.loc p),Ab (.int (M:Aj)),Ab (.int H),Ab (.int (Y:Aj)),Ab (.int x),Ab (.int y),Ab (.int wide),Ab (.loc O.length),u,o,Ab (.loc (O.length+1))] J) Q:=λhc=>by
   rfl';refine yN done (λz=>au (z.1+x,z.2+y)) (λenv S1=>S1=J/\∃ a,env=[a,Ab (.int x),Ab (.int y)]) (_N rfl N.rb) ⟨rfl,none,rfl⟩ (by unfold bn;lia) (λ_ _ ⟨e,_⟩=>by subst e;exact N.rb) (λz hz env S1 ⟨e1,a,e2⟩=>?_) λenv S1 ⟨e1,_⟩=>?_
   .subst e1 e2
    rfl';exact⟨_,rfl⟩
   .subst e1
    rfl';have zx:done.Nodup:=(Gm.mp (N.perm.nodup_iff.mpr (r9 (lU ps)))).1;have z3:=N.le;rw[show (done.map λz=>au (z.1+x,z.2+y))=(done.map λz=>(z.1+x,z.2+y)).map au by rw[Dj];rfl]
    refine n6 (by rw[Ao];lia) ?_
    rfl';have zl:∀ z∈done.map λz=>(z.1+x,z.2+y),d_ 990 z:=λz hz=>by
     obtain⟨w,hw,rfl⟩:=Ba.mp hz;have:=E.box w ((vV ps w).mp (N.perm.mem_iff.mp (Dm _ hw)));unfold d_ at this ⊢;dsimp only
     lia
    refine q _ S1 N.kp (QU (λz=>?_) (by rw[Ao];lia) ?_ λz hz=>?_) λz hz=>(zl z ((xR _).mem_iff.mp hz)).2.1
    .have z:=Yg.mp z
     subst z;by_cases hr:G=[]
     .subst hr
      simp at T;exact zv (Iy.mp T.symm)
     .exact hc ⟨hr,by simp;lia⟩
    .rw[TD,Cs]
     exact zx.imp λ{a b} zw z=>zw (Np (by have:=congrArg AbE z;dsimp only at this;lia) (by have:=congrArg AbF z;dsimp only at this;lia))
    .have:=zl z hz
     unfold d_ at this ⊢
     lia
  rfl';refine⟨λe=>?_,λe=>?_⟩
  .have hr:G≠[]:=λz=>by subst z;cases e
   have zy:=Yd.mpr hr;rfl';refine c5 N.rb ?_;rw[Ao];rfl';refine⟨λe=>?_,λe=>?_⟩
   .have hd:done.length<Y:=by have:=Cq e;lia
    rfl';refine⟨pM N.rb,?_⟩;rfl';refine⟨pM N.ra,?_⟩;rfl';refine c5 N.ra ?_;rw[Ao];rfl';refine xO N.kp.pen li λr S7 I h7=>?_;have ra:=(I.same _ li li).trans N.ra;have rb:=(I.same _ zc li).trans N.rb;have v:r<G.length:=by lia
    rfl';refine IJ ra (by rw[Ao];exact v) li ?_
    rw[Qc,dW];rfl';have l7:=I.len;refine QY (i:=O.length+1) (by rw[Br li];exact rb) (by rw[Ao];unfold bn;lia) ?_
    rfl';refine YT (G.eraseIdx r).length (by rw[Xb,Bi v];lia) ⟨rfl,done++[G[r]],G.eraseIdx r,rfl,?_,?_,?_,by simp;lia,((N.kp.trans I).set E.kp.len _ li).set (by have:=E.kp.len;lia) _ li⟩
    .rw[Br li,Dk li]
    .rw[Dk (by rw[Uy];lia),Dl]
     rfl
    .rw[Cc]
     exact(Ig done (vG G r v)).trans N.perm
   .have hd:¬ done.length<Y:=λz=>by have:=Jm e;lia
    exact KO (ZN (zb λz=>hd z.2))
  .have hr:G=[]:=by cases G with|nil=>rfl|cons _ _=>cases e
   exact⟨(λz=>by cases z),λ_=>KO (ZN (zb λz=>z.1 hr))⟩
noncomputable def uw (n:Ag)(ar:Aa (Aa Pt))(p:Pt):Aa (Aa Pt):=ar++(ar.filter λl=>decide (l.length<n)).map λl=>l++[p]
def il (n:Ag)(ps:Aa Pt):Aa (Aa Pt):=ps.foldl (uw n) [[]]
theorem rN (n:Ag):∀ (k:Ag) (ps:Aa Pt),ps.length=k->Up ps->(∀ l,l∈il n ps↔l.length<=n/\Up l/\∀ x∈l,x∈ps)/\(il n ps).Nodup/\(il n ps).length<=2 ^ k
 |0,ps,O,_=>by
  have:ps=[]:=Iy.mp O;subst this;refine⟨λl=>?_,by simp[il],by simp[il]⟩
  constructor
  .intro h
   have:l=[]:=by simpa [il] using h
   subst this;simp
  .rintro⟨_,_,h⟩
   cases l with
   |nil=>simp[il]
   |cons x l=>exact absurd (h x (by simp)) (by simp)
 |k+1,ps,O,hu=>by
  rcases gD ps with rfl|⟨ps,p,rfl⟩
  .cases O
  .obtain⟨m,_,f⟩:=Ct.mp hu
   have I:∀ x∈ps,kf x p=true:=λx hx=>f x hx p (by simp)
   obtain⟨Y,E,s⟩:=rN n k ps (by simpa using O) m
   have e:il n (ps++[p])=uw n (il n ps) p:=by simp[il]
   rw[e];generalize il n ps=F at Y E s;refine⟨λl=>?_,?_,?_⟩
   .unfold uw
    rw[Bq];constructor
    .rintro (h|h)
     .obtain⟨g,z,N⟩:=(Y l).mp h
      exact⟨g,z,λx hx=>by simp[N x hx]⟩
     .obtain⟨Q,G,rfl⟩:=Ba.mp h
      obtain⟨G,i⟩:=Gw.mp G;obtain⟨g,z,N⟩:=(Y Q).mp G;have zb:Q.length<n:=by simpa using i
      refine⟨by simp;lia,?_,λx hx=>?_⟩
      .exact Ct.mpr ⟨z,by simp,λx hx y r=>by
        have:y=p:=by simpa using r
        subst this;exact I x (N x hx)⟩
      .rcases Bq.mp hx with hx|hx
       .simp[N x hx]
       .simp at hx;simp[hx]
    .rintro⟨T,o,u⟩
     rcases gD l with rfl|⟨Q,q,rfl⟩
     .exact .inl ((Y []).mpr ⟨by simp,by simp,by simp⟩)
     .obtain⟨b1,_,v⟩:=Ct.mp o
      have J:∀ x∈Q,kf x q=true:=λx hx=>v x hx q (by simp)
      by_cases d:q=p
      .subst d
       refine .inr (Ba.mpr ⟨Q,Gw.mpr ⟨(Y Q).mpr ⟨by simp at T;lia,b1,λx hx=>?_⟩,Bm (by simp at T;lia)⟩,rfl⟩)
       rcases Bq.mp (u x (by simp[hx])) with h|h
       .exact h
       .have:x=q:=by simpa using h
        exact absurd this (jG (J x hx))
      .have U:q∈ps:=by
        rcases Bq.mp (u q (by simp)) with h|h
        .exact h
        .exact absurd (by simpa using h) d
       refine .inl ((Y _).mpr ⟨T,o,λx hx=>?_⟩);rcases Bq.mp (u x hx) with h|h
       .exact h
       .have H:x=p:=by simpa using h
        rcases Bq.mp hx with hx|hx
        .have:=eX (J x hx) (I q U)
         exact absurd H (jG this)
        .have:x=q:=by simpa using hx
         rw[this];exact U
   .unfold uw
    rw[Gm];refine⟨E,?_,λa t b hb M=>?_⟩
    .unfold TD
     rw[Cs];exact(E.filter _).imp λh e=>h (List.append_cancel_right e)
    .subst M
     obtain⟨Q,G,rfl⟩:=Ba.mp hb;have:=((Y _).mp t).2.2 p (by simp)
     exact absurd rfl (jG (I p this))
   .unfold uw
    rw[By,Ao,Nat.pow_succ];have:=Ec (λl=>decide (l.length<n)) F
    lia
theorem B0 (n:Ag)(ps:Aa Pt)(p:Pt):il n (ps++[p])=uw n (il n ps) p:=by simp[il]
theorem aJ {f:DE}{S:ak}{b:As}(h:f env S=.ok (.bl b) S):zS (ci f) zN env S=.ok b S:=by
 unfold zS;rw[PN h];cases b <;> rfl
theorem SX (a:Ag)(S:ak):mj (.int (a:Aj)) (.int 4) S=.ok (.bl (decide (a<4))) S:=by
 show ba.ok (D.bl (decide ((a:Aj)<4))) S=_;rw[(Lc.mpr ⟨λh=>by lia,λh=>by lia⟩:decide ((a:Aj)<4)=decide (a<4))]
theorem DJ (a:Ag)(S:ak):jy (.int (a:Aj)) (.int 4) S=.ok (.bl (decide (a=4))) S:=by
 refine wN (qA0 ⟨?_,rfl⟩);rw[(Lc.mpr ⟨λh=>by lia,λh=>by lia⟩:decide ((a:Aj)=4)=decide (a=4))]
theorem iG (l:Aa Pt)(S:ak):xE [qE l] S=.ok (.int (l.length:Aj)) S:=by
 unfold qE;rw[<- Ao (f:=au)];rfl
noncomputable def ng:Ag->Aa Pt->Aa (Aa Pt)
 |0,_=>[[]]
 |_+1,[]=>[]
 |k+1,p::l=>(ng k l).map (λm=>p::m)++ng (k+1) l
theorem uU:∀ (k:Ag) {l:Aa Pt},Up l->∀ m,m∈ng k l↔m.length=k/\Up m/\∀ x∈m,x∈l
 |0,l,_,m=>by
  constructor
  .intro h
   have:m=[]:=by simpa [ng] using h
   subst this;simp
  .rintro⟨h,_⟩
   have:=Iy.mp h;subst this;simp[ng]
 |k+1,[],_,m=>by
  constructor
  .intro h
   simp[ng] at h
  .rintro⟨h,_,Q⟩
   cases m with
   |nil=>cases h
   |cons x _=>exact absurd (Q x (by simp)) (by simp)
 |k+1,p::l,u,m=>by
  obtain⟨N,G⟩:=Dx.mp u;rw[ng,Bq,uU (k+1) G m];constructor
  .rintro (h|⟨Y,Q,U⟩)
   .obtain⟨n,H,rfl⟩:=Ba.mp h
    obtain⟨I,z,E⟩:=(uU k G n).mp H;refine⟨by simp[I],Dx.mpr ⟨λx hx=>N x (E x hx),z⟩,λx hx=>?_⟩
    rcases Bc.mp hx with rfl|hx
    .simp
    .simp[E x hx]
   .exact⟨Y,Q,λx hx=>by simp[U x hx]⟩
  .rintro⟨Y,Q,U⟩
   cases m with
   |nil=>cases Y
   |cons q n =>
    obtain⟨O,M⟩:=Dx.mp Q;by_cases T:q=p
    .subst T
     refine .inl (Ba.mpr ⟨n,(uU k G n).mpr ⟨by simpa using Y,M,λx hx=>?_⟩,rfl⟩)
     rcases Bc.mp (U x (by simp[hx])) with rfl|h
     .exact absurd rfl (jG (O x hx))
     .exact h
    .have J:q∈l:=by
      rcases Bc.mp (U q (by simp)) with h|h
      .exact absurd h T
      .exact h
     refine .inr ⟨Y,Q,λx hx=>?_⟩;rcases Bc.mp (U x hx) with rfl|h
     .rcases Bc.mp hx with rfl|hx
      .exact J
      .exact absurd rfl (jG (eX (N q J) (O x hx)))
     .exact h
theorem rQ:∀ (k:Ag) {l:Aa Pt},Up l->(ng k l).Pairwise λa b=>mf a b=true
 |0,l,_=>by simp[ng]
 |k+1,[],_=>by simp[ng]
 |k+1,p::l,u=>by
  obtain⟨J,Q⟩:=Dx.mp u;rw[ng,Ct];refine⟨?_,rQ (k+1) Q,λa Y b U=>?_⟩
  .rw[Cs]
   exact(rQ k Q).imp λh=>lH h [p]
  .obtain⟨n,_,rfl⟩:=Ba.mp Y
   obtain⟨G,_,N⟩:=(uU (k+1) Q b).mp U;cases b with
   |nil=>cases G
   |cons q b =>
    have:=J q (N q (by simp))
    simp only[mf,Bh (jG this)];exact this
theorem X1 (Q:Up bt):pG (((il 4 bt).filter λl=>decide (l.length=4)).map qE)=(ng 4 bt).map qE:=by
 obtain⟨Y,U,_⟩:=rN 4 bt.length bt rfl Q;have up:=rQ 4 Q;refine o8 (n:=2) (λx J=>?_) (List.Perm.map _ ((Sg ?_ ?_).mpr λl=>?_)) ?_
 .obtain⟨l,_,rfl⟩:=Ba.mp J
  exact C4 0 l
 .exact up.imp λ{a b} h e=>by
   subst e;rw[WE h] at h;cases h
 .exact U.filter _
 .rw[uU 4 Q,Gw,Y]
  constructor
  .rintro⟨a,b,c⟩
   exact⟨⟨by lia,b,c⟩,by simpa using a⟩
  .rintro⟨⟨a,b,c⟩,d⟩
   exact⟨by simpa using d,b,c⟩
 .rw[Cs]
  exact up.imp λh=>by rw[lI];exact WE h
theorem UC {xs Q:Aa D}(h:xs.length+Q.length<=bn)(S:ak):zP (.lst xs) (.lst Q) S=.ok (.lst (xs++Q)) S:=Bi h
inductive R_ (pts:Aa Pt)(S:ak)(ds:Aa D)(env:qB)(S':ak):Prop
 |mk (ps qs:Aa Pt) (e3:An D) (h_0:S'=S) (h_1:env=[Ab (.tup (pts.map au)),Ab (.int 4),Ab (.lst ((il 4 ps).map qE)),e3]) (h_2:ps++qs=pts) (h_3:ds=qs.map au):R_ pts S ds env S'
theorem JX (bt:Aa Pt)(hp:bt.length<=16)(T:Up bt)(S:ak):di [.tup (bt.map au),.int 4] S=.ok (.lst ((ng 4 bt).map qE)) S:=by
 have big:∀ ps Y,ps++Y=bt->(il 4 ps).length<=65536/\∀ l∈il 4 ps,l.length<=50:=λps Y e=>by
  have G:ps.length<=bt.length:=by have:=congrArg Mc e;simp at this;lia
  have up:Up ps:=by rw[<- e] at T;exact(Ct.mp T).1
  obtain⟨a,_,c⟩:=rN 4 ps.length ps rfl up;refine⟨Ch c (Ch (Xh li (Ch G hp)) (by decide)),λl G=>?_⟩
  have:=((a l).mp G).1
  lia
 have O:Rt (dh [Ab (.tup (bt.map au)),Ab (.int 4),none,none] S) λd Q=>d=.lst ((ng 4 bt).map qE)/\Q=S:=by
  unfold dh;have I:1<=bn:=by decide
  have v:0<=bn:=by decide
  refine YC (WN (qQ (d:=.lst [qE []]) (SV (XC (YK (as:=[]) rfl v)) I) ?_));simp only[List.set_cons_succ,Yu];refine YC (FQ (o:=none) (ds:=bt.map au) (S1:=S) rfl ?_);refine hX (R_ bt S) (λds env Q h=>?_) ?_ ?_ ⟨[],bt,none,rfl,rfl,rfl,rfl⟩
  .obtain⟨ps,Y,N,rfl,_,_,_⟩:=h
   trivial
  .rintro d ds env Q ⟨ps,Y,N,rfl,rfl,U,J⟩
   cases Y with
   |nil=>cases J
   |cons q Y =>
    injection J with M z
    subst M z;refine⟨[Ab (.tup (bt.map au)),Ab (.int 4),Ab (.lst ((il (4) ps).map qE)),Ab (au q)],Q,rfl,?_⟩;obtain⟨r,H⟩:=big ps _ U;have E:=nP (cq:=qE) (bu:=[none,Ab 1,Ab 3]) (fi:=ge (q9 2)) (g:=bi 0) (t:=zS (ci (d2 mj (qM xE (q8 (q9 0) qA)) (q9 1))) zN) (fe:=d2 zP (q9 0) (zD (q8 (q9 2) qA))) (env:=[Ab (.tup (bt.map au)),Ab (.int 4),Ab (.lst ((il (4) ps).map qE)),Ab (au q)]) (S:=Q) (o:=none) rfl trivial (λl=>decide (l.length<4)) (λl=>qE (l++[q])) (λenv=>∃ a,env=[a,Ab (.int 4),Ab (au q)]) ⟨none,rfl⟩ (by unfold bn;lia)
     (λl G env ⟨a,e⟩=>by
      subst e;refine⟨[Ab (qE l),Ab (.int 4),Ab (au q)],rfl,⟨_,rfl⟩,aJ ((t9 ((t7 (a:=qE l) rfl).trans (iG l Q)) rfl).trans (SX _ _)),λ_=>?_⟩;exact(t9 (a:=qE l) rfl (YK (XC (a:=au q) rfl) I)).trans (X0 l q Q (H l G)))
    have e:(il (4) ps).map qE++((il (4) ps).filter λl=>decide (l.length<4)).map (λl=>qE (l++[q]))=(il (4) (ps++[q])).map qE:=by
     rw[B0];unfold uw;rw[Dl,Dj];rfl
    have u:((il (4) ps).map qE).length+(((il (4) ps).filter λl=>decide (l.length<4)).map (λl=>qE (l++[q]))).length<=bn:=by
     rw[Ao,Ao];have:=Ec (λl=>decide (l.length<4)) (il (4) ps);unfold bn
     lia
    refine WN (qQ ((t9 (a:=.lst ((il (4) ps).map qE)) rfl E).trans (UC u Q)) ?_);rw[e];exact⟨ps++[q],Y,Ab (au q),rfl,rfl,by rw[<- U];simp,rfl⟩
  .rintro env Q ⟨ps,Y,N,rfl,rfl,U,J⟩
   cases Y with
   |cons _ _=>cases J
   |nil =>
    have:ps=bt:=by simpa using U
    subst this;obtain⟨r,H⟩:=big ps [] (by simp)
    have E:=nP (cq:=qE) (bu:=[none,Ab 1]) (fi:=ge (q9 2)) (g:=bi 0) (t:=zS (ci (d2 jy (qM xE (q8 (q9 0) qA)) (q9 1))) zN) (fe:=q9 0) (env:=[Ab (.tup (ps.map au)),Ab (.int 4),Ab (.lst ((il (4) ps).map qE)),N]) (S:=Q) (o:=none) rfl trivial (λl=>decide (l.length=4)) qE (λenv=>∃ a,env=[a,Ab (.int 4)]) ⟨none,rfl⟩ (by unfold bn;lia)
     (λl G env ⟨a,e⟩=>by
      subst e;exact⟨[Ab (qE l),Ab (.int 4)],rfl,⟨_,rfl⟩,aJ ((t9 ((t7 (a:=qE l) rfl).trans (iG l Q)) rfl).trans (DJ _ _)),λ_=>rfl⟩)
    refine HF (qQ (d:=.lst ((ng 4 ps).map qE)) (S:=Q) ((t7 E).trans ?_) ⟨rfl,rfl⟩);have hs:w5 [.lst (((il (4) ps).filter λl=>decide (l.length=4)).map qE)] Q=.ok (.lst (pG (((il (4) ps).filter λl=>decide (l.length=4)).map qE))) Q:=by
     refine Bi ?_;rw[Az,Cf];refine⟨?_,?_⟩
     .rw[Ao]
      have:=Ec (λl=>decide (l.length=4)) (il (4) ps)
      lia
     .refine Bb.mpr λx f=>?_
      obtain⟨l,G,rfl⟩:=Ba.mp f;have p:l.length=4:=by simpa using (Gw.mp G).2
      rw[Az,Az];refine⟨⟨?_,oB 4 l⟩,Bb.mpr λy k=>?_⟩
      .cases l with
       |nil=>cases p
       |cons _ _=>rfl
      .obtain⟨m,_,rfl⟩:=Ba.mp k
       exact m9 l m
    rw[hs,X1 T]
 obtain⟨d,Q,e,rfl,rfl⟩:=O;rw[j6];exact HH rfl e
def sw (p:Pt):Pt:=(p.2,p.1)
def wc (p:Pt):Pt:=(-p.2,p.1)
structure uj (g:Pt->Pt):Prop where
 dst:∀ p q,bj (g p) (g q)=bj p q
 bx:∀ p,d_ 1000 p->d_ 1000 (g p)
theorem XZ:uj sw:=⟨λp q=>by unfold sw bj;exact Int.add_comm _ _,λp h=>by unfold d_ sw at *;dsimp only;lia⟩
theorem i8:uj wc:=⟨λp q=>by unfold wc bj;dsimp only;generalize p.1=a;generalize p.2=b;generalize q.1=c;generalize q.2=d;grind,λp h=>by unfold d_ wc at *;dsimp only;lia⟩
theorem uj.fs {g:Pt->Pt}(h:uj g):∀ l:Aa Pt,bg (l.map g)=bg l
 |[]=>rfl
 |p::l=>by
  rw[Df,xD,xD,h.fs l,Dj]
  congr 1
  exact Dy λq _=>h.dst p q
theorem uj.lt {g:Pt->Pt}(h:uj g){M:Ag}{l:Aa Pt}(L:nh M l):nh M (wJ (l.map g)):=by
 refine QU (λz=>L.ne (Yg.mp z)) (by rw[Ao];exact L.len) (Cs.mpr ((r9 L.up).imp λ{a b} Q e=>?_)) λq Y=>?_
 .have:=wV Q
  rw[<- h.dst,e] at this;unfold bj at this
  lia
 .obtain⟨p,J,rfl⟩:=Ba.mp Y
  exact h.bx p (L.box p J)
theorem uj.tb {g:Pt->Pt}(h:uj g)(l:Aa Pt):tbl (bg (wJ (l.map g)))=tbl (bg l):=by
 rw[pI (bH (xR _)),h.fs]
theorem RB {Q:D->ak->Prop}{g:Pt->Pt}{fe:DE}{l:Aa Pt}{S:ak}(N:l.length<=40)(J:∀ p:Pt,fe [Ab (.int p.1),Ab (.int p.2)] S=.ok (au (g p)) S)(q:Q (.lst ((l.map g).map au)) S):Ok (qW false [none,none] (ge (q9 0)) (nq 2 (x8 (bi 0) (x8 (bi 1) yT))) zN (z0 fe) [Ab (qE l)] S) Q:=by
 refine yN l (λp=>au (g p)) (λenv Y=>Y=S/\∃ a b,env=[a,b]) (QL rfl) ⟨rfl,none,none,rfl⟩ (by unfold bn;lia) (λ_ _ _=>trivial) (λp O env Y ⟨U,a,b,G⟩=>?_) λenv Y ⟨U,_⟩=>?_
 .subst U G
  exact⟨_,Y,rfl,true,Y,rfl,rfl,_,Y,J p,rfl,rfl,_,_,rfl⟩
 .subst U
  rw[show (l.map λp=>au (g p))=(l.map g).map au by rw[Dj];rfl]
  exact q
section
variable {Q:D->ak->Prop}{S:ak}{M:Ag}{l:Aa Pt}
theorem IG (c:Cl)(Y:M<=40)(h:nh M l)(q:Q (qE (wJ (l.map sw))) S):Ok (fx c [qE l] S) Q:=by
 have J:=h.len;rw[pU];refine zC (env:=[Ab (qE l)]) rfl ?_;rfl';refine qQ (u7 c S (nE l) (gU Y h)) ?_;rfl';refine RB (g:=sw) li (λp=>rfl) ?_;rfl';refine n6 (by rw[Ao];lia) ?_
 rfl';exact q
theorem RE (c:Cl)(Y:M<=40)(h:nh M l)(q:Q (qE (wJ (l.map wc))) S):Ok (c_ c [qE l] S) Q:=by
 have J:=h.len;rw[uK];refine zC (env:=[Ab (qE l)]) rfl ?_;rfl';refine qQ (u7 c S (nE l) (gU Y h)) ?_;rfl';refine RB (g:=wc) li (λp=>rfl) ?_;rfl';refine n6 (by rw[Ao];lia) ?_
 rfl';exact q
end
theorem WX (l:Aa Pt):pl zH (qE l)=true:=by
 show ((l.map au).all (pl 29))=true;rw[Ff];exact Bb.mpr λp _=>rfl
theorem DM (a b:Aa Pt)(S:ak):jy (qE a) (qE b) S=.ok (.bl (decide (a=b))) S:=by
 unfold jy;rw[WX,WX,Bi (show (true&&true)=true from rfl)]
 show ba.ok (D.bl (zE (a.map au) (b.map au))) S=_;rw[tI]
theorem WM (l:Aa Pt)(q:Pt)(S:ak):g9 (au q) (qE l) S=.ok (.bl (!decide (q∈l))) S:=by
 have e:sx (au q) (qE l)=Ab (decide (q∈l)):=by
  show (if ((l.map au).all (pl zH)&&pl zH (au q))=true then Ab ((l.map au).any λx=>e_ x (au q)) else none)=_
  rw[show ((l.map au).all (pl zH))=true from by rw[Ff];exact Bb.mpr λp _=>rfl,Bi (show (true&&pl zH (au q))=true from rfl)]
  congr 1
  rw[Jw,Il,Cf];constructor
  .rintro⟨x,Y,e⟩
   obtain⟨p,J,rfl⟩:=Ba.mp Y;rw[bF,Cf] at e;rw[<- e];exact J
  .intro Q
   exact⟨au q,Rh Q,by rw[bF];exact Bm rfl⟩
 unfold g9;rw[e]
theorem L9 {p q:Pt}(Q:p≠q):(io p q).Nodup:=by
 obtain⟨a,b⟩:=p;obtain⟨c,d⟩:=q;have h:¬(a=c/\b=d):=λz=>Q (Np z.1 z.2);simp only[io,Jv,Bc,Do,Gy,AbB,not_false_eq_true,Mp,and_true]
 lia
theorem X6 {p q:Pt}(hp:d_ 200 p)(Y:d_ 200 q):∀ z∈io p q,d_ 1000 z:=by
 intro z Q;simp only[io,Bc,Do,Gy] at Q;unfold d_ at *;rcases Q with rfl|rfl|rfl|rfl <;> lia
theorem X7 {p q:Pt}(Q:p≠q):wJ (io q p)≠wJ (io p q):=by
 intro e;have k:=((xR (io q p)).symm.trans (e▸xR (io p q))).mem_iff (a:=(q.1-(p.2-q.2),q.2+(p.1-q.1)));obtain⟨a,b⟩:=p;obtain⟨c,d⟩:=q;have h:¬(a=c/\b=d):=λz=>Q (Np z.1 z.2);have k:=k.mp (.tail _ (.tail _ (.head _)));simp only[io,Bc,Do,Gy,AbB] at k
 lia
theorem SG (S:ak):kZ (.bl true) (.bl true) S=.ok (.bl false) S:=by kernel_rfl!
theorem SD (S:ak):eK (.bl true) (.bl true) S=.ok (.bl true) S:=by kernel_rfl!
theorem IK {Q:D->ak->Prop}(c:Cl){p q:Pt}{S:ak}(Y:p≠q)(hp:d_ 200 p)(y:d_ 200 q)(k:∀ u,S<+:u->Q (.bl true) u):Ok (bv c [au p,au q] S) Q:=by
 have N:=X6 hp y;have T:=X6 y hp;have J:=xR (io p q);have L:nh 4 (wJ (io p q)):=QU (by simp[io]) (Av 4) (L9 Y) N
 have E:(wJ (io p q)).length=4:=J.length_eq;have U:tbl (bg (wJ (io p q)))=[[bj p q,4],[2*bj p q,2]]:=by rw[pI (bH J),rV,cN _ (wV Y)]
 have d:=OD Y L.up J.symm;have x:p∈wJ (io p q):=J.mem_iff.mpr (.head _);have a:q∈wJ (io p q):=J.mem_iff.mpr (.tail _ (.head _));have g:=X7 Y;have o:∀ z,d_ 1000 z->bp c [au z] S=.ok .non S:=λz s=>pY c S (Z8 z) (by rw[lA];exact Bm s)
 have H:=N p (.head _);have M:=N q (.tail _ (.head _));have O:∀ m:Aa Pt,m.length=4->tbl (bg m)=[[bj p q,4],[2*bj p q,2]]->(decide (m.length=4)&&vt (tbl (bg m)))=true:=λm i v=>by
  rw[i,v];exact Bm rfl
 rw[yK];refine zC (env:=[Ab (au p),Ab (au q),none,none]) rfl ?_;rfl';refine WS c Y N ?_;rfl';rw[fO];refine zC (env:=[Ab (au p),Ab (au q)]) rfl ?_;rfl';refine qQ (o p H) ?_;rfl';refine qQ (o q M) ?_;rfl';refine GV H M ?_;refine OT ?_;generalize wJ (io p q)=l at *;rfl';refine jI c li L λS1 n=>?_;rw[O l E U];rfl';refine qQ (SG S1) ?_;rfl';refine lL c li L λe f=>?_;rw[U];rfl';refine qQ (R3 _ [[bj p q,4],[2*bj p q,2]] e) ?_;rw[Bm rfl];rfl';refine IC c li L λG t=>?_;rw[d];rfl';refine qQ (SG G) ?_;rfl';refine tZ ?_;rfl';refine qQ (WM l p G) ?_;rw[Bm x];rfl';refine⟨(λz=>by cases z),λ_=>tZ ?_⟩
 rfl';refine qQ (WM l q G) ?_;rw[Bm a];rfl';refine⟨(λz=>by cases z),λ_=>?_⟩
 rfl';refine WS c (Gb Y) T ?_;rfl';refine qQ (DM _ _ G) ?_;rw[Co g];rfl';refine QX ?_;rfl';refine RE c li L ?_;rfl';refine jI c li (i8.lt L) λb h=>?_;rw[O _ (by rw[(xR _).length_eq,Ao,E]) (by rw[i8.tb,U])]
 rfl';refine qQ (SD b) ⟨_,rfl,λ_=>?_,λz=>by cases z⟩
 rfl';refine IG c li L ?_;rfl';refine jI c li (XZ.lt L) λI r=>?_;rw[O _ (by rw[(xR _).length_eq,Ao,E]) (by rw[XZ.tb,U])]
 rfl';refine qQ (SD I) ?_;exact k I ((((n.trans f).trans t).trans h).trans r)
theorem mF (p:Pt):∀ (l:Aa Pt) (x:Aj),x∈bg (l++[p])↔x∈bg l\/∃ q∈l,x=bj q p
 |[],x=>by simp[bg,xV]
 |a::l,x=>by
  rw[Ld,xD,xD,Bq,Bq,mF p l x,Dl,Bq];constructor
  .rintro ((h|h)|h|⟨q,hq,e⟩)
   .exact .inl (.inl h)
   .exact .inr ⟨a,.head _,Cz.mp h⟩
   .exact .inl (.inr h)
   .exact .inr ⟨q,.tail _ hq,e⟩
  .rintro ((h|h)|⟨q,hq,e⟩)
   .exact .inl (.inl h)
   .exact .inr (.inl h)
   .rcases Bc.mp hq with rfl|hq
    .exact .inl (.inr (Cz.mpr e))
    .exact .inr (.inr ⟨q,hq,e⟩)
def U9 (l:Aa Pt)(p:Pt):As:=l.all λq=>(bg l).contains (bj q p)
theorem K9 {l:Aa Pt}{p:Pt}(h:wI l=2):xU (l++[p])=U9 l p:=by
 unfold xU U9;rw[Jw,Cf,Bb];constructor
 .intro k q Q
  rw[Qh];by_cases z:bj q p∈bg l
  .exact z
  .have:=tV (L:=bj q p::kg (bg l)) (G:=kg (bg (l++[p]))) (Jv.mpr ⟨λy=>z (xX.mp y),bL _⟩) λs hs=>xX.mpr ((mF p l s).mpr ((Bc.mp hs).elim (λe=>.inr ⟨q,Q,e⟩) λm=>.inl (xX.mp m)))
   unfold wI at h k;rw[Bv] at this
   lia
 .intro k
  rw[<- h];refine tV (bL _) λs hs=>xX.mpr ?_;rcases (mF p l s).mp (xX.mp hs) with m|⟨q,Q,rfl⟩
  .exact m
  .exact Qh.mp (k q Q)
def fE (b:Aa Pt)(L:Aa (Aa Pt)):Aa (Aa Pt):=L.flatMap λl=>(b.filter λp=>U9 l p&&kf (vK l) p).map λp=>l++[p]
theorem eS (b:Aa Pt):∀ L:Aa (Aa Pt),(∀ l∈L,wI l=2)->(grow b L).filter xU=fE b L
 |[],_=>rfl
 |l::L,h=>by
  unfold grow fE;rw[Fb,Fb,Ip]
  congr 1
  .rw[List.filter_map,Rz]
   congr 2
   funext p
   show (xU (l++[p])&&_)=_;rw[K9 (h l (.head _))]
  .exact eS b L λm Q=>h m (.tail _ Q)
def uv (w h:Ag):As:=decide (((zB (qN w h) 1).length:Aj)=(w:Aj)*h*((w:Aj)*h-1)/2)&&((zB (qN w h) 2).all λl=>wI l == 2)&&decide (((fE (qN w h) (zB (qN w h) 2)).length:Aj)=xy w h (su w h))&&(grow (qN w h) (fE (qN w h) (zB (qN w h) 2))).all (λl=>!xU l)&&decide ((fE (qN w h) (zB (qN w h) 2)).length<=1000)
theorem qAb:∀ h,h<5->uv 1 (h+1)=true:=kd
theorem qAc:∀ h,h<5->uv 2 (h+1)=true:=kd
theorem qAd:∀ h,h<5->uv 3 (h+1)=true:=kd
theorem qAe:∀ h,h<5->uv 4 (h+1)=true:=kd
theorem qAf:∀ h,h<5->uv 5 (h+1)=true:=kd
structure Brd (w h:Ag):Prop where
 two:((zB (qN w h) 1).length:Aj)=(w:Aj)*h*((w:Aj)*h-1)/2
 tri:∀ l∈zB (qN w h) 2,wI l=2
 sq:((zB (qN w h) 3).length:Aj)=xy w h (su w h)
 fiv:zB (qN w h) 4=[]
 le:(zB (qN w h) 3).length<=1000
theorem B5.tb {h:Ag}(o:B5 w h):Brd w h:=by
 have k:uv w h=true:=by
  obtain⟨⟨E,I⟩,O,T⟩:=o;obtain⟨h,rfl⟩:∃ k,h=k+1:=⟨h-1,by lia⟩
  have:w=1\/w=2\/w=3\/w=4\/w=5:=by lia
  rcases this with rfl|rfl|rfl|rfl|rfl
  .exact qAb h li
  .exact qAc h li
  .exact qAd h li
  .exact qAe h li
  .exact qAf h li
 unfold uv at k;rw[Az,Az,Az,Az,Cf,Cf,Cf,Bb,Bb] at k;obtain⟨⟨⟨⟨U,N⟩,Y⟩,G⟩,J⟩:=k;have t:∀ l∈zB (qN w h) 2,wI l=2:=λl Q=>Rf.mp (N l Q);have e:zB (qN w h) 3=fE (qN w h) (zB (qN w h) 2):=eS _ _ t;refine⟨U,t,by rw[e];exact Y,?_,by rw[e];exact J⟩
 show (grow (qN w h) (zB (qN w h) 3)).filter xU=[];rw[e,Hu];intro l Q z;have:=G l Q;rw[z] at this;cases this
theorem hZ {Q:D->ak->Prop}{g g':G2}{U G J:DE}{S:ak}(h:Ok (U env S) λx S1=>Ok (G env S1) λy N=>Ok (g x y N) λz Y=>∃ b,xM z Y=Ab b/\(b=true->Ok (J env Y) λw O=>Ok (g' y w O) Q)/\(b=false->Q z Y)):Ok (w4 g g' U G J env S) Q:=
 qS (zI h λx S1 h=>qS (zI h λy N h=>qS (zI h λz Y ⟨b,e,T,E⟩=>by
  rw[e];cases b with
  |true=>exact qS (T rfl)
  |false=>exact⟨_,_,rfl,E rfl⟩)))
theorem M7 (L:Aa (Aa Pt)):pl zH (.lst (L.map qE))=true:=by
 show ((L.map qE).all (pl 29))=true;rw[Ff];refine Bb.mpr λl _=>?_;show ((l.map au).all (pl 28))=true;rw[Ff];exact Bb.mpr λp _=>rfl
theorem aW:∀ L:Aa (Aa Pt),zE (L.map qE) (L.map qE)=true
 |[]=>rfl
 |l::L=>by
  rw[Df,jX,aW L,Ka];show zE (l.map au) (l.map au)=true;rw[tI];exact Bm rfl
theorem FN (L:Aa (Aa Pt))(S:ak):im (.lst (L.map qE)) (.lst (L.map qE)) S=.ok (.bl false) S:=by
 unfold im;rw[M7,Bi (show (true&&true)=true from rfl)]
 show ba.ok (D.bl (!zE (L.map qE) (L.map qE))) S=_;rw[aW];rfl
theorem IM {Q:D->ak->Prop}{f:DE}{S:ak}(h:Ok (f env S) λd S1=>∃ xs Y:Aa D,bU d S1=Ab xs/\yC xs=Ab Y/\Q (.lst Y) S1):Ok (wL false f env S) Q:=qS (zI h λd S1 ⟨xs,Y,J,U,q⟩=>⟨_,_,by rw[J,Ub,U];rfl,q⟩)
theorem AY (a b:As)(S:ak):im (.bl a) (.bl b) S=.ok (.bl (a != b)) S:=by cases a <;> cases b <;> rfl
theorem I8 (p q:Pt)(S:ak):im (au p) (au q) S=.ok (.bl (!decide (p=q))) S:=by
 unfold im;rw[show pl zH (au p)=true from rfl,show pl zH (au q)=true from rfl,Bi (show (true&&true)=true from rfl),bF]
theorem eZ (S:ak):im (.lst []) (.lst []) S=.ok (.bl false) S:=by kernel_rfl!
theorem KY {h k:Ag}(o:B5 w h)(Q:k<=3){l:Aa Pt}(m:l∈zB (qN w h) k):nh 4 l:=by
 obtain⟨a,u,b,_⟩:=oP o (t5 m);exact⟨(λz=>by rw[z] at a;cases a),by lia,u,b⟩
theorem qAU {h:Ag}(o:B5 w h){l:Aa Pt}(m:l∈zB (qN w h) 3):(decide (l.length=4)&&vt (tbl (bg l)))=true:=by
 obtain⟨a,u,_,_⟩:=oP o (t5 m);rw[jF] at m;rw[YG u a,Bm a];exact(Gw.mp m).2
theorem C5 (c:Cl){w h:Ag}(o:B5 w h)(S:ak){env:qB}(h3:env[3]? = Ab (Ab (.int (w:Aj))))(v:env[4]? = Ab (Ab (.int (h:Aj)))):∃ Y,qW false [none] (ge (qD 3 (bz c) (q8 (q9 3) (q8 (q9 4) (q8 (dC (.int 3)) qA))))) (bi 0) (zS (ci (d2 im (qD 1 (l_ (cj c)) (q8 (q9 0) qA)) (dC (.int 2)))) zN) (z0 (q9 0)) env S=.ok (.lst []) Y/\S<+:Y:=by
 obtain⟨_,N,M,rfl,H⟩:=sY (Q:=λd Y=>d=.lst ((zB (qN w h) 2).map qE)/\S<+:Y) c o (k:=2) (S:=S) (by decide) rfl rfl rfl λY p=>⟨rfl,p⟩
 have G:ge (qD 3 (bz c) (q8 (q9 3) (q8 (q9 4) (q8 (dC (.int 3)) qA)))) env S=.ok (none,(zB (qN w h) 2).map qE) N:=by
  unfold ge;rw[(CO (c:=.int 3) (vR h3) (vR v) rfl).trans M];rfl
 have b:=o.tb;have q:=oQ o.len (k:=2) (by decide)
 have U:1<=(qN w h).length:=by
  rw[b8];exact Gd o.hw.1 o.hh.1
 obtain⟨y,O,I⟩:=X4 (cq:=qE) (bu:=[none]) (g:=bi 0) (t:=zS (ci (d2 im (qD 1 (l_ (cj c)) (q8 (q9 0) qA)) (dC (.int 2)))) zN) (fe:=q9 0) G trivial (λ_=>false) qE (λenv=>∃ a,env=[a]) ⟨none,rfl⟩ (Ch (Nat.le_mul_of_pos_right _ U) q)
  (λl E env Y ⟨a,e⟩ _=>by
   subst e;have k:Ok (zS (ci (d2 im (qD 1 (l_ (cj c)) (q8 (q9 0) qA)) (dC (.int 2)))) zN [Ab (qE l)] Y) λb N=>b=false/\Y<+:N:=by
    refine bQ ?_;rfl';refine R9 c li (KY o li E) λT J=>?_;rfl';have:=b.tri l E;unfold wI at this;rw[this];exact⟨(λz=>by cases z),λ_=>⟨rfl,J⟩⟩
   obtain⟨_,T,u,rfl,J⟩:=k;exact⟨[Ab (qE l)],T,rfl,⟨_,rfl⟩,u,J,λz=>by cases z⟩)
 rw[show (zB (qN w h) 2).filter (λ_=>false)=[] from Hu.mpr λ_ _ z=>by cases z] at O
 exact⟨y,O,H.trans I⟩
theorem UU (c:Cl)(nd:(Q1 c).Nodup)(G:Aa Aj)(Y:G.length<=63):∃ S,qL 10 (qd c) [.lst (G.map D.int)] [] = .ok (.bl true) S:=by
 have zx:Ok (qL 10 (qd c) [.lst (G.map D.int)] []) λd _=>d=.bl true:=by
  refine zC (env:=[Ab (.lst (G.map D.int)),none,none,none,none,none,none,none,none,none]) rfl ?_;unfold qd;array_get_dec;refine OU (T1 G Y 2 rfl λms=>?_);refine wK (λ_ env _=>∃ e1 e2 e3 e4 e5 O i t N,env=[Ab (.lst (G.map D.int)),e1,e2,e3,e4,e5,O,i,t,N]) ?_ ?_ ⟨_,_,_,_,_,_,_,_,_,rfl⟩
  .rintro y xs _ S ⟨e1,e2,e3,e4,e5,O,i,t,N,rfl⟩
   rfl';refine II λp S0 p0=>?_;rfl';refine xO p0 li λr1 S1 k1 h1=>?_;rfl';refine xO k1.pen li λr2 S2 k2 h2=>?_;obtain⟨w,H,hw⟩:∃ w:Ag,1+(r1:Aj)=(w:Aj)/\1<=w/\w<=5:=⟨1+r1,by lia,by lia,by lia⟩
   obtain⟨h,z2,hh⟩:∃ h:Ag,1+(r2:Aj)=(h:Aj)/\1<=h/\h<=5:=⟨1+r2,by lia,by lia,by lia⟩
   have o:B5 w h:=⟨hw,hh⟩;have I:=o.tb;have y3:0<=(w:Aj)*(h:Aj)/\(w:Aj)*(h:Aj)<=25:=by
    have:=Gd hw.2 hh.2;have e:(w:Aj)*(h:Aj)=((w*h:Ag):Aj):=by push_cast;rfl
    lia
   rfl';rw[H,z2];clear H z2 h1 h2;have J:∀ l∈zB (qN w h) 3,nh 4 l:=λl Y=>KY o li Y;have zb:∀ l∈zB (qN w h) 3,∀ q∈l,0<=q.1/\q.1<w/\0<=q.2/\q.2<h:=λl Y q s=>d9 ((oP o (t5 Y)).2.2.2 q s);have z3:∀ l∈zB (qN w h) 3,(decide (l.length=4)&&vt (tbl (bg l)))=true:=λl Y=>qAU o Y;have n:=KE (qAV w h 3) I.le (λl Y=>(J l Y).ne);have r:=I.sq;have y0:=I.le;have zz:=I.two;have zv:=I.fiv;clear I;refine sY c o (k:=3) (by decide) rfl rfl rfl λS3 p3=>?_
   generalize zB (qN w h) 3=L at *;rfl';refine IM ?_;rfl';refine⟨_,_,rfl,n,?_⟩;refine qQ (FN _ _) ?_;rfl';refine wK (cq:=qE) (λls env U=>U=S3/\(∀ l∈ls,l∈L)/\∃ O,env=[Ab (.lst (G.map D.int)),Ab (.int y),Ab (.loc p),Ab (.int (w:Aj)),Ab (.int (h:Aj)),Ab (.lst (L.map qE)),O,i,t,N]) ?_ ?_ ⟨rfl,λ_ h=>h,_,rfl⟩
   .rintro l ls _ _ ⟨rfl,E,O,rfl⟩
    have hm:=zb l (E l (.head _));have z5:=(J l (E l (.head _))).len;rfl';refine qQ (nP (xs:=l) (cq:=au) (QL rfl) trivial (λ_=>false) (λ_=>D.non) (λenv=>∃ a,env=[a,Ab (.int (h:Aj)),Ab (.int (w:Aj))]) ⟨none,rfl⟩ (by unfold bn;lia) λq s env ⟨a,e⟩=>?_) ?_
    .subst e
     have hb:=hm q s;refine⟨_,rfl,⟨_,rfl⟩,?_,λz=>by cases z⟩
     refine wN (bQ ?_);rfl';refine bQ ?_;rfl';refine hZ ?_;rfl';refine⟨λ_=>?_,λz=>absurd hb.1 (Jm z)⟩;rfl';rw[Bm hb.2.1];refine⟨λ_=>?_,λz=>by cases z⟩
     rfl';refine hZ ?_;rfl';refine⟨λ_=>?_,λz=>absurd hb.2.2.1 (Jm z)⟩;rfl';rw[Bm hb.2.2.2];exact⟨(λz=>by cases z),λ_=>⟨rfl,rfl⟩⟩
    rw[show l.filter (λ_=>false)=[] from Hu.mpr λ_ _ z=>by cases z]
    rfl';refine qQ (eZ _) ?_;rfl';exact wR ⟨rfl,λx h=>E x (.tail _ h),_,rfl⟩
   .rintro _ S3 ⟨rfl,_,O,rfl⟩
    array_get_dec;array_get_dec;array_get_dec;refine zI (Q:=λb U=>b=false/\S3<+:U) ?_ ?_
    .refine tZ ?_
     rfl';refine IH c o rfl rfl ?_;rw[Ao,<- r];rfl';rw[Bm rfl];refine⟨(λz=>by cases z),λ_=>?_⟩
     rfl';refine yN L (λ_=>.bl true) (λenv U=>S3<+:U/\∃ a,env=[a]) (SH rfl) ⟨Bd _,none,rfl⟩ (by unfold bn;lia) (λ_ _ _=>trivial) (λl Y env U ⟨H,a,z2⟩=>?_) λenv U ⟨H,_⟩=>?_
     .subst z2
      rfl';refine jI c li (J l Y) λS4 p4=>?_;exact⟨by rw[z3 l Y],H.trans p4,_,rfl⟩
     .rfl'
      refine sX ?_;rfl';rw[Bb.mpr λ_ _=>rfl];exact⟨rfl,H⟩
    rintro _ S4 ⟨rfl,p4⟩;rfl';refine sY c o (k:=4) (by decide) rfl rfl rfl λS5 p5=>?_
    rw[zv];rfl';refine qQ (eZ _) ?_;rfl';obtain⟨S6,q6,p6⟩:=C5 c o S5 (env:=[Ab (.lst (G.map D.int)),Ab (.int y),Ab (.loc p),Ab (.int (w:Aj)),Ab (.int (h:Aj)),Ab (.lst (L.map qE)),O,i,t,N]) rfl rfl;refine qQ q6 ?_;rfl';refine qQ (eZ _) ?_;rfl';refine sY c o (k:=1) (by decide) rfl rfl rfl λS7 p7=>?_
    generalize zB (qN w h) 1=L1 at *;rfl';rw[Ao,zz,Bm rfl];rfl';refine xO (lM k2.pen (((((p3.trans p4).trans p5).trans p6).trans p7))) li λa1 S8 k8 h8=>?_;rfl';refine xO k8.pen li λa2 S9 k9 h9=>?_;rfl';refine xO k9.pen li λa3 y4 zc z7=>?_;rfl';refine xO zc.pen li λa4 g z4 y1=>?_;array_get_dec;array_get_dec;array_get_dec;array_get_dec;array_get_dec;array_get_dec;array_get_dec;array_get_dec;obtain⟨u,eu,hu⟩:∃ u:Pt,D.tup [.int ((a1:Aj)-200),.int ((a2:Aj)-200)]=au u/\d_ 200 u:=⟨((a1:Aj)-200,(a2:Aj)-200),rfl,by unfold d_;dsimp only;lia⟩
    obtain⟨v,ev,hv⟩:∃ v:Pt,D.tup [.int ((a3:Aj)-200),.int ((a4:Aj)-200)]=au v/\d_ 200 v:=⟨((a3:Aj)-200,(a4:Aj)-200),rfl,by unfold d_;dsimp only;lia⟩
    rw[eu,ev];clear eu ev;refine zI (Q:=λb U=>b=false/\g<+:U) ?_ ?_
    .refine bQ ?_
     rfl';refine qQ (I8 u v g) ?_;rfl';refine⟨λz=>?_,λ_=>⟨rfl,Bd _⟩⟩;have z:u≠v:=by simpa using z
     rfl';refine IK c z hu hv λzl T=>?_;rfl';exact T
    rintro _ zl ⟨rfl,T⟩;rfl';refine IE p 9 li (lM z4.pen T) λm zy z6 M _=>?_;have ml:=M.len;rw[show qE m=.tup (m.map au) from rfl]
    rfl';refine qQ (JX m li M.up zy) ?_;have hc:=uU 4 M.up;generalize ng 4 m=C at *;rfl';refine wK (cq:=qE) (λfs env _=>(∀ f∈fs,f∈C)/\∃ N,env=[Ab (.lst (G.map D.int)),Ab (.int y),Ab (.loc p),Ab (.int (w:Aj)),Ab (.int (h:Aj)),Ab (.lst (L.map qE)),Ab (.tup (m.map au)),Ab (au u),Ab (au v),N]) ?_ ?_ ⟨λ_ h=>h,_,rfl⟩
    .rintro f fs _ zw ⟨hf,N,rfl⟩
     obtain⟨f4,fu,fm⟩:=(hc f).mp (hf f (.head _));have F:nh 4 f:=⟨(λz=>by rw[z] at f4;cases f4),by lia,fu,λq s=>M.box q (fm q s)⟩
     rfl';refine jI c li F λz8 ys=>?_;rfl';refine WO c li F λds zs y2 hd=>?_;rfl';refine qQ (AY _ _ zs) ?_;have e:(decide (f.length=4)&&vt (tbl (bg f)))=decide ((ds.length:Aj)<3):=by
      rw[YG fu f4,Bm f4,Xx,hd];exact Lc.mpr (show wI f<=2↔((wI f:Ag):Aj)<3 by lia)
     rw[e,sK];rfl';exact wR ⟨λx h=>hf x (.tail _ h),_,rfl⟩
    .rintro _ zw ⟨_,N,rfl⟩
     exact wR ⟨_,_,_,_,_,_,_,_,_,rfl⟩
  .rintro _ S ⟨e1,e2,e3,e4,e5,O,i,t,N,rfl⟩
   rfl';exact rfl
 obtain⟨d,U,e,rfl⟩:=zx;exact⟨U,e⟩
end _K
namespace _K
open _L _D
theorem FG {P:Bo}{w:Cd}{K:Ak}{mg:ah}{base:Cb}{c:Cl}(T:Txt K mg c)(nd:(Q1 c).Nodup)(hT:(SR.all λy=>(Er K y).isSome)=true):∃ F,rB P w K mg base true 9 "law" ["_law_script"] F/\∀ ns:Aa Aj,ns.length<=63->∃ S,F [.lst (ns.map D.int)] [] = .ok (.bl true) S:=by
 refine hv (λ_=>?_) (dq (cm:=true) P w base 0 0 T rfl ck uG ?_);refine hv (λ_=>?_) (dq (cm:=true) P w base 0 1 T rfl ck mY ?_);refine hv (λ_=>?_) (dq (cm:=true) P w base 0 2 T rfl ck pT ?_);refine hv (λ_=>?_) (dq (cm:=true) P w base 1 3 T rfl ck kU ?_);refine hv (λ_=>?_) (dq (cm:=true) P w base 0 4 T rfl ck kS ?_);refine hv (λ_=>?_) (dq (cm:=true) P w base 2 5 T rfl ck (j8 c) ?_);refine hv (λ_=>?_) (dq (cm:=true) P w base 2 6 T rfl ck pR ?_);refine hv (λ_=>?_) (dq (cm:=true) P w base 3 7 T rfl ck fP ?_);refine hv (λ_=>?_) (dq (cm:=true) P w base 3 8 T rfl ck (jW c) ?_);refine hv (λ_=>?_) (dq (cm:=true) P w base 4 9 T rfl ck (pV c) ?_);refine hv (λ_=>?_) (dq (cm:=true) P w base 0 10 T rfl ck j7 ?_);refine hv (λ_=>?_) (dq (cm:=true) P w base 4 11 T rfl ck (fO c) ?_);refine hv (λ_=>?_) (dq (cm:=true) P w base 1 12 T rfl ck uI ?_);refine hv (λ_=>?_) (dq (cm:=true) P w base 5 13 T rfl ck (kR c) ?_);refine hv (λ_=>?_) (dq (cm:=true) P w base 6 14 T rfl ck (lX c) ?_);refine hv (λ_=>?_) (dq (cm:=true) P w base 3 15 T rfl ck (pW c) ?_);refine hv (λ_=>?_) (dq (cm:=true) P w base 6 16 T rfl ck (kT c) ?_);refine hv (λ_=>?_) (dq (cm:=true) P w base 3 17 T rfl ck (uH c) ?_);refine hv (λ_=>?_) (dq (cm:=true) P w base 4 18 T rfl ck (kX c) ?_);refine hv (λ_=>?_) (dq (cm:=true) P w base 7 19 T rfl ck (kW c) ?_);refine hv (λ_=>?_) (dq (cm:=true) P w base 0 20 T rfl ck vE ?_);refine hv (λ_=>?_) (dq (cm:=true) P w base 1 21 T rfl ck pQ ?_);refine hv (λ_=>?_) (dq (cm:=true) P w base 2 22 T rfl ck mZ ?_);refine hv (λ_=>?_) (dq (cm:=true) P w base 3 23 T rfl ck uJ ?_);refine hv (λ_=>?_) (dq (cm:=true) P w base 5 24 T rfl ck (pS c) ?_);refine hv (λ_=>?_) (dq (cm:=true) P w base 5 25 T rfl ck (uK c) ?_);refine hv (λ_=>?_) (dq (cm:=true) P w base 5 26 T rfl ck (pU c) ?_);refine hv (λ_=>?_) (dq (cm:=true) P w base 0 27 T rfl ck kN ?_);refine hv (λ_=>?_) (dq (cm:=true) P w base 0 28 T rfl ck pP ?_);refine hv (λ_=>?_) (dq (cm:=true) P w base 0 29 T rfl ck kO ?_);refine hv (λ_=>?_) (dq (cm:=true) P w base 0 30 T rfl ck j3 ?_);refine hv (λ_=>?_) (dq (cm:=true) P w base 1 31 T rfl ck kQ ?_);refine hv (λ_=>?_) (dq (cm:=true) P w base 2 32 T rfl ck pO ?_);refine hv (λ_=>?_) (dq (cm:=true) P w base 0 33 T rfl ck j6 ?_);refine hv (λ_=>?_) (dq (cm:=true) P w base 7 34 T rfl ck (yK c) ?_);refine⟨_,dqP 8 35 T rfl ck ?_,UU c nd⟩
 all_goals
  intros
  repeat' first
   |with_reducible exact ck
   |((with_reducible show QE _ _ _);with_reducible first|apply aV|apply EF|apply O0|apply EI|apply aBt|apply aGi|apply aO|apply aN|apply EL|apply JP|apply MJ|(apply aB;first|apply qAH|apply qAG|apply OZ|apply CJ|apply NJ|apply CH|apply OX)|(apply aT;first|apply NK|apply CI|apply qAE)|apply aC|apply EM|apply EH|apply MM|apply EG|apply O6|apply JO|apply O7|apply ED|apply JM|apply EJ|apply O8|apply EK|apply EC|apply O1|apply EE|apply aA|(apply Z9;(case slot=>apply Jf);(case' hm=>first|apply KR))|(apply Z9;(case slot=>apply PySem.F.slot_list_append);(case' hm=>first|apply KP))|(apply Z9;(case slot=>apply PySem.F.slot_list_pop);(case' hm=>first|apply NI)))
   |((with_reducible show _=_);first|exact T.nb ck|with_reducible apply IN|with_reducible apply Us|with_reducible apply Ma|with_reducible apply Tv|with_reducible apply Wp|exact bP _|exact rfl|with_unfolding_all rfl)
   |((with_reducible show ip _ _ _);with_reducible first|apply OY|apply qAP|apply qAK|apply qAA|apply CG|apply qAJ|apply qAN|apply _l|apply _m|apply _o|apply _p|apply qAB|apply qAL|apply _q|apply _k|apply qAF|apply KQ|apply NG|apply qAI|apply qAC|apply qAD|apply NH)
   |((with_reducible show az _ _ _);first|assumption|exact az.mono (by assumption)|exact az.mono (az.any (by assumption))|exact az.mark (by assumption) _|exact az.mono (az.mark (by assumption) _))
   |((with_reducible show wn _ _ _ _);exact⟨rfl,rfl⟩)
   |((with_reducible show ym _ _ _ _ _ _ _ _ _ _);assumption)
   |with_reducible first|apply EB|apply Y3|apply iT|apply MF|apply EA|apply MT|apply MU|apply HB|apply HA|apply JV|(apply OB;first|apply iU|apply Y6|apply Y5|apply PD)|apply HC|apply iU|apply Y6|apply Y5|apply PD|apply aNm|apply ER|apply EO|apply JQ|apply MP|apply EU|apply JS|apply EV|apply MR|apply JR|apply ET|apply ES|apply MX|apply JW|apply MS|apply O9|apply H8|apply OA|apply MV|apply MW|apply EZ|apply JU|apply EY|apply aP2|apply qAM|apply _n|apply qAO|apply AH|apply IN|apply Us|apply Ma|apply Tv|apply Wp
   |((with_reducible apply aCs);case hsw=>exact rfl)
   |((with_reducible apply aSt);case hs=>exact rfl)
   |with_reducible apply EW
   |exact T.gi (by kernel_rfl)
   |((with_reducible show xi _ _ _ _);first|assumption|exact xi.tr (by assumption))
   |((with_reducible show LmX _ _ _ _ _ _ _ _ _ _);assumption)
   |((with_reducible show DfL _ _ _ _ _ _ _ _ _ _ _ _ _);assumption)
   |((with_reducible show LmK _ _);refine lmK hT (by assumption) ?_ rfl)
   |((with_reducible show ZF _ _ _ _);first|apply aFn|apply aFn0)
   |exact λ_=>⟨rfl,rfl,rfl⟩
   |(intro h;cases h;done)
   |((with_reducible show mw _);first|assumption|exact NN)
   |exact⟨rfl,rfl⟩
   |exact⟨rfl,rfl,rfl⟩
   |apply Y3
   |apply iT
   |decide
   |(intros;rfl)
   |(intro _ h;cases h <;> rfl)
   |intro _
end _K
namespace _K
open _L _D
variable {K:Ak}
theorem bdf:yn top tab:=by
 repeat (refine⟨?_,?_⟩;(intro _ _ _ _ _ _ Q h;first|(obtain⟨_,rfl⟩:=zt h;rfl)|(obtain⟨_,_,rfl⟩:=zr h;rfl)|(obtain⟨_,_,_,rfl⟩:=Z_ h;rfl)))
 exact trivial
theorem CQ {J Q Y U:Af}(q0:Fe K Di "FarError" = Ab (Ab (.ref J)))(q1:Fe K Di "NoPoint" = Ab (Ab (.ref Q)))(q2:Fe K Di "NoLot" = Ab (Ab (.ref Y)))(q3:Fe K Di "NoNumber" = Ab (Ab (.ref U))):oH K (ow ⟨J,Q,Y,U⟩):=⟨q0,q1,q2,q3,trivial⟩
theorem CU {B C L Y N J:Vq}(G:Fe K Di "LEAST_NUMBER" = Ab (Ab (.int (-1000) B)))(Q:Fe K Di "MOST_NUMBER" = Ab (Ab (.int (1000) C)))(g2:Fe K Di "MOST_POINTS_points" = Ab (Ab (.int (40) L)))(O:Fe K Di "MOST_SIDE" = Ab (Ab (.int (5) Y)))(T:Fe K Di "LEAST_POINTS" = Ab (Ab (.int (2) N)))(U:Fe K Di "MOST_POINTS_two" = Ab (Ab (.int (5) J))):oI K qt:=⟨⟨_,G⟩,⟨_,Q⟩,⟨_,g2⟩,⟨_,O⟩,⟨_,T⟩,⟨_,U⟩,trivial⟩
theorem SS {P:Bo}{w:Cd}{mg:ah}{c:Cl}{fa:Af}(T:Txt K mg c)(nd:(Q1 c).Nodup)(hT:(SR.all λy=>(Er K y).isSome)=true)(hfa:mg "law" = Ab (.ref fa)) :
  ∃ fd:Fu,(∀ (s:Ah) (v:Ad),Py s fd ⟨[v],[]⟩ [("_law_script",v)])/\∀ base:Cb,K.In base->base.Ns Di mg->mz P w K mg base (ni P w) 9 fa fd ["_law_script"] (sZ K):=
 FH (T.src 35 rfl) hfa (λkV doc pm an cdv ct s v=>.of_eq rfl) λbase=>FG T nd hT
end _K
namespace PySem.W.Fast
theorem tw10446542114214945165:True:=⟨⟩
theorem tw2243469412716124827:True:=⟨⟩
theorem tw11685058551552914485:True:=⟨⟩
theorem tw12345598671451871149:True:=⟨⟩
theorem tw14232942316521763541:True:=⟨⟩
theorem tw10431326302713808570:True:=⟨⟩
theorem tw3417870710589618353:True:=⟨⟩
theorem tw3551144166115365011:True:=⟨⟩
theorem tw12905354702923459281:True:=⟨⟩
theorem tw8678070001273667101:True:=⟨⟩
theorem tw17502036227870954765:True:=⟨⟩
theorem tw13419255061377409754:True:=⟨⟩
theorem tw11178279829556136528:True:=⟨⟩
theorem tw12912610547094495789:True:=⟨⟩
theorem tw13095381962464855451:True:=⟨⟩
theorem tw7010521427798902570:True:=⟨⟩
theorem tw4189311533302877688:True:=⟨⟩
theorem tw8113058112125402864:True:=⟨⟩
theorem tw8512210643659712592:True:=⟨⟩
theorem tw6494241469909043382:True:=⟨⟩
theorem tw5964735121029434389:True:=⟨⟩
theorem tw12305598111373061553:True:=⟨⟩
theorem tw18344188372566628663:True:=⟨⟩
theorem tw10869978051858628681:True:=⟨⟩
theorem tw7204858516648947494:True:=⟨⟩
theorem tw6986021408501875970:True:=⟨⟩
theorem tw17750265420497031327:True:=⟨⟩
theorem tw4194586891113762593:True:=⟨⟩
theorem tw10312514324433878429:True:=⟨⟩
theorem tw16101809479231906758:True:=⟨⟩
theorem tw6784053111285225821:True:=⟨⟩
theorem tw11386123773563592813:True:=⟨⟩
theorem tw7554224472354434238:True:=⟨⟩
theorem tw15079389023258804046:True:=⟨⟩
theorem tw3710619214824378213:True:=⟨⟩
theorem tw11502137663044319376:True:=⟨⟩
theorem tw5165828958629473096:True:=⟨⟩
theorem tw5859330500479668541:True:=⟨⟩
theorem tw12629718463924453682:True:=⟨⟩
theorem tw13814042164987672250:True:=⟨⟩
theorem tw17380242845026458519:True:=⟨⟩
theorem tw926081720002246243:True:=⟨⟩
theorem tw10728782051517406428:True:=⟨⟩
theorem tw13188124163166345818:True:=⟨⟩
theorem tw7358552367317368797:True:=⟨⟩
theorem tw15467921456670571848:True:=⟨⟩
theorem tw15008343072244986713:True:=⟨⟩
theorem tw10289151891312779021:True:=⟨⟩
theorem tw5947522019684120657:True:=⟨⟩
theorem tw856844345664019196:True:=⟨⟩
theorem tw10525716163196172182:True:=⟨⟩
theorem tw13333428990735353165:True:=⟨⟩
theorem tw6588310207148762685:True:=⟨⟩
theorem tw8829321419785819036:True:=⟨⟩
theorem tw4368080876148148742:True:=⟨⟩
theorem tw8071824662229940481:True:=⟨⟩
theorem tw14684129232856986104:True:=⟨⟩
theorem tw10609367694060785258:True:=⟨⟩
theorem tw9897760617558956930:True:=⟨⟩
theorem tw15762394573010582614:True:=⟨⟩
theorem tw997151423887558873:True:=⟨⟩
theorem tw15978472396565511029:True:=⟨⟩
theorem tw3972867677601650566:True:=⟨⟩
theorem tw14380822682753930659:True:=⟨⟩
theorem tw5635872944354563342:True:=⟨⟩
theorem tw13890260911699071347:True:=⟨⟩
theorem tw13277004331673442728:True:=⟨⟩
theorem tw3941060065325014039:True:=⟨⟩
theorem tw18188048583863895242:True:=⟨⟩
theorem tw10835978760512103334:True:=⟨⟩
theorem tw5792522243592230725:True:=⟨⟩
theorem tw4786557134184830907:True:=⟨⟩
theorem tw772994515784226801:True:=⟨⟩
theorem tw2512949195028290851:True:=⟨⟩
theorem tw4826214994024570728:True:=⟨⟩
theorem tw15326158357170470032:True:=⟨⟩
theorem tw4117442753616639128:True:=⟨⟩
theorem tw13342767801792849761:True:=⟨⟩
theorem tw2677862758588540188:True:=⟨⟩
theorem tw814166409029260216:True:=⟨⟩
theorem tw13824616518012768189:True:=⟨⟩
theorem tw10176497705249525145:True:=⟨⟩
theorem tw7398579614116744975:True:=⟨⟩
theorem tw17384967456763773455:True:=⟨⟩
theorem tw12343020114496790326:True:=⟨⟩
end PySem.W.Fast
open PySem.W
set_option maxRecDepth 100000 in
set_option maxHeartbeats 0 in
theorem PySem.Challenge.cw_fewdistances_k84_whole_lots_of_two_fars_holds : PySem.Challenge.rw_fewdistances_k84_whole_lots_of_two_fars.Holds := by
 w_on;o_law;k_head;(case hw=>w_witness2)
 k_fill
 refine _D.OW (l:=Qr) (k:=9) (x:="_law_script") rfl rfl ⟨rfl,by decide,by decide,rfl⟩ (λ_=>by kernel_rfl) (λw h Y=>Y) ?F
 case F =>
  intro w mg fa h KX G hmg
  refine' _K.SS (_D.OP _K.bdf ?hp rfl KX G ?s ?z (_K.CQ ?q0 ?q1 ?q2 ?q3) (_K.CU ?gi0 ?gi1 ?gi2 ?gi3 ?gi4 ?gi5) ?e1 ?e2 ?e3 ?e4 ?e5 ?e6) ?nd ?hT hmg
  (case s=>(repeat (refine' ⟨_D.u_.mk ?a ?l ?c ?k,?_⟩;(case a=>k_is);(case l=>k_is);(case c=>k_is);(case k=>k_is)));exact trivial)
  (case z=>rfl)
  (case q0=>k_is)
  (case q1=>k_is)
  (case q2=>k_is)
  (case q3=>k_is)
  (case gi0=>k_is)
  (case gi1=>k_is)
  (case gi2=>k_is)
  (case gi3=>k_is)
  (case gi4=>k_is)
  (case gi5=>k_is)
  (case hp=>intro y hy;revert hy;simp;grind)
  (case e1=>rfl)
  (case e2=>rfl)
  (case e3=>rfl)
  (case e4=>rfl)
  (case e5=>rfl)
  (case e6=>rfl)
  (case nd=>decide)
  (case hT=>rfl)
