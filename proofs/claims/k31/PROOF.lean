import PyProof.Rows.All
import Wide.All
import OpenK.AllK
import Wide.FinOn
import Lean
import PyProof.EqAt
import PyProof.EqKinds
import PyProof.TupleCall
import KE.KLam
import KE.KTryMore
import KE.KIsAll
import PyProof.NeKinds
import PyProof.Rows.CountFlat
import PyProof.Rows.FStr
import PyProof.ZipIter
import PyProof.EnumMake
import PyProof.EnumStmt
import KE.KDictLaws
import PyProof.DictWalks
import PyProof.Rows.SetFrom
import PyProof.SumWalkG
import PyProof.Rows.SumGenD
import PyProof.SeqI2
import KE.KItemsList
import PyProof.SetKind
import PyProof.TupleKey
import KE.KSortTup
import PyProof.ReprRoads
import PyProof.ReprBulk
import PyProof.TupleOfSeq
import PyProof.WalkInts
import PyProof.SeqI3
import PyProof.Rows.RuleDivmod
import PyProof.ListRange
import KE.KPairComp
import KE.KMinKey
import PyProof.Rows.CallKwBuiltin
import KE.KDictList
import PyProof.DictTruth
import PyProof.DictRoadsH
import PyProof.Rows.Range3
import PySem.Challenge.RW_fewdistances_k31_points_that_fit
set_option Elab.async false
set_option linter.all false
set_option maxRecDepth 100000
set_option maxHeartbeats 0
set_option tactic.hygienic false
set_option bootstrap.genMatcherCode false
set_option genSizeOf false
set_option compiler.extract_closed false
open Array renaming length_toList->Bp,getElem?_toList->Bq,getElem?_eq_some_iff->Dh,getElem?_eq_getElem->Ei,toList_append->El,toList_push->Eo,getD_eq_getD_getElem?->Fu,getD->Hc,toList_extract->Kx,size_extract->Lv,toList_reverse->Na,forIn_toList->Os,mem_toList_iff->Ql,perm_iff_toList_perm->Sl,getElem?_eq_none->Vp,size_map->WF,append_assoc->Yw,find?_toList->Yy,toList->Zl,toList_inj->AaO
open Bool renaming and_eq_true->Bj,false_eq_true->By,and_eq_true_iff->Dc,noConfusion->Dt,false_ne_true->Gx,false_and->He,not_eq_true'->Jg,and_false->Jx,eq_iff_iff->Kn,not_true->Kt,or_eq_true->Ny,true_and->Tl,not_false->WP,and_self->Yh,and_true->AbH
open Classical renaming byContradiction->Ge,choose->Qe,choose_spec->Qf
open False renaming elim->Aq
open ForInStep renaming yield->Qr
open Int renaming toNat_natCast->Fy,le_trans->Gi,le_of_lt->Hu,emod_lt_of_pos->Lu,emod_nonneg->NE,le_refl->Qh,lt_of_lt_of_le->Sf,toNat_of_nonneg->Yo,not_lt->Ab4
open List renaming getElem?_eq_getElem->An,length_map->Ap,mem_cons->Ax,length_cons->Ba,length_append->Bb,getElem?_eq_some_iff->Bd,size_toArray->Bh,getElem?_append_left->Bo,prefix_refl->Br,mem_append->Bv,mem_of_getElem?->Bw,getElem?_set_ne->Bz,all_eq_true->Ca,mem_cons_of_mem->Cd,append_assoc->Cg,mem_map->Ci,mem_append_right->Cj,mem_singleton->Cn,mem_iff_getElem->Cp,length_nil->Cu,range->Dd,not_mem_nil->Di,getElem?_append_right->Dk,mem_cons_self->Dm,mem_append_left->Dp,map_cons->Ds,getElem?_set_self->Dv,length_take->Dx,pairwise_append->Dz,pairwise_cons->Ea,getElem?_map->Ee,map_append->Eu,length_range->Ev,length_singleton->EQ,contains_iff_mem->Fa,mem_range->Fe,drop_eq_getElem_cons->Fi,take_of_length_le->Fl,length_drop->Gg,pairwise_map->Gp,append_nil->Gs,filterMap_cons->Gy,lookup_cons->Hr,length->Hv,find?_cons->Ia,nil_append->Ie,getD_eq_getElem?_getD->Ih,map_map->Il,extract_eq_take_drop->Iu,mem_of_find?_eq_some->Iw,zip_cons_cons->Ix,replicate->Ja,mem_of_mem_take->Jc,nodup_cons->Jf,getD->Jh,length_pos_iff->Jn,drop_eq_nil_of_le->Jp,getElem_mem->Jq,cons_append->Jv,find?_eq_none->Jz,perm_append_comm->Kj,all_map->Kl,nodup_append->Kr,pairwise_iff_getElem->Ks,mem_of_mem_drop->Ky,lookup->Ld,length_eq_zero_iff->Li,pairwise_singleton->Ln,mem_filterMap->Lp,prefix_append->Lr,any_cons->Lz,drop_of_length_le->Mb,flatMap_cons->Ms,map_id->Mt,find?_append->Mu,ext_getElem->Nd,getElem_map->Ng,reverse_append->Np,findSome?_cons->Nr,foldl_cons->Oa,find?_some->Og,getElem?_take_of_lt->Ol,filter_append->Ou,getElem?_replicate->Ow,getElem?_cons_succ->Pb,nodup_nil->Pg,range_succ_eq_map->Pq,getElem_inj->Pu,filter_cons->Px,getElem?_eq_none->Py,take_append_drop->Qi,of_mem_zip->Qq,eq_nil_of_length_eq_zero->Qu,map_congr_left->Rj,mem_map_of_mem->Rk,forIn_nil->Rq,all_cons->Tf,getElem_take->Ti,getElem_drop->Tj,getElem?_eq_none_iff->Ts,map_drop->Tv,length_erase_of_mem->TW,zipIdx_cons->Ug,map_fst_zip->Ui,any_eq_true->Um,forIn_cons->Vi,find?_cons_of_neg->Vk,length_pos_of_mem->Vn,length_zip->Vt,filter_eq_nil_iff->Vv,countP_mono_left->Wn,singleton_append->Wp,length_filter_le->Ws,mem_erase_of_ne->Xi,reverse_reverse->Xl,append_toArray->Ye,map_take->Yp,map_eq_nil_iff->Yq,lookup_append->Zf,getElem?_drop->Zg,mergeSort_nil->Zh,map_nil->Zo,any_map->Zr,ext_getElem?->Aa1,foldl_append->Aa5,nodup_range->AaL,countP_cons->AaN,mem_filter->AaQ,length_set->AaS,zipIdx_nil->AaV,Nodup->Ab1,take_zero->Ab7
open List.Pairwise renaming nil->Pi,imp_of_mem->TD
open List.Perm renaming append_right->Ju,append_left->Ki,refl->Mx,trans->Qw
open Nat renaming le_refl->Av,lt_of_lt_of_le->Bi,le_trans->Cs,ne_of_lt->Cw,le_of_ble_eq_true->De,lt_irrefl->Ex,le_of_lt->Fx,exists_eq_add_of_le->Ga,add_sub_cancel_left->Gv,ne_of_gt->Hd,zero_le->Hi,le_add_right->Hs,zero_add->Ik,lt_of_le_of_ne->Iy,lt_trans->Ji,add_le_add_left->Jm,pos_of_ne_zero->Ka,eq_zero_of_not_pos->Mc,not_lt->Me,le_of_lt_succ->Mm,add_lt_of_lt_sub'->Mp,one_pos->Mq,lt_or_ge->Mz,lt_succ_self->Nb,add_assoc->Nn,sub_lt->Nq,le_succ->Nz,min_eq_left->Of,lt_of_le_of_lt->Oq,add_sub_cancel->Ot,succ_pos->Pc,lt_trichotomy->Pl,add_comm->Qz,mod_lt->Rh,add_right_comm->Se,lt_succ_of_lt->Tn,lt_of_succ_lt->To,sub_pos_of_lt->Tp,min_eq_right->Ul,min_self->Ur,le_antisymm->Vq,le_add_left->Vs,add_le_of_le_sub'->Wq,le_of_sub_eq_zero->Wr,lt_sub_of_add_lt->Xj,add_le_add_right->Xk,mul_le_mul_right->Xm,add_sub_cancel'->Yl,le_of_eq->Zv,sub_self->Zw,le_of_not_lt->AaF,not_lt_zero->AaU,add_le_add->Ab6,mul_le_mul->Ab9
open Nat.succ renaming inj->AbN
open Ne renaming symm->Dw
open Option renaming some->Ab,bind_eq_some_iff->Ec,map_eq_some_iff->Em,map_some->Ko,isSome_iff_exists->Oh,bind_some->Qj,getD_some->Uf,isSome_some->Zd,isSome_map->u8,getD_none->AaD,none->AbR
open Option.some renaming inj->Dg
open Or renaming inr->AaG,inl->AbC
open PyProof.Rows renaming wpS_bind->Be,step_dedup->Bg,Keyed->Bm,wpS_pure->Bs,slot_tuple_getitem->Dy,seqObj->Ew,SortSt->Fw,wpS_forRange->Fz,envOfC->Hq,callWith_type1->Hw,wpS_mono->Ic,wpS_modify->Km,IntsAre->Lc,SortKind->Od,get?_update_seq->Oe,wpS_get->Pd,AllBare->Ps,callWith_builtin1->Qk,lt_int->Rb,entry_tuple_getitem->Rc,IsTup->Rm,slicePart_none->Rp,assignInOrder_cons->Sa,args_tuple_getitem->Sb,wpS_lift->So,subscriptTail->Sz,subscriptTail_builtinR->Vf,isBoolOf->Vl,gallopOf->Vr,tupleItemsOf_->Xt,Subscript_->Xw,assignInOrder_nil->Zz
open PyProof.Rows.F renaming plain_set_update_loop->Jt,entry_set_update_loop->Ob
open PyProof.Rows.IntsAre renaming int_at->Ry
open PyProof.Rows.IsTup renaming new->ZB
open PyProof.Rows.SortSt renaming mk'->Dl
open PySem renaming wpAny_bind->Ac,Value->Ad,Addr->Af,Shared->Ag,wpAny_pure->Ak,wpAny->Ao,Str->Ar,model->As,Program->Bc,Heap->Bk,Around->Bl,starEach->Bn,World->Bu,Expr->Cb,Obj->Co,mainGlobals->Ct,compareOp->Cy,intKind->Df,wpAny_holding->Dn,wpAny_newObj_type->Dq,wpAny_field->Du,wpAny_callSpecial?_slot->Eb,cLine->Ed,wpAny_call_entry->Eg,Comprehension->En,sizeLine_eq->Es,Stmt->Et,Pos->Fc,wpAny_mono->Fd,wpAny_seqItems->Fh,binaryOp->Fj,wpAny_setField_rec->Fn,Scope->Fq,SetTable->Gb,FuncData->Gd,backTo->Gm,foldedSetIterable->Gn,wpAny_pyIter_list->Go,wpAny_setState_of->Gq,bootBuiltins->Gr,codeAny_builtin->Gu,wpAny_rule->Gw,mem_of_lookup->Gz,wpAny_pyIter_tuple->Hl,assignEach->Ho,codeAny->Ht,ofAClassStatement->Hy,Builtin->HT,cellsFrom->Io,wpAny_attempt->Iq,sysModules->IN,NameKind->Je,Env->Jk,plainId_quiet->Jl,wpAny_forIn_list->Jo,wpAny_setField->Jw,wpAny_Call_Name_kw->Jy,IsPair->Kh,wpAny_typeOf->Kk,wpAny_standAt->Kq,argBest->Ku,rawInt->Kv,codeAny_call_builtin->Kw,Sem->Lb,wpAny_of_eq->Lf,wpAny_askSetting->Lg,letOwnedTupleGo->Lw,attributeBase->Lx,Model->Mf,excClassObj->Mj,wpAny_letGo->Mk,wpAny_loadPart_at->Mr,getItem->Mw,codeAny_mono->My,swappedStores->Ni,swapsWithSole->Nj,behindInMarks->Nk,wpAny_call->Nl,wpAny_passesOwn->Nu,sliceBounds->Nv,wpAny_specialOf->Nw,wpAny_updateSeq->Oc,pyNext->Pe,wpAny_tryCatch->Ph,swapsWith->Pj,wpAny_storeSet_of->Pm,BindsTo->Pv,wpAny_isInstance->Qc,hashByValue->Qg,wpAny_updateSeq_pair->Qn,wpAny_execs_nil->Qp,codeAny_of_tree->Qt,pickOrder->Qv,Within->Qx,pyIter->Qy,builtinsNs->Ra,IsTupleKey->Ri,recursionLimit->Ro,firstArgMember->Ru,IsZip->Rv,tupleKind_room_in1->Sc,Result->Si,wpAny_newFunctionEnv_cells->Sj,IsPart->Sk,Tok->Sr,wpAny_truthy_bool->Su,wpAny_sequenceKey->Sy,callerA->Ta,standAt->Tc,noteFrame->Td,wpAny_onRaise->Tg,setSearchFrom->Tk,wpAny_comprehension_free->Tx,noFill_tuple_add->Ud,checkBuiltinCall->Ue,tupleKeyHash->Uv,richCompare_meets_room->Vd,valueAt->Vg,wpAny_ite_split->Vo,tupleKind->Vy,PassesOwn->Vz,CmpOp->Wa,Arguments->Wb,codeAny_call_function->Wc,setFlight->We,IsEnum->Wi,argsOk->Wj,builtinLookup_eq_fast->Wl,wpAny_loadPart->Ww,wpAny_newTuple->Wx,isSubtype_stop->Wy,newFunctionEnv->Wz,isSubtype_type->Xa,repr_of_reads'->Xb,assignInOrder->Xo,bindL->Xq,bindC->Xr,seq_tuple_add->Xs,evalPart_none->Xu,typeLookup->Xv,call_meets->Xx,atKey->Xz,reduceHash->XV,OwnTail->Yb,isInstance->Yd,intKind_is->Yi,wpAny_setEntries_of->Yk,wpAny_newList->Ym,wpAny_isSubtype_exc->Yn,GenState->Yr,bindName->Ys,bindArgs->Yt,setState->Yu,PyData->Yv,concat_meets->Zn,ExcBaseFacts->Zx,wpAny_assign_Name->Zy,slot_list_getitem->sK,list_append->t0,lastMarks->v4,ClassData->wE,pushCells->wS,wpAny_pyIter_enum->wT,unaryOp->Aa9,richCompare->AaB,seqIndex_of->AaC,wpAny_alloc->AaK,setAdd->AaM,setField->AaT,compTurn->AaW,call->AaZ
open PySem.Around renaming under_plainId->Gc,under->Uo,frames_deeper->Xe
open PySem.AutoSeq1 renaming wpAny_loadPart'->Hk,sub_tuple_tuple->Tw
open PySem.Builtin.Builtins renaming bindParams->Ab8
open PySem.Builtin.Frozenset renaming sizeOf->Ua,updateFrom->Ab3,newClass->AbE
open PySem.Builtin.Getset_descriptor renaming descrCheckInstance->Va,descrNameAndClass->Vh,descrGetter->Yc,descrGet->Zq
open PySem.Builtin.List renaming listLengthHint->Rw,listExtendWith->Rx,listSameRef->Ub
open PySem.Builtin.ObjectAttr renaming bindTo->Te,dataDescriptor?->Zp,storeInOwnDict->Aa2,getOf->AbM,find->AbO
open PySem.Builtin.Slice renaming sliceAdjust->Ha,slicePlaces->Hb,sliceApplied->Kb,sliceFields->Sx
open PySem.Builtin.SmallTypes renaming nextOf->Eh,ownedTupleIsFree->Ez,ownedTupleHandOut->Hj
open PySem.Builtin.Tuple renaming tupleExact->Ft,tupleHashOf->Ip,tupleItemsOf->Kc,tupleCompareSizes->Pw
open PySem.Calls renaming evalArgs_plain->Qm,spliced_cons->Sd,Name_function_global->Sh,spliced_nil->Sw,call_function_entry->Tq,callWith_builtin->Vj
open PySem.Challenge renaming pw_fewdistances_k31_points_that_fit->Sm,rw_fewdistances_k31_points_that_fit->Sn
open PySem.Code renaming quiet_builtin->Op,isFrame->Zm,compLoop->AbJ
open PySem.EntryCells renaming newEntry->Ya
open PySem.F renaming plain_min_loop->Fm,called_set->Hm,excBase_ValueError->Ke,slot_tuple_iterator_next->Kg,attr_ValueError->Lj,slot_tuple_hash->Lo,entry_min_loop->Md,slot_enumerate_next->Ml,args_tuple_add_2->Om,entry_tuple_add->Ox,plainAttrs_dict->Pa,slot_tuple_add->Pp,slot_zip_next->Qs,args_tuple_iterator_next_1->Rf,slot_dict_setdefault->Rg,type_dict_setdefault->Rl,entry_tuple_iterator_next->Rr,slot_dict_values->Tz,type_list_append->Uc,args_tuple_lt_2->Uq,slot_list_count->Us,slot_list_index->Ut,args_enumerate_next_1->Uu,plain_list_iadd->Uw,plainAttrs_list->Ux,type_list_count->Uy,type_list_index->Uz,entry_tuple_lt->Ve,entry_enumerate_next->Vm,slot_tuple_lt->Wd,entry_bexc_ga->Wg,plain_set_new->Wk,slot_set_iter->Wm,args_list_append_2->Xg,args_bexc_ga->Xh,entry_list_append->Xy,slot_list_append->Zc,args_zip_next_1->wP,entry_zip_next->AaJ
open PySem.Heap renaming get?_push_of_some->Aj,lt_size->Az,get?_push_size->Bf,get?_update_other->Bt,get?_update_self->DL,size_push->Ep,SameBut->Fb,get?_none_of_le->Jb,MadeExcOf->Xc,IsTuple->Zs,get?_push_at->Aa3,IsList->AaI
open PySem.Heap.IsSliceOf renaming new->Zb
open PySem.Heap.SameBut renaming update->Ib,refl->Th
open PySem.IsL renaming update->AaE
open PySem.MeetsSeq renaming list_index->AbI,EqGives->AbQ
open PySem.NameKind renaming free->Ir,cell->Pz
open PySem.Obj renaming mapSeq->Fk,data_mapFields->Ls,mapFields->Ma,isFreed_of_fields->Mi,cls_mapFields->v6,putSet->Ab2
open PySem.P renaming add_list->AaH
open PySem.PyData renaming showable->Vu,leavesShortAll->Wt,showableAll->Zj,leavesShort->Zk,hasDictAll->Aa6,depthAll->AaY,bulkAll->AbA,hasDict->AbB,depth->AbP,bulk->AbS
open PySem.SeqAt.EqAt renaming bool_bool->AbD,same->AbG
open PySem.SetTable renaming insertAt->Ch,below->Cq,sizeAbove->Fo,grown->Hx,runEnd->Ig,insertAt_perm->Jr,fill->No,Probe->Pk,toList_insertAt->T0,tooFull->Uh,laid->Yf,fits->Yg,has->Zt,layClean->Aa0,slot->AbK
open PySem.SetTable.below renaming go->xL
open PySem.SetTable.layClean renaming free->Js
open PySem.SetTable.probe renaming go->Mn
open PySem.Shared renaming heap->Qb,TypeIs->Yj
open PySem.Str renaming ofString->Gh
open PySem.Value renaming ref->Cc,none->Dj,bool->Fv,type->Hn,builtin->Nm,int->Qo,str->Vw,notImplemented->Xf,isInt->Aa7,float->Aa8,isStrOf->AbF
open PySem.W renaming Frag->Ah,nsIn->Do,kia_one->Ej,tabIn->Ey,keepIn->Ff,fnOf->Gf,findIn->Hg,codeIn->Kz,exmOne->La,cellsFrom_some->Ly,kitOne->Mv,hideAll->Nt,nsMap_none_of_in->On,isNs_of_in->Oo,looks_findIn->Oy,tabObj->Rz,methodObj->Ss,kitx_list->Sv,mg_of->Tt,clsIn->Tu,instObj->Vc,looks_mroIn->Wf,lookIn->Wu,nsOkIn->Wv,hideAll_none->Xd,hideAll_get->Xn,mroIn->Xp,of_hideAll->Yx,kitx_tuple->Yz,codeRec_of->Za,callWith_K->Ze,hasDictIn->dL,specialIn->f8,kitx_dict->sB,plainGet->AaA,looks_clsIn->AaP,takesIn->AaR,OpenLaw->AaX,CodeHd->Ab5,WalkO->AbL
open PySem.Walks renaming list->Ab0
open PySem.Within renaming nil->Uj,cons->Aa4
open PySem.pickOrder renaming go->Zu
open Sum renaming inl->Im,inr->Vb
open Sum.inl renaming inj->Vx
open True renaming intro->Hz
open _root_ renaming List->Aa,Nat->Ai,Option->Al,Int->Am,Bool->Au,Array->Aw,if_pos->Ay,if_neg->AT,decide_eq_true_eq->Ce,of_decide_eq_true->Cf,decide_eq_true->Cz,decide_eq_false->Dr,if_true->Ef,if_false->Ek,String->Er,beq_self_eq_true->Fg,False->Fp,beq_eq_false_iff_ne->Gj,or_false->Gk,Decidable->Jd,decide_eq_false_iff_not->Jj,decide_true->Lh,decide_false->Ll,StateT->Nh,True->Ov,Unit->Po,beq_iff_eq->Re,DecidableEq->Sg,decide_eq_decide->Uk,not_or->Wh,decide_eq_true_iff->Zi
open PySem PySem.Spec PyProof.Rows
local macro_rules|`(tactic|fin2)=>`(tactic|omega)
abbrev aa:=Aa (Af × Co)
abbrev ae:=Ad->Ag->Prop
abbrev ag:=Aa Af
abbrev ah:=Ar->Al Ad
abbrev ai:=Aa Ad
noncomputable section
theorem om {p:Prop}(h:p:=by fin2):p:=h
theorem da {p:Prop}[Decidable p](h:p:=by decide):p:=h
theorem ak {p:Prop}(h:p:=by lia):p:=h
theorem a8 {p:Prop}(h:p:=by simp):p:=h
theorem li {p:Prop}(h:p:=by lia):p:=h
theorem kd {p:Prop}[Jd p](h:p:=by decide +kernel):p:=h
section
namespace _L
abbrev bz:=Sum Am Ar
def bY:bz->Ad->Au
 |.inl k,v=>Aa7 k v
 |.inr x,v=>AbF x v
noncomputable def _P (w:Bu):bz->Am
 |.inl k=>hashInt k
 |.inr x=>hashStr w x
theorem xH:∀ {k:bz} {v:Ad},bY k v=true->(∃ i t,k=Im i/\v=Qo i t)\/(∃ x t,k=Vb x/\v=Vw x t)
 |.inl i,v,h=>by
  obtain⟨t,e⟩:=Value.isInt_shape (k:=i) (v:=v) h;exact .inl ⟨i,t,rfl,e⟩
 |.inr x,v,h=>by
  obtain⟨t,e⟩:=Value.isStrOf_shape (x:=x) (v:=v) h;exact .inr ⟨x,t,rfl,e⟩
theorem Y8 (i:Am)(t:Sr):bY (.inl i) (.int i t)=true:=by simp[bY,Aa7]
theorem Y9 (x:Ar)(t:Sr):bY (.inr x) (.str x t)=true:=by simp[bY,AbF]
theorem RZ (a b:Am):decide ((Im a:bz)=Im b)=(a == b):=by
 by_cases e:a=b
 .subst e;simp
 .have h:¬ (Im a:bz)=Im b:=λq=>e (Vx q)
  rw[Dr h];exact(Gj.mpr e).symm
theorem E2 (a b:Ar):decide ((Vb a:bz)=Vb b)=decide (a=b):=by
 by_cases e:a=b
 .subst e;simp
 .have h:¬ (Vb a:bz)=Vb b:=λq=>e (Sum.inr.inj q)
  rw[Dr h,Dr e]
theorem E0 (a:Am)(b:Ar):decide ((Im a:bz)=Vb b)=false:=Dr (λq=>nomatch q)
theorem E1 (a:Ar)(b:Am):decide ((Vb a:bz)=Im b)=false:=Dr (λq=>nomatch q)
def zV (prog:Bc)(w:Bu):PySem.KeyKind prog w bz where
 is:=bY
 hash:=_P w
 inj:=λv a b J Y=>by
  rcases xH J with⟨i,t,rfl,rfl⟩|⟨x,t,rfl,rfl⟩
  .rcases xH Y with⟨j,u,rfl,e⟩|⟨y,u,rfl,e⟩
   .injection e with Q _;rw[Q]
   .exact nomatch e
  .rcases xH Y with⟨j,u,rfl,e⟩|⟨y,u,rfl,e⟩
   .exact nomatch e
   .injection e with Q _;rw[Q]
 byValue:=λk v h=>by
  rcases xH h with⟨i,t,rfl,rfl⟩|⟨x,t,rfl,rfl⟩ <;> rfl
 pyHash:=λhv h=>by
  rcases xH hv with⟨i,t,rfl,rfl⟩|⟨x,t,rfl,rfl⟩
  .exact wpAny_pyHash_int h
  .exact wpAny_pyHash_str h
 eqBool:=λU hv h=>by
  rcases xH U with⟨i,t,rfl,rfl⟩|⟨x,t,rfl,rfl⟩
  .rcases xH hv with⟨j,u,rfl,rfl⟩|⟨y,u,rfl,rfl⟩
   .rw[RZ] at h;exact wpAny_eqBool_int h
   .rw[E0] at h;exact SeqAt.EqAt.int_str i t y u _ _ _ _ h
  .rcases xH hv with⟨j,u,rfl,rfl⟩|⟨y,u,rfl,rfl⟩
   .rw[E1] at h;exact SeqAt.EqAt.str_int x t j u _ _ _ _ h
   .rw[E2] at h;exact wpAny_eqBool_str h
 «strs»:=λk x t v h=>by
  rcases xH h with⟨i,u,rfl,e⟩|⟨y,u,rfl,e⟩
  .exact nomatch e
  .injection e with Q _
   subst Q;cases v <;> rfl
theorem a9 (prog:Bc)(w:Bu)(i:Am)(t:Sr):(zV prog w).is (.inl i) (.int i t)=true:=Y8 i t
theorem aA (prog:Bc)(w:Bu)(x:Ar)(t:Sr):(zV prog w).is (.inr x) (.str x t)=true:=Y9 x t
end _L
namespace _L
inductive V where
 |non|bl (b:Au)|int (i:Am)|str (x:Ar)|byt (b:Aw UInt8)|flt (b:UInt64)|ref (a:Af)|ty (n:Er)
 deriving Sg
def qL:V->Ad->Prop
 |.non,u=>u=Dj
 |.bl b,u=>u=Fv b
 |.int i,u=>∃ t,u=Qo i t
 |.str x,u=>∃ t,u=Vw x t
 |.byt b,u=>∃ t,u=Value.bytes b t
 |.flt b,u=>∃ t,u=Aa8 b t
 |.ref a,u=>u=Cc a
 |.ty n,u=>u=Hn n
abbrev qQ:Aa V->Aa Ad->Prop:=Paired qL
theorem qQ.length (r:qQ xs us):xs.length=us.length:=Paired.length r
theorem qQ.get:∀ {xs:Aa V} {us:ai} {i:Ai} {x:V},qQ xs us->xs[i]? = Ab x->∃ u,us[i]? = Ab u/\qL x u
 |_,_,_,_,.nil,e=>by simp at e
 |_,_,0,_,.cons r _,e=>by simp at e;subst e;exact⟨_,rfl,r⟩
 |_,_,i+1,x,.cons _ t,e=>by
  obtain⟨u,Y,Q⟩:=qQ.get (i:=i) (x:=x) t (by simpa using e)
  exact⟨u,by simpa using Y,Q⟩
theorem qQ.set (r:qL x u):∀ {xs:Aa V} {us:ai} (i:Ai),qQ xs us->qQ (xs.set i x) (us.set i u)
 |_,_,_,.nil=>.nil
 |_,_,0,.cons _ t=>.cons r t
 |_,_,i+1,.cons q t=>.cons q (qQ.set r i t)
theorem qQ.append (h:qQ xs us)(s:qQ ys Q):qQ (xs++ys) (us++Q):=by
 induction h with
 |nil=>exact s
 |cons r t Y=>exact .cons r Y
theorem qQ.take:∀ {xs:Aa V} {us:ai} (n:Ai),qQ xs us->qQ (xs.take n) (us.take n)
 |_,_,0,_=>.nil
 |_,_,_+1,.nil=>.nil
 |_,_,n+1,.cons r t=>.cons r (qQ.take n t)
theorem qQ.drop:∀ {xs:Aa V} {us:ai} (n:Ai),qQ xs us->qQ (xs.drop n) (us.drop n)
 |_,_,0,r=>r
 |_,_,_+1,.nil=>.nil
 |_,_,n+1,.cons _ t=>qQ.drop n t
def yP:Al V->Al Ad->Prop
 |some v,Ab u=>qL v u
 |none,none=>Ov
 |_,_=>Fp
def KV {κ : Type}:Aa (κ × V)->Aa (κ × Ad)->Prop:=Paired λ(p:κ × V) (q:κ × Ad)=>p.1=q.1/\qL p.2 q.2
def kV:bz->V
 |.inl i=>.int i
 |.inr x=>.str x
inductive HO where
  |lst (xs:Aa V)
  |tup (xs:Aa V)
  |dK (kvs:Aa (bz × V))|dT (kvs:Aa (Aa bz × V))
  |set (S:Am->Au) (n:Ai)
  |ins (C dx:Af) (fs:Aa (Ar × V))
  |own (x:Af)
  |xd (fs:Aa (Ar × V))
  |met (f x:Af)
  |rng (lo hi:Am)
  |frz (o:Co) (u:HO)
  |tbl (ps:Aw Ad)
  |ext (φ : Bk->Prop)
abbrev Hp:=Af->Al HO
noncomputable def bw (H:Hp)(a:Af)(o:HO):Hp:=λb=>if b=a then Ab o else H b
theorem qT {a:Af}:bw H a o a=Ab o:=by unfold bw;rw[Ay rfl]
theorem qJ {a b:Af}(h:b≠a):bw H a o b=H b:=by unfold bw;rw[AT h]
theorem LK {a:Af}:bw (bw H a o) a u=bw H a u:=by
 funext b;unfold bw;split <;> rfl
theorem OH {H:Hp}{a b:Af}(h:H a=Ab o)(h':H b=Ab u)(d:o≠u):a≠b:=by
 intro e;subst e;rw[h] at h';exact d (Dg h')
theorem z0 {H:Hp}{a b:Af}(h:H a=Ab o)(h':H b=none):a≠b:=by
 intro e;subst e;rw[h] at h';cases h'
section
variable (P:Bc)(w:Bu)
def zC (H:Hp)(h:Bk)(a:Af):HO->Prop
 |.lst Y=>Y.length<=sizeLine/\∃ (G:ai) (n:Ai),qQ Y G/\h.get? a=Ab { cls:=.type "list",data:=.seq G.toArray n }
 |.tup Y=>Y.length<=sizeLine/\∃ G:Aa Ad,qQ Y G/\Rm h a G.toArray
 |.dK Q=>Q.length<=sizeLine/\(a == IN)=false/\∃ B,KV Q B/\h.DictOf (zV P w) a B
 |.dT Q=>Q.length<=sizeLine/\(a == IN)=false/\∃ Y:Aa (Aa bz × Af × Ad),
   Paired (λ(p:Aa bz × V) (q:Aa bz × Af × Ad)=>p.1=q.1/\H q.2.1=Ab (.tup (p.1.map kV))/\qL p.2 q.2.2) Q Y /\
   ∃ o T I,h.get? a=Ab o/\o.ExactDict/\o.data=.dict T I/\T.toList=Y.map (entryOfKey (Vy (zV P w)))/\(Y.map (·.1)).Nodup
 |.set S n=>h.SetOf (Df P w) a S n
 |.ins C N U=>H N=Ab (.own a)/\U.length<=1000/\N≠a/\h.get? a=Ab (Vc C N) /\
   ∃ J,h.Ns1 N J/\(∀ f,yP (U.lookup f) (J f))/\Qx J (U.map (·.1))
 |.own _=>∃ o,h.get? a=Ab o
 |.xd U=>∃ J,h.Ns1 a J/\∀ f,yP (U.lookup f) (J f)
 |.rng lo A=>∃ t u v,h.get? a=Ab { cls:=.type "range",data:=.fields #[.int lo t,.int A u,.int 1 v] }
 |.frz o u=>h.get? a=Ab o/\zC H h a u
 |.tbl E=>h.get? a=Ab { cls:=.none,data:=.fields E }
 |.met f x=>h.get? a=Ab (Ss (.ref f) (.ref x))
 |.ext φ => φ h/\(∃ o,h.get? a=Ab o)/\∀ L O:Bk,φ L->(∀ o,L.get? a=Ab o->O.get? a=Ab o)->φ O
def gt (H:Hp)(h:Bk):Prop:=∀ a o,H a=Ab o->zC P w H h a o
end
section
variable {P:Bc}{w:Bu}{H H':Hp}{h h':Bk}{a:Af}{o:HO}
theorem zC.lt (x:zC P w H h a o):a<h.objs.size:=by
 cases o with
 |lst J=>obtain⟨_,_,_,_,e⟩:=x;exact Az e
 |tup J=>obtain⟨_,_,_,p⟩:=x;exact p.lt
 |dK Q=>obtain⟨_,_,_,_,o,_,_,e,_⟩:=x;exact Az e
 |dT Q=>obtain⟨_,_,_,_,o,_,_,e,_⟩:=x;exact Az e
 |set S n=>obtain⟨o,_,_,_,e,_⟩:=x;exact Az e
 |ins C O Y=>obtain⟨_,_,_,e,_⟩:=x;exact Az e
 |own y=>obtain⟨_,e⟩:=x;exact Az e
 |xd Y=>obtain⟨_,⟨_,_,_,e,_⟩,_⟩:=x;exact Az e
 |rng lo G=>obtain⟨_,_,_,e⟩:=x;exact Az e
 |frz N u=>obtain⟨e,_⟩:=x;exact Az e
 |tbl U=>exact Az (show h.get? a=Ab _ from x)
 |met f y=>exact Az (show h.get? a=Ab _ from x)
 |ext φ => obtain⟨_,⟨_,e⟩,_⟩:=x;exact Az e
theorem Paired.mapP {α β:Type}{F G:α->β->Prop}{Q:Aa α}{Y:Aa β}(h:Paired F Q Y)(f:∀ a b,F a b->G a b):Paired G Q Y:=by
 induction h with
 |nil=>exact .nil
 |cons r t J=>exact .cons (f _ _ r) J
theorem zC.stay (x:zC P w H h a o)(k:∀ b u,(b=a\/H b=Ab (.own a))->h.get? b=Ab u->h'.get? b=Ab u)
  (M:∀ b,H b=Ab (.own a)->H' b=Ab (.own a)) (j:∀ b xs,H b=Ab (.tup xs)->H' b=Ab (.tup xs)):zC P w H' h' a o:=by
 induction o with
 |lst xs=>obtain⟨z,N,n,r,e⟩:=x;exact⟨z,N,n,r,k _ _ (.inl rfl) e⟩
 |tup xs=>obtain⟨z,N,r,Q,e,c⟩:=x;exact⟨z,N,r,Q,k _ _ (.inl rfl) e,c⟩
 |dK U=>obtain⟨z,y,L,r,Q,J,Y,e,c⟩:=x;exact⟨z,y,L,r,Q,J,Y,k _ _ (.inl rfl) e,c⟩
 |dT U =>
  obtain⟨z,y,xs,r,Q,J,Y,e,c⟩:=x;exact⟨z,y,xs,Paired.mapP r λp q z=>⟨z.1,j _ _ z.2.1,z.2.2⟩,Q,J,Y,k _ _ (.inl rfl) e,c⟩
 |set S n=>obtain⟨Q,J,Y,t,e,c⟩:=x;exact⟨Q,J,Y,t,k _ _ (.inl rfl) e,c⟩
 |ins C g I =>
  obtain⟨d,z,T,e,O,⟨G,J,Y,A,c⟩,r⟩:=x;exact⟨M _ d,z,T,k _ _ (.inl rfl) e,O,⟨G,J,Y,k _ _ (.inr d) A,c⟩,r⟩
 |own y=>obtain⟨Q,e⟩:=x;exact⟨Q,k _ _ (.inl rfl) e⟩
 |xd I=>obtain⟨O,⟨G,J,Y,e,c⟩,r⟩:=x;exact⟨O,⟨G,J,Y,k _ _ (.inl rfl) e,c⟩,r⟩
 |rng lo l=>obtain⟨t,u,v,e⟩:=x;exact⟨t,u,v,k _ _ (.inl rfl) e⟩
 |frz Q u E=>obtain⟨e,q⟩:=x;exact⟨k _ _ (.inl rfl) e,E q⟩
 |tbl B =>
  have e:h.get? a=Ab { cls:=.none,data:=.fields B }:=x;show h'.get? a=Ab { cls:=.none,data:=.fields B };exact k a _ (.inl rfl) e
 |met f y =>
  have e:h.get? a=Ab (Ss (.ref f) (.ref y)):=x;show h'.get? a=Ab (Ss (.ref f) (.ref y));exact k a _ (.inl rfl) e
 |ext φ => obtain⟨p,⟨o,e⟩,st⟩:=x;exact⟨st _ _ p λo q=>k _ _ (.inl rfl) q,⟨o,k _ _ (.inl rfl) e⟩,st⟩
theorem gt.lt (x:gt P w H h)(e:H a=Ab o):a<h.objs.size:=(x a o e).lt
theorem gt.fresh (x:gt P w H h)(e:h.objs.size<=a):H a=none:=by
 cases q:H a with
 |none=>rfl
 |some u=>exact absurd (Bi (x.lt q) e) (Ex _)
theorem gt.kept (x:gt P w H h)(k:∀ b u,h.get? b=Ab u->h'.get? b=Ab u):gt P w H h':=λa o e =>
 (x a o e).stay (λb u _ q=>k b u q) (λ_ q=>q) λ_ _ q=>q
theorem gt.laid (x:gt P w H h)(k:∀ b u,h.get? b=Ab u->h'.get? b=Ab u)(hp:h.objs.size<=a)(Q:zC P w (bw H a o) h' a o):gt P w (bw H a o) h':=λb u e=>by
 have Y:=x.fresh hp;by_cases J:b=a
 .subst J;rw[qT] at e;cases e;exact Q
 .rw[qJ J] at e
  exact(x b u e).stay (λc v _ q=>k c v q) (λc q=>by rw[qJ (z0 q Y)];exact q) λc U q=>by rw[qJ (z0 q Y)];exact q
end
def Rd (H:Hp)(a:Af)(u:HO):Prop:=H a=Ab u\/∃ o,H a=Ab (.frz o u)
theorem Rd.of {H:Hp}{a:Af}(h:H a=Ab u):Rd H a u:=.inl h
theorem Rd.ok {P:Bc}{a:Af}(r:Rd H a u)(x:gt P w H h):zC P w H h a u:=by
 rcases r with r|⟨o,r⟩
 .exact x a u r
 .obtain⟨_,q⟩:=x a _ r
  exact q
def xh:Al HO->Prop
 |some (.lst _)=>Ov
 |some (.dK _)=>Ov
 |some (.dT _)=>Ov
 |some (.set _ _)=>Ov
 |some (.ins _ _ _)=>Ov
 |some (.ext _)=>Ov
 |_=>Fp
section
variable {P:Bc}{w:Bu}{H:Hp}{h h':Bk}{x e:Af}{o':HO}
theorem gt.write (ok:gt P w H h)(N:xh (H x))(B:e=x\/H e=Ab (.own x))(k:∀ b u,b≠e->h.get? b=Ab u->h'.get? b=Ab u)(O:∃ u,h'.get? e=Ab u)
  (C:zC P w (bw H x o') h' x o'):gt P w (bw H x o') h':=λb u q=>by
 have Y:∀ c y,H c=Ab (.own y)->c≠x:=λc y r z=>by subst z;rw[r] at N;exact N
 have J:∀ c U,H c=Ab (.tup U)->c≠x:=λc U r z=>by subst z;rw[r] at N;exact N
 by_cases G:b=x
 .subst G;rw[qT] at q;cases q;exact C
 .rw[qJ G] at q
  by_cases Q:b=e
  .have L:H b=Ab (.own x):=by
    rcases B with z|z
    .exact absurd (Q.trans z) G
    .rw[Q];exact z
   rw[q] at L;cases L;obtain⟨v,hv⟩:=O;exact⟨v,by rw[Q];exact hv⟩
  .refine(ok b u q).stay (λc v hc r=>k c v ?_ r) (λc r=>by rw[qJ (Y c b r)];exact r) λc U r=>by rw[qJ (J c U r)];exact r
   rcases hc with rfl|hc
   .exact Q
   .rintro rfl
    rcases B with z|z
    .exact Y c b hc z
    .rw[hc] at z;cases z;exact G rfl
end
structure Un (fs ex:ag)(H H':Hp)(h h':Bk):Prop where
 keep:∀ b o,h.get? b=Ab o->H b=none->b ∉ fs->b ∉ ex->h'.get? b=Ab o
 slot:∀ b o,h.get? b=Ab o->H b=none->b∈fs->b ∉ ex->∃ sl,h'.get? b=Ab { o with slots:=sl }
 free:∀ b o,h.get? b=Ab o->H b=none->b ∉ ex->H' b=none
 there:∀ b o,h.get? b=Ab o->b ∉ ex->∃ o',h'.get? b=Ab o'
 tups:∀ b xs,H b=Ab (.tup xs)->H' b=Ab (.tup xs)
 frzs:∀ b o u,H b=Ab (.frz o u)->H' b=Ab (.frz o u)
 tbls:∀ b ps,H b=Ab (.tbl ps)->∃ more,H' b=Ab (.tbl (ps++more))
section
variable {fs ex:ag}{H H1 H2:Hp}{h h1 h2 h':Bk}{a x e:Af}{o:HO}
theorem Un.any (u:Un fs ex H H1 h h1){b:Af}{Q:Co}(q:h.get? b=Ab Q)(n:H b=none)(Y:b ∉ ex):∃ U,h1.get? b=Ab { Q with slots:=U }:=by
 by_cases J:b∈fs
 .exact u.slot b Q q n J Y
 .exact⟨Q.slots,u.keep b Q q n J Y⟩
theorem Un.trans (a:Un fs ex H H1 h h1)(b:Un fs ex H1 H2 h1 h2):Un fs ex H H2 h h2 where
 keep:=λc Y q n U Q=>b.keep c Y (a.keep c Y q n U Q) (a.free c Y q n Q) U Q
 slot:=λc Y q n U Q=>by
  obtain⟨E,J⟩:=a.slot c Y q n U Q;obtain⟨O,N⟩:=b.slot c _ J (a.free c Y q n Q) U Q;exact⟨O,N⟩
 free:=λc Y q n Q=>by
  obtain⟨C,J⟩:=a.there c Y q Q;exact b.free c C J (a.free c Y q n Q) Q
 there:=λc Y q Q=>by
  obtain⟨C,J⟩:=a.there c Y q Q;exact b.there c C J Q
 tups:=λc G q=>b.tups c G (a.tups c G q)
 frzs:=λc Y G q=>b.frzs c Y G (a.frzs c Y G q)
 tbls:=λc L q=>by
  obtain⟨T,J⟩:=a.tbls c L q;obtain⟨B,N⟩:=b.tbls c _ J;exact⟨T++B,by rw[N,Yw]⟩
theorem Un.kept (k:∀ b u,h.get? b=Ab u->h'.get? b=Ab u):Un fs ex H H h h':=
 ⟨λb Q q _ _ _=>k b Q q,λb Q q _ _ _=>⟨Q.slots,k b Q q⟩,λ_ _ _ n _=>n,λb Q q _=>⟨Q,k b Q q⟩,λ_ _ q=>q,λ_ _ _ q=>q,λ_ Y q=>⟨#[],by rw[q];simp⟩⟩
theorem Un.refl:Un fs ex H H h h:=Un.kept λ_ _ q=>q
theorem Un.laid (k:∀ b u,h.get? b=Ab u->h'.get? b=Ab u)(hp:h.objs.size<=a)(Q:H a=none):Un fs ex H (bw H a o) h h' where
 keep:=λb u q _ _ _=>k b u q
 slot:=λb u q _ _ _=>⟨u.slots,k b u q⟩
 free:=λb u q n _=>by rw[qJ (Cw (Bi (Az q) hp))];exact n
 there:=λb u q _=>⟨u,k b u q⟩
 tups:=λb Y q=>by rw[qJ (z0 q Q)];exact q
 frzs:=λb u Y q=>by rw[qJ (z0 q Q)];exact q
 tbls:=λb J q=>⟨#[],by rw[qJ (z0 q Q),q];simp⟩
theorem Un.write (Y:xh (H x))(O:e=x\/H e=Ab (.own x))(k:∀ b u,b≠e->h.get? b=Ab u->h'.get? b=Ab u)(J:∃ u,h'.get? e=Ab u):Un fs ex H (bw H x o) h h':=by
 have G:∀ b,H b=none->b≠x:=λb n z=>by subst z;rw[n] at Y;exact Y
 have N:∀ b,H b=none->b≠e:=λb n z=>by
  subst z;rcases O with r|r
  .exact G b n r
  .rw[n] at r;cases r
 have U:∀ b u,H b=Ab u->¬ xh (Ab u)->b≠x:=λb u q B z=>by subst z;rw[q] at Y;exact B Y
 refine⟨λb u q n _ _=>k b u (N b n) q,λb u q n _ _=>⟨u.slots,k b u (N b n) q⟩,λb u q n _=>by rw[qJ (G b n)];exact n,λb u q _=>?_,
  λb C q=>by rw[qJ (U b _ q λz=>z)];exact q,λb u C q=>by rw[qJ (U b _ q λz=>z)];exact q,λb L q=>⟨#[],by rw[qJ (U b _ q λz=>z),q];simp⟩⟩
 by_cases Q:b=e
 .subst Q;exact J
 .exact⟨u,k b u Q q⟩
end
noncomputable def x_ (h:Bk)(H:Hp):Aa Af:=(Dd h.objs.size).filter λa=>(H a).isSome
def gV (h:Bk)(H:Hp):Bk:=Nt h (x_ h H)
theorem WX (h:Bk)(H:Hp):(gV h H).objs.size=h.objs.size:=PySem.W.hideAll_size _ _
theorem JQ {h:Bk}{H:Hp}{b:Af}(e:h.get? b=Ab o)(n:H b=none):(gV h H).get? b=Ab o:=
 Xn _ e λQ=>by
  have q:(H b).isSome=true:=(AaQ.mp Q).2;rw[n] at q;simp at q
theorem N1 {b:Af}(e:(gV h H).get? b=Ab o):h.get? b=Ab o/\H b=none:=by
 have Q:h.get? b=Ab o:=Yx (x_ h H) e;refine⟨Q,?_⟩;cases q:H b with
 |none=>rfl
 |some x =>
  have Y:b∈x_ h H:=AaQ.mpr ⟨Fe.mpr (Az Q),by simp[q]⟩
  have z:(gV h H).get? b=none:=Xd (x_ h H) Y;rw[z] at e;cases e
noncomputable def F4 (g h:Bk)(L:Af):Aa (Af × Co):=(Dd h.objs.size).filterMap λa=>if a=L\/(g.get? a).isSome=true then none else (h.get? a).map λo=>(a,o)
def qG (g h:Bk)(L d:Af):Aa (Af × Co):=(F4 g h L).filter λp=>decide (p.1≠d)
end _L
namespace _L
variable {ch:ag}{E:ae}{t':Ai}{g':Aw Yr}{d':Drawn}{M:Mf}{Q:Po->Ag->Prop}
noncomputable def vO:Aa Ar:=["law","_law_right","by_hull","pair_bound","hub","greatest_often"]
def D1 (mg:ah)(h:Bk):Prop:=∃ Y o,mg "__builtins__" = Ab (.ref Y)/\Y≠Ra/\h.get? Y=Ab o/\o.cls=.type "module" /\ o.dict=Ab Ra/\o.data=.plain
structure Mod (K:Ah)(mg:ah)(base:Bk):Prop where
 kin:K.In base
 glob:base.Ns Ct mg
 blt:∃ mb,base.Ns Ra mb/\∀ x:Ar,x ≠ "__name__" -> mb x=Gr x
 nolimit:base.NoLimit
 bm:D1 mg base
 code:∀ x∈vO,∀ c T,Ey K x=Ab (c,T)->Ab5 base c T
 inj:∀ x∈vO,∀ y∈vO,∀ c d T,Ey K x=Ab (c,T)->Ey K y=Ab (d,T)->x=y
structure Cx where
 prog:Bc
 w:Bu
 K:Ah
 mg:Ar->Al Ad
 base:Bk
 A:Bl
 N:Aa Ar
 s₀:Ag
 H₀:Hp
 env:Jk
 outer:Aa Jk
 stack:Aa Jk
 ex:Aa Af
 fn:Ar->Au
 calm:Au
 pn:Aa (Af × Co)
 xe:Ad->Ag->Prop
noncomputable def gx (l:Aa Jk):Aa Af:=l.filterMap (·.frame)
abbrev Cx.fs (X:Cx):Aa Af:=gx X.outer
def ow (Y:Fq)(x:Ar):Prop:=Y.names.lookup x=Ab .local \/ Y.names.lookup x=Ab .cell\/Y.names.lookup x=Ab .free
def Loc (Y:Fq)(x:Ar):Prop:=Y.names.lookup x=Ab .local \/ Y.names.lookup x=Ab .cell
def D3 (al:Jk)(h:Bk)(m:ah)(x:Ar)(u:Ad):Prop:=
 (al.kindOf x=Ab .local /\ m x=Ab u)\/((al.kindOf x=Ab .cell\/al.kindOf x=Ab .free)/\∃ c,al.cells.lookup x=Ab c/\h.IsCell c (Ab u))
structure Cx.Ok (X:Cx):Prop where
 mod:Mod X.K X.mg X.base
 kind:X.env.scope.kind=.function
 glob:X.env.globals=Ct
 blt:X.env.builtins=Ra
 above:X.s₀.heap.objs.size<=X.env.locals
 inj:∀ x y c,X.env.cells.lookup x=Ab c->X.env.cells.lookup y=Ab c->x=y
 has:∀ x,(X.env.kindOf x=Ab .cell\/X.env.kindOf x=Ab .free)->∃ c,X.env.cells.lookup x=Ab c
 cab:∀ x c,X.fn x=true->X.env.cells.lookup x=Ab c->X.s₀.heap.objs.size<=c
 hd:X.calm=true->X.A.handled=none
 frames:X.A.frames=Ab X.stack
 stk:X.stack=X.outer\/(X.stack=X.env::X.outer/\X.env.frame=Ab X.env.locals)
 exf:∀ b∈X.ex,b≠X.env.locals/\∀ x c,X.env.cells.lookup x=Ab c->c≠b
 bs:∀ b o,X.base.get? b=Ab o->X.s₀.heap.get? b=Ab o/\X.H₀ b=none
 bsz:X.base.objs.size<=X.s₀.heap.objs.size
 noex:∀ b o,X.base.get? b=Ab o->b ∉ X.ex
 exfs:∀ b∈X.ex,b ∉ X.fs
 funs:X.s₀.heap.FunFrames X.base X.outer
 frf:∀ b∈X.fs,X.H₀ b=none
structure Inv (X:Cx)(pins:aa)(σ : Aa (Al V))(H:Hp)(s:Ag):Prop where
 ok:X.Ok
 os:s.os=X.s₀.os
 bare:Ps s.gens
 base:Un X.fs X.ex X.H₀ H X.s₀.heap s.heap
 loc:∃ m,s.heap.Ns X.env.locals m/\∀ (i:Ai) (x:Ar) (v:V),X.N[i]? = Ab x->σ[i]? = Ab (Ab v)->ow X.env.scope x->∃ u,qL v u/\D3 X.env s.heap m x u
 cell:∀ x c,X.env.cells.lookup x=Ab c->∃ v,s.heap.IsCell c v
 free:H X.env.locals=none
 freeC:∀ x c,X.env.cells.lookup x=Ab c->H c=none
 pin:∀ p∈X.pn++pins,s.heap.get? p.1=Ab p.2/\H p.1=none/\p.1≠X.env.locals/\p.1 ∉ X.fs/\∀ v,p.2.data≠.cell v
 hok:gt X.prog X.w H s.heap
 len:σ.length=X.N.length
section
variable {X:Cx}{aj:aa}{σ: Aa (Al V)}{H H':Hp}{s:Ag}{h':Bk}
theorem Cx.Ok.nofr (ok:X.Ok){b:Af}{o:Co}(e:X.base.get? b=Ab o):b ∉ X.fs:=λY=>by
 have:=(ok.funs.mem Y).1;rw[e] at this;cases this
theorem Inv.bs (I:Inv X aj σ H s):∀ b o,X.base.get? b=Ab o->s.heap.get? b=Ab o/\H b=none:=λb o e =>
 ⟨I.base.keep b o (I.ok.bs b o e).1 (I.ok.bs b o e).2 (I.ok.nofr e) (I.ok.noex b o e),I.base.free b o (I.ok.bs b o e).1 (I.ok.bs b o e).2 (I.ok.noex b o e)⟩
theorem Inv.bk (I:Inv X aj σ H s):∀ b o,X.base.get? b=Ab o->s.heap.get? b=Ab o:=λb o e=>(I.bs b o e).1
theorem Inv.mod (I:Inv X aj σ H s):Mod X.K X.mg X.base:=I.ok.mod
theorem Inv.kIn (I:Inv X aj σ H s):X.K.In s.heap:=I.ok.mod.kin.keeps I.bk
theorem Inv.nolimit (I:Inv X aj σ H s):s.heap.NoLimit:=I.ok.mod.nolimit.keeps I.bk
theorem Inv.lt (I:Inv X aj σ H s):X.env.locals<s.heap.objs.size:=let ⟨_,Y,_⟩:=I.loc;Y.lt
theorem Inv.sz (I:Inv X aj σ H s):X.s₀.heap.objs.size<=s.heap.objs.size:=Cs I.ok.above (Fx I.lt)
theorem Inv.nofs (I:Inv X aj σ H s){a:Af}(h:s.heap.objs.size<=a):a ∉ X.fs:=λJ=>by
 obtain⟨_,o,Y,_⟩:=I.ok.funs.mem J;exact absurd (Bi (Az Y) (Cs I.sz h)) (Ex _)
theorem Inv.cne (I:Inv X aj σ H s):∀ x c,X.env.cells.lookup x=Ab c->c≠X.env.locals:=λx c e z=>by
 obtain⟨v,o,G,U⟩:=I.cell x c e;obtain⟨m,⟨N,O,C,Y,J,_⟩,_⟩:=I.loc;rw[z,Y] at G;cases G;rw[J] at U;cases U
theorem Inv.funs (I:Inv X aj σ H s):s.heap.FunFrames X.base X.outer:=by
 have Y:∀ (l:Aa Jk),(∀ b∈gx l,b∈X.fs)->X.s₀.heap.FunFrames X.base l->s.heap.FunFrames X.base l:=by
  intro l
  induction l with
  |nil=>intro _ _;trivial
  |cons y r j =>
   intro N A;obtain⟨O,⟨L,o,G,T,w,B⟩,C⟩:=A;have J:L∈X.fs:=N L (by unfold gx;rw[Gy,G];exact Dm)
   obtain⟨k,e⟩:=I.base.slot L o w (I.ok.frf L J) J λz=>I.ok.exfs L z J;exact⟨O,⟨L,_,G,T,e,B⟩,j (λb U=>N b (by unfold gx;rw[Gy,G];exact Cd _ U)) C⟩
 exact Y X.outer (λ_ U=>U) I.ok.funs
theorem Inv.stack (I:Inv X aj σ H s):s.heap.FunFrames X.base X.stack:=by
 rcases I.ok.stk with e|⟨e,J⟩
 .rw[e];exact I.funs
 .rw[e]
  obtain⟨m,Y,_⟩:=I.loc;refine .cons (by rw[I.ok.kind];decide) J Y ?_ I.funs
  exact Jb (Cs I.ok.bsz I.ok.above)
theorem Inv.stkSub (I:Inv X aj σ H s):∀ b∈gx X.stack,b∈X.env.locals::X.fs:=λb Y=>by
 rcases I.ok.stk with e|⟨e,J⟩
 .rw[e] at Y;exact Cd _ Y
 .rw[e] at Y
  unfold gx at Y;rw[Gy,J] at Y;exact Y
theorem Inv.stkFree (I:Inv X aj σ H s):∀ b∈gx X.stack,H b=none:=λb hb=>by
 rcases Ax.mp (I.stkSub b hb) with e|hb
 .rw[e];exact I.free
 .obtain⟨_,o,Y,_⟩:=I.ok.funs.mem hb
  exact I.base.free b o Y (I.ok.frf b hb) λz=>I.ok.exfs b z hb
theorem Inv.step {g':Aw Yr}{t':Ai}{d':Drawn}(I:Inv X aj σ H s)
  (U:∀ b∈ch,(b∈X.ex\/X.s₀.heap.objs.size<=b)/\b≠X.env.locals/\(∀ x c,X.env.cells.lookup x=Ab c->c≠b)/\∀ p∈X.pn++aj,p.1≠b)
  (G:∀ b o,b≠X.env.locals->b ∉ X.fs->b ∉ ch->s.heap.get? b=Ab o->H b=none->h'.get? b=Ab o)
  (slot:∀ b o,b≠X.env.locals->b∈X.fs->b ∉ ch->s.heap.get? b=Ab o->H b=none->∃ a,h'.get? b=Ab { o with slots:=a }) (J:∀ b o,b ∉ ch->s.heap.get? b=Ab o->H b=none->H' b=none)
  (L:∀ b o,b ∉ ch->s.heap.get? b=Ab o->∃ o',h'.get? b=Ab o')
  (w:∀ b xs,H b=Ab (.tup xs)->H' b=Ab (.tup xs)) (j:∀ b o u,H b=Ab (.frz o u)->H' b=Ab (.frz o u)) (g:∀ b t,H b=Ab (.tbl t)->∃ gl,H' b=Ab (.tbl (t++gl)))
  (ns:∀ m,s.heap.Ns X.env.locals m->h'.Ns X.env.locals m) (h:gt X.prog X.w H' h') (hg:Ps g') :
  Inv X aj σ H' { s with heap:=h',gens:=g',drawn:=d',toks:=t' }:=by
 have f:∀ b o,X.s₀.heap.get? b=Ab o->b≠X.env.locals:=λb o e=>Cw (Bi (Az e) I.ok.above);have B:∀ b o,X.s₀.heap.get? b=Ab o->b ∉ X.ex->b ∉ ch:=λb o e Y T=>by
  rcases (U b T).1 with z|z
  .exact Y z
  .exact absurd (Bi (Az e) z) (Ex _)
 have N:∀ x c,X.env.cells.lookup x=Ab c->∀ v,s.heap.IsCell c v->h'.IsCell c v:=λx c e v ⟨o,A,hd⟩=>by
  have O:c ∉ ch:=λz=>(U c z).2.2.1 x c e rfl;by_cases hc:c∈X.fs
  .obtain⟨a,q⟩:=slot c o (I.cne x c e) hc O A (I.freeC x c e)
   exact⟨_,q,hd⟩
  .exact⟨o,G c o (I.cne x c e) hc O A (I.freeC x c e),hd⟩
 refine⟨I.ok,I.os,hg,⟨λb o e n T Y=>?_,λb o e n T Y=>?_,λb o e n Y=>?_,λb o e Y=>?_,λb xs e=>w b xs (I.base.tups b xs e),λb o xs e=>j b o xs (I.base.frzs b o xs e),λb t e=>?_⟩,?_,λx c e=>?_,?_,λx c e=>?_,λp hp=>?_,h,I.len⟩
 .exact G b o (f b o e) T (B b o e Y) (I.base.keep b o e n T Y) (I.base.free b o e n Y)
 .obtain⟨a,C⟩:=I.base.slot b o e n T Y
  obtain⟨zb,y⟩:=slot b _ (f b o e) T (B b o e Y) C (I.base.free b o e n Y);exact⟨zb,y⟩
 .obtain⟨o',C⟩:=I.base.there b o e Y
  exact J b o' (B b o e Y) C (I.base.free b o e n Y)
 .obtain⟨o',C⟩:=I.base.there b o e Y
  exact L b o' (B b o e Y) C
 .obtain⟨m1,C⟩:=I.base.tbls b t e
  obtain⟨m2,y⟩:=g b _ C;exact⟨m1++m2,by rw[y,Yw]⟩
 .obtain⟨m,hn,hl⟩:=I.loc
  refine⟨m,ns m hn,λi x v C y e3=>?_⟩;obtain⟨u,r,l⟩:=hl i x v C y e3;refine⟨u,r,?_⟩;rcases l with l|⟨k,c,e,z⟩
  .exact .inl l
  .exact .inr ⟨k,c,e,N x c e _ z⟩
 .obtain⟨v,z⟩:=I.cell x c e
  exact⟨v,N x c e v z⟩
 .obtain⟨m,⟨o,_,_,A,_⟩,_⟩:=I.loc
  exact J _ o (λz=>(U _ z).2.1 rfl) A I.free
 .obtain⟨v,o,A,hd⟩:=I.cell x c e
  exact J c o (λz=>(U c z).2.2.1 x c e rfl) A (I.freeC x c e)
 .obtain⟨e,n,ne,nf,d⟩:=I.pin p hp
  have O:p.1 ∉ ch:=λz=>(U p.1 z).2.2.2 p hp rfl;exact⟨G p.1 p.2 ne nf O e n,J p.1 p.2 O e n,ne,nf,d⟩
theorem Inv.un {t':Ai}(I:Inv X aj σ H s)(u:Un X.fs [] H H' s.heap h')(U:gt X.prog X.w H' h'):Inv X aj σ H' { s with heap:=h',toks:=t' }:=by
 obtain⟨m,⟨o,j,T,N,r⟩,_⟩:=id I.loc;obtain⟨w,B⟩:=u.any N I.free a8
 exact I.step (g':=s.gens) (d':=s.drawn) (ch:=[]) (λ_ z=>nomatch z) (λb o _ J _ e n=>u.keep b o e n J a8) (λb o _ J _ e n=>u.slot b o e n J a8) (λb o _ e n=>u.free b o e n a8) (λb o _ e=>u.there b o e a8) u.tups u.frzs u.tbls (λA C=>by
  obtain⟨y,O,G,Y,L⟩:=C;rw[N] at Y;cases Y;exact⟨_,O,G,B,L⟩) U I.bare
theorem Inv.call {t':Ai}{d':Drawn}(I:Inv X aj σ H s)(u:Un (gx X.stack) ch H H' s.heap h')(G:gt X.prog X.w H' h')(L:Ps g')
  (J:∀ b∈ch,(b∈X.ex\/X.s₀.heap.objs.size<=b)/\b≠X.env.locals/\(∀ x c,X.env.cells.lookup x=Ab c->c≠b)/\∀ p∈X.pn++aj,p.1≠b) :
  Inv X aj σ H' { s with heap:=h',gens:=g',drawn:=d',toks:=t' }:=by
 obtain⟨m,⟨o,k,j,C,r⟩,_⟩:=id I.loc;obtain⟨y,O⟩:=u.any C I.free λz=>(J _ z).2.1 rfl;exact I.step (ch:=ch) J (λb o O A Y e n=>u.keep b o e n (λz=>(Ax.mp (I.stkSub b z)).elim O A) Y) (λb o _ _ Y e n=>u.any e n Y) (λb o Y e n=>u.free b o e n Y) (λb o Y e=>u.there b o e Y) u.tups u.frzs u.tbls (λq B=>by
  obtain⟨l,T,N,U,w⟩:=B;rw[C] at U;cases U;exact⟨_,T,N,O,w⟩) G L
theorem Inv.turned {t':Ai}{it:Af}(I:Inv X aj σ H s)(k:∀ b o,b≠it->s.heap.get? b=Ab o->h'.get? b=Ab o)(G:H it=none)(U:it≠X.env.locals)
  (h1:it∈X.ex\/X.s₀.heap.objs.size<=it) (h2:∀ x c,X.env.cells.lookup x=Ab c->c≠it) (h3:∀ p∈X.pn++aj,p.1≠it):Inv X aj σ H { s with heap:=h',toks:=t' }:=by
 have J:∀ b u,H b=Ab u->b≠it:=λb u e z=>by rw[z,G] at e;cases e
 refine I.step (g':=s.gens) (d':=s.drawn) (ch:=[it]) (λb C=>?_) (λb o _ _ Y e _=>k b o (λz=>Y (by simp[z])) e) (λb o _ _ Y e _=>⟨o.slots,k b o (λz=>Y (by simp[z])) e⟩) (λ_ _ _ _ n=>n)
  (λb o Y e=>⟨o,k b o (λz=>Y (by simp[z])) e⟩) (λ_ _ e=>e) (λ_ _ _ e=>e) (λb T e=>⟨#[],by rw[e];simp⟩) (λm O=>?_) (λb u e=>?_) I.bare
 .have e:b=it:=by simpa using C
  subst e;exact⟨h1,U,h2,h3⟩
 .obtain⟨o,B,N,L,r⟩:=O
  exact⟨o,B,N,k _ o (Dw U) L,r⟩
 .refine(I.hok b u e).stay (λc v Y q=>k c v ?_ q) (λ_ q=>q) λ_ _ q=>q
  rcases Y with z|z
  .rw[z];exact J b u e
  .exact J c _ z
theorem Inv.tok (I:Inv X aj σ H s)(t:Ai):Inv X aj σ H { s with toks:=t }:=I.un (h':=s.heap) (t':=t) Un.refl I.hok
theorem Inv.kept {t':Ai}(I:Inv X aj σ H s)(k:∀ b u,s.heap.get? b=Ab u->h'.get? b=Ab u):Inv X aj σ H { s with heap:=h',toks:=t' }:=I.un (Un.kept k) (I.hok.kept k)
theorem Inv.laid {a:Af}{t':Ai}(I:Inv X aj σ H s)(k:∀ b u,s.heap.get? b=Ab u->h'.get? b=Ab u)(hp:s.heap.objs.size<=a)(Y:zC X.prog X.w (bw H a o) h' a o) :
  Inv X aj σ (bw H a o) { s with heap:=h',toks:=t' }:=I.un (Un.laid k hp (I.hok.fresh hp)) (I.hok.laid k hp Y)
theorem Inv.write {x e:Af}{o:HO}{t':Ai}(I:Inv X aj σ H s)(G:xh (H x))(U:e=x\/H e=Ab (.own x))(k:∀ b u,b≠e->s.heap.get? b=Ab u->h'.get? b=Ab u)(Y:∃ u,h'.get? e=Ab u)
  (J:zC X.prog X.w (bw H x o) h' x o):Inv X aj σ (bw H x o) { s with heap:=h',toks:=t' }:=I.un (Un.write G U k Y) (I.hok.write G U k Y J)
theorem Inv.pins_of {Y:aa}(I:Inv X aj σ H s)(h:∀ p∈Y,s.heap.get? p.1=Ab p.2/\H p.1=none/\p.1≠X.env.locals/\p.1 ∉ X.fs/\∀ v,p.2.data≠.cell v):Inv X Y σ H s:=
 ⟨I.ok,I.os,I.bare,I.base,I.loc,I.cell,I.free,I.freeC,λp J=>(Bv.mp J).elim (λz=>I.pin p (Dp _ z)) (h p),I.hok,I.len⟩
theorem mJ {N:Aa Ar}(J:N.Nodup){i j:Ai}{x:Ar}(a:N[i]? = Ab x)(b:N[j]? = Ab x):i=j:=by
 obtain⟨O,U⟩:=Bd.mp a;obtain⟨G,Y⟩:=Bd.mp b;exact(Pu J).mp (U.trans Y.symm)
theorem sG {A:Bl}{i:Ai}(I:Inv X aj σ H s)(hN:X.N.Nodup)(hi:X.N[i]? = Ab x)(G:Loc X.env.scope x)(r:qL v u)
  (h:∀ s',Inv X aj (σ.set i (Ab v)) H s'->(∃ a,Fb a s.heap s'.heap/\(a=X.env.locals\/X.env.cells.lookup x=Ab a))->Q () s') (hf:X.fn x=true\/X.env.scope.names.lookup x=Ab .local:=by first|exact .inl rfl|exact .inr rfl|assumption):Ao M A (storeName X.env x u) Q E s:=by
 obtain⟨m,hn,hl⟩:=id I.loc;have zb:(X.env.scope.kind == .class||(X.env.scope.kind == .module&&X.env.locals != X.env.globals))=false:=by rw[I.ok.kind];rfl
 have C:i<σ.length:=by rw[I.len];exact(Bd.mp hi).1
 have w:=I.cne;have J:∀ {a:Af} {h':Bk},(∃ o,s.heap.get? a=Ab o/\H a=none)->Fb a s.heap h'->gt X.prog X.w H h':=λ{a h'} ha Y b ob e=>by
  obtain⟨_,_,N⟩:=ha;refine(I.hok b ob e).stay (λc w' hc q=>(Y.2 c ?_).trans q) (λ_ q=>q) λ_ _ q=>q;rintro rfl;rcases hc with rfl|hc
  .rw[N] at e;cases e
  .rw[N] at hc;cases hc
 rcases G with hk|hk
 .refine wpAny_storeName_local hk hn (λh' zl Y=>?_) zb
  obtain⟨oL,_,_,zc,_⟩:=id hn;refine h _ ⟨I.ok,I.os,I.bare,⟨λb o e n T G=>?_,λb o e n T G=>?_,I.base.free,λb o e G=>?_,I.base.tups,I.base.frzs,I.base.tbls⟩,⟨_,zl,λj y v' U O e3=>?_⟩,λy c e=>?_,I.free,I.freeC,λp hp=>?_,J ⟨oL,zc,I.free⟩ Y,by simpa using I.len⟩ ⟨_,Y,.inl rfl⟩
  .exact(Y.2 b (Cw (Bi (Az e) I.ok.above))).trans (I.base.keep b o e n T G)
  .obtain⟨sl,U⟩:=I.base.slot b o e n T G
   exact⟨sl,(Y.2 b (Cw (Bi (Az e) I.ok.above))).trans U⟩
  .obtain⟨o',U⟩:=I.base.there b o e G
   exact⟨o',(Y.2 b (Cw (Bi (Az e) I.ok.above))).trans U⟩
  .by_cases B:j=i
   .subst B
    rw[hi] at U;cases U;rw[Dv C] at O;cases O;exact⟨u,r,.inl ⟨hk,by simp⟩⟩
   .rw[Bz (Dw B)] at O
    obtain⟨u',r',q⟩:=hl j y v' U O e3;refine⟨u',r',?_⟩;rcases q with⟨k,e⟩|⟨k,c,e,z⟩
    .refine .inl ⟨k,?_⟩
     have:y≠x:=λe=>B (mJ hN U (e▸hi));simp[this,e]
    .exact .inr ⟨k,c,e,z.sameBut Y (w y c e)⟩
  .obtain⟨w',z⟩:=I.cell y c e
   exact⟨w',z.sameBut Y (w y c e)⟩
  .obtain⟨e,n,ne,nf,d⟩:=I.pin p hp
   exact⟨(Y.2 p.1 ne).trans e,n,ne,nf,d⟩
 .have L:X.fn x=true:=by
   rcases hf with z|z
   .exact z
   .rw[z] at hk;cases hk
  obtain⟨c,hc⟩:=I.ok.has x (.inl hk);obtain⟨w',z⟩:=I.cell x c hc;refine wpAny_storeName_cell I.ok.kind hk hc z (λh' g Y=>?_);obtain⟨oc,t,l⟩:=id z;refine h { s with heap:=h' } ⟨I.ok,I.os,I.bare,⟨λb o e n T G=>?_,λb o e n T G=>?_,I.base.free,λb o e G=>?_,I.base.tups,I.base.frzs,I.base.tbls⟩,⟨m,hn.sameBut Y (Dw (w x c hc)),λj y v' U O e3=>?_⟩,λy c' e=>?_,I.free,I.freeC,λp hp=>?_,J ⟨oc,t,I.freeC x c hc⟩ Y,by simpa using I.len⟩ ⟨c,Y,.inr hc⟩
  .exact(Y.2 b (Cw (Bi (Az e) (I.ok.cab x c L hc)))).trans (I.base.keep b o e n T G)
  .obtain⟨sl,U⟩:=I.base.slot b o e n T G
   exact⟨sl,(Y.2 b (Cw (Bi (Az e) (I.ok.cab x c L hc)))).trans U⟩
  .obtain⟨o',U⟩:=I.base.there b o e G
   exact⟨o',(Y.2 b (Cw (Bi (Az e) (I.ok.cab x c L hc)))).trans U⟩
  .by_cases B:j=i
   .subst B
    rw[hi] at U;cases U;rw[Dv C] at O;cases O;exact⟨u,r,.inr ⟨.inl hk,c,hc,g⟩⟩
   .rw[Bz (Dw B)] at O
    obtain⟨u',r',q⟩:=hl j y v' U O e3;refine⟨u',r',?_⟩;rcases q with q|⟨k,c',e,z'⟩
    .exact .inl q
    .refine .inr ⟨k,c',e,z'.sameBut Y ?_⟩
     rintro rfl;exact B (mJ hN U (I.ok.inj _ _ _ e hc▸hi))
  .by_cases f:c'=c
   .subst f;exact⟨_,g⟩
   .obtain⟨w2,z2⟩:=I.cell y c' e
    exact⟨w2,z2.sameBut Y f⟩
  .obtain⟨e,n,ne,nf,d⟩:=I.pin p hp
   refine⟨(Y.2 p.1 ?_).trans e,n,ne,nf,d⟩;intro q;rw[q,t] at e;have q':oc=p.2:=Dg e;exact d w' (by rw[<- q'];exact l)
theorem jO {A:Bl}{i:Ai}(I:Inv X aj σ H s)(J:X.N.Nodup)(hi:X.N[i]? = Ab x)(Y:Loc X.env.scope x)(r:qL v u)
  (h:∀ s',Inv X aj (σ.set i (Ab v)) H s'->Q () s') (G:X.fn x=true\/X.env.scope.names.lookup x=Ab .local:=by first|exact .inl rfl|exact .inr rfl|assumption):Ao M A (storeName X.env x u) Q E s:=
 sG I J hi Y r (λs' U _=>h s' U) G
theorem Inv.call' {s':Ag}(I:Inv X aj σ H s)(G:s'.os=s.os)(u:Un (gx X.stack) ch H H' s.heap s'.heap)(Y:gt X.prog X.w H' s'.heap)(U:Ps s'.gens)
  (J:∀ b∈ch,(b∈X.ex\/X.s₀.heap.objs.size<=b)/\b≠X.env.locals/\(∀ x c,X.env.cells.lookup x=Ab c->c≠b)/\∀ p∈X.pn++aj,p.1≠b):Inv X aj σ H' s':=by
 obtain⟨h',g',d',t',N⟩:=s';have e:N=s.os:=G;subst e;exact I.call (g':=g') (t':=t') (d':=d') u Y U J
end
abbrev XK:=Ad->Al Af->Hp->Prop
abbrev St:=Aa (Al V)
abbrev VK:=V->Hp->Prop
abbrev TE:=St->Hp->VK->Prop
abbrev TT:=St->Hp->(Au->Hp->Prop)->Prop
abbrev TA:=St->Hp->(Aa V->Hp->Prop)->Prop
structure Ends where
 nx:St->Hp->Prop
 rt:VK
 bk:St->Hp->Prop:=λ_ _=>Fp
 ct:St->Hp->Prop:=λ_ _=>Fp
abbrev TS:=Ends->St->Hp->Prop
inductive EP (X:Cx)(pins:aa)(σ : St)(Q:VK)(u:Ad)(s':Ag):Prop
 |mk (v:V) (H':Hp) (I:Inv X pins σ H' s') (r:qL v u) (q:Q v H'):EP X pins σ Q u s'
inductive TP (X:Cx)(pins:aa)(σ : St)(Q:Au->Hp->Prop)(b:Au)(s':Ag):Prop
 |mk (H':Hp) (I:Inv X pins σ H' s') (q:Q b H'):TP X pins σ Q b s'
inductive AP (X:Cx)(pins:aa)(σ : St)(Q:Aa V->Hp->Prop)(us:ai)(s':Ag):Prop
 |mk (vs:Aa V) (H':Hp) (I:Inv X pins σ H' s') (r:qQ vs us) (q:Q vs H'):AP X pins σ Q us s'
def SP (X:Cx)(aj:aa)(D:Ends)(f:Flow)(s':Ag):Prop:=
 match f with
 |.next=>∃ Y J,Inv X aj Y J s'/\D.nx Y J
 |.brk=>∃ Y J,Inv X aj Y J s'/\D.bk Y J
 |.cont=>∃ Y J,Inv X aj Y J s'/\D.ct Y J
 |.ret u=>∃ v Y J,Inv X aj Y J s'/\qL v u/\D.rt v J
abbrev db (X:Cx){α:Type}(m:PySem.Sem α):=Ao (As X.prog X.w) X.A m
def PE (X:Cx)(e:Cb)(t:TE):Prop:=
 ∀ (Y:aa) (s:Ag) (σ : St) (H:Hp) (Q:VK),Inv X Y σ H s->t σ H Q->db X (eval e X.env) (EP X Y σ Q) X.xe s
def PT (X:Cx)(e:Cb)(t:TT):Prop:=
 ∀ (Y:aa) (s:Ag) (σ : St) (H:Hp) (Q:Au->Hp->Prop),Inv X Y σ H s->t σ H Q->db X (isTrue e X.env (eval e X.env)) (TP X Y σ Q) X.xe s
def PW (X:Cx)(e:Cb)(t:TT):Prop:=
 ∀ (Y:Lb Ad) (J:aa) (s:Ag) (σ : St) (H:Hp) (Q:Au->Hp->Prop),Inv X J σ H s->t σ H Q->db X (isTrue e X.env Y) (TP X J σ Q) X.xe s
def PA (X:Cx)(es:Aa Cb)(t:TA):Prop:=
 ∀ (J:Fc) (Y:aa) (s:Ag) (σ : St) (H:Hp) (Q:Aa V->Hp->Prop),Inv X Y σ H s->t σ H Q->db X (spliced (Gm J (Bn es X.env))) (AP X Y σ Q) X.xe s
def PS (X:Cx)(st:Et)(t:TS):Prop:=
 ∀ (Y:aa) (s:Ag) (σ : St) (H:Hp) (D:Ends),Inv X Y σ H s->t D σ H->db X (exec st X.env) (SP X Y D) X.xe s
def ip (X:Cx)(st:Aa Et)(t:TS):Prop:=
 ∀ (Y:aa) (s:Ag) (σ : St) (H:Hp) (D:Ends),Inv X Y σ H s->t D σ H->db X (execs st X.env) (SP X Y D) X.xe s
theorem bv {α:Type}{t:Lb α}{Q Y:α->Ag->Prop}(h:Ao M A t Q E s)(J:∀ a s,Q a s->Y a s):Ao M A t Y E s:=Fd h J λ_ _ x=>x
end _L
namespace _L
variable {aj:aa}{u:Ad}{E Q:ae}
section
variable {X:Cx}
theorem zg {a b:Cb}(q:PE X a C)(k:PE X b O){aj:aa}{s:Ag}{σ : St}{H:Hp}{R:V->V->Hp->Prop}(I:Inv X aj σ H s)(h:C σ H λx N=>O σ N λy Y=>R x y Y)
  {α:Type} {Q:α->Ag->Prop} {f:Ad->Ad->Lb α}
  (j:∀ v u G x y Y,Inv X aj σ Y G->qL x v->qL y u->R x y Y->db X (f v u) Q X.xe G) :
  db X (eval a X.env) (λv U=>db X (eval b X.env) (λu J=>db X (f v u) Q X.xe J) X.xe U) X.xe s:=by
 refine bv (q aj s σ H _ I h) λv T ⟨x,N,z,B,A⟩=>?_;refine bv (k aj T σ N _ z A) λu G ⟨y,Y,w,L,M⟩=>?_;exact j v u G x y Y w B L M
def AB (i:Ai):TE:=λσ H Q=>∃ v,σ[i]? = Ab (Ab v)/\Q v H
def tC (v:V):TE:=λ_ H Q=>Q v H
theorem c5 {i:Ai}(C:X.N[i]? = Ab x)(hv:ow X.env.scope x)(hd:(x == ("__debug__" : Ar))=false:=by decide)(U:(x == ("__classdict__" : Ar))=false:=by decide):PE X (.Name x N) (AB i):=by
 intro aj s σ H Q I h;obtain⟨v,e,h⟩:=h;obtain⟨m,O,B⟩:=I.loc;obtain⟨u,r,l⟩:=B i x v C e hv;have J:EP X aj σ Q u s:=⟨v,H,I,r,h⟩;rcases l with⟨hk,L⟩|⟨hk,c,G,Y⟩
 .exact wpAny_Name (wpAny_loadName_local I.ok.kind hk O L J) hd
 .rcases hk with hk|hk
  .exact wpAny_Name (wpAny_loadName_cell I.ok.kind hk G Y J) hd
  .exact wpAny_Name (wpAny_loadName_free I.ok.kind hk G Y J U) hd
theorem HI:PE X (.Constant (.int i) j au) (tC (.int i)):=λ_ _ _ H _ I h=>wpAny_Constant_int ⟨.int i,H,I.tok _,⟨_,rfl⟩,h⟩
theorem qAB:PE X (.Constant (.bool b) j au) (tC (.bl b)):=λ_ _ _ H _ I h=>Constant_bool ⟨.bl b,H,I,rfl,h⟩
theorem HJ:PE X (.Constant .none j au) (tC .non):=λ_ _ _ H _ I h=>Constant_none ⟨.non,H,I,rfl,h⟩
theorem HL:PE X (.Constant (.str x) j au) (tC (.str x)):=λ_ _ _ H _ I h=>Calls.Constant_str ⟨.str x,H,I.tok _,⟨_,rfl⟩,h⟩
def Gl (X:Cx)(x:Ar):Prop:=X.env.kindOf x=Ab .globalImplicit
theorem uW {σ:St}{Y:Fc}(I:Inv X aj σ H s)(J:Gl X x)(hm:X.mg x=Ab u)(h:Q u s)
  (hd:(x == ("__debug__" : Ar))=false:=by decide):db X (eval (.Name x Y) X.env) Q E s:=
 Sh I.ok.kind J (Calls.loadGlobal_global (by rw[I.ok.glob];exact I.mod.glob.keeps I.bk) hm h) hd
theorem vP {σ:St}{J:Fc}(I:Inv X aj σ H s)(U:Gl X x)(hm:X.mg x=none)(hv:Gr x=Ab u)(h:Q u s)
  (G:x ≠ "__name__":=by decide) (hd:(x == ("__debug__" : Ar))=false:=by decide):db X (eval (.Name x J) X.env) Q E s:=by
 obtain⟨O,N,Y⟩:=I.mod.blt;exact Sh I.ok.kind U (Calls.loadGlobal_builtin (by rw[I.ok.glob];exact I.mod.glob.keeps I.bk) hm (by rw[I.ok.blt];exact N.keeps I.bk) ((Y x G).trans hv) h) hd
theorem N6 (J:Gl X x)(hm:X.mg x=Ab u)(r:qL v u)(hd:(x == ("__debug__" : Ar))=false:=by decide):PE X (.Name x Y) (tC v):=
 λ_ _ _ H _ I h=>uW I J hm ⟨v,H,I,r,h⟩ hd
theorem N5 (U:Gl X x)(hm:X.mg x=none)(hv:Gr x=Ab u)(r:qL v u)(J:x ≠ "__name__":=by decide)(hd:(x == ("__debug__" : Ar))=false:=by decide):PE X (.Name x Y) (tC v):=
 λ_ _ _ H _ I h=>vP I U hm hv ⟨v,H,I,r,h⟩ J hd
variable {a:Cb}{au:Fc}
variable {tA:TT}
theorem NG (Y:PT X a tA):PW X (.BoolOp .And [a] au) tA:=by
 intro J aj s σ H Q I h;refine isTrue_and (bv (Y aj s σ H Q I h) λc U e=>?_);cases c with
 |true=>exact isTrue_and_nil e
 |false=>exact e
theorem HW (Y:PT X a tA):PW X (.BoolOp .Or [a] au) tA:=by
 intro J aj s σ H Q I h;refine isTrue_or (bv (Y aj s σ H Q I h) λc U e=>?_);cases c with
 |false=>exact isTrue_or_nil e
 |true=>exact e
theorem HK {t:TE}(h:PE X a t):PE X (.BoolOp op [a] au) t:=λaj s σ H Q I Y=>BoolOp_one (h aj s σ H Q I Y)
end
end _L
namespace _L
variable {es:Aa Cb}{K:Ah}{P:Bc}{w:Bu}{tg:Cb}
def ju (K:Ah)(H:Hp)(a:Af)(xs:Aa V):Prop:=
 Rd H a (.lst xs) \/
  ∃ (o:Co) (Q:Aw Ad) (n:Ai),K.lookup a=Ab o/\o.cls=.type "list" /\ o.dict=none/\o.data=.seq Q n/\Q.size<=sizeLine/\qQ xs Q.toList
def jf (K:Ah)(H:Hp)(a:Af)(xs:Aa V):Prop:=
 Rd H a (.tup xs) \/
  ∃ (o:Co) (Q:Aw Ad) (n:Ai),K.lookup a=Ab o/\o.cls=.type "tuple" /\ o.data=.seq Q n/\Q.size<=sizeLine/\qQ xs Q.toList
noncomputable def qAu:Ad->Al V
 |.none=>Ab .non
 |.bool b=>Ab (.bl b)
 |.int i _=>Ab (.int i)
 |.str x _=>Ab (.str x)
 |.bytes b _=>Ab (.byt b)
 |.float b _=>Ab (.flt b)
 |.ref a=>Ab (.ref a)
 |.type n=>Ab (.ty n)
 |_=>none
theorem qL.abs (r:qL x u):qAu u=Ab x:=by
 cases x with
 |non=>cases r;rfl
 |bl _=>cases r;rfl
 |int _=>obtain⟨t,rfl⟩:=r;rfl
 |str _=>obtain⟨t,rfl⟩:=r;rfl
 |byt _=>obtain⟨t,rfl⟩:=r;rfl
 |flt _=>obtain⟨t,rfl⟩:=r;rfl
 |ref _=>cases r;rfl
 |ty _=>cases r;rfl
theorem qL.inj (r:qL x u)(q:qL y u):x=y:=Dg (r.abs.symm.trans q.abs)
theorem qQ.inj (h:qQ xs us)(k:qQ ys us):xs=ys:=by
 induction h generalizing ys with
 |nil=>cases k;rfl
 |cons r t Y =>
  cases k with
  |cons J Q=>rw[r.inj J,Y Q]
section
variable {X:Cx}{aj:aa}{σ: St}{H:Hp}{s:Ag}{a:Af}{xs ys:Aa V}
theorem ju.of (h:H a=Ab (.lst xs)):ju K H a xs:=.inl (.inl h)
theorem jf.of (h:H a=Ab (.tup xs)):jf K H a xs:=.inl (.inl h)
theorem Inv.list (I:Inv X aj σ H s)(h:ju X.K H a xs):∃ ao:Aa Ad,qQ xs ao/\PlainL s.heap a ao.toArray/\xs.length<=sizeLine:=by
 rcases h with h|⟨o,ao,n,Q,Y,J,U,G,r⟩
 .obtain⟨z,ao,n,r,e⟩:=h.ok I.hok
  exact⟨ao,r,⟨_,n,e,rfl,rfl,rfl⟩,z⟩
 .refine⟨ao.toList,r,⟨o,n,I.kIn a o Q,Y,J,by simpa using U⟩,?_⟩
  have e:=r.length;simp only[Bp] at e
  lia
theorem Inv.tuple (I:Inv X aj σ H s)(h:jf X.K H a xs):∃ ao:Aa Ad,qQ xs ao/\Rm s.heap a ao.toArray/\xs.length<=sizeLine:=by
 rcases h with h|⟨o,ao,n,Q,Y,J,U,r⟩
 .obtain⟨z,ao,r,p⟩:=h.ok I.hok
  exact⟨ao,r,p,z⟩
 .refine⟨ao.toList,r,⟨o,I.kIn a o Q,Y,n,by simpa using J⟩,?_⟩
  have e:=r.length;simp only[Bp] at e
  lia
theorem Inv.list_inj (I:Inv X aj σ H s)(h:ju X.K H a xs)(h':ju X.K H a ys):xs=ys:=by
 obtain⟨J,r,⟨o,n,e,_,_,d⟩,_⟩:=I.list h;obtain⟨G,U,⟨N,O,Y,_,_,Q⟩,_⟩:=I.list h';rw[e] at Y;cases Y;rw[d] at Q;injection Q with d1 _
 have:J=G:=by simpa using congrArg Zl d1
 subst this;exact r.inj U
theorem Inv.tuple_inj (I:Inv X aj σ H s)(h:jf X.K H a xs)(h':jf X.K H a ys):xs=ys:=by
 obtain⟨J,r,⟨o,e,_,n,d⟩,_⟩:=I.tuple h;obtain⟨G,U,⟨N,Y,_,O,Q⟩,_⟩:=I.tuple h';rw[e] at Y;cases Y;rw[d] at Q;injection Q with d1 _
 have:J=G:=by simpa using congrArg Zl d1
 subst this;exact r.inj U
end
noncomputable abbrev Cx.wish (X:Cx)(E:ae):Cx:={ X with xe:=E }
abbrev Cx.nox (X:Cx):Cx:=X.wish λ_ _=>Fp
theorem Cx.Ok.wish {X:Cx}(ok:X.Ok)(E:ae):(X.wish E).Ok:=
 ⟨ok.mod,ok.kind,ok.glob,ok.blt,ok.above,ok.inj,ok.has,ok.cab,ok.hd,ok.frames,ok.stk,ok.exf,ok.bs,ok.bsz,ok.noex,ok.exfs,ok.funs,ok.frf⟩
theorem Cx.Ok.unwish {X:Cx}(ok:(X.wish E).Ok):X.Ok:=
 ⟨ok.mod,ok.kind,ok.glob,ok.blt,ok.above,ok.inj,ok.has,ok.cab,ok.hd,ok.frames,ok.stk,ok.exf,ok.bs,ok.bsz,ok.noex,ok.exfs,ok.funs,ok.frf⟩
section
variable {X:Cx}{aj:aa}{σ: St}{H:Hp}{s:Ag}{E:ae}
theorem Inv.wish (I:Inv X aj σ H s)(E:ae):Inv (X.wish E) aj σ H s:=⟨I.ok.wish E,I.os,I.bare,I.base,I.loc,I.cell,I.free,I.freeC,I.pin,I.hok,I.len⟩
theorem Inv.unwish (I:Inv (X.wish E) aj σ H s):Inv X aj σ H s:=⟨I.ok.unwish,I.os,I.bare,I.base,I.loc,I.cell,I.free,I.freeC,I.pin,I.hok,I.len⟩
theorem SP.unwish {D:Ends}(h:SP (X.wish E) aj D f s'):SP X aj D f s':=by
 cases f with
 |next=>obtain⟨Q,Y,I,q⟩:=h;exact⟨Q,Y,I.unwish,q⟩
 |brk=>obtain⟨Q,Y,I,q⟩:=h;exact⟨Q,Y,I.unwish,q⟩
 |cont=>obtain⟨Q,Y,I,q⟩:=h;exact⟨Q,Y,I.unwish,q⟩
 |ret u=>obtain⟨v,Q,Y,I,r,q⟩:=h;exact⟨v,Q,Y,I.unwish,r,q⟩
theorem PE.nox {t:TE}(h:PE X.nox e t):PE X e t:=λaj s σ H Q I Y =>
 Fd (h aj s σ H Q (I.wish _) Y) (λ_ _ ⟨v,U,J,r,q⟩=>⟨v,U,J.unwish,r,q⟩) λ_ _ z=>Aq z
theorem PT.nox {t:TT}(h:PT X.nox e t):PT X e t:=λaj s σ H Q I Y =>
 Fd (h aj s σ H Q (I.wish _) Y) (λ_ _ ⟨U,J,q⟩=>⟨U,J.unwish,q⟩) λ_ _ z=>Aq z
theorem ip.nox {st:Aa Et}{t:TS}(h:ip X.nox st t):ip X st t:=λaj s σ H D I Q =>
 Fd (h aj s σ H D (I.wish _) Q) (λ_ _ q=>q.unwish) λ_ _ z=>Aq z
end
section
variable {X:Cx}{st:Et}{qG:Aa Et}{t u:TS}
def qAU:TS:=λD σ H=>D.nx σ H
def AA (t u:TS):TS:=λD σ H=>t { D with nx:=u D } σ H
theorem oC:ip X [] qAU:=λ_ _ σ H _ I h=>Qp ⟨σ,H,I,h⟩
theorem c8 (h1:PS X st t)(h2:ip X qG u):ip X (st::qG) (AA t u):=by
 intro Y s σ H D I h;refine wpAny_execs_cons (bv (h1 Y s σ H { D with nx:=u D } I h) λf J q=>?_)
 cases f with
 |next =>
  obtain⟨Q,G,U,q⟩:=q;exact h2 Y J Q G D U q
 |ret v=>exact q
 |brk=>exact q
 |cont=>exact q
theorem ND (h1:PS X st t):ip X [st] t:=by
 intro Q s σ H D I h;refine wpAny_execs_cons (bv (h1 Q s σ H D I h) λf Y q=>?_);cases f with
 |next=>exact Qp q
 |ret v=>exact q
 |brk=>exact q
 |cont=>exact q
theorem Inv.quiet {σ:St}(I:Inv X aj σ H s):interactive X.env=false:=by simp[interactive,I.ok.kind]
end
abbrev TG:=V->St->Hp->(St->Hp->Prop)->Prop
abbrev um:=Aa V->St->Hp->(St->Hp->Prop)->Prop
def PG (X:Cx)(Y:Cb)(t:TG):Prop:=
 ∀ (U:aa) (s:Ag) (σ : St) (H:Hp) (v:V) (u:Ad) (Q:St->Hp->Prop),Inv X U σ H s->qL v u->t v σ H Q ->
  db X (assign Y X.env u) (λ_ N=>∃ J G,Inv X U J G N/\Q J G) X.xe s
def ti (X:Cx)(C:Aa Cb)(t:um):Prop:=
 ∀ (J:aa) (s:Ag) (σ : St) (H:Hp) (G:Aa V) (U:ai) (Q:St->Hp->Prop),Inv X J σ H s->qQ G U->t G σ H Q ->
  db X (Xo ((Ho C X.env).map (·.2)) U) (λ_ O=>∃ Y N,Inv X J Y N O/\Q Y N) X.xe s
abbrev D4:=V->V->V->Hp->(Hp->Prop)->Prop
def rH (X:Cx)(t:D4):Prop:=
 ∀ (Y:aa) (s:Ag) (σ : St) (H:Hp) (o i v:V) (U J u:Ad) (Q:Hp->Prop),Inv X Y σ H s->qL o U->qL i J->qL v u->t o i v H Q ->
  db X (setItem U J u) (λ_ N=>∃ G,Inv X Y σ G N/\Q G) X.xe s
section
variable {X:Cx}{au:Fc}
def O0 (i:Ai):TG:=λv σ H Q=>Q (σ.set i (Ab v)) H
theorem N7 {i:Ai}(J:X.N.Nodup)(hi:X.N[i]? = Ab x)(Y:Loc X.env.scope x)(G:X.fn x=true\/X.env.scope.names.lookup x=Ab .local:=by first|exact .inl rfl|exact .inr rfl|assumption):PG X (.Name x au) (O0 i):=by
 intro O s σ H v u Q I r h;exact Zy (jO I J hi Y r (λN U=>⟨_,H,U,h⟩) G)
def qA8:um:=λY σ H Q=>Y=[]/\Q σ H
def IZ (t:TG)(u:um):um:=λJ σ H Q=>∃ v r,J=v::r/\t v σ H λY U=>u r Y U Q
theorem N8:ti X [] qA8:=by
 intro J s σ H U Y Q I r h;obtain⟨e,h⟩:=h;subst e;cases r;exact Zz ⟨σ,H,I,h⟩
theorem KW {t:TG}(h1:PG X e t)(h2:ti X es u)
  (hs:(Ho (e::es) X.env).map (·.2)=assign e X.env::(Ho es X.env).map (·.2):=by rfl):ti X (e::es) (IZ t u):=by
 intro J s σ H E T Q I r h;obtain⟨v,L,B,h⟩:=h;subst B;cases r with
 |cons r N =>
  rw[hs];refine Sa (bv (h1 J s σ H _ _ _ I r h) λ_ U ⟨Y,O,C,G⟩=>?_);exact h2 J U Y O _ _ Q C N G
def qA9 (K:Ah)(n:Ai)(t:um):TG:=λv σ H Q=>∃ a Y,v=.ref a/\jf K H a Y/\Y.length=n/\t Y σ H Q
theorem HP {k:Ai}{t:um}{n:Ai}(O:X.calm=true)(h:ti X es t)
  (C:(Ho es X.env).length=n:=by rfl) (J:(Ho es X.env).findIdx? (·.1)=none:=by rfl):PG X (.Tuple es k au) (qA9 X.K n t):=by
 intro U s σ H v u Q I r Y;obtain⟨a,A,z,L,B,Y⟩:=Y;subst z;cases r;obtain⟨j,G,M,y⟩:=I.tuple L;refine assign_Tuple_tuple (I.ok.hd O) M (by simp[C,<- B,G.length]) J λE N=>?_
 have T:Inv X U σ H { s with heap:=E }:=I.kept (t':=s.toks) λb o e=>N b o (Cw (Az e)) e
 exact h U _ σ H A _ Q T (by simpa using G) Y
def _t (i j:Ai)(Y:TA):TS:=λD σ H=>Y σ H λJ Q=>∃ v w,J=[v,w]/\D.nx ((σ.set i (Ab v)).set j (Ab w)) Q
theorem HS {i j:Ai}{a b:Cb}{E:TA}{B G O:Fc}{kt k2 pt2}(r:X.calm=true) (T:X.N.Nodup) (hi:X.N[i]? = Ab x) (t:X.N[j]? = Ab y) (L:i≠j)
  (A:X.env.scope.names.lookup x=Ab .local) (u:X.env.scope.names.lookup y=Ab .local) (n:PA X [a,b] E)
  (hw:Ni [.Tuple [.Name x B,.Name y G] kt O] (.Tuple [a,b] k2 pt2) X.env=pure (Ab [x,y]))
  (hs:Nj [.Tuple [.Name x B,.Name y G] kt O] (.Tuple [a,b] k2 pt2) au.line X.env=pure false:=by rfl) :
  PS X (.Assign [.Tuple [.Name x B,.Name y G] kt O] (.Tuple [a,b] k2 pt2) au) (_t i j E):=by
 intro M s σ H D I h;rw[exec_Assign_arm];refine Ac (Kq ?_);rw[hs];refine Ac (Ak ?_);rw[AT da]
 refine Ac (Tuple_ (bv (n _ M s σ H _ I h) λus Y ⟨vs,z,m,d,U⟩=>?_));obtain⟨v,w,l,U⟩:=U;subst l;obtain⟨Q,J,rfl,g,N⟩:∃ Q J,us=[Q,J]/\qL v Q/\qL w J:=by
  cases d with
  |cons p q =>
   cases q with
   |cons p' c =>
    cases c;exact⟨_,_,rfl,p,p'⟩
 refine Dq ?_ (by show 2<=sizeLine;decide)
 have I2:Inv X M σ z { Y with heap:=Y.heap.push { cls:=.type "tuple",data:=.seq [Q,J].toArray } }:=m.kept (t':=Y.toks) λb o e=>Aj _ e
 rw[hw];refine Ac (Ak ?_);show db X (do rule "assign.swapped-stores";let items <- unpackItems (.ref Y.heap.objs.size) 2 none;Xo [λv=>Ys X.env y v,λv=>Ys X.env x v] items.reverse;pure Flow.next) _ _ _
 refine Ac (Gw (Ac (unpackItems_tuple (items:=#[Q,J]) (I.ok.hd r) (ZB Y.heap _) λh' C=>?_)));have I3:=I2.kept (h':=h') (t':=Y.toks) λb o e=>C b o (Cw (Az e)) e;show Ao _ _ (Xo [λv=>Ys X.env y v,λv=>Ys X.env x v] [J,Q] >>= λ_=>pure Flow.next) _ _ _;refine Ac (Sa (wpAny_bindName (jO I3 T t (.inl u) N (λs2 f=>?_) (.inr u))));refine Sa (wpAny_bindName (jO f T hi (.inl A) g (λs3 k=>Zz (Ak ?_)) (.inr A)));rw[List.set_comm _ _ (Dw L)] at k;exact⟨_,z,k,U⟩
end
structure It where
 go:Ai->Hp->Prop
 yld:Ai->Hp->V->Hp->Prop
 stop:Ai->Hp->Prop
def xR (X:Cx)(aj:aa)(H:Hp)(b:Af):Prop:=
 H b=none/\b≠X.env.locals/\b ∉ X.fs/\(b∈X.ex\/X.s₀.heap.objs.size<=b)/\(∀ x c,X.env.cells.lookup x=Ab c->c≠b)/\∀ p∈X.pn++aj,p.1≠b
theorem Inv.fpOk {X:Cx}{σ:St}{H H':Hp}{b:Af}(I:Inv X aj σ H s)(Q:s.heap.objs.size<=b)(J:H' b=none):xR X aj H' b:=by
 refine⟨J,Hd (Bi I.lt Q),I.nofs Q,.inr (Cs I.sz Q),λx c e z=>?_,λp Y z=>?_⟩
 .obtain⟨v,q⟩:=I.cell x c e
  exact absurd (Bi q.lt (by rw[z];exact Q)) (Ex _)
 .exact absurd (Bi (Az (I.pin p Y).1) (by rw[z];exact Q)) (Ex _)
structure lh (P:Bc)(w:Bu)(K:Ah)(tg:Cb)(J:It)(fp:ag)(it:Af)(tn:Ai->Bk->Prop):Prop where
 mem:it∈fp
 obj:∀ i h,tn i h->∀ b∈fp,∃ o,h.get? b=Ab o/\∀ v,o.data≠.cell v
 keep:∀ i h h',tn i h->(∀ b∈fp,∀ o,h.get? b=Ab o->h'.get? b=Ab o)->tn i h'
 item:∀ (X:Cx),X.prog=P->X.w=w->X.K=K->X.calm=true->∀ (i:Ai) (pins:aa) (s:Ag) (σ : St) (H:Hp) (E:ae),Inv X pins σ H s->(∀ b∈fp,xR X pins H b)->tn i s.heap->J.go i H ->
  Ao (As P w) X.A (Pe (.ref it)) (λr s1=>∃ u,r=Ab u /\
   Ao (As P w) X.A (Lw tg (.ref it) u) (λ_ s2=>∃ x H',Inv X pins σ H' s2/\qL x u/\J.yld i H x H'/\tn (i+1) s2.heap/\∀ b∈fp,H' b=none) E s1) E s
 done:∀ (X:Cx),X.prog=P->X.w=w->X.K=K->X.calm=true->∀ (i:Ai) (pins:aa) (s:Ag) (σ : St) (H:Hp) (E:ae),Inv X pins σ H s->(∀ b∈fp,xR X pins H b)->tn i s.heap->J.stop i H ->
  Ao (As P w) X.A (Pe (.ref it)) (λr s1=>r=none/\Inv X pins σ H s1) E s
 self:∀ (A:Bl) (i:Ai) (s:Ag) (Q:ae) (E:ae),tn i s.heap->Q (.ref it) s->Ao (As P w) A (Qy (.ref it)) Q E s
abbrev TI:=St->Hp->(It->Hp->Prop)->Prop
inductive vq (X:Cx)(pins:aa)(σ : St)(tg:Cb)(R:It->Hp->Prop)(itv:Ad)(s2:Ag):Prop
 |mk (it:Af) (fp:ag) (tn:Ai->Bk->Prop) (J:It) (H':Hp) (e:itv=.ref it) (I:Inv X pins σ H' s2) (t:lh X.prog X.w X.K tg J fp it tn) (z:tn 0 s2.heap) (f:∀ b∈fp,xR X pins H' b) (q:R J H'):vq X pins σ tg R itv s2
def PI (X:Cx)(tg U:Cb)(Y:TI):Prop:=
 ∀ (Q:aa) (s:Ag) (σ : St) (H:Hp) (R:It->Hp->Prop),Inv X Q σ H s->Y σ H R ->
  db X (eval U X.env) (λv J=>db X (Qy v) (vq X Q σ tg R) X.xe J) X.xe s
theorem sW {M:Mf}{A:Bl}{E:ae}{s:Ag}{it:Af}{u:Ad}{Q:Po->Ag->Prop}(G:s.heap.get? it=Ab o)(J:o.cls=.type n)(hd:o.data=.fields vs)
    (U:["enumerate","zip","dict_itemiterator","dict_reverseitemiterator","odict_iterator","itertools.zip_longest","itertools.pairwise"].contains n=false) (Y:Q () s):Ao M A (Lw tg (.ref it) u) Q E s:=by
  unfold Lw;cases tg <;> first
    |exact Ak Y
    |(cases u <;> first
        |exact Ak Y
        | (refine Ac (wpAny_load G ?_)
           rw[J,hd];show Ao M A (if (["enumerate","zip","dict_itemiterator","dict_reverseitemiterator","odict_iterator","itertools.zip_longest","itertools.pairwise"].contains n&&vs[0]? == Ab (Kv _))=true then _ else _) Q E s
           rw[AT (by intro h;rw[U,He] at h;cases h)]
           exact Ak Y))
def zn (K:Ah)(a:Af):It:=
 ⟨λi H=>∃ Q x,ju K H a Q/\Q[i]? = Ab x,λi H x Y=>Y=H/\∀ Q,ju K H a Q->Q[i]? = Ab x,λi H=>∃ Q,ju K H a Q/\Q.length<=i⟩
def Y_ (K:Ah)(a:Af):It:=
 ⟨λi H=>∃ Q x,jf K H a Q/\Q[i]? = Ab x,λi H x Y=>Y=H/\∀ Q,jf K H a Q->Q[i]? = Ab x,λi H=>∃ Q,jf K H a Q/\Q.length<=i⟩
def xm (lo:Am)(n:Ai):It:=⟨λi _=>i<n,λi H x Q=>Q=H/\x=.int (lo+i),λi _=>n<=i⟩
theorem sH (a it:Af):lh P w K tg (zn K a) [it] it (λi h=>h.IsListIter it a i) where
 mem:=by simp
 obj:=λi h st b Q=>by
  have e:b=it:=by simpa using Q
  subst e;obtain⟨o,e,c,d⟩:=st;exact⟨o,e,λv z=>by rw[d] at z;cases z⟩
 keep:=λi h U st k=>st.at λo e=>k it a8 o e
 item:=by
  intro X B A C l i g s σ H E I G st T;subst B A C;obtain⟨xs,x,J,O⟩:=T;obtain⟨ao,q,p,t⟩:=I.list J;obtain⟨u,hu,ru⟩:=q.get O;obtain⟨N,L,r,y,j,M⟩:=G it a8
  refine wpAny_pyNext_list_item st p.isList (x:=u) (by simpa using hu) λU Y f=>?_
  have n:Inv X g σ H { s with heap:=U }:=I.turned (t':=s.toks) (λb o Q e=>(f.2 b Q).trans e) N L y j M
  obtain⟨o,e,c,d⟩:=id Y;exact⟨u,rfl,sW (s:={ s with heap:=U }) e c d da ⟨x,H,n,ru,⟨rfl,λys hy=>by rw[I.list_inj hy J];exact O⟩,Y,λb Q=>(G b Q).1⟩⟩
 done:=by
  intro X B A C l i g s σ H E I G st T;subst B A C;obtain⟨xs,J,O⟩:=T;obtain⟨ao,q,p,t⟩:=I.list J;obtain⟨N,L,r,y,j,M⟩:=G it a8
  have hl:=q.length;exact wpAny_pyNext_list_end (I.ok.hd l) st p.isList (by simp;lia) λU m=>⟨rfl,I.turned (t':=s.toks) (λb o Q e=>m b o Q e) N L y j M⟩
 self:=λ_ _ _ _ _ st h=>wpAny_pyIter_listiter st h
theorem XC (a it:Af):lh P w K tg (Y_ K a) [it] it (λi h=>h.IsTupleIter it a i) where
 mem:=by simp
 obj:=λi h st b Q=>by
  have e:b=it:=by simpa using Q
  subst e;obtain⟨o,e,c,d⟩:=st;exact⟨o,e,λv z=>by rw[d] at z;cases z⟩
 keep:=λi h U st k=>st.at λo e=>k it a8 o e
 item:=by
  intro X B M C g i f s σ H E I G st A;subst B M C;obtain⟨xs,x,J,O⟩:=A;obtain⟨T,l,p,m⟩:=I.tuple J;obtain⟨u,hu,ru⟩:=l.get O;obtain⟨N,L,t,q,y,j⟩:=G it a8
  refine wpAny_pyNext_tuple_item st (show s.heap.IsTuple a T.toArray from p) (x:=u) (by simpa using hu) λU Y r=>?_
  have I1:Inv X f σ H { s with heap:=U }:=I.turned (t':=s.toks) (λb o Q e=>(r.2 b Q).trans e) N L q y j
  obtain⟨o,e,c,d⟩:=id Y;exact⟨u,rfl,sW (s:={ s with heap:=U }) e c d da ⟨x,H,I1,ru,⟨rfl,λys hy=>by rw[I.tuple_inj hy J];exact O⟩,Y,λb Q=>(G b Q).1⟩⟩
 done:=by
  intro X B M C g i f s σ H E I G st A;subst B M C;obtain⟨xs,J,O⟩:=A;obtain⟨T,l,p,m⟩:=I.tuple J;obtain⟨N,L,t,q,y,j⟩:=G it a8
  have hl:=l.length;exact wpAny_pyNext_tuple_end (I.ok.hd g) st (show s.heap.IsTuple a T.toArray from p) (by simp;lia) λU n=>⟨rfl,I.turned (t':=s.toks) (λb o Q e=>n b o Q e) N L q y j⟩
 self:=λ_ _ _ _ _ st h=>wpAny_pyIter_tupleiter st h
theorem XB (it:Af)(lo:Am)(n:Ai):lh P w K tg (xm lo n) [it] it (λi h=>IsRangeIter h it (lo+(i:Ai)*1) ((n:Am)-(i:Ai)) 1) where
 mem:=by simp
 obj:=λi h st b Q=>by
  have e:b=it:=by simpa using Q
  subst e;exact⟨_,st,λv z=>by
   have c:Data.fields _=Data.cell v:=z;cases c⟩
 keep:=λi h J st k=>k it a8 _ st
 item:=by
  intro X C T O N i y s σ H E I U st L;subst C T O;obtain⟨G,B,q,j,M,A⟩:=U it a8
  have W:=Walks.range (prog:=X.prog) (w:=X.w) (I.ok.hd N) it lo 1 n;refine W.item i s _ _ L st λv J u hv Y l=>?_;obtain⟨t,rfl⟩:=hv;have g:Inv X y σ H { s with heap:=J,toks:=u }:=I.turned (λb o Q e=>l b o (by simpa using Q) e) G B j M A
  refine⟨_,rfl,sW (s:={ s with heap:=J,toks:=u }) (n:="range_iterator") Y rfl rfl da ⟨.int (lo+i),H,g,⟨t,?_⟩,⟨rfl,rfl⟩,Y,λb Q=>(U b Q).1⟩⟩
  rw[Int.mul_one]
 done:=by
  intro X C T O N i y s σ H E I U st L;subst C T O;obtain⟨G,B,q,j,M,A⟩:=U it a8
  exact wpAny_pyNext_range_end (I.ok.hd N) st (by have:n<=i:=L;lia) λJ p=>⟨rfl,I.turned (t':=s.toks) (λb o Q e=>p b o Q e) G B j M A⟩
 self:=λ_ _ _ _ _ st h=>wpAny_pyIter_rangeiter st h
end _L
namespace _L
variable {aj:aa}{fp:ag}{s:Ag}{H:Hp}{σ:St}
section
variable {X:Cx}{tg:Cb}
theorem cC {R:It->Hp->Prop}{E:ae}{lo hi:Am}{t u v:Sr}{Y:Ai}(I:Inv X aj σ H s)(h1 : -(2 ^ 62)<=lo)(h2:lo<2 ^ 62)(h3 : -(2 ^ 62)<=hi)(N:hi<2 ^ 62)
  (q:R (xm lo (hi-lo).toNat) H):db X (Qy (.ref s.heap.objs.size)) (vq X aj σ tg R) E { s with heap:=s.heap.push { cls:=.type "range",data:=.fields #[.int lo t,.int hi u,.int 1 v] },toks:=Y }:=by
 refine wpAny_pyIter_range (IsRange.new ..) (small_one h1 h2 h3 N) ?_;have Q:Inv X aj σ H { s with heap:=s.heap.push { cls:=.type "range",data:=.fields #[.int lo t,.int hi u,.int 1 v] },toks:=Y }:=I.kept λb o e=>Aj _ e
 refine⟨(s.heap.push { cls:=.type "range",data:=.fields #[.int lo t,.int hi u,.int 1 v] }).objs.size,[(s.heap.push { cls:=.type "range",data:=.fields #[.int lo t,.int hi u,.int 1 v] }).objs.size],_,_,H,rfl,
  Q.kept (t':=Y) λb o e=>Aj _ e,XB _ lo (hi-lo).toNat,?_,λb J=>?_,q⟩
 .have U:lo+((0:Ai):Am)*1=lo:=by simp
  have G:(((hi-lo).toNat:Ai):Am)-((0:Ai):Am)=Builtin.Range.rangeSize lo hi 1:=by rw[rangeSize_one];split <;> lia
  show IsRangeIter _ _ (lo+((0:Ai):Am)*1) ((((hi-lo).toNat:Ai):Am)-((0:Ai):Am)) 1;rw[U,G];exact Bf _ rfl
 .have e:b=(s.heap.push { cls:=.type "range",data:=.fields #[.int lo t,.int hi u,.int 1 v] }).objs.size:=by simpa using J
  subst e;exact Q.fpOk (Av _) (Q.hok.fresh (Av _))
def _w (O:TI)(g:TG)(L:TS):TS:=λD σ H=>O σ H λJ C=>∃ W:Ai->Ai->St->Hp->Prop,(∃ m,W 0 m σ C)/\∀ i m σ H,W i m σ H ->
 (J.stop i H/\D.nx σ H)\/(J.go i H/\∃ N:St->Hp->Prop,(∀ Q Y,N Q Y->∃ G,G<m/\W (i+1) G Q Y)/\∀ x Y,J.yld i H x Y->g x σ Y λU B=>L { D with nx:=N,ct:=N,bk:=D.nx } U B)
def vS (fp:ag)(h:Bk):Aa (Af × Co):=fp.filterMap λb=>(h.get? b).map λo=>(b,o)
theorem uR {h:Bk}{b:Af}(Q:b∈fp)(e:h.get? b=Ab o):(b,o)∈vS fp h:=Lp.mpr ⟨b,Q,by rw[e];rfl⟩
theorem dY {p:Af × Co}(hp:p∈vS fp h):p.1∈fp/\h.get? p.1=Ab p.2:=by
 obtain⟨b,Q,e⟩:=Lp.mp hp;cases q:h.get? b with
 |none=>rw[q] at e;cases e
 |some o =>
  rw[q] at e;have Y:(b,o)=p:=Dg e;subst Y;exact⟨Q,q⟩
theorem Inv.pinned (I:Inv X aj σ H s)(C:∀ b∈fp,xR X aj H b)(O:∀ b∈fp,∃ o,s.heap.get? b=Ab o/\∀ v,o.data≠.cell v):Inv X (aj++vS fp s.heap) σ H s:=
 I.pins_of λp G=>(Bv.mp G).elim (λz=>I.pin p (Cj _ z)) λz=>by
  obtain⟨Y,e⟩:=dY z;obtain⟨U,J,N,_⟩:=C p.1 Y;obtain⟨o,Q,d⟩:=O p.1 Y;rw[e] at Q;cases Q;exact⟨e,U,J,N,d⟩
theorem Inv.unpinned {pl:aa}(I:Inv X (aj++pl) σ H s):Inv X aj σ H s:=I.pins_of λp Q=>I.pin p (Cj _ (Dp _ Q))
inductive vy (X:Cx)(pins:aa)(fp:ag)(tn:Ai->Bk->Prop)(W:Ai->Ai->St->Hp->Prop)(n:Ai)(s':Ag):Prop
 |mk (i:Ai) (σ' : St) (H':Hp) (I:Inv X pins σ' H' s') (t:tn i s'.heap) (f:∀ b∈fp,H' b=none) (w:W i n σ' H'):vy X pins fp tn W n s'
theorem HR {l:Cb}{au:Fc}(hp:Vz (As X.prog X.w) X.A X.env X.xe)(hc:X.calm=true)(hi:PI X tg l wi)(hg:PG X tg g)(C:ip X cp tb)
  (hs:∀ x,Gn l X.env x=pure x:=by intro _;rfl):PS X (.For tg l cp [] au) (_w wi g tb):=by
 intro aj s σ H D I h;refine wpAny_For (bv (hi aj s σ H _ I h) λv s1 h1=>bv h1 λzb s2 h2=>?_) hs;obtain⟨it,fp,t,J,H2,e,I2,T,c,f2,W,⟨m0,w0⟩,M⟩:=h2;subst e;have O:∀ {H':Hp},(∀ b∈fp,H' b=none)->∀ b∈fp,xR X aj H' b:=λhn b C=>⟨hn b C,(f2 b C).2⟩;refine codeAny_forLoop_any (vy X aj fp t W) ?_ m0 ⟨0,σ,H2,I2,c,λb C=>(f2 b C).1,w0⟩;rintro n s3 ⟨i,U,j,I3,E,w,w3⟩;rcases M i n U j w3 with⟨A,qn⟩|⟨go,N,hN,step⟩
 .refine Nu hp (bv (T.done X rfl rfl rfl hc i aj s3 U j X.xe I3 (O w) E A) λr s4 ⟨p,I4⟩=>?_)
  subst p;exact Qp ⟨U,j,I4,qn⟩
 .refine Nu hp (bv (T.item X rfl rfl rfl hc i aj s3 U j X.xe I3 (O w) E go) λr s4 ⟨u,p,h4⟩=>?_)
  subst p;refine Nu hp (bv h4 λ_ a ⟨x,H5,I5,r5,y5,L,k⟩=>?_);have y:=I5.pinned (O k) (T.obj _ _ L);refine Nu hp (bv (hg _ a U H5 x u _ y r5 (step x H5 y5)) λ_ s6 ⟨q,H6,I6,q6⟩=>?_);refine Nu hp (bv (C _ s6 q H6 _ I6 q6) λf s7 B=>?_);have again:∀ {Q:St} {G:Hp},Inv X (aj++vS fp a.heap) Q G s7->N Q G->∃ m,m<n/\vy X aj fp t W m s7:=λ{Q G} Y z=>by
   obtain⟨m',hm,w7⟩:=hN Q G z;refine⟨m',hm,i+1,Q,G,Y.unpinned,T.keep _ _ _ L λb C o e=>(Y.pin (b,o) (Cj _ (Cj _ (uR C e)))).1,λb C=>?_,w7⟩;obtain⟨o,e,d⟩:=T.obj _ _ L b C;exact(Y.pin (b,o) (Cj _ (Cj _ (uR C e)))).2.1
  cases f with
  |next=>obtain⟨Q,G,Y,z⟩:=B;exact again Y z
  |cont=>obtain⟨Q,G,Y,z⟩:=B;exact again Y z
  |brk=>obtain⟨Q,G,Y,B⟩:=B;exact⟨Q,G,Y.unpinned,B⟩
  |ret v=>obtain⟨x7,Q,G,Y,r7,B⟩:=B;exact⟨x7,Q,G,Y.unpinned,r7,B⟩
end
end _L
namespace _L
variable {us:ai}{f:Ad->Ad->Lb Ad}{g:Am->Am->Am}
abbrev R2:=V->V->Hp->VK->Prop
def lq (X:Cx)(f:Ad->Ad->Lb Ad)(r:R2):Prop:=
 ∀ (Y:aa) (s:Ag) (σ : St) (H:Hp) (x y:V) (v u:Ad) (Q:VK),Inv X Y σ H s->qL x v->qL y u->r x y H Q ->
  db X (f v u) (EP X Y σ Q) X.xe s
def Q_ (X:Cx)(f:Ad->Lb Ad)(r:V->Hp->VK->Prop):Prop:=
 ∀ (Y:aa) (s:Ag) (σ : St) (H:Hp) (x:V) (v:Ad) (Q:VK),Inv X Y σ H s->qL x v->r x H Q ->
  db X (f v) (EP X Y σ Q) X.xe s
def jQ (X:Cx)(f:Ad)(r:Aa V->Hp->VK->Prop):Prop:=
 ∀ (Y:aa) (s:Ag) (σ : St) (H:Hp) (J:Aa V) (us:ai) (Q:VK),Inv X Y σ H s->qQ J us->r J H Q ->
  db X (call f us) (EP X Y σ Q) X.xe s
def qAt (X:Cx)(r:V->Hp->(Au->Hp->Prop)->Prop):Prop:=
 ∀ (Y:aa) (s:Ag) (σ : St) (H:Hp) (x:V) (v:Ad) (Q:Au->Hp->Prop),Inv X Y σ H s->qL x v->r x H Q ->
  db X (truthy v) (TP X Y σ Q) X.xe s
def _i (r:R2)(J G:TE):TE:=λσ H Q=>J σ H λx Y=>G σ Y λy U=>r x y U Q
def rI (C:Am->Am->Prop)(g:Am->Am->V):R2:=λx y H Q=>∃ i j,x=.int i/\y=.int j/\C i j/\Q (g i j) H
def sr (g:Am->Am->V):R2:=λx y H Q=>∃ i j,x=.int i/\y=.int j/\Q (g i j) H
def rU (g:Am->V):V->Hp->VK->Prop:=λx H Q=>∃ i,x=.int i/\Q (g i) H
section
variable {X:Cx}{a b:Cb}{ta tb:TE}
theorem _X (A:PE X a ta)(E:PE X b tb){aj:aa}{s:Ag}{σ : St}{H:Hp}{R:V->V->Hp->Prop}(I:Inv X aj σ H s)
  (h:ta σ H λx N=>tb σ N λy Y=>R x y Y) {Q:ae} {f:Ad->Ad->Lb Ad}
  (z:∀ v u G x y Y,Inv X aj σ Y G->qL x v->qL y u->R x y Y->db X (f v u) Q X.xe G) :
  db X (eval a X.env) (λv U=>db X (eval b X.env) (λu J=>db X (f v u) Q X.xe J) X.xe U) X.xe s:=by
 refine bv (A aj s σ H _ I h) λv B ⟨x,N,T,O,L⟩=>?_;refine bv (E aj B σ N _ T L) λu G ⟨y,Y,w,C,M⟩=>?_;exact z v u G x y Y w O C M
theorem ya {f:Ad->Ad->Lb Ad}{C:Am->Am->Prop}
  (rule:∀ (i j:Am) (t u:Sr) (s:Ag) (Q:ae) (E:ae),C i j->Q (.int (g i j) s.toks) { s with toks:=s.toks+1 } -> db X (f (.int i t) (.int j u)) Q E s) :
  lq X f (rI C λi j=>.int (g i j)):=by
 intro N s σ H x y v u Q I G J h;obtain⟨i,j,rfl,rfl,Y,q⟩:=h;obtain⟨t,rfl⟩:=G;obtain⟨U,rfl⟩:=J;exact rule i j t U s _ _ Y ⟨.int (g i j),H,I.tok _,⟨_,rfl⟩,q⟩
theorem HA {f:Ad->Ad->Lb Ad}
  (rule:∀ (i j:Am) (t u:Sr) (s:Ag) (Q:ae) (E:ae),Q (.int (g i j) s.toks) { s with toks:=s.toks+1 } -> db X (f (.int i t) (.int j u)) Q E s) :
  lq X f (sr λi j=>.int (g i j)):=by
 intro G s σ H x y v u Q I U Y h;obtain⟨i,j,rfl,rfl,q⟩:=h;obtain⟨t,rfl⟩:=U;obtain⟨J,rfl⟩:=Y;exact rule i j t J s _ _ ⟨.int (g i j),H,I.tok _,⟨_,rfl⟩,q⟩
theorem ZS {g:Am->Am->Au}
  (rule:∀ (i j:Am) (t u:Sr) (s:Ag) (Q:ae) (E:ae),Q (.bool (g i j)) s->db X (f (.int i t) (.int j u)) Q E s) :
  lq X f (sr λi j=>.bl (g i j)):=by
 intro G s σ H x y v u Q I U Y h;obtain⟨i,j,rfl,rfl,q⟩:=h;obtain⟨t,rfl⟩:=U;obtain⟨J,rfl⟩:=Y;exact rule i j t J s _ _ ⟨.bl (g i j),H,I,rfl,q⟩
def qAp (i j:Am):Prop:=0<j/\j<1073741824
def qAq (i j:Am):Prop:=0<=j/\j<=1000000/\i.natAbs<2 ^ 64
def UC (i j:Am):Prop:=(-(2 ^ 64)<i/\i<2 ^ 64)\/(-(2 ^ 64)<j/\j<2 ^ 64)
theorem UC.ok (h:UC i j):IntMulOk i j:=by
 rcases h with⟨Y,Q⟩|⟨Y,Q⟩
 .exact .of_left (intBits_le_64 Y Q)
 .exact .of_right (intBits_le_64 Y Q)
theorem HB:lq X (Fj .Add) (sr λi j=>.int (i+j)):=HA λ_ _ _ _ _ _ _ q=>add_int q
theorem HG:lq X (Fj .Sub) (sr λi j=>.int (i-j)):=HA λ_ _ _ _ _ _ _ q=>sub_int q
theorem HE:lq X (Fj .Mult) (rI UC λi j=>.int (i*j)):=ya λ_ _ _ _ _ _ _ Q q=>mul_int q Q.ok
theorem N2:lq X (Fj .FloorDiv) (rI qAp λi j=>.int (i/j)):=ya λi j _ _ _ _ _ Q q=>by
 have J:(0:Am)<j:=Q.1;have Y:j<1073741824:=Q.2;exact floordiv_int li (by rw[Int.fdiv_eq_ediv_of_nonneg i li];exact q) (.inl (PyProof.noPylong_small li))
theorem HD:lq X (Fj .Mod) (rI (λ_ j=>0<j) λi j=>.int (i % j)):=ya λi j _ _ _ _ _ Q q=>by
 have Y:(0:Am)<j:=Q;exact mod_int' li (by rw[Int.fmod_eq_emod_of_nonneg i li];exact q)
theorem HF:lq X (Fj .Pow) (rI qAq λi j=>.int (i ^ j.toNat)):=ya λ_ _ _ _ _ _ _ Q q=>pow_int_small Q.1 Q.2.1 Q.2.2 q
theorem _g {f:Ad->Lb Ad}{g:Am->Am}
  (rule:∀ (i:Am) (t:Sr) (s:Ag) (Q:ae) (E:ae),Q (.int (g i) s.toks) { s with toks:=s.toks+1 } -> db X (f (.int i t)) Q E s) :
  Q_ X f (rU λi=>.int (g i)):=by
 intro J s σ H x v Q I Y h;obtain⟨i,rfl,q⟩:=h;obtain⟨t,rfl⟩:=Y;exact rule i t s _ _ ⟨.int (g i),H,I.tok _,⟨_,rfl⟩,q⟩
theorem AJ:Q_ X (Aa9 .USub) (rU λi=>.int (-i)):=_g λ_ _ _ _ _ q=>neg_int q
end
section
variable {X:Cx}{b:Cb}
theorem WO {σ:St}{Q:VK}{k Y:Au}(I:Inv X aj σ H s)(q:Q (.bl k) H)(e:k=Y):EP X aj σ Q (.bool Y) s:=by
 subst e;exact⟨.bl k,H,I,rfl,q⟩
theorem qAA:lq X (Cy .Lt) (sr λi j=>.bl (decide (i<j))):=ZS λ_ _ _ _ _ _ _ q=>lt_int q
theorem OZ:lq X (Cy .LtE) (sr λi j=>.bl (decide (i<=j))):=ZS λ_ _ _ _ _ _ _ q=>le_int q
theorem OY:lq X (Cy .Gt) (sr λi j=>.bl (decide (j<i))):=ZS λ_ _ _ _ _ _ _ q=>gt_int q
theorem OX:lq X (Cy .GtE) (sr λi j=>.bl (decide (j<=i))):=ZS λ_ _ _ _ _ _ _ q=>ge_int q
theorem HC:lq X (Cy .Is) (λx y H Q=>y=.non/\Q (.bl (decide (x=.non))) H):=by
 intro U s σ H x y v u Q I Y J h;obtain⟨rfl,q⟩:=h;cases J;refine is_none_gen (WO I q ?_);cases x <;> first
  |(cases Y;rfl)
  |(obtain⟨t,rfl⟩:=Y;rfl)
theorem N3:lq X (Cy .IsNot) (λx y H Q=>y=.non/\Q (.bl (!decide (x=.non))) H):=by
 intro U s σ H x y v u Q I Y J h;obtain⟨rfl,q⟩:=h;cases J;refine isnot_none_gen (WO I q ?_);cases x <;> first
  |(cases Y;rfl)
  |(obtain⟨t,rfl⟩:=Y;rfl)
theorem lq.or (h:lq X f r)(h':lq X f J):lq X f (λx y H Q=>r x y H Q\/J x y H Q):=by
 intro U s σ H x y v u Q I G Y q;rcases q with q|q
 .exact h U s σ H x y v u Q I G Y q
 .exact h' U s σ H x y v u Q I G Y q
theorem gD (b:Cb){op:Wa}(h:op≠.In:=by decide)(h2:op≠.NotIn:=by decide):Nk op b=false:=by
 have Y:(op == CmpOp.In)=false:=by cases op <;> first|rfl|exact absurd rfl h
 have Q:(op == CmpOp.NotIn)=false:=by cases op <;> first|rfl|exact absurd rfl h2
 cases b <;> simp[Nk,Y,Q]
def Q7 (K:Ah)(x:V)(H:Hp)(k:Au):Prop:=
 match x with
 |.non=>k=false
 |.bl b=>k=b
 |.int i=>k=(i != 0)
 |.str y=>y.length<=sizeLine/\k=((y.length:Am) != 0)
 |.byt y=>y.size<=sizeLine/\k=((y.size:Am) != 0)
 |.ref p=>(∃ Y,ju K H p Y/\k=!Y.isEmpty)\/(∃ Y,jf K H p Y/\k=!Y.isEmpty)\/∃ Q,H p=Ab (.dK Q)/\k=!Q.isEmpty
 |_=>Fp
theorem Z3 {κ:Type}{kvs:Aa (κ × V)}{vs:Aa (κ × Ad)}(r:KV kvs vs):(!vs.isEmpty)=!kvs.isEmpty:=by
 cases r <;> rfl
theorem tF (r:qQ xs ao):(!ao.toArray.isEmpty)=!xs.isEmpty:=by
 cases r <;> simp
theorem bF:(sizeLine:Ai)<2 ^ 63:=by rw[Es];decide
theorem bL:qAt X (λx H Q=>∃ k,Q7 X.K x H k/\Q k H):=by
 intro A s σ H x v Q I N h;obtain⟨k,e,q⟩:=h;have M:=bF;have w:sizeLine=16777216:=Es;cases x with
 |non =>
  cases N;have Y:k=false:=e;subst Y;exact truthy_none ⟨H,I,q⟩
 |bl b =>
  cases N;have Y:k=b:=e;subst Y;exact Su ⟨H,I,q⟩
 |int i =>
  obtain⟨t,rfl⟩:=N;have Y:k=(i != 0):=e;subst Y;exact PySem.P.truthy_int ⟨H,I,q⟩
 |str y =>
  obtain⟨t,rfl⟩:=N;obtain⟨E,Y⟩:y.length<=sizeLine/\k=((y.length:Am) != 0):=e;subst Y;exact PySem.P.truthy_str li ⟨H,I.tok _,q⟩
 |byt y =>
  obtain⟨t,rfl⟩:=N;obtain⟨E,Y⟩:y.size<=sizeLine/\k=((y.size:Am) != 0):=e;subst Y;exact PySem.W.truthy_bytes li ⟨H,I.tok _,q⟩
 |ref p =>
  cases N;have Y:(∃ G,ju X.K H p G/\k=!G.isEmpty)\/(∃ G,jf X.K H p G/\k=!G.isEmpty)\/∃ J,H p=Ab (.dK J)/\k=!J.isEmpty:=e;rcases Y with⟨G,O,Y⟩|⟨G,O,Y⟩|⟨J,O,Y⟩
  .subst Y
   obtain⟨L,r,pl,B⟩:=I.list O;have U:=r.length;exact wpAny_truthy_list pl.isList (by simp only[Bh];lia) ⟨H,I.tok _,by rw[tF r];exact q⟩
  .subst Y
   obtain⟨L,r,pl,B⟩:=I.tuple O;have U:=r.length;exact truthy_tuple pl (by simp only[Bh];lia) ⟨H,I.tok _,by rw[tF r];exact q⟩
  .subst Y
   obtain⟨B,T,C,r,m⟩:J.length<=sizeLine/\(p == IN)=false/\∃ C,KV J C/\s.heap.DictOf (zV X.prog X.w) p C:=I.hok p _ O;have U:J.length=C.length:=Paired.length r;exact wpAny_truthy_dict T m li ⟨H,I.tok _,by rw[Z3 r];exact q⟩
 |_=>exact(show Fp from e).elim
theorem ZT:lq X (Fj .Add) (λx y H Q=>∃ i j,x=.str i/\y=.str j/\i.length+j.length<=sizeLine/\Q (.str (i++j)) H):=by
 intro N s σ H x y v u Q I G Y h;obtain⟨i,j,rfl,rfl,J,q⟩:=h;obtain⟨t,rfl⟩:=G;obtain⟨U,rfl⟩:=Y;exact add_str (λU O=>⟨.str (i++j),H,I.tok _,⟨_,rfl⟩,q⟩) J
theorem kF {x:V}(r:qQ [x] us):∃ u,us=[u]/\qL x u:=by
 cases r with
 |cons Q Y=>cases Y;exact⟨_,rfl,Q⟩
theorem XE {x y:V}(r:qQ [x,y] us):∃ u Q,us=[u,Q]/\qL x u/\qL y Q:=by
 cases r with
 |cons Y U =>
  cases U with
  |cons J G=>cases G;exact⟨_,_,rfl,Y,J⟩
theorem d9:jQ X (.type "int") (λxs H Q=>(∃ i,xs=[.int i]/\Q (.int i) H)\/∃ k,xs=[.bl k]/\Q (.int (if k then 1 else 0)) H):=by
 intro J s σ H xs us Q I r h;rcases h with⟨i,rfl,q⟩|⟨k,rfl,q⟩
 .obtain⟨u,rfl,t,rfl⟩:=kF r
  exact call_int_int ⟨.int i,H,I,⟨_,rfl⟩,q⟩
 .obtain⟨u,rfl,Y⟩:=kF r
  cases Y;exact call_int_bool ⟨.int (if k then 1 else 0),H,I.tok _,⟨_,rfl⟩,q⟩
def D2 (K:Ah)(x:V)(H:Hp)(n:Ai):Prop:=
 match x with
 |.str y=>y.length<=sizeLine/\n=y.length
 |.byt y=>y.size<=sizeLine/\n=y.size
 |.ref p=>(∃ Q,ju K H p Q/\n=Q.length)\/∃ Q,jf K H p Q/\n=Q.length
 |_=>Fp
theorem UK:jQ X (.builtin "len") (λxs H Q=>∃ x n,xs=[x]/\D2 X.K x H n/\Q (.int n) H):=by
 intro L s σ H xs us Q I r h;obtain⟨x,n,rfl,e,q⟩:=h;obtain⟨u,rfl,N⟩:=kF r;have T:=bF;have E:sizeLine=16777216:=Es;cases x with
 |str y =>
  obtain⟨t,rfl⟩:=N;obtain⟨B,J⟩:y.length<=sizeLine/\n=y.length:=e;subst J;exact len_str li ⟨.int _,H,I.tok _,⟨_,rfl⟩,q⟩
 |byt y =>
  obtain⟨t,rfl⟩:=N;obtain⟨B,J⟩:y.size<=sizeLine/\n=y.size:=e;subst J;exact PySem.W.len_bytes li ⟨.int _,H,I.tok _,⟨_,rfl⟩,q⟩
 |ref p =>
  cases N;have J:(∃ xs,ju X.K H p xs/\n=xs.length)\/∃ xs,jf X.K H p xs/\n=xs.length:=e;rcases J with⟨xs,U,J⟩|⟨xs,U,J⟩
  .subst J
   obtain⟨C,G,pl,O⟩:=I.list U;have Y:=G.length;exact Calls.call_len_list pl.isList (by simp only[Bh];lia) ⟨.int xs.length,H,I.tok _,⟨_,by simp only[Bh];rw[Y]⟩,q⟩
  .subst J
   obtain⟨C,G,pl,O⟩:=I.tuple U;have Y:=G.length;exact len_tuple pl (by simp only[Bh];lia) ⟨.int xs.length,H,I.tok _,⟨_,by simp only[Bh];rw[Y]⟩,q⟩
 |_=>exact(show Fp from e).elim
end
end _L
namespace _L
variable {mA:ah}
structure vw (h:Bk)(x dx C:Af)(mA:ah):Prop where
 obj:h.get? x=Ab (Vc C dx)
 ns:h.Ns1 dx mA
 ne:dx≠x
set_option tactic.hygienic true in
theorem bG {h:Bk}(n:h.Ns1 U mA):∃ J,h.get? U=Ab J/\∀ name,Wu name J=Ab (mA name):=by
 obtain⟨o,Y,T,B,N,G,_,O⟩:=n;refine⟨o,B,λname=>?_⟩;have e:=O name;unfold nsFind findBy at e;rw[<- Yy] at e;unfold Wu;rw[N];dsimp only
 split
 .rename_i y q
  rw[q] at e;exact congrArg Ab e
 .rename_i q
  rw[q] at e;have a:Y.toList.any (·.refKey)=false:=by
   rw[List.any_eq_false];intro y L;obtain⟨z,t,Q⟩:=G y (Ql.mp L);simp[DictEntry.refKey,Q]
  have C:¬ Y.toList.any (·.refKey)=true:=by rw[a];exact Gx
  rw[AT C];exact congrArg Ab e
theorem vw.look (I:vw h x Y C mA):∃ Q,PySem.W.InstAt h x (Vc C Y) C (Ab Q)/\∀ name,Wu name Q=Ab (mA name):=
 let ⟨Q,U,J⟩:=bG I.ns
 ⟨Q,⟨I.obj,rfl,rfl,U⟩,J⟩
theorem yP.some_of (r:yP (Ab v) o):∃ u,o=Ab u/\qL v u:=by
 cases o with
 |none=>exact(show Fp from r).elim
 |some u=>exact⟨u,rfl,r⟩
theorem WW (r:qL v u):PySem.W.handedIn u=true:=by
 cases v with
 |non=>cases (show u=Dj from r);rfl
 |bl b=>cases (show u=Fv b from r);rfl
 |int i=>obtain⟨t,e⟩:=(show ∃ t,u=Qo i t from r);cases e;rfl
 |str x=>obtain⟨t,e⟩:=(show ∃ t,u=Vw x t from r);cases e;rfl
 |byt b=>obtain⟨t,e⟩:=(show ∃ t,u=Value.bytes b t from r);cases e;rfl
 |flt b=>obtain⟨t,e⟩:=(show ∃ t,u=Aa8 b t from r);cases e;rfl
 |ref a=>cases (show u=Cc a from r);rfl
 |ty n=>cases (show u=Hn n from r);rfl
section
variable {P:Bc}{w:Bu}{H:Hp}{h:Bk}{a C dx:Af}{fs:Aa (Ar × V)}
theorem MV (Q:gt P w H h)(e:H a=Ab (.ins C dx fs)):∃ mA,vw h a dx C mA/\(∀ f,yP (fs.lookup f) (mA f))/\Qx mA (fs.map (·.1))/\fs.length<=1000/\H dx=Ab (.own a):=by
 obtain⟨d,z,Y,J,mA,n,r,q⟩:=(show zC P w H h a (.ins C dx fs) from Q a _ e)
 exact⟨mA,⟨J,n,Y⟩,r,q,z,d⟩
end
structure zt (K:Ah)(C:Af):Prop where
 pg:AaA K C Str.empty=true
 hd:dL K C=true
 po:PySem.W.plainOver K C=true
 sa:Hg K (.ref C) "__setattr__" = Ab (Ab (.builtin "object.__setattr__"))
theorem zt.get {K:Ah}(c:zt K C)(f:Ar):AaA K C f=true:=c.pg
section
variable {s:Ag}{f:Ar}{A:Bl}{E:ae}
theorem F7 {prog:Bc}{w:Bu}{J:Fc}{Q:ae}(U:Lx e f al (eval e al)=eval e al)
  (h:Ao (As prog w) A (eval e al) (λo Y=>Ao (As prog w) A (getAttr o f true) Q E Y) E s):Ao (As prog w) A (eval (.Attribute e f J) al) Q E s:=
 Attribute_any_ h (by rw[arm_eval_Attribute,U])
end
section
variable {X:Cx}{aj:aa}{σ: St}{H:Hp}{s:Ag}{A:Bl}{E:ae}{Q:ae}{c:Ad}{b:Au}
inductive jt (K:Ah)(H:Hp):V->Ad->Prop where
 |non:jt K H .non (.type "NoneType")
 |bl (x:Au):jt K H (.bl x) (.type "bool")
 |int (i:Am):jt K H (.int i) (.type "int")
 |str (x:Ar):jt K H (.str x) (.type "str")
 |flt (x:UInt64):jt K H (.flt x) (.type "float")
 |lst {a:Af} {xs:Aa V} (e:H a=Ab (.lst xs)):jt K H (.ref a) (.type "list")
 |frz {a:Af} {o:Co} {xs:Aa V} (e:H a=Ab (.frz o (.lst xs))):jt K H (.ref a) (.type "list")
 |tup {a:Af} {xs:Aa V} (e:H a=Ab (.tup xs)):jt K H (.ref a) (.type "tuple")
 |dK {a:Af} {kvs:Aa (bz × V)} (e:H a=Ab (.dK kvs)):jt K H (.ref a) (.type "dict")
 |dT {a:Af} {kvs:Aa (Aa bz × V)} (e:H a=Ab (.dT kvs)):jt K H (.ref a) (.type "dict")
 |ins {a C dx:Af} {fs:Aa (Ar × V)} (e:H a=Ab (.ins C dx fs)) (cl:zt K C) (ha:Hg K (.ref C) "__class__" = Ab (Ab (.builtin "object.__class__")))
   (hn:f8 K (.builtin "object.__class__") "__get__" = Ab (Ab (.builtin "getset_descriptor.__get__"))) (htk:AaR K (.builtin "object.__class__")=Ab true)
   (hm:Xp K C (.type "object")=Ab true):jt K H (.ref a) (.ref C)
theorem Y3 {u t:Ad}(I:Inv X aj σ H s)(U:qL x u)(ty:jt X.K H x t)(e:Mv X.K t c=Ab b)(h:∀ d,Q (.bool b) { s with toks:=d }) :
  Ao (As X.prog X.w) A (call (.builtin "isinstance") [u,c]) Q E s:=by
 cases ty with
 |non=>cases (show u=Dj from U);exact Ej PySem.W.kitx_none I.kIn Hz e (λz=>nomatch z) h
 |bl y=>cases (show u=Fv y from U);exact Ej PySem.W.kitx_bool I.kIn Hz e (λz=>nomatch z) h
 |int i=>obtain⟨t,q⟩:=(show ∃ t,u=Qo i t from U);cases q;exact Ej PySem.W.kitx_int I.kIn Hz e (λz=>nomatch z) h
 |str y=>obtain⟨t,q⟩:=(show ∃ t,u=Vw y t from U);cases q;exact Ej PySem.W.kitx_str I.kIn Hz e (λz=>nomatch z) h
 |flt y=>obtain⟨t,q⟩:=(show ∃ t,u=Aa8 y t from U);cases q;exact Ej PySem.W.kitx_float I.kIn Hz e (λz=>nomatch z) h
 |@lst a B Y =>
  cases (show u=Cc a from U)
  obtain⟨_,_,n,_,G⟩:=(show zC X.prog X.w H s.heap a (.lst B) from I.hok a _ Y)
  exact Ej Sv I.kIn ⟨_,G,rfl⟩ e (λz=>nomatch z) h
 |@frz a v B Y =>
  cases (show u=Cc a from U)
  obtain⟨_,_,_,n,_,G⟩:=(show zC X.prog X.w H s.heap a (.frz v (.lst B)) from I.hok a _ Y)
  exact Ej Sv I.kIn ⟨_,G,rfl⟩ e (λz=>nomatch z) h
 |@tup a B Y =>
  cases (show u=Cc a from U)
  obtain⟨_,_,_,p⟩:=(show zC X.prog X.w H s.heap a (.tup B) from I.hok a _ Y)
  obtain⟨o,G,L,_⟩:=p;exact Ej Yz I.kIn ⟨o,G,L⟩ e (λz=>nomatch z) h
 |@dK a N Y =>
  cases (show u=Cc a from U)
  obtain⟨_,_,f,_,p⟩:=(show zC X.prog X.w H s.heap a (.dK N) from I.hok a _ Y)
  obtain⟨o,k,w,G,L,_⟩:=p;exact Ej sB I.kIn ⟨o,G,L.1⟩ e (λz=>nomatch z) h
 |@dT a N Y =>
  cases (show u=Cc a from U)
  obtain⟨_,_,B,_,o,k,w,G,L,_⟩:=(show zC X.prog X.w H s.heap a (.dT N) from I.hok a _ Y)
  exact Ej sB I.kIn ⟨o,G,L.1⟩ e (λz=>nomatch z) h
 |@ins a C dx m Y M g l T j =>
  cases (show u=Cc a from U)
  obtain⟨mA,O,_⟩:=MV I.hok Y;obtain⟨r,J,_⟩:=O.look;exact Ej (PySem.W.kitx_own (M.get _) M.hd g l T j) I.kIn J e (λz=>nomatch z) h
end
end _L
namespace _L
variable {kw:Aa (Ar × Ad)}{us:ai}{ps:Aa Ar}{ar:Aa Jk}{K:Ah}{mg:ah}{kindOf:Ar->Al Je}{P:Bc}{A:Bl}{w:Bu}{am:Fq}
structure gp (k:Ai)(A:Bl):Prop where
 hd:A.handled=none
 dp:A.depth+3*k+5<Ro
 un:A.units+16*k+200<Ed
 gd:A.guards=Ab []
theorem gp.deeper {k:Ai}(r:gp (k+1) A)(al:Jk):gp k (A.deeper al):=
 ⟨r.hd,by have:=r.dp;show A.depth+1+3*k+5<_;lia,by have:=r.un;show A.units+3+16*k+200<_;lia,r.gd⟩
theorem ZG:(A.under (.builtin "type.__call__" ⟨.ref C::us,kw⟩)).depth=A.depth+1:=by
 first|rfl|simp[Uo,Code.weight,Code.isCreation,Code.isGuard,Code.isCaller,Code.frames,Zm,guardIds]
theorem ZH:(A.under (.builtin "type.__call__" ⟨.ref C::us,kw⟩)).units=A.units+1:=by
 first|rfl|simp[Uo,Code.cUnits,Code.frames,Zm]
theorem gp.make {k:Ai}(r:gp (k+1) A)(C:Af)(us:ai)(kw:Aa (Ar × Ad)):gp k (A.under (.builtin "type.__call__" ⟨.ref C::us,kw⟩)):=
 ⟨r.hd,by have:=r.dp;rw[ZG];lia,by have:=r.un;rw[ZH];lia,by simp[Uo,Code.guards,Code.isGuard,guardIds,pushGuards,r.gd]⟩
theorem gp.depth {k:Ai}(r:gp k A):A.depth<Ro:=by have:=r.dp;lia
theorem gp.units {k:Ai}(r:gp k A):A.units+64<Ed:=by have:=r.un;lia
def _u:TA:=λ_ H Q=>Q [] H
section
variable {X:Cx}{e:Cb}{es:Aa Cb}{t:TA}{au:Fc}
theorem HH:PA X [] _u:=λ_ _ _ _ H Q I h=>Sw ⟨[],H,I,.nil,h⟩
def _s (t:TA):TE:=λσ H Q=>t σ H λJ Y=>J.length<=sizeLine/\∀ p,Y p=none->Q (.ref p) (bw Y p (.tup J))
def _v (t:TA):TE:=λσ H Q=>t σ H λJ Y=>J.length<=sizeLine/\∀ p,Y p=none->Q (.ref p) (bw Y p (.lst J))
theorem HM  (h:PA X es t):PE X (.Tuple es x1 au) (_s t):=by
 intro G s σ H Q I N;refine wpAny_Tuple_spliced (bv (h au G s σ H _ I N) λus Y ⟨O,J,U,r,z,q⟩=>⟨by rw[<- r.length];exact z,?_⟩)
 have C:J Y.heap.objs.size=none:=U.hok.fresh (Av _);refine⟨.ref Y.heap.objs.size,bw J Y.heap.objs.size (.tup O),U.laid (t':=Y.toks) (λb u e=>Aj _ e) (Av _) ?_,rfl,q _ C⟩;exact⟨z,us,r,⟨_,Bf _ rfl,rfl,_,rfl⟩⟩
theorem V2 (h:PA X es t):PE X (.List es au) (_v t):=by
 intro G s σ H Q I N;refine wpAny_List_spliced (bv (h au G s σ H _ I N) λus Y ⟨O,J,U,r,z,q⟩=>⟨by rw[<- r.length];exact z,?_⟩)
 have C:J Y.heap.objs.size=none:=U.hok.fresh (Av _);refine⟨.ref Y.heap.objs.size,bw J Y.heap.objs.size (.lst O),U.laid (t':=Y.toks) (λb u e=>Aj _ e) (Av _) ?_,rfl,q _ C⟩;exact⟨z,us,0,r,Bf _ rfl⟩
end
abbrev Sp:=Aa V->Hp->VK->XK->Prop
abbrev ue:=Aa Jk->Hp->Ag->XK->Ad->Ag->Prop
structure md (P:Bc)(w:Bu)(K:Ah)(mg:ah)(base:Bk)(A:Bl)(outer:Aa Jk)(s:Ag)(H:Hp):Prop where
 frames:A.frames=Ab outer
 mod:Mod K mg base
 bs:∀ b o,base.get? b=Ab o->s.heap.get? b=Ab o/\H b=none
 bsz:base.objs.size<=s.heap.objs.size
 funs:s.heap.FunFrames base outer
 frf:∀ b∈gx outer,H b=none
 hok:gt P w H s.heap
 bare:Ps s.gens
def CE (ar:Aa Jk)(P:Bc)(w:Bu)(H:Hp)(s:Ag)(Q:VK)(u:Ad)(s':Ag):Prop:=
 ∃ v Y,s'.os=s.os/\Ps s'.gens/\Un (gx ar) [] H Y s.heap s'.heap/\gt P w Y s'.heap/\qL v u/\Q v Y
def CR (CX:ue)(ar:Aa Jk)(P:Bc)(w:Bu)(H:Hp)(s:Ag)(Q:VK)(E:XK)(r:Si)(s':Ag):Prop:=
 match r with
 |.ok (.ret u)=>CE ar P w H s Q u s'
 |.ok _=>Fp
 |.error e=>CX ar H s E e s'
structure my (P:Bc)(w:Bu)(K:Ah)(mg:ah)(base:Bk)(CX:ue)(k:Ai)(f:Af)(fd:Gd)(ps:Aa Ar)(sp:Sp):Prop where
 len:∀ vs H Q E,sp vs H Q E->vs.length=ps.length
 run:∀ (A:Bl) (outer:Aa Jk) (s:Ag) (H:Hp) (args:Args) (us:ai) (vs:Aa V) (Q:VK) (E:XK),gp k A->md P w K mg base A outer s H->Pv s fd args (ps.zip us)->qQ vs us->sp vs H Q E ->
  Ht (As P w) A (.call (.ref f) args) (CR CX outer P w H s Q E) s
theorem md.make {base:Bk}(e:md P w K mg base A ar s H)(C:Af)(us:ai)(kw:Aa (Ar × Ad)) :
  md P w K mg base (A.under (.builtin "type.__call__" ⟨.ref C::us,kw⟩)) ar s H:=⟨by first|exact e.frames|(simpa [Uo,Code.envs,Zm,pushEnvs] using e.frames),e.mod,e.bs,e.bsz,e.funs,e.frf,e.hok,e.bare⟩
section
variable {X:Cx}{aj:aa}{σ: St}{H:Hp}{s s':Ag}
theorem Inv.env0 (I:Inv X aj σ H s):md X.prog X.w X.K X.mg X.base X.A X.stack s H:=
 ⟨I.ok.frames,I.ok.mod,I.bs,Cs I.ok.bsz I.sz,I.stack,I.stkFree,I.hok,I.bare⟩
theorem Inv.after (I:Inv X aj σ H s)(h:CE X.stack X.prog X.w H s Q u s'):EP X aj σ Q u s':=by
 obtain⟨v,O,os,Y,G,U,r,q⟩:=h;obtain⟨N,g,d,t,J⟩:=s';obtain rfl:J=s.os:=os;exact⟨v,O,I.call (h':=N) (g':=g) (d':=d) (t':=t) (ch:=[]) G U Y (λb z=>absurd z a8),r,q⟩
end
def u3 (K:Ah)(fd:Gd)(ps:Aa Ar)(ds:ai):Prop:=
 ∀ (s:Ag) (us:ai),K.In s.heap->(us++ds).length=ps.length->Pv s fd ⟨us,[]⟩ (ps.zip (us++ds))
theorem u3.all (h:∀ us:Aa Ad,us.length=ps.length->Yt fd ⟨us,[]⟩=pure (ps.zip us)):u3 K fd ps []:=λs us _ Q=>by
 rw[Gs] at Q ⊢;exact .of_eq (h us Q)
structure ci (N P:Aa Ar)(sc:Fq):Prop where
 kind:sc.kind=.function
 co:sc.isCoroutine=false
 gen:sc.isGenerator=false
 nd:N.Nodup
 pre:N.take P.length=P
 par:∀ x∈P,sc.names.lookup x=Ab .local \/ sc.names.lookup x=Ab .cell
 nofree:∀ y∈sc.names,y.2≠.free
theorem d7 {x:Ar}:∀ {Q:Aa (Ar × Ad)} {m:ah},(∀ v,(x,v) ∉ Q)->Xq kindOf Q m x=m x
 |[],_,_=>rfl
 |(n,v)::r,m,h=>by
  unfold Xq;rw[d7 λw Y=>h w (Cd _ Y)]
  split
  .have:x≠n:=by rintro rfl;exact h v Dm
   simp[this]
  .rfl
theorem lZ {x:Ar}:∀ {Q:Aa (Ar × Ad)} {m:ah},(∀ v,(x,v) ∉ Q)->Xr kindOf Q m x=m x
 |[],_,_=>rfl
 |(n,v)::r,m,h=>by
  unfold Xr;rw[lZ λw Y=>h w (Cd _ Y)]
  split
  .rfl
  .have:x≠n:=by rintro rfl;exact h v Dm
   simp[this]
theorem d0:∀ {P:Aa Ar} {vs:ai} {i:Ai} {m:ah},P.Nodup->P[i]? = Ab x->vs[i]? = Ab v->kindOf x=Ab .local ->
  Xq kindOf (P.zip vs) m x=Ab v
 |[],_,_,_,_,h,_,_=>by simp at h
 |_::_,[],_,_,_,_,h,_=>by simp at h
 |p::P,w::vs,0,m,J,Y,Q,U=>by
  simp at Y Q;subst Y;subst Q;show Xq kindOf ((p,w)::P.zip vs) m p=_;unfold Xq;rw[d7 λv hv=>(Jf.mp J).1 (Qq hv).1,Ay U];simp
 |p::P,w::vs,i+1,m,J,Y,Q,U=>by
  show Xq kindOf ((p,w)::P.zip vs) m x=_;unfold Xq;exact d0 (i:=i) (Jf.mp J).2 (by simpa using Y) (by simpa using Q) U
theorem lY:∀ {P:Aa Ar} {vs:ai} {i:Ai} {m:ah},P.Nodup->P[i]? = Ab x->vs[i]? = Ab v->kindOf x≠Ab .local ->
  Xr kindOf (P.zip vs) m x=Ab v
 |[],_,_,_,_,h,_,_=>by simp at h
 |_::_,[],_,_,_,_,h,_=>by simp at h
 |p::P,w::vs,0,m,J,Y,Q,U=>by
  simp at Y Q;subst Y;subst Q;show Xr kindOf ((p,w)::P.zip vs) m p=_;unfold Xr;rw[lZ λv hv=>(Jf.mp J).1 (Qq hv).1,AT U];simp
 |p::P,w::vs,i+1,m,J,Y,Q,U=>by
  show Xr kindOf ((p,w)::P.zip vs) m x=_;unfold Xr;exact lY (i:=i) (Jf.mp J).2 (by simpa using Y) (by simpa using Q) U
def w5 (N:Aa Ar)(vs:Aa V):St:=vs.map Ab++Ja (N.length-vs.length) none
noncomputable def nN (CX:ue)(P:Bc)(w:Bu)(K:Ah)(mg:ah)(base:Bk)(N:Aa Ar)(Y:Ar)(am:Fq)(f:Af)(J:Ad)(A:Bl)(ar:Aa Jk)(s:Ag)(H:Hp)(E:XK):Cx where
 prog:=P
 w:=w
 K:=K
 mg:=mg
 base:=base
 A:=A.deeper (Hq Y am s.heap.objs.size f J)
 N:=N
 s₀:=s
 H₀:=H
 env:=Hq Y am s.heap.objs.size f J
 outer:=ar
 stack:=Hq Y am s.heap.objs.size f J::ar
 ex:=[]
 calm:=true
 fn:=λ_=>true
 pn:=[]
 xe:=λe U=>Ao (As P w) (A.deeper (Hq Y am s.heap.objs.size f J)) (leaving (Hq Y am s.heap.objs.size f J) e) (λ_ Q=>CX ar H s E e Q) (λG Q=>CX ar H s E G Q) U
theorem rR {Q:Fq}(h:Q.names.lookup x=Ab .cell):∃ c,(Io n Q.names []).lookup x=Ab c:=by
 have q:=Ly Q.names n [] (.inl h);exact Oh.mp q
theorem dQ {CX:ue}{base:Bk}{N:Aa Ar}{C:Ar}{f:Af}{L:Ad}{s I:Ag}{H:Hp}{E:XK}{vs:Aa V}
  (S:ci N ps am) (hd:A.handled=none) (Y:md P w K mg base A ar s H) (hl:vs.length=ps.length) (r:qQ vs us)
  (x:InCallC s s.heap.objs.size (Xq (Hq C am s.heap.objs.size f L).kindOf (ps.zip us) λ_=>none) (Io (s.heap.objs.size+1) am.names []) (Xr (Hq C am s.heap.objs.size f L).kindOf (ps.zip us) λ_=>none) I) :
  Inv (nN CX P w K mg base N C am f L A ar s H E) [] (w5 N vs) H I:=by
 have o:ps.length<=N.length:=by have:=congrArg Hv S.pre;rw[Dx] at this;lia
 obtain⟨B,g,rfl,T⟩:=x.done;have J:∀ b:Af,b ∉ (nN CX P w K mg base N C am f L A ar s H E).ex:=λb z=>absurd (show b∈([]:ag) from z) a8
 refine⟨⟨Y.mod,S.kind,rfl,rfl,Av _,λy z c B Q=>?_,λy hy=>?_,λy c _ h=>?_,λ_=>hd,Xe Y.frames,.inr ⟨rfl,rfl⟩,λb z=>absurd z (J b),Y.bs,Y.bsz,λb _ _=>J b,λb z=>absurd z (J b),Y.funs,Y.frf⟩,
  rfl,Y.bare,Un.kept T,⟨_,x.toInCall.ns,λi y v B Q d=>?_⟩,λy c h=>⟨_,x.cell y c h⟩,Y.hok.fresh (Av _),λy c h=>?_,λp G=>absurd (show p∈([]:aa) from G) a8,Y.hok.kept T,?_⟩
 .exact name_of_addr x.apart (Gz B) (Gz Q)
 .have hy:am.names.lookup y=Ab .cell\/am.names.lookup y=Ab .free:=hy
  rcases hy with hy|hy
  .exact rR hy
  .exact absurd rfl (S.nofree _ (Gz hy))
 .exact Fx (x.above y c (Gz h))
 .have O:i<vs.length:=by
   unfold w5 at Q;by_cases O:i<vs.length
   .exact O
   .rw[Dk (by simpa using O)] at Q
    rw[Ow] at Q
    split at Q <;> cases Q
  have j:vs[i]? = Ab v:=by
   unfold w5 at Q;rw[Bo (by simpa using O),Ee] at Q
   cases e:vs[i]? with
   |none=>rw[e] at Q;cases Q
   |some a=>rw[e] at Q;cases Q;rfl
  obtain⟨u,M,l⟩:=r.get j;have G:ps[i]? = Ab y:=by
   rw[<- S.pre,Ol li];exact B
  have U:ps.Nodup:=by rw[<- S.pre];exact S.nd.sublist (List.take_sublist _ _)
  refine⟨u,l,?_⟩;rcases S.par y (Bw G) with k|k
  .exact .inl ⟨k,d0 U G M k⟩
  .obtain⟨c,e⟩:=rR (n:=s.heap.objs.size+1) k
   refine .inr ⟨.inl k,c,e,?_⟩;have q:=x.cell y c e;rw[lY U G M (by show am.names.lookup y≠_;rw[k];decide)] at q
   exact q
 .exact Y.hok.fresh (Fx (x.above y c (Gz h)))
 .unfold w5
  show _=N.length;rw[Bb,Ap,List.length_replicate]
  lia
theorem IY {CX:ue}{base:Bk}{k:Ai}{f:Af}{name C:Ar}{a:Wb}{m:Aa Et}{dV kV L i Y ct oc:Ad}{an od:Al Af}
  {l:Aw (Al Ad)} {N ps:Aa Ar} {sp:Sp} (lk:K.lookup f=Ab ⟨oc,od,.func (Gf name C a m am dV kV L i an Y ct),l⟩) (d:Kz K Y C=true) (S:ci N ps am)
  (j:∀ vs H Q E,sp vs H Q E->vs.length=ps.length)
  (O:∀ (A:Bl) (ar:Aa Jk) (s:Ag) (H:Hp) (vs:Aa V) (Q:VK) (E:XK),gp k (A.deeper (Hq C am s.heap.objs.size f Y))->sp vs H Q E ->
   ∃ t,ip (nN CX P w K mg base N C am f Y A ar s H E) m t/\t { nx:=λ_ H'=>Q .non H',rt:=Q } (w5 N vs) H) :
  my P w K mg base CX (k+1) f (Gf name C a m am dV kV L i an Y ct) ps sp:=by
 refine⟨j,λA ar s H zb us vs Q E p M hb r z=>?_⟩;have hl:=j _ _ _ _ z;have KX:K.In s.heap:=M.mod.kin.keeps λb o e=>(M.bs b o e).1;have bi:s.heap.NoLimit:=M.mod.nolimit.keeps λb o e=>(M.bs b o e).1;have G:∀ y∈ps.zip us,am.names.lookup y.1=Ab .local \/ (am.names.lookup y.1=Ab .cell/\((Io (s.heap.objs.size+1) am.names []).lookup y.1).isSome=true):=λ⟨n,v⟩ hy=>by
  rcases S.par n (Qq hy).1 with q|q
  .exact .inl q
  .exact .inr ⟨q,Ly _ _ _ (.inl q)⟩
 refine Wc p.depth (KX _ _ lk) rfl S.co S.gen rfl (Za KX d) (hb _ _ _ _ ?_);refine Sj S.kind G λal he h x=>?_;subst he;refine⟨bi.keeps x.toInCall.keep,codeAny_func ?_⟩;obtain⟨t,ht,hq⟩:=O A ar s H vs Q E (p.deeper _) z;have I:Inv (nN CX P w K mg base N C am f Y A ar s H E) [] (w5 N vs) H h:=dQ S p.hd M hl r x;refine Fd (ht [] h (w5 N vs) H _ I hq) (λfl c B=>?_) λe c B=>B;have T:∀ {U : St} {H':Hp} {v:V} {u:Ad},Inv (nN CX P w K mg base N C am f Y A ar s H E) [] U H' c->qL v u->Q v H'->CE ar P w H s Q u c:=
  λ{U H' v u} J g q=>⟨v,H',J.os,J.bare,J.base,J.hok,g,q⟩
 cases fl with
 |ret u =>
  obtain⟨v,U,H',J,g,q⟩:=B;exact T J g q
 |next =>
  obtain⟨U,H',J,q⟩:=B;exact T (v:=V.non) (u:=Dj) J rfl q
 |brk =>
  obtain⟨_,_,_,q⟩:=B;exact Aq q
 |cont =>
  obtain⟨_,_,_,q⟩:=B;exact Aq q
end _L
namespace _H
variable {Q:ae}{lo hi:Al Am}{items:Aw Ad}
noncomputable def lexLt:Aa Am->Aa Am->Au
 |[],[]=>false
 |[],_::_=>true
 |_::_,[]=>false
 |x::Y,y::J=>if x=y then lexLt Y J else decide (x<y)
theorem bb (x y:Am)(xs ys:Aa Am):lexLt (x::xs) (y::ys)=if x=y then lexLt xs ys else decide (x<y):=rfl
theorem g_:lexLt [] []=false:=rfl
theorem l8 (y:Am)(ys:Aa Am):lexLt [] (y::ys)=true:=rfl
theorem l7 (x:Am)(xs:Aa Am):lexLt (x::xs) [] = false:=rfl
theorem JE (A:Bl)(s:Ag)(a:Am)(t:Sr)(c:Am)(u:Sr):∃ e,SeqAt.EqAt A s (.int a t) (.int c u) e/\(e=true↔a=c):=
 ⟨(a == c),SeqAt.EqAt.int_int a t c u,by simp⟩
theorem GN (A:Bl)(s:Ag)(a:Am)(t:Sr)(c:Am)(u:Sr)(prog:Bc)(w:Bu)(E:ae)(Q:ae)(h:Q (.bool (decide (a<c))) s) :
  Ao (As prog w) A (AaB .Lt (.int a t) (.int c u)) Q E s:=
 (Rb h:Ao (As prog w) A (Cy .Lt (.int a t) (.int c u)) Q E s)
section
open PySem.SeqAt
open PySem.AutoSeq1 (wpAny_loadPart')
open PySem.MeetsSeq PySem.MeetsSeq2 PySem.MeetsSeq3
theorem sM (l b:Af)(items Y:Aw Ad)(n n2:Ai)(dd f:Al Af)(sl r:Aw (Al Ad))(ns o:Aa Am)(hi:Lc items.toList ns)(hj:Lc Y.toList o) :
  Meets (HT.«tuple.__lt__» ⟨[.ref l,.ref b],[]⟩)
   (λ_ R s=>s.heap.get? l=Ab { cls:=.type "tuple",dict:=dd,data:=.seq items n,slots:=sl } /\ s.heap.get? b=Ab { cls:=.type "tuple",dict:=f,data:=.seq Y n2,slots:=r } /\
    R (.ok (.ret (.bool (lexLt ns o)))) s):=
 .of_wp λB w A R s h=>by
  obtain⟨z,g,d,k,os⟩:=s;obtain⟨hl,hb,h⟩:=h;have f2:=Tw;have z1:items.size=ns.length:=by rw[<- hi.length];simp
  have z2:Y.size=o.length:=by rw[<- hj.length];simp
  wp_walk using wpAny_loadPart' hl,wpAny_loadPart' hb,Jo _ (λqG b v=>b.1=none/\v=⟨z,g,d,k,os⟩/\∃ (j p:ai) (G U:Aa Am),qG=j.zip p /\
   Lc j G/\Lc p U/\G.length+Y.size=U.length+items.size/\R (.ok (.ret (.bool (lexLt G U)))) ⟨z,g,d,k,os⟩) _
  case turn =>
   rintro⟨y,x⟩ qG b v ⟨T,rfl,j,p,G,U,N,E,O,J,C⟩;cases E with
   |nil=>rw[List.zip_nil_left] at N;cases N
   |cons a t H =>
    cases O with
    |nil=>rw[List.zip_nil_right] at N;cases N
    |cons c u M =>
     rw[Ix] at N;injection N with m I
     injection m with hy hx
     subst hy hx;rw[bb] at C;simp only[Ba] at J;obtain⟨e,he,L⟩:=JE A.in1 ⟨z,g,d,k,os⟩ a t c u;refine Ac (he B w _ _ ?_);cases e with
     |true =>
      rw[Ay (L.mp rfl)] at C
      wp_walk
      exact⟨rfl,rfl,_,_,_,_,I,H,M,by lia,C⟩
     |false =>
      rw[AT (λq=>absurd (L.mpr q) Gx)] at C;have i:=GN A.in1 ⟨z,g,d,k,os⟩ a t c u B w
      wp_walk using i
      exact⟨_,rfl,by simpa using C⟩
  case fin =>
   rintro⟨b1,b2⟩ v ⟨T,rfl,j,p,G,U,N,E,O,J,C⟩;simp only at T;subst T;have hv:lexLt G U=decide (items.size<Y.size):=by
    cases E with
    |nil =>
     cases O with
     |nil =>
      simp only[Cu] at J;rw[g_];exact(Dr li).symm
     |cons c u hw =>
      simp only[Cu,Ba] at J;rw[l8];exact(Cz li).symm
    |cons a t hv =>
     cases O with
     |nil =>
      simp only[Cu,Ba] at J;rw[l7];exact(Dr li).symm
     |cons c u hw =>
      rw[Ix] at N;cases N
   rw[hv] at C
   wp_walk
   exact⟨_,rfl,by simpa [Pw] using C⟩
  case h =>
   exact⟨rfl,rfl,items.toList,Y.toList,ns,o,rfl,hi,hj,by lia,h⟩
end
section
variable {prog:Bc}{w:Bu}{A:Bl}{E:ae}{s:Ag}
theorem n_ {l b:Af}(hl:Rm s.heap l items)(j:Rm s.heap b Y)(hi:Lc items.toList ns)(M:Lc Y.toList G)
  (k:A.units<Ed) (h:Q (.bool (lexLt ns G)) s):Ao (As prog w) A (Cy .Lt (.ref l) (.ref b)) Q E s:=by
 obtain⟨⟨cls,y,data,z⟩,T,B,n,L⟩:=id hl;obtain⟨⟨I,O,data2,C⟩,N,J,H,U⟩:=id j;simp only at B L J U;subst B L J U;exact Vd (op:=.Lt) ⟨_,T,rfl⟩ ⟨_,N,rfl⟩ Wd Ve (Uq _ _) (sM l b items Y n H y O z C ns G hi M)
  ⟨T,N,show Fv (lexLt ns G)≠Xf/\Q (.bool (lexLt ns G)) s from⟨(λx=>nomatch x),h⟩⟩ k
theorem s_ {t b:Af}{vs Y:ai}(y:Rm s.heap t vs.toArray)(j:Rm s.heap b Y.toArray)(hv:vs≠[])
  (h1:Y=[]->Q (.ref t) s) (h2:Y≠[]->Q (.ref s.heap.objs.size) { s with heap:=s.heap.push { cls:=.type "tuple",data:=.seq (vs++Y).toArray } })
  (hsz:vs.length+Y.length<=sizeLine):Ao (As prog w) A (Fj .Add (.ref t) (.ref b)) Q E s:=by
 obtain⟨⟨cls,M,data,H⟩,B,L,n,T⟩:=id y;obtain⟨⟨z,U,data2,N⟩,J,G,I,O⟩:=id j;simp only at L T G O;subst L T G O;have e:vs.toArray++Y.toArray=(vs++Y).toArray:=by simp
 by_cases C:Y=[]
 .exact Zn ⟨_,B,rfl⟩ ⟨_,J,rfl⟩ Ud Xs Pp Ox (Om _ _)
   (tuple_addW1 t b vs.toArray Y.toArray n I M U H N (by simpa using hv) (by simp[C])) ⟨B,J,h1 C⟩
 .refine Zn ⟨_,B,rfl⟩ ⟨_,J,rfl⟩ Ud Xs Pp Ox (Om _ _)
   (tuple_addW2 t b vs.toArray Y.toArray n I M U H N (by simpa using hv) (by simpa using C) (by rw[Bh,Bh];exact hsz)) ⟨B,J,?_⟩
  rw[e];exact h2 C
noncomputable def cf (n d:Ai):Al Am->Ai
 |none=>d
 |some v=>if v<0 then (v+(n:Am)).toNat else min v.toNat n
theorem mn (n d:Ai):cf n d none=d:=rfl
theorem ol (n d k:Ai):cf n d (Ab (k:Am))=min k n:=by
 show (if (k:Am)<0 then ((k:Am)+(n:Am)).toNat else min (k:Am).toNat n)=min k n
 rw[AT li,Fy]
theorem CW (n d:Ai)(hd:d<=n)(o:Al Am):cf n d o<=n:=by
 cases o with
 |none=>exact hd
 |some v =>
  show (if v<0 then (v+(n:Am)).toNat else min v.toNat n)<=n
  by_cases hv:v<0
  .rw[Ay hv];lia
  .rw[AT hv];exact Nat.min_le_right _ _
theorem aU (v:Am)(n d:Ai):(if v<0 then max (v+(n:Am)) 0 else min v (n:Am))=((cf n d (Ab v):Ai):Am):=by
 show (if v<0 then max (v+(n:Am)) 0 else min v (n:Am))=(((if v<0 then (v+(n:Am)).toNat else min v.toNat n):Ai):Am)
 by_cases hv:v<0
 .simp only[Ay hv];lia
 .simp only[AT hv];lia
theorem Q9 (lo hi:Al Am)(n:Ai):Ha lo hi 1 (n:Am)=(((cf n 0 lo:Ai):Am),((cf n n hi:Ai):Am)):=by
 have Y:¬ ((1:Am)<0):=by lia
 unfold Ha;simp only[Y,Ek];refine Prod.ext ?_ ?_
 .cases lo with
  |none=>rfl
  |some v=>exact aU v n 0
 .cases hi with
  |none=>rfl
  |some v=>exact aU v n n
theorem ZU (i j:Ai):Hb (i:Am) (j:Am) 1=j-i:=by
 unfold Hb;have Y:(1:Am)>0:=by lia
 simp only[Y,Ef,Int.ediv_one]
 split <;> lia
theorem n9 {Q:Al Am->Ag->Prop}(p:Sk v o)(h:Q o s):Ao (As prog w) A (Builtin.Slice.slicePartIndex v) Q E s:=by
 cases p with
 |none=>exact Rp h
 |int i t=>exact slicePart_int h
theorem jL {n:Ai}{Q:Am × Am × Ai->Ag->Prop}(hs:s.heap.IsSliceOf N U G .none)(pl:Sk U lo)(O:Sk G hi)
  (h:Q (((cf n 0 lo:Ai):Am),1,cf n n hi-cf n 0 lo) s):Ao (As prog w) A (Kb (.ref N) (pure (n:Am))) Q E s:=by
 obtain⟨os,Y,C,J⟩:=id hs;unfold Kb Sx;refine Ac (Ac (Du Y J (x:=U) rfl (Ac (Du Y J (x:=G) rfl (Ac (Du Y J (x:=.none) rfl (Ak ?_)))))));refine Ac (Rp ?_);show Ao _ _ (if ((1:Am) == 0)=true then _ else _) _ _ s
 rw[AT da]
 refine Ac (n9 pl (Ac (n9 O (Ac (Ak ?_)))));show Ao _ _ (match Ha lo hi 1 (n:Am) with|(lo,hi)=>pure (lo,(1:Am),Hb lo hi 1)) _ _ s
 rw[Q9 lo hi n];show Ao _ _ (pure (((cf n 0 lo:Ai):Am),(1:Am),Hb ((cf n 0 lo:Ai):Am) ((cf n n hi:Ai):Am) 1)) _ _ s;rw[ZU];exact Ak h
theorem KY (xs:Aw Ad)(i k:Ai):((Dd k).filterMap λ(m:Ai)=>xs[((i:Am)+(m:Am)*1).toNat]?).toArray=((xs.toList.drop i).take k).toArray:=by
 have e:(λ(m:Ai)=>xs[((i:Am)+(m:Am)*1).toNat]?)=λm=>xs[i+m]?:=by
  funext m
  have:((i:Am)+(m:Am)*1).toNat=i+m:=by lia
  rw[this]
 rw[e];have:=pick_run xs i k;rw[List.filterMap_map] at this;have Y:((λx=>xs[x]?)∘λx=>i+x)=λm=>xs[i+m]?:=rfl;rw[Y] at this;rw[this]
theorem iw {t N:Af}(J:Rm s.heap t items)(hs:s.heap.IsSliceOf N L B .none)(pl:Sk L lo)(I:Sk B hi)
  (hw:¬ (cf items.size 0 lo=0/\cf items.size items.size hi=items.size))
  (h:Q (.ref s.heap.objs.size) { s with heap:=s.heap.push { cls:=.type "tuple",data:=.seq ((items.toList.drop (cf items.size 0 lo)).take (cf items.size items.size hi-cf items.size 0 lo)).toArray } })
  (hsz:items.size<=sizeLine):Ao (As prog w) A (Mw (.ref t) (.ref N)) Q E s:=by
 have Y:sizeOk (.seq ((items.toList.drop (cf items.size 0 lo)).take (cf items.size items.size hi-cf items.size 0 lo)).toArray):=by
  show ((items.toList.drop (cf items.size 0 lo)).take (cf items.size items.size hi-cf items.size 0 lo)).toArray.size<=sizeLine;rw[Bh,Dx,Gg,Bp]
  lia
 have M:cf items.size items.size hi<=items.size:=CW _ _ (Av _) hi;obtain⟨os,C,O,T⟩:=id hs;have U:s.TypeIs (.ref N) "slice":=⟨os,C,O⟩;unfold Mw
 try with_reducible refine Dn ?_
 first|refine Ac (Ak ?_)|skip
 refine Ac (Sy J.typeIs da ?_)
 refine Ac (Eb (name:=Gh "__getitem__") J.typeIs Dy
  (Eg Dy J.typeIs Rc ?_ (Sb _ _)))
 show Ao _ _ (Kc (.ref t) >>= _) _ _ s;refine Ac (Xt J ?_);refine Ac (Kk U ?_);rw[Ay da]
 refine Ac (jL hs pl I ?_);have G:¬ ((((cf items.size 0 lo:Ai):Am) == 0&&(1:Am) == 1&&(cf items.size items.size hi-cf items.size 0 lo) == items.size)=true):=by
  intro q;rw[Bj,Bj] at q;have H:((cf items.size 0 lo:Ai):Am)=0:=eq_of_beq q.1.1;have z:cf items.size items.size hi-cf items.size 0 lo=items.size:=eq_of_beq q.2;exact hw ⟨by lia,by lia⟩
 show Ao _ _ (if (((cf items.size 0 lo:Ai):Am) == 0&&(1:Am) == 1&&(cf items.size items.size hi-cf items.size 0 lo) == items.size)=true then _ else _) _ _ s
 rw[AT G,KY]
 first
  |exact Ac (m:=Ft _) (Dq (Ak ⟨_,rfl,Ak h⟩) Y)
  |exact Ac (m:=Ft _) (Dq (Ac (Ak (Ak ⟨_,rfl,Ak h⟩))) Y)
  |exact Ac (Ac (m:=Ft _) (Dq (Ak (Ak ⟨_,rfl,Ak h⟩)) Y))
  |exact Ac (Ac (m:=Ft _) (Dq (Ak ⟨_,rfl,Ak h⟩) Y))
end
end _H
namespace _L
abbrev TO:=St->Hp->(Al Am->Hp->Prop)->Prop
def PO (X:Cx)(e:Al Cb)(t:TO):Prop:=
 ∀ (Y:aa) (s:Ag) (σ : St) (H:Hp) (Q:Al Am->Hp->Prop),Inv X Y σ H s->t σ H Q ->
  db X (evalPart e X.env) (λu U=>∃ o J,Inv X Y σ J U/\Sk u o/\Q o J) X.xe s
def LG:TO:=λ_ H Q=>Q none H
def qAV (t:TE):TO:=λσ H Q=>t σ H λx Y=>∃ i,x=.int i/\Q (Ab i) Y
theorem gW {ns:Aa Am}:∀ {us:ai},qQ (ns.map V.int) us->Lc us ns:=by
 induction ns with
 |nil=>intro us r;rw[Zo] at r;cases r;exact .nil
 |cons n ns J =>
  intro us r;rw[Ds] at r;cases r with
  |cons Q Y =>
   obtain⟨t,e⟩:=Q;subst e;exact .cons n t (J Y)
section
variable {X:Cx}{e:Cb}{te:TE}{lo hi:Al Cb}{tl th:TO}{au p2:Fc}
theorem NA:PO X none LG:=by
 intro Y s σ H Q I h;rw[Xu];exact Ak ⟨none,H,I,.none,h⟩
theorem NB (h:PE X e te):PO X (Ab e) (qAV te):=by
 intro J s σ H Q I O;rw[evalPart_some];refine bv (h J s σ H _ I O) λu C ⟨x,G,N,Y,U⟩=>?_;obtain⟨i,rfl,q⟩:=U;obtain⟨t,rfl⟩:=Y;exact⟨Ab i,G,N,.int i t,q⟩
def uq (X:Cx)(r:V->Al Am->Al Am->Hp->VK->Prop):Prop:=
 ∀ (Y:aa) (s:Ag) (σ : St) (H:Hp) (x:V) (v G J:Ad) (lo hi:Al Am) (U:Af) (Q:VK),Inv X Y σ H s->qL x v->s.heap.IsSliceOf U G J .none->Sk G lo->Sk J hi->r x lo hi H Q ->
  ∃ T id,Xv (.type T) "__getitem__" = pure (Ab (.builtin id))/\s.TypeIs v T/\db X (Mw v (.ref U)) (EP X Y σ Q) X.xe s
theorem uq.or {r N:V->Al Am->Al Am->Hp->VK->Prop}(h:uq X r)(h':uq X N):uq X (λx lo hi H Q=>r x lo hi H Q\/N x lo hi H Q):=by
 intro Y s σ H x v O J lo hi U Q I B G pl C q;rcases q with q|q
 .exact h Y s σ H x v O J lo hi U Q I B G pl C q
 .exact h' Y s σ H x v O J lo hi U Q I B G pl C q
def _h (r:V->Al Am->Al Am->Hp->VK->Prop)(te:TE)(tl th:TO):TE:=λσ H Q=>te σ H λx J=>tl σ J λl U=>th σ U λu Y=>r x l u Y Q
theorem KU {r:V->Al Am->Al Am->Hp->VK->Prop}(C:uq X r)(y:PE X e te)(hl:PO X lo tl)(A:PO X hi th):PE X (.Subscript e (.Slice lo hi none p2) au) (_h r te tl th):=by
 intro J s σ H Q I h;refine Xw (bv (y J s σ H _ I h) λv j ⟨x,k,o,w,B⟩=>?_);refine wpAny_Slice (bv (hl J j σ k _ o B) λG t ⟨l,p,g,pl,E⟩=>bv (A J t σ p _ g E) λU Y ⟨u,N,c,f,d⟩=>?_);rw[Xu];refine Ak ?_;have z:Inv X J σ N { Y with heap:=Y.heap.push { cls:=.type "slice",data:=.fields #[G,U,.none] } }:=c.kept (t':=Y.toks) λb m q=>Aj _ q
 obtain⟨T,id,O,M,L⟩:=C J { Y with heap:=Y.heap.push { cls:=.type "slice",data:=.fields #[G,U,.none] } } σ N x v G U l u Y.heap.objs.size Q z w (Zb ..) pl f d
 show db X (Sz e (.Slice lo hi none p2) v (.ref Y.heap.objs.size)) (EP X J σ Q) X.xe { Y with heap:=Y.heap.push { cls:=.type "slice",data:=.fields #[G,U,.none] } }
 exact tail_any (ops:=[.ref Y.heap.objs.size,v]) M O L (by with_unfolding_all rfl)
def b7 (xs:Aa V)(lo hi:Al Am):Aa V:=(xs.drop (_H.cf xs.length 0 lo)).take (_H.cf xs.length xs.length hi-_H.cf xs.length 0 lo)
theorem fQ (xs:Aa V)(lo hi:Al Am):(b7 xs lo hi).length<=xs.length:=by
 unfold b7;rw[Dx,Gg]
 lia
def _y (K:Ah):V->Al Am->Al Am->Hp->VK->Prop:=λx lo hi H Q=>∃ a Y,x=.ref a/\jf K H a Y /\
 ¬ (_H.cf Y.length 0 lo=0/\_H.cf Y.length Y.length hi=Y.length)/\∀ p,H p=none->Q (.ref p) (bw H p (.tup (b7 Y lo hi)))
theorem A3:uq X (_y X.K):=by
 intro E s σ H x v z A lo hi M Q I T O pl L h;obtain⟨a,J,rfl,N,B,q⟩:=h;cases T;obtain⟨C,r,G,U⟩:=I.tuple N;have Y:C.toArray.size=J.length:=by rw[Bh];exact r.length.symm
 refine⟨"tuple",_,Dy.lookup,G.typeIs,?_⟩;refine _H.iw G O pl L (by rw[Y];exact B) ?_ (by rw[Y];exact U)
 rw[Y];refine⟨.ref s.heap.objs.size,_,I.laid (t':=s.toks) (o:=.tup (b7 J lo hi)) (λb w q=>Aj _ q) (Av _) ?_,rfl,q _ (I.hok.fresh (Av _))⟩;exact⟨Cs (fQ J lo hi) U,_,(r.drop (_H.cf J.length 0 lo)).take (_H.cf J.length J.length hi-_H.cf J.length 0 lo),ZB _ _⟩
end
end _L
namespace _L
variable {aj:aa}{s:Ag}{H:Hp}{σ:St}
noncomputable def nh (n:Ai)(i:Am):Al Ai:=if 0<=i then (if i<n then Ab i.toNat else none) else if -(n:Am)<=i then Ab (i+n).toNat else none
def io {α:Type}(xs:Aa α)(i:Am):Al α:=(nh xs.length i).bind λj=>xs[j]?
theorem iM (h:nh n i=Ab j):seqIndex? i n=Ab j/\j<n /\ -(n:Am)<=i/\i<n:=by
 unfold nh at h;by_cases Y:0<=i
 .rw[Ay Y] at h
  by_cases Q:i<n
  .rw[Ay Q] at h
   have e:i.toNat=j:=Dg h;exact⟨by rw[AaC Y Q,e],by lia,by lia,Q⟩
  .rw[AT Q] at h;cases h
 .rw[AT Y] at h
  by_cases Q : -(n:Am)<=i
  .rw[Ay Q] at h
   have e:(i+n).toNat=j:=Dg h;exact⟨by rw[seqIndex_neg li Q,e],by lia,Q,by lia⟩
  .rw[AT Q] at h;cases h
theorem aQ {α:Type}{xs:Aa α}{v:α}(h:io xs i=Ab v):∃ j,seqIndex? i xs.length=Ab j/\xs[j]? = Ab v/\j<xs.length /\ -(xs.length:Am)<=i/\i<xs.length:=by
 unfold io at h;cases e:nh xs.length i with
 |none=>rw[e] at h;cases h
 |some j =>
  rw[e] at h;obtain⟨J,Q,Y,U⟩:=iM e;exact⟨j,J,h,Q,Y,U⟩
theorem F5 {α:Type}{xs:Aa α}{j:Ai}{v:α}(h:xs[j]? = Ab v):io xs (j:Am)=Ab v:=by
 have Q:j<xs.length:=(Bd.mp h).1;have e:nh xs.length (j:Am)=Ab j:=by
  unfold nh;rw[Ay li,Ay li];simp
 unfold io;rw[e];exact h
def nF (b:Cb):Prop:=∀ o i,subscripted b false o i=operate [o,i] (Mw o i)
def ut (X:Cx)(r:R2):Prop:=
 ∀ (J Y:Cb) (aj:aa) (s:Ag) (σ : St) (H:Hp) (x y:V) (v u:Ad) (Q:VK),Inv X aj σ H s->qL x v->qL y u->r x y H Q ->
  subscripted Y false v u=operate [v,u] (Mw v u)->db X (Sz J Y v u) (EP X aj σ Q) X.xe s
def xi (X:Cx)(id:Er)(r:V->Aa V->Hp->VK->Prop):Prop:=
 ∀ (aj:aa) (s:Ag) (σ : St) (H:Hp) (x:V) (Y:Aa V) (v:Ad) (J:ai) (Q:VK),Inv X aj σ H s->qL x v->qQ Y J->r x Y H Q ->
  db X (call (.builtin id) (v::J)) (EP X aj σ Q) X.xe s
section
variable {X:Cx}{a b:Cb}{ta tb:TE}{au:Fc}
theorem ut.or (h:ut X r)(h':ut X N):ut X (λx y H Q=>r x y H Q\/N x y H Q):=by
 intro Y J aj s σ H x y v u Q I O U q G;rcases q with q|q
 .exact h Y J aj s σ H x y v u Q I O U q G
 .exact h' Y J aj s σ H x y v u Q I O U q G
theorem xi.or {id:Er}{r J:V->Aa V->Hp->VK->Prop}(h:xi X id r)(h':xi X id J):xi X id (λx xs H Q=>r x xs H Q\/J x xs H Q):=by
 intro aj s σ H x xs v Y Q I U rs q;rcases q with q|q
 .exact h aj s σ H x xs v Y Q I U rs q
 .exact h' aj s σ H x xs v Y Q I U rs q
theorem qAC (J:ut X r)(C:PE X a ta)(O:PE X b tb)(hs:nF b):PE X (.Subscript a b au) (_i r ta tb):=by
 intro aj s σ H Q I h;exact Xw (_X C O I h λv u Y x y G N B U q=>J a b aj Y σ G x y v u Q N B U q (hs _ _))
def _E (K:Ah):R2:=λx y H Q=>∃ p Y i v,x=.ref p/\y=.int i/\ju K H p Y/\io Y i=Ab v/\Q v H
def _C (K:Ah):R2:=λx y H Q=>∃ p Y i v,x=.ref p/\y=.int i/\jf K H p Y/\io Y i=Ab v/\Q v H
theorem iN:ut X (_E X.K):=by
 intro G N aj s σ H x y v u Q I d A h B;obtain⟨p,n,i,z,rfl,rfl,o,M,q⟩:=h;cases d;obtain⟨t,rfl⟩:=A;obtain⟨g,r,pl,m⟩:=I.list o;obtain⟨j,J,T,e,c,l⟩:=aQ M;obtain⟨w,L,O⟩:=r.get T;have k:=r.length;have f:=bF;have Y:EP X aj σ Q w s:=⟨z,H,I,O,q⟩;by_cases C:0<=i
 .have U:i.toNat=j:=by
   rw[AaC C l] at J;exact Dg J
  exact item_listR pl.isList C li (by rw[U];simpa using L) Y B
 .have U:(i+(g.toArray.size:Am)).toNat=j:=by
   rw[seqIndex_neg li c] at J;rw[Bh,<- k];exact Dg J
  exact Vf (x:=w) pl.isList.typeIs sK.lookup
   (wpAny_getItem_list_neg (Q:=λr E=>r=w/\EP X aj σ Q r E) pl.isList li (by rw[Bh] <;> lia) li (by rw[U];simpa using L) ⟨rfl,Y⟩) B
theorem RW:ut X (_C X.K):=by
 intro J U aj s σ H x y v u Q I k C h E;obtain⟨p,g,i,z,rfl,rfl,T,B,q⟩:=h;cases k;obtain⟨t,rfl⟩:=C;obtain⟨d,r,pl,l⟩:=I.tuple T;obtain⟨j,A,N,f,m,c⟩:=aQ B;obtain⟨w,M,G⟩:=r.get N;have L:=r.length;have o:=bF;have Y:EP X aj σ Q w s:=⟨z,H,I,G,q⟩;exact Vf (x:=w) pl.typeIs slot_tuple_getitem.lookup
  (getItem_tuple (j:=j) (Q:=λr O=>r=w/\EP X aj σ Q r O) pl li li (by rw[Bh,<- L];exact A) (by simpa using M) ⟨rfl,Y⟩) E
theorem ZI (ao:ai)(n j:Ai)(u:Ad):Fk (·.setIfInBounds j u) { cls:=.type "list",data:=.seq ao.toArray n } = { cls:=.type "list",data:=.seq (ao.set j u).toArray n }:=by
 simp[Fk]
theorem Inv.lst {p:Af}{xs:Aa V}(I:Inv X aj σ H s)(h:H p=Ab (.lst xs)) :
  ∃ (ao:ai) (n:Ai),qQ xs ao/\s.heap.get? p=Ab { cls:=.type "list",data:=.seq ao.toArray n } /\ xs.length<=sizeLine:=by
 obtain⟨z,ao,n,r,e⟩:=I.hok p _ h;exact⟨ao,n,r,e,z⟩
theorem Inv.lstUpd {xs ys:Aa V}{ao jq:ai}{n Q:Ai}{f:Co->Co}(I:Inv X aj σ H s)(h:H p=Ab (.lst xs))
  (U:s.heap.get? p=Ab { cls:=.type "list",data:=.seq ao.toArray n }) (Y:f { cls:=.type "list",data:=.seq ao.toArray n } = { cls:=.type "list",data:=.seq jq.toArray Q }) (r:qQ ys jq) (hz:ys.length<=sizeLine) (t:Ai) :
  Inv X aj σ (bw H p (.lst ys)) { s with heap:=s.heap.update p f,toks:=t }:=by
 have e:(s.heap.update p f).get? p=Ab { cls:=.type "list",data:=.seq jq.toArray Q }:=by
  rw[DL f U (by rw[Y] <;> rfl),Y]
 refine I.write (x:=p) (e:=p) (by rw[h];trivial) (.inl rfl) (λb u J q=>(Bt _ _ (Dw J)).trans q) ⟨_,e⟩ ?_
 exact⟨hz,jq,Q,r,e⟩
def qAI:V->V->V->Hp->(Hp->Prop)->Prop:=λo i v H Q=>∃ p Y k j,o=.ref p/\i=.int k/\H p=Ab (.lst Y)/\nh Y.length k=Ab j/\Q (bw H p (.lst (Y.set j v)))
theorem GV:rH X qAI:=by
 intro aj s σ H o i v d c u Q I w z y h;obtain⟨p,M,k,j,rfl,rfl,O,A,q⟩:=h;cases w;obtain⟨t,rfl⟩:=z;obtain⟨B,n,r,G,E⟩:=I.lst O;obtain⟨Y,l,L,C⟩:=iM A;have U:=r.length;have g:=bF;have T:Inv X aj σ (bw H p (.lst (M.set j v))) { s with heap:=s.heap.update p (Fk (·.setIfInBounds j u)) }:=
  I.lstUpd O G (ZI B n j u) (r.set y j) (by rw[AaS];exact E) s.toks
 by_cases N:0<=k
 .have J:k.toNat=j:=by
   rw[AaC N C] at Y;exact Dg Y
  exact PySem.W.ki_setAt G N li (by rw[Bh,<- U];exact C) (by rw[J];exact⟨_,T,q⟩)
 .have J:(k+(B.toArray.size:Am)).toNat=j:=by
   rw[seqIndex_neg li L] at Y;rw[Bh,<- U];exact Dg Y
  exact PySem.W.ki_setBack G li (by rw[Bh,<- U];exact L) li (by rw[J];exact⟨_,T,q⟩)
theorem cL (lo hi:Al Am)(n:Ai):(Nv lo hi none n).1=((_H.cf n 0 lo:Ai):Am)/\(Nv lo hi none n).2.1=((_H.cf n n hi:Ai):Am)/\(Nv lo hi none n).2.2=1:=by
 refine⟨?_,?_,rfl⟩
 .cases lo with
  |none=>simp[Nv,_H.cf]
  |some i =>
   simp only[Nv,_H.cf,AaD,show (1:Am)>0 by decide,Ef]
   by_cases h:i<0
   .simp only[h,Ef] <;> lia
   .simp only[h,Ek] <;> lia
 .cases hi with
  |none=>simp[Nv,_H.cf]
  |some i =>
   simp only[Nv,_H.cf,AaD,show (1:Am)>0 by decide,Ef]
   by_cases h:i<0
   .simp only[h,Ef] <;> lia
   .simp only[h,Ek] <;> lia
theorem sL (ao:ai)(lo hi:Al Am):slicePick ao.toArray lo hi none=((ao.drop (_H.cf ao.length 0 lo)).take (_H.cf ao.length ao.length hi-_H.cf ao.length 0 lo)).toArray:=by
 obtain⟨J,Y,Q⟩:=cL lo hi ao.toArray.size;unfold slicePick;rw[J,Y,Q];simp only[sliceRange_one,pick_run,Bh] <;> rfl
def _z (K:Ah):V->Al Am->Al Am->Hp->VK->Prop:=λx lo J H Q=>∃ a Y,x=.ref a/\ju K H a Y/\∀ p,H p=none->Q (.ref p) (bw H p (.lst (b7 Y lo J)))
theorem oO:uq X (_z X.K):=by
 intro aj s σ H x v w T lo U E Q I L C pl B h;obtain⟨a,Y,rfl,N,q⟩:=h;cases L;obtain⟨A,r,G,O⟩:=I.list N;have J:=r.length;refine⟨"list",_,sK.lookup,G.isList.typeIs,?_⟩;refine wpAny_getItem_list_slice G.isList C pl B .none a8 ?_ (by rw[Bh] <;> lia)
 rw[sL,<- J];refine⟨.ref s.heap.objs.size,_,I.laid (t':=s.toks) (o:=.lst (b7 Y lo U)) (λb M q=>Aj _ q) (Av _) ?_,rfl,q _ (I.hok.fresh (Av _))⟩;exact⟨Cs (fQ Y lo U) O,_,0,(r.drop (_H.cf Y.length 0 lo)).take (_H.cf Y.length Y.length U-_H.cf Y.length 0 lo),Bf _ rfl⟩
theorem jQ.or {r J:Aa V->Hp->VK->Prop}(h:jQ X f r)(h':jQ X f J):jQ X f (λxs H Q=>r xs H Q\/J xs H Q):=by
 intro aj s σ H xs Y Q I rs q;rcases q with q|q
 .exact h aj s σ H xs Y Q I rs q
 .exact h' aj s σ H xs Y Q I rs q
theorem pZ:jQ X (.type "list") (λxs H Q=>∃ p ys,xs=[.ref p]/\(ju X.K H p ys\/jf X.K H p ys)/\∀ l,H l=none->Q (.ref l) (bw H l (.lst ys))):=by
 intro aj s σ H xs w Q I r h;obtain⟨p,ys,rfl,hq,q⟩:=h;obtain⟨u,rfl,M⟩:=kF r;cases M;have O:∀ (J:ai),qQ ys J->ys.length<=sizeLine->∀ (Y:Bk) (U:Ai),(∀ b A,s.heap.get? b=Ab A->Y.get? b=Ab A) ->
   Y.get? s.heap.objs.size=Ab { cls:=.type "list",dict:=none,data:=.seq J.toArray U,slots:=#[] } -> EP X aj σ Q (.ref s.heap.objs.size) { s with heap:=Y }:=λJ G N Y U C e =>
  ⟨.ref s.heap.objs.size,_,I.laid (t':=s.toks) C (Av _) (show zC X.prog X.w _ Y _ (.lst ys) from⟨N,J,U,G,e⟩),rfl,q _ (I.hok.fresh (Av _))⟩
 rcases hq with hq|hq
 .obtain⟨J,G,pl,N⟩:=I.list hq
  have B:=G.length;obtain⟨o,E,L,n,T⟩:=pl.isList;exact call_list_seq p (.inl rfl) E L T (λY U C e=>O J G N Y U C e) (by simp only[Bh] <;> lia)
 .obtain⟨J,G,pl,N⟩:=I.tuple hq
  have B:=G.length;obtain⟨o,E,L,n,T⟩:=pl;exact call_list_seq p (.inr rfl) E L T (λY U C e=>O J G N Y U C e) (by simp only[Bh] <;> lia)
theorem pV:jQ X (.type "tuple") (λxs H Q=>∃ p ys,xs=[.ref p]/\((ju X.K H p ys/\∀ l,H l=none->Q (.ref l) (bw H l (.tup ys)))\/(jf X.K H p ys/\Q (.ref p) H))):=by
 intro aj s σ H xs E Q I r h;obtain⟨p,ys,rfl,h⟩:=h;obtain⟨u,rfl,T⟩:=kF r;cases T;rcases h with⟨J,q⟩|⟨J,q⟩
 .obtain⟨U,G,pl,N⟩:=I.list J
  have C:=G.length;refine call_tuple_list pl.isList (λY B=>?_) (by simp only[Bh] <;> lia)
  have O:Inv X aj σ H { s with heap:=Y }:=I.kept (t':=s.toks) B
  have L:Inv X aj σ (bw H Y.objs.size (.tup ys)) { s with heap:=Y.push { cls:=.type "tuple",data:=.seq U.toArray } }:=
   O.laid (t':=s.toks) (λb o e=>Aj _ e) (Av _) (show zC X.prog X.w _ _ _ (.tup ys) from⟨N,U,G,ZB _ _⟩)
  exact⟨.ref Y.objs.size,_,L,rfl,q _ (O.hok.fresh (Av _))⟩
 .obtain⟨U,G,pl,N⟩:=I.tuple J
  exact call_tuple_same pl ⟨.ref p,H,I,rfl,q⟩
def A_ (K:Ah)(T:Er)(x:V)(H:Hp):Prop:=match x with
 |.str _=>T = "str"
 |.int _=>T = "int"
 |.ref p=>(T = "list" /\ ∃ Y,ju K H p Y)\/(T = "tuple" /\ ∃ o,K.lookup p=Ab o/\o.cls=.type "tuple" /\ o.dict=none) \/
   (T = "dict" /\ ((∃ Q,H p=Ab (.dK Q))\/∃ Q,H p=Ab (.dT Q)))\/(T = "set" /\ ∃ S n,H p=Ab (.set S n))
 |_=>Fp
theorem U1 (I:Inv X aj σ H s)(r:qL x v)(ty:A_ X.K T x H) :
  s.TypeIs v T/\∀ a,v=.ref a->∃ N,s.heap.get? a=Ab N/\N.dict=none:=by
 cases x with
 |str z =>
  obtain⟨t,rfl⟩:=r;cases (show T = "str" from ty)
  exact⟨typeIs_str s z t,λ_ e=>nomatch e⟩
 |int i =>
  obtain⟨t,rfl⟩:=r;cases (show T = "int" from ty)
  exact⟨typeIs_int s i t,λ_ e=>nomatch e⟩
 |ref p =>
  cases r;rcases ty with⟨rfl,L,C⟩|⟨rfl,o,Q,O,U⟩|⟨rfl,Q⟩|⟨rfl,S,n,Q⟩
  .obtain⟨B,_,pl,_⟩:=I.list C
   refine⟨pl.isList.typeIs,λa e=>?_⟩;cases e;obtain⟨o,n,e,c,U,_⟩:=pl;exact⟨o,e,U⟩
  .refine⟨⟨o,I.kIn p o Q,O⟩,λa e=>?_⟩
   cases e;exact⟨o,I.kIn _ o Q,U⟩
  .have z:∃ o,s.heap.get? p=Ab o/\o.ExactDict:=by
    rcases Q with⟨G,Q⟩|⟨G,Q⟩
    .obtain⟨_,_,_,_,o,_,_,e,Y,_⟩:=I.hok p _ Q
     exact⟨o,e,Y⟩
    .obtain⟨_,_,_,_,o,_,_,e,Y,_⟩:=I.hok p _ Q
     exact⟨o,e,Y⟩
   obtain⟨o,e,Y⟩:=z;refine⟨⟨o,e,Y.1⟩,λa J=>?_⟩;cases J;exact⟨o,e,Y.2.1⟩
  .obtain⟨o,_,_,_,e,Y,_⟩:=I.hok p _ Q
   refine⟨⟨o,e,Y.1⟩,λa J=>?_⟩;cases J;exact⟨o,e,Y.2.1⟩
 |_=>exact Aq ty
variable {e:Cb}
/- xs.append(e),list.index on a module's tuple .. are xi facts of 06m -/
end
end _L
namespace _L
def MtM (X:Cx)(id:Er)(r:V->Aa V->Hp->VK->Prop):Prop:=
 ∀ (Y:aa) (s:Ag) (σ : St) (H:Hp) (x:V) (J:Aa V) (v:Ad) (U:ai) (Q:VK),Inv X Y σ H s->qL x v->qQ J U->r x J H Q ->
  db X (call (.builtin id) (v::U)) (EP X Y σ Q) X.xe s
theorem qQ.one {x:V}{us:ai}(h:qQ [x] us):∃ u,us=[u]/\qL x u:=kF h
theorem qQ.two {x y:V}{us:ai}(h:qQ [x,y] us):∃ u v,us=[u,v]/\qL x u/\qL y v:=XE h
section
variable {X:Cx}{aj:aa}{σ: St}{H:Hp}{s:Ag}{l:Af}{xs ys:Aa V}
theorem Inv.lset {ao jq:ai}{n:Ai}{f:Aw Ad->Aw Ad}{t':Ai}(I:Inv X aj σ H s)(Q:H l=Ab (.lst xs))
  (e:s.heap.get? l=Ab { cls:=.type "list",data:=.seq ao.toArray n }) (U:f ao.toArray=jq.toArray) (hv:qQ ys jq) (hz:ys.length<=sizeLine) :
  Inv X aj σ (bw H l (.lst ys)) { s with heap:=s.heap.update l (Fk f),toks:=t' }:=by
 have q:=AaE e f;rw[U] at q;refine I.write (x:=l) (e:=l) (by rw[Q];exact trivial) (.inl rfl) (λG u Y J=>(Bt s.heap (Fk f) (Dw Y)).trans J) ⟨_,q⟩ ?_
 exact⟨hz,jq,_,hv,q⟩
theorem Inv.lstM (I:Inv X aj σ H s)(Q:H l=Ab (.lst xs)):xs.length<=sizeLine/\∃ (ao:ai) (n:Ai),qQ xs ao/\xs.length=ao.length/\s.heap.get? l=Ab { cls:=.type "list",data:=.seq ao.toArray n }:=by
 obtain⟨z,ao,n,r,e⟩:=I.hok l _ Q;exact⟨z,ao,n,r,r.length,e⟩
end
section
variable {X:Cx}
def NV:V->Aa V->Hp->VK->Prop:=λx J H Q=>∃ l Y y,x=.ref l/\J=[y]/\H l=Ab (.lst Y)/\Y.length<sizeLine/\Q .non (bw H l (.lst (Y++[y])))
theorem YO:MtM X "list.append" NV:=by
 intro O s σ H x T v E Q I N G h;obtain⟨l,L,y,rfl,rfl,Y,C,q⟩:=h;cases N;obtain⟨u,rfl,U⟩:=G.one;obtain⟨z,J,n,r,B,e⟩:=I.lstM Y;refine Xx Zc ⟨_,e,rfl⟩ Xy (Xg _ _) (t0 l J.toArray n u (by rw[Bh];lia)) ⟨e,?_⟩
 refine⟨.non,_,I.lset (jq:=J++[u]) Y e a8 (r.append (.cons U .nil)) ?_,rfl,q⟩
 rw[Bb,EQ]
 lia
end
end _L
namespace _L
variable {xs:Aa (Aa bz × Af × Ad)}{kvs:Aa (Aa bz × V)}{Q:ae}{H':Hp}
section
variable {κ: Type}[Sg κ]
noncomputable def yQ (kvs:Aa (κ × V))(k:κ):Al V:=(kvs.find? λY=>decide (Y.1=k)).map (·.2)
noncomputable def v8 (kvs:Aa (κ × V))(k:κ)(v:V):Aa (κ × V):=
 if (kvs.any λY=>decide (Y.1=k))=true then kvs.map (λY=>if Y.1=k then (Y.1,v) else Y) else kvs++[(k,v)]
noncomputable def PY (kvs:Aa (κ × V))(k:κ):Aa (κ × V):=kvs.filter λY=>decide (Y.1≠k)
theorem mQ {p:κ × V}{r:Aa (κ × V)}{k:κ}(e:p.1=k):yQ (p::r) k=Ab p.2:=by simp[yQ,Ia,e]
theorem mP {p:κ × V}{r:Aa (κ × V)}{k:κ}(e:¬ p.1=k):yQ (p::r) k=yQ r k:=by simp[yQ,Ia,e]
theorem cT (k:κ):∀ kvs:Aa (κ × V),(kvs.any λY=>decide (Y.1=k))=(yQ kvs k).isSome
 |[]=>rfl
 |p::r=>by
  rw[Lz];by_cases e:p.1=k
  .simp only[mQ e,Cz e,Bool.true_or,Zd]
  .rw[mP e,Dr e,Bool.false_or];exact cT k r
theorem kL (kvs:Aa (κ × V))(k:κ)(v:V):(v8 kvs k v).length<=kvs.length+1:=by
 unfold v8
 split
 .rw[Ap];lia
 .rw[Bb,Ba,Cu];lia
theorem yP.isSome_eq (r:yP o u):o.isSome=u.isSome:=by
 cases o with
 |none=>cases u with
  |none=>rfl
  |some _=>exact(show Fp from r).elim
 |some _=>cases u with
  |none=>exact(show Fp from r).elim
  |some _=>rfl
theorem yP.getD (r:yP o u)(Y:qL d d'):qL (o.getD d) (u.getD d'):=by
 cases o with
 |none=>cases u with
  |none=>exact Y
  |some _=>exact(show Fp from r).elim
 |some _=>cases u with
  |none=>exact(show Fp from r).elim
  |some _=>exact r
theorem KV.val {kvs:Aa (κ × V)}(r:KV kvs vs)(k:κ):yP (yQ kvs k) (Vg vs k):=by
 unfold KV at r
 induction r with
 |nil=>exact Hz
 |@cons p q O J h t N =>
  obtain⟨U,G⟩:=h;by_cases e:p.1=k
  .have Y:q.1=k:=U.symm.trans e
   have b:Vg (q::J) k=Ab q.2:=by simp[Vg,Ia,Y]
   rw[mQ e,b];exact G
  .have Y:¬ q.1=k:=λz=>e (U.trans z)
   have b:Vg (q::J) k=Vg J k:=by simp[Vg,Ia,Y]
   rw[mP e,b];exact N
theorem KV.any {kvs:Aa (κ × V)}(r:KV kvs vs)(k:κ):(kvs.any λY=>decide (Y.1=k))=vs.any λY=>decide (Y.1=k):=by
 unfold KV at r
 induction r with
 |nil=>rfl
 |cons h t J=>rw[Lz,Lz,J,h.1]
theorem KV.repl {kvs:Aa (κ × V)}(r:KV kvs vs)(k:κ){y:V}{u:Ad}(G:qL y u) :
  KV (kvs.map λY=>if Y.1=k then (Y.1,y) else Y) (vs.map λY=>if Y.1=k then (Y.1,u) else Y):=by
 unfold KV at r ⊢
 induction r with
 |nil=>exact .nil
 |@cons p q O C h t N =>
  rw[Ds,Ds];refine .cons ?_ N;obtain⟨J,U⟩:=h;by_cases e:p.1=k
  .rw[Ay e,Ay (J.symm.trans e)];exact⟨J,G⟩
  .rw[AT e,AT (λz=>e (J.trans z))];exact⟨J,U⟩
theorem KV.put {kvs:Aa (κ × V)}(r:KV kvs vs)(k:κ){y:V}{u:Ad}(Y:qL y u):KV (v8 kvs k y) (stored vs k u):=by
 unfold v8 stored;rw[r.any k];by_cases e:(vs.any λJ=>decide (J.1=k))=true
 .rw[Ay e,Ay e];exact r.repl k Y
 .rw[AT e,AT e];exact Paired.snoc r ⟨rfl,Y⟩
theorem KV.drop {kvs:Aa (κ × V)}(r:KV kvs vs)(k:κ):KV (PY kvs k) (without vs k):=by
 unfold KV at r ⊢;unfold PY without
 induction r with
 |nil=>exact .nil
 |@cons p q N O h t J =>
  obtain⟨Y,U⟩:=h;rw[Px,Px];by_cases e:p.1=k
  .have a:¬ decide (p.1≠k)=true:=by simp[e]
   have b:¬ decide (q.1≠k)=true:=by simp[Y.symm.trans e]
   rw[AT a,AT b];exact J
  .have G:¬ q.1=k:=λz=>e (Y.trans z)
   have a:decide (p.1≠k)=true:=by simp[e]
   have b:decide (q.1≠k)=true:=by simp[G]
   rw[Ay a,Ay b];exact .cons ⟨Y,U⟩ J
theorem KV.length {kvs:Aa (κ × V)}(r:KV kvs vs):kvs.length=vs.length:=Paired.length r
end
theorem gZ {P:Bc}{k:bz}(r:qL (kV k) u):(zV P w).is k u=true:=by
 cases k with
 |inl i=>obtain⟨t,e⟩:=(show ∃ t,u=Qo i t from r);subst e;exact a9 P w i t
 |inr x=>obtain⟨t,e⟩:=(show ∃ t,u=Vw x t from r);subst e;exact aA P w x t
theorem dS {P:Bc}:∀ {ks:Aa bz} {us:ai},qQ (ks.map kV) us->ItemsAre (zV P w) ks us
 |[],_,r=>by rw[Zo] at r;cases r;exact .nil
 |k::ks,_,r=>by
  rw[Ds] at r;cases r with
  |cons h t=>exact .cons (gZ h) (dS t)
abbrev KT (H:Hp):Aa (Aa bz × V)->Aa (Aa bz × Af × Ad)->Prop:=Paired λp q=>p.1=q.1/\H q.2.1=Ab (.tup (p.1.map kV))/\qL p.2 q.2.2
theorem KT.val (r:KT H kvs xs)(k:Aa bz):yP (yQ kvs k) ((Xz xs k).map (·.2)):=by
 induction r with
 |nil=>exact Hz
 |@cons p q O Y h t N =>
  obtain⟨U,_,G⟩:=h;by_cases e:p.1=k
  .have J:q.1=k:=U.symm.trans e
   have b:Xz (q::Y) k=Ab q.2:=by simp[Xz,Ia,J]
   rw[mQ e,b];exact G
  .have J:¬ q.1=k:=λz=>e (U.trans z)
   have b:Xz (q::Y) k=Xz Y k:=by simp[Xz,Ia,J]
   rw[mP e,b];exact N
theorem KT.repl (r:KT H kvs xs)(k:Aa bz){y:V}{u:Ad}(G:qL y u) :
  KT H (kvs.map λJ=>if J.1=k then (J.1,y) else J) (xs.map (putAt k u)):=by
 induction r with
 |nil=>exact .nil
 |@cons p q C B h t O =>
  rw[Ds,Ds];refine .cons ?_ O;obtain⟨Y,U,N⟩:=h;unfold putAt;by_cases e:p.1=k
  .rw[Ay e,Ay (Y.symm.trans e)];exact⟨Y,U,G⟩
  .rw[AT e,AT (λz=>e (Y.trans z))];exact⟨Y,U,N⟩
theorem KT.put (r:KT H kvs xs)(k:Aa bz){b:Af}{y:V}{u:Ad}(U:H b=Ab (.tup (k.map kV)))(Y:qL y u) :
  KT H (v8 kvs k y) (storedH xs k b u):=by
 have e:(kvs.any λJ=>decide (J.1=k))=(Xz xs k).isSome:=by
  rw[cT,(r.val k).isSome_eq,u8]
 unfold v8 storedH;rw[e];by_cases q:(Xz xs k).isSome=true
 .rw[Ay q,Ay q];exact r.repl k Y
 .rw[AT q,AT q];exact Paired.snoc r ⟨rfl,U,Y⟩
theorem KT.keeps (r:KT H kvs xs)(Y:∀ b ys,H b=Ab (.tup ys)->H' b=Ab (.tup ys)):KT H' kvs xs:=
 Paired.mapP r λ_ _ z=>⟨z.1,Y _ _ z.2.1,z.2.2⟩
section
variable {P:Bc}{w:Bu}{H:Hp}{h:Bk}{a:Af}
theorem BU (ok:gt P w H h)(e:Rd H a u):zC P w H h a u:=e.ok ok
theorem sT {kvs:Aa (bz × V)}(ok:gt P w H h)(e:Rd H a (.dK kvs)):kvs.length<=sizeLine/\(a == IN)=false/\∃ vs,KV kvs vs/\h.DictOf (zV P w) a vs:=
 show zC P w H h a (.dK kvs) from BU ok e
theorem QR {kvs:Aa (bz × V)}(ok:gt P w H h)(e:H a=Ab (.dK kvs)):kvs.length<=sizeLine/\(a == IN)=false/\∃ vs,KV kvs vs/\h.DictOf (zV P w) a vs:=sT ok (.inl e)
theorem tJ {ks:Aa bz}(ok:gt P w H h)(e:H a=Ab (.tup (ks.map kV))):(Vy (zV P w)).is h ks a:=by
 obtain⟨_,U,r,o,G,J,n,Y⟩:=(show zC P w H h a (.tup (ks.map kV)) from ok a _ e)
 exact⟨o,U.toArray,n,G,J,Y,by simpa using dS r⟩
theorem sU (ok:gt P w H h)(e:Rd H a (.dT kvs)):kvs.length<=sizeLine/\(a == IN)=false /\
  ∃ xs,KT H kvs xs/\h.DictOfH (Vy (zV P w)) a xs:=by
 obtain⟨z,y,xs,r,o,C,G,O,U,B,T,N⟩:=(show zC P w H h a (.dT kvs) from BU ok e)
 refine⟨z,y,xs,r,o,C,G,O,U,B,T,λx hx=>?_,N⟩;have Y:∀ {l:Aa (Aa bz × V)} {m:Aa (Aa bz × Af × Ad)},KT H l m->∀ x∈m,(Vy (zV P w)).is h x.1 x.2.1:=by
  intro l m q
  induction q with
  |nil=>intro x hx;exact nomatch hx
  |@cons p q E I J t L =>
   intro x hx;rcases Ax.mp hx with e|hx
   .subst e
    exact tJ ok (by rw[<- J.1];exact J.2.1)
   .exact L x hx
 exact Y r x hx
theorem IT (ok:gt P w H h)(e:H a=Ab (.dT kvs)):kvs.length<=sizeLine/\(a == IN)=false /\
  ∃ xs,KT H kvs xs/\h.DictOfH (Vy (zV P w)) a xs:=sU ok (.inl e)
end
def gK (H:Hp)(a:Af)(y:V)(r:Al V):Prop:=
 (∃ kvs k,Rd H a (.dK kvs)/\y=kV k/\r=yQ kvs k)\/∃ kvs k b,Rd H a (.dT kvs)/\y=.ref b/\H b=Ab (.tup (k.map kV))/\r=yQ kvs k
def nE (H:Hp)(a:Af)(y v:V)(H':Hp):Prop:=
 (∃ kvs k,H a=Ab (.dK kvs)/\y=kV k/\kvs.length<sizeLine/\H'=bw H a (.dK (v8 kvs k v))) \/
 ∃ kvs k b,H a=Ab (.dT kvs)/\y=.ref b/\H b=Ab (.tup (k.map kV))/\kvs.length<sizeLine/\H'=bw H a (.dT (v8 kvs k v))
theorem gK.k {H:Hp}{a:Af}{kvs:Aa (bz × V)}{k:bz}(e:H a=Ab (.dK kvs)):gK H a (kV k) (yQ kvs k):=.inl ⟨kvs,k,.inl e,rfl,rfl⟩
theorem gK.t {H:Hp}{a b:Af}{k:Aa bz}(e:H a=Ab (.dT kvs))(Y:H b=Ab (.tup (k.map kV))):gK H a (.ref b) (yQ kvs k):=.inr ⟨kvs,k,b,.inl e,rfl,Y,rfl⟩
theorem nE.k {H:Hp}{a:Af}{kvs:Aa (bz × V)}{k:bz}(e:H a=Ab (.dK kvs))(hl:kvs.length<sizeLine):nE H a (kV k) v (bw H a (.dK (v8 kvs k v))):=.inl ⟨kvs,k,e,rfl,hl,rfl⟩
theorem nE.t {H:Hp}{a b:Af}{k:Aa bz}{v:V}(e:H a=Ab (.dT kvs))(Y:H b=Ab (.tup (k.map kV)))(hl:kvs.length<sizeLine) :
  nE H a (.ref b) v (bw H a (.dT (v8 kvs k v))):=.inr ⟨kvs,k,b,e,rfl,Y,hl,rfl⟩
section
variable {X:Cx}{aj:aa}{σ: St}{H:Hp}{s:Ag}{a:Af}{y v:V}{u r:Ad}{o:Al V}{A:Bl}{E:ae}
theorem Inv.big (I:Inv X aj σ H s):IN<s.heap.objs.size:=by
 have h:Ct<s.heap.objs.size:=(I.mod.glob.keeps I.bk).lt;exact Ji da h
theorem W3 (w:A.units+1<Ed)(I:Inv X aj σ H s)(g:gK H a y (Ab v))(B:qL y u)(h:∀ U s',Inv X aj σ H s'->qL v U->Q U s') :
  Ao (As X.prog X.w) A (Mw (.ref a) u) Q E s:=by
 rcases g with⟨kvs,k,e,C,l⟩|⟨kvs,k,b,e,C,M,l⟩
 .subst C
  obtain⟨z,L,j,J,O⟩:=sT I.hok e;obtain⟨U,N,Y⟩:=yP.some_of (v:=v) (o:=Vg j k) (by rw[l];exact J.val k)
  exact wpAny_getItem_of (gZ B) O.mapOf N (h U _ (I.tok _) Y)
 .subst C
  cases (show u=Cc b from B)
  obtain⟨z,L,xs,J,O⟩:=sU I.hok e;obtain⟨U,N,Y⟩:=yP.some_of (v:=v) (o:=(Xz xs k).map (·.2)) (by rw[l];exact J.val k)
  obtain⟨p,T,G⟩:=Em.mp N;refine wpAny_getItem_heap (Sc w) (tJ I.hok M) O T ?_;rw[G];exact h U _ (I.tok _) Y
theorem qA3 (C:A.units+1<Ed)(I:Inv X aj σ H s)(g:gK H a y o)(N:qL y u)(h:∀ s',Inv X aj σ H s'->Q (.bool o.isSome) s') :
  Ao (As X.prog X.w) A (Cy .In u (.ref a)) Q E s:=by
 rcases g with⟨kvs,k,e,G,l⟩|⟨kvs,k,b,e,G,O,l⟩
 .subst G
  obtain⟨z,J,B,Y,U⟩:=sT I.hok e;refine wpAny_in_of (gZ N) J U.mapOf ?_;rw[<- (Y.val k).isSome_eq,<- l];exact h _ (I.tok _)
 .subst G
  cases (show u=Cc b from N)
  obtain⟨z,J,xs,Y,U⟩:=sU I.hok e;refine wpAny_in_heap (Sc C) (tJ I.hok O) J U ?_;have q:=(Y.val k).isSome_eq;rw[u8] at q;rw[<- q,<- l];exact h _ (I.tok _)
theorem nP {t':Ai}(I:Inv X aj σ H s)(G:xh (H a))(hs:Fb a s.heap h')(U:∃ q,h'.get? a=Ab q)(Y:zC X.prog X.w (bw H a J) h' a J) :
  Inv X aj σ (bw H a J) { s with heap:=h',toks:=t' }:=
 I.write (x:=a) (e:=a) G (.inl rfl) (λb q N z=>(hs.2 b N).trans z) U Y
theorem W8 {P:Bc}{h':Bk}{kvs:Aa (bz × V)}(z:kvs.length<=sizeLine)(hd:(a == IN)=false)(Y:KV kvs vs)(dd:h'.DictOf (zV P w) a vs) :
  zC P w H' h' a (.dK kvs):=⟨z,hd,vs,Y,dd⟩
theorem W4 {Q:Po->Ag->Prop}(i:A.units+1<Ed)(I:Inv X aj σ H s)(g:nE H a y v H')(M:qL y u)(w:qL v r)(h:∀ s',Inv X aj σ H' s'->Q () s') :
  Ao (As X.prog X.w) A (setItem (.ref a) u r) Q E s:=by
 rcases g with⟨kvs,k,e,C,l,L⟩|⟨kvs,k,b,e,C,j,l,L⟩
 .subst C L
  obtain⟨z,O,t,Y,T⟩:=QR I.hok e;have G:t.length<=sizeLine:=by rw[<- Y.length];exact z
  have N:(v8 kvs k v).length<=sizeLine:=by have:=kL kvs k v;lia
  refine wpAny_setItem_pairs (hsz:=G) (gZ M) T λp J B=>h _ ?_;have he:∃ q,p.get? a=Ab q:=let ⟨q,_,_,U,_⟩:=J;⟨q,U⟩
  exact nP I (by rw[e];exact Hz) B he (W8 N O (Y.put k w) J)
 .subst C L
  cases (show u=Cc b from M)
  obtain⟨z,O,xs,Y,T⟩:=IT I.hok e;have G:xs.length<=sizeLine:=by rw[<- Paired.length Y];exact z
  have N:(v8 kvs k v).length<=sizeLine:=by have:=kL kvs k v;lia
  refine wpAny_setItem_heap (hsz:=G) (Sc i) (tJ I.hok j) T λp J B=>h _ ?_;obtain⟨q,n,f,U,x,h3,h4,_,m⟩:=J;refine nP I (by rw[e];exact Hz) B ⟨q,U⟩ ⟨N,O,_,(Y.put k j w).keeps λc ys d=>?_,q,n,f,U,x,h3,h4,m⟩
  rw[qJ (OH d e (λz=>nomatch z))];exact d
end
def UF (i:Cb):Prop:=∀ Y J,subscripted i false Y J=operate [Y,J] (Mw Y J)
theorem LD {prog:Bc}{w:Bu}{A:Bl}{E:ae}{s:Ag}{al:Jk}{J Y:Cb}{H:Fc}{T id:Er}
  (hl:Xv (.type T) "__getitem__" = pure (Ab (.builtin id))) (hs:UF Y)
  (h:Ao (As prog w) A (eval J al) (λo N=>Ao (As prog w) A (eval Y al) (λi U=>U.TypeIs o T/\Ao (As prog w) A (Mw o i) Q E U) E N) E s) :
  Ao (As prog w) A (eval (.Subscript J Y H) al) Q E s:=by
 refine Xw (Fd h (λo N L=>Fd L (λi U G=>?_) λ_ _ x=>x) λ_ _ x=>x);obtain⟨I,G⟩:=G;unfold Sz;refine Ac ?_;rw[getitemInPython_of_ne I.not_modules];refine Ac (Nw I hl ?_);have C:Ao (As prog w) A (subscripted Y false o i) (λr O=>Ao (As prog w) A (letTemporaryGo J o r >>= λ_=>pure r) Q E O) E U:=by
  rw[hs o i];exact wpAny_operating (Fd G (λr O B=>Ac (wpAny_letTemporaryGo (Ak B))) λ_ _ x=>x)
 first
  |exact Ak (Ac C)
  |exact Ac (Ak (Ac C))
  |exact Ac C
theorem a0 {X:Cx}{σ:St}{a:Af}(I:Inv X aj σ H s)(g:gK H a y o):s.TypeIs (.ref a) "dict":=by
 rcases g with⟨kvs,k,e,_,_⟩|⟨kvs,k,b,e,_,_,_⟩
 .obtain⟨_,_,J,_,Y⟩:=sT I.hok e
  exact Y.typeIs
 .obtain⟨_,_,xs,_,Y⟩:=sU I.hok e
  exact Y.typeIs
theorem J2 {P:Bc}(h:Bk)(Y:IN<h.objs.size):zC P w H (h.push { cls:=.type "dict",data:=.dict #[] }) h.objs.size (.dK []):=
 ⟨Hi _,Gj.mpr (Dw (Cw Y)),[],.nil,Heap.DictOf.new h⟩
def A7:TE:=λ_ H Q=>∀ p,H p=none->Q (.ref p) (bw H p (.dK []))
section
variable {X:Cx}{au:Fc}
theorem hZ:PE X (.Dict [] [] au) A7:=λY s σ H Q I h =>
 wpAny_Dict_empty ⟨.ref s.heap.objs.size,_,I.laid (a:=s.heap.objs.size) (o:=.dK []) (t':=s.toks) (λ_ _ q=>Aj _ q) (Av _) (J2 s.heap I.big),rfl,h _ (I.hok.fresh (Av _))⟩
end
end _L
namespace _A
open PySem.W PySem.Calls
theorem tE {P:Params}:∀ (ns:Aa Am) (vs:ai),WellAll P h vs (ns.map WData.int)->Lc vs ns:=by
 intro ns
 induction ns with
 |nil =>
  intro vs w;rw[Zo] at w;cases w;exact .nil
 |cons n ns Q =>
  intro vs w;rw[Ds] at w;cases w with
  |cons a b =>
   cases a;exact .cons _ _ (Q _ b)
theorem VV {l:OpenLaw}(T:l.most=Ab n){P:Params}{h:Bk}{args:Aa WData}{Q:ai}
  (Y:l.row.toRowW.claim.pre args=true) (C:WellAll P h Q args) :
  ∃ a vs ns,Q=[Cc a]/\args=[WData.list (ns.map WData.int)]/\h.get? a=Ab { cls:=.type "list",data:=.seq vs.toArray } /\ Lc vs ns/\ns.length<=n:=by
 have O:WShape.hasAll [] args [.list .int]=true:=(pre_splitW Y).1;have B:l.pre.holds [] { args:=args } = true:=(pre_splitW Y).2;obtain⟨d,r,rfl,H,L⟩:=hasAllW_cons O;obtain rfl:=hasAllW_nil L;obtain⟨z,rfl,A⟩:=hasW_list H;obtain⟨ns,rfl⟩:=items_int A;have U:ns.length<=n:=by
  unfold OpenLaw.pre at B;have N:(WTm.not (.lt (.lit (.int (n:Am))) (.len (.arg 0)))).holds [] { args:=[.list (ns.map .int)] } = true:=by
   have N:=(holds_andW B).1;rw[T] at N;exact N
  have G:=condW_of N (w_not (w_lt w_lit (w_len_list (w_arg rfl))));rw[Ap] at G;refine AaF λq=>?_;have w:(n:Am)<((ns.length:Ai):Am):=by lia
  first
   |(rw[Cz w] at G;exact absurd G da)
   |(simp at G;lia)
 cases C with
 |cons E I =>
  cases I;cases E with
  |list M J=>exact⟨_,_,ns,rfl,rfl,M,tE ns _ J,U⟩
theorem V3 (l:OpenLaw)(args:Aa WData):l.row.toRowW.claim.post args (.bool true) args=true:=
 postW_of (r:=l.row.toRowW) (X:=(true == true))
  (show WShape.has [] (.bool true) .bool=true by first|rfl|decide|simp[WShape.has,WShape.arms,WShape.armsAll])
  (show (WTm.eq .res (.lit (.bool true))).value [] { args:=args,res:=Ab (.bool true),after:=args } = Ab (.bool (true == true)) from w_eq_bool (w_res rfl) w_lit) rfl
theorem mw {l:OpenLaw}{n:Ai}{q:Bc}{j:Aa Ar}{p:(Ar->Al Ad)->Bk->Prop}{c:Bu->Bk->Prop}{d:DefRec}
  (m:l.most=Ab n) (A:d.params.defaults=[])
  (call:∀ (w:Bu) (J Q:Ag) (mg I:ah) (L:Af) (o:Co) (H T U:Ad) (a:Af) (vs:ai) (ns:Aa Am),
   Ground q j [] p w J mg I Q.heap->c w Q.heap ->
   Q.heap.get? L=Ab o->o.data=.func (docDef d.name d.params d.body d.scope H T U)->Q.heap.CodeRec T d.name->mg d.name=Ab (.ref L) ->
   Q.heap.get? a=Ab { cls:=.type "list",data:=.seq vs.toArray } -> Lc vs ns->ns.length<=n->Q.gens=#[] ->
   Ht (As l.prog w) Ta (.call (.ref L) ⟨[.ref a],[]⟩) (λr s'=>r=.ok (.ret (.bool true))/\OldK Q.heap s'.heap/\s'.os=Q.os/\Ps s'.gens) Q) :
  WalkO q j p c l.row.toRowW d [] (λf vs=>AaZ f vs):=by
 intro w J Q mg I G Y L o H T U s kV ho t M g E h k u as C y zb z i;obtain rfl:s=.none:=Dflts.none g A;obtain rfl:kV=.none:=Dflts.noKw g;obtain⟨a,vs,ns,rfl,rfl,O,N,B⟩:=VV m C z;refine enter_call (My (call w J Q mg I L o H T U a vs ns G Y ho (fd_plain t) M E O N B h) λr s' e=>?_);obtain⟨rfl,v,h3,x⟩:=e;exact⟨.inl ⟨.bool true,.bool true,[],rfl,λ_=>rfl,.bool true,V3 l _,λ_=>⟨Pi,λ_ b=>(nomatch b)⟩⟩,v,h3,x⟩
end _A
namespace _L
theorem U4 (h:Lc vs ns):qQ (ns.map V.int) vs:=by
 induction h with
 |nil=>exact .nil
 |cons n t h Q=>exact .cons ⟨t,rfl⟩ Q
def qe (K:Ah)(H:Hp)(a:Af)(xs:Aa V):Prop:=
 Rd H a (.lst xs)\/∃ (Q:ai) (n:Ai),K.lookup a=Ab { cls:=.type "list",data:=.seq Q.toArray n } /\ xs.length<=sizeLine/\qQ xs Q
theorem qe.l {K:Ah}{a:Af}(h:qe K H a xs):ju K H a xs:=by
 rcases h with h|⟨Q,n,e,l,v⟩
 .exact .inl h
 .exact .inr ⟨_,Q.toArray,n,e,rfl,rfl,rfl,by rw[Bh,<- v.length];exact l,by simpa using v⟩
end _L
namespace _L
variable {ps:Aa Ar}{f:Af}{x ba:Ar}{H:Hp}
noncomputable def wH (s:Et):Wb:=match s with
 |.FunctionDef _ a _ _ _ _ _ _ _ _=>a
 |_=>{ posonlyargs:=[],args:=[],vararg:=none,kwonlyargs:=[],kw_defaults:=[],kwarg:=none,defaults:=[] }
def zJ (s:Et):Aa Et:=match s with
 |.FunctionDef _ _ b _ _ _ _ _ _ _=>b
 |_=>[]
def qM (s:Et):Fq:=match s with
 |.FunctionDef _ _ _ _ _ _ Q _ _ _=>Q
 |_=>{ kind:=.function,names:=[],isGenerator:=false,isCoroutine:=false }
abbrev _b:ue:=λ_ _ _ _ _ _=>Fp
structure rk (K:Ah)(x qual:Ar)(st:Et)(f:Af)(fd:Gd):Prop where
 ex:∃ (oc:Ad) (od:Al Af) (kV doc pm:Ad) (an:Al Af) (cdv ct:Ad) (osl:Aw (Al Ad)),
  fd=Gf x qual (wH st) (zJ st) (qM st) .none kV doc pm an cdv ct/\K.lookup f=Ab ⟨oc,od,.func fd,osl⟩/\Kz K cdv qual=true
 kp:Ff K (.ref f)=true
section
variable {P:Bc}{w:Bu}{K:Ah}{mg:ah}{base:Bk}
theorem rk.ok {st:Et}{k:Ai}{sp:Sp}(F:rk K x ba st f fd)(S:ci N ps (qM st))(C:∀ vs H Q E,sp vs H Q E->vs.length=ps.length)
  (J:∀ (Y:Ad) (A:Bl) (U:Aa Jk) (s:Ag) (H:Hp) (vs:Aa V) (Q:VK) (E:XK),gp k (A.deeper (Hq ba (qM st) s.heap.objs.size f Y))->sp vs H Q E ->
   ∃ t,ip (nN _b P w K mg base N ba (qM st) f Y A U s H E).nox (zJ st) t/\t { nx:=λ_ H'=>Q .non H',rt:=Q } (w5 N vs) H):my P w K mg base _b (k+1) f fd ps sp:=by
 obtain⟨z,M,kV,L,I,j,Y,y,T,rfl,lk,G⟩:=F.ex;refine IY lk G S C λA U s H vs Q E B O=>?_;obtain⟨t,h,q⟩:=J Y A U s H vs Q E B O;exact⟨t,h.nox,q⟩
theorem rk.binds {st:Et}(F:rk K x ba st f fd)
  (h:∀ (kV Q J:Ad) (U:Al Af) (Y G:Ad) (us:ai),us.length=ps.length->Yt (Gf x ba (wH st) (zJ st) (qM st) .none kV Q J U Y G) ⟨us,[]⟩=pure (ps.zip us)):u3 K fd ps []:=by
 obtain⟨B,C,kV,Q,J,U,Y,G,O,rfl,lk,N⟩:=F.ex;exact .all (h kV Q J U Y G)
theorem WV {st:Et}{C:Ad}{O G:Al Af}{J:Aw (Al Ad)}{kV Y U Q N:Ad}(l:K.lookup f=Ab ⟨C,O,.func (Gf x ba (wH st) (zJ st) (qM st) .none kV Y U G Q N),J⟩)
  (c:Kz K Q ba=true) (k:Ff K (.ref f)=true):rk K x ba st f (Gf x ba (wH st) (zJ st) (qM st) .none kV Y U G Q N):=⟨⟨C,O,kV,Y,U,G,Q,N,J,rfl,l,c⟩,k⟩
end
def qI (H H':Hp):Prop:=∀ b o,H b=Ab o->H' b=Ab o
theorem qI.refl (H:Hp):qI H H:=λ_ _ h=>h
theorem qI.trans (a:qI H Q)(b:qI Q Y):qI H Y:=λc o h=>b c o (a c o h)
theorem qI.free (e:qI H H'){l:Af}(h:H' l=AbR):H l=AbR:=by
 cases q:H l with
 |none=>rfl
 |some o =>
  rw[e l o q] at h;cases h
theorem qI.seq {K:Ah}{a:Af}(e:qI H H')(h:ju K H a xs):ju K H' a xs:=by
 rcases h with (h|⟨o,h⟩)|h
 .exact .inl (.inl (e _ _ h))
 .exact .inl (.inr ⟨o,e _ _ h⟩)
 .exact .inr h
end _L
end
section
namespace _D
open _L
inductive D where
 |non|bl (b:Au)|int (i:Am)|str (x:Ar)|ty (n:Er)|obj (a:Af)|tup (xs:Aa D)|lst (xs:Aa D)|dct0|loc (i:Ai)|exn (c:Ad)|fd (ks:Aa bz) (ds:Aa D)|clo (a:Af) (vs:Aa V) (ds:Aa D)|exl (c:Ad) (ns:Aa Ar) (ds:Aa D)
def RG (a:Af)(c:Ad):HO:=.ext λh=>∃ Q,h.get? a=Ab Q/\Q.cls=c
def RF (a:Af)(c:Ad)(J:Af):HO:=.ext λh=>∃ Q,h.get? a=Ab Q/\Q.cls=c/\Q.dict=Ab J/\∃ Y,Q.data=.fields Y
def UG (a:Af)(fs:Aa (Ar × V))(h:Bk):Prop:=∃ Q,h.Ns1 a Q/\(∀ f,yP (fs.lookup f) (Q f))/\Qx Q (fs.map (·.1))
def o_ (a:Af)(fs:Aa (Ar × V)):HO:=.ext (UG a fs)
inductive MO where
 |dead|lst (xs:Aa D)|dct (kvs:Aa (bz × D))|dcT (kvs:Aa (Aa Am × D))|ins (C:Af) (fs:Aa (Ar × D))
abbrev aq:=Aa MO
inductive a_ (β : Type) where
 |ok (d:β) (S:aq)|ex (c:Ad) (x:D) (S:aq)|bad
@[inline] noncomputable def a_.bind {β γ:Type}(r:a_ β)(f:β->aq->a_ γ) : a_ γ:=
 match r with
 |.ok d S=>f d S
 |.ex c x S=>.ex c x S
 |.bad=>.bad
theorem a_.bind_ok {β γ:Type}(d:β)(S:aq)(f:β->aq->a_ γ) : (a_.ok d S).bind f=f d S:=rfl
section
variable (K:Ah)(P:Hp)(α: Aa Af)
mutual
def av:D->V->Prop
 |.non,v=>v=.non
 |.bl b,v=>v=.bl b
 |.int i,v=>v=.int i
 |.str x,v=>v=.str x
 |.ty n,v=>v=.ty n
 |.obj a,v=>v=.ref a/\Ff K (.ref a)=true
 |.tup Y,v=>∃ a Q,v=.ref a/\jf K P a Q/\qF Y Q
 |.lst Y,v=>∃ a Q,v=.ref a/\qe K P a Q/\qF Y Q
 |.dct0,v=>∃ a,v=.ref a/\P a=Ab (.dK [])
 |.loc i,v=>∃ a,v=.ref a/\α[i]? = Ab a
 |.exn c,v=>∃ a,v=.ref a/\P a=Ab (RG a c)
 |.fd G Y,v=>∃ a o Q,v=.ref a/\P a=Ab (.frz o (.dK (G.zip Q)))/\G.length=Q.length/\qF Y Q
 |.clo a Q Y,v=>v=.ref a/\qF Y Q
 |.exl c U Y,v=>∃ a J Q,v=.ref a/\P a=Ab (RF a c J)/\P J=Ab (o_ J (U.zip Q))/\U.length=Q.length/\qF Y Q
def qF:Aa D->Aa V->Prop
 |[],Q=>Q=[]
 |d::J,Q=>∃ w Y,Q=w::Y/\av d w/\qF J Y
end
end
section
variable {K:Ah}{P P':Hp}{α α':ag}
theorem vA (e:qI P P'){a:Af}{xs:Aa V}(h:jf K P a xs):jf K P' a xs:=by
 rcases h with (h|⟨o,h⟩)|h
 .exact .inl (.inl (e _ _ h))
 .exact .inl (.inr ⟨o,e _ _ h⟩)
 .exact .inr h
theorem oH (e:qI P P'){a:Af}{u:HO}(h:Rd P a u):Rd P' a u:=by
 rcases h with h|⟨o,h⟩
 .exact .inl (e _ _ h)
 .exact .inr ⟨o,e _ _ h⟩
theorem xT (e:qI P P'){a:Af}{xs:Aa V}(h:qe K P a xs):qe K P' a xs:=by
 rcases h with h|h
 .exact .inl (oH e h)
 .exact .inr h
theorem fE {i:Ai}{a:Af}(h:α<+:α')(e:α[i]? = Ab a):α'[i]? = Ab a:=by
 obtain⟨r,rfl⟩:=h;rw[Bo (Bd.mp e).1];exact e
mutual
theorem av.mono (e:qI P P')(h:α<+:α'):∀ (d:D) (v:V),av K P α d v->av K P' α' d v
 |.non,_,r=>by simpa only [av] using r
 |.bl _,_,r=>by simpa only [av] using r
 |.int _,_,r=>by simpa only [av] using r
 |.str _,_,r=>by simpa only [av] using r
 |.ty _,_,r=>by simpa only [av] using r
 |.obj _,_,r=>by simpa only [av] using r
 |.tup Y,v,r=>by
  simp only[av] at r ⊢;obtain⟨a,Q,rfl,q,t⟩:=r;exact⟨a,Q,rfl,vA e q,qF.mono e h Y Q t⟩
 |.lst Y,v,r=>by
  simp only[av] at r ⊢;obtain⟨a,Q,rfl,q,t⟩:=r;exact⟨a,Q,rfl,xT e q,qF.mono e h Y Q t⟩
 |.dct0,v,r=>by
  simp only[av] at r ⊢;obtain⟨a,rfl,q⟩:=r;exact⟨a,rfl,e _ _ q⟩
 |.loc i,v,r=>by
  simp only[av] at r ⊢;obtain⟨a,rfl,q⟩:=r;exact⟨a,rfl,fE h q⟩
 |.exn c,v,r=>by
  simp only[av] at r ⊢;obtain⟨a,rfl,q⟩:=r;exact⟨a,rfl,e _ _ q⟩
 |.fd O Y,v,r=>by
  simp only[av] at r ⊢;obtain⟨a,o,Q,rfl,q,J,t⟩:=r;exact⟨a,o,Q,rfl,e _ _ q,J,qF.mono e h Y Q t⟩
 |.clo a Q Y,v,r=>by
  simp only[av] at r ⊢;exact⟨r.1,qF.mono e h Y Q r.2⟩
 |.exl c N Y,v,r=>by
  simp only[av] at r ⊢;obtain⟨a,G,Q,rfl,q,U,J,t⟩:=r;exact⟨a,G,Q,rfl,e _ _ q,e _ _ U,J,qF.mono e h Y Q t⟩
theorem qF.mono (e:qI P P')(h:α<+:α'):∀ (ds:Aa D) (vs:Aa V),qF K P α ds vs->qF K P' α' ds vs
 |[],vs,r=>by simpa only [qF] using r
 |d::ds,vs,r=>by
  simp only[qF] at r ⊢;obtain⟨w,Q,rfl,Y,J⟩:=r;exact⟨w,Q,rfl,av.mono e h d w Y,qF.mono e h ds Q J⟩
end
theorem qF.nil:qF K P α [] []:=by simp only[qF]
theorem qF.cons {d:D}{v:V}{ds:Aa D}{vs:Aa V}(r:av K P α d v)(t:qF K P α ds vs):qF K P α (d::ds) (v::vs):=by
 simp only[qF];exact⟨v,vs,rfl,r,t⟩
theorem qF.nil_inv {vs:Aa V}(r:qF K P α [] vs):vs=[]:=by simpa only [qF] using r
theorem qF.cons_inv {d:D}{ds:Aa D}(r:qF K P α (d::ds) vs):∃ w Q,vs=w::Q/\av K P α d w/\qF K P α ds Q:=by simpa only [qF] using r
theorem qF.length:∀ {ds:Aa D} {vs:Aa V},qF K P α ds vs->ds.length=vs.length
 |[],vs,r=>by rw[r.nil_inv];rfl
 |d::ds,vs,r=>by
  obtain⟨w,Q,rfl,_,t⟩:=r.cons_inv;rw[Ba,Ba,t.length]
theorem qF.append:∀ {ds es:Aa D} {vs Q:Aa V},qF K P α ds vs->qF K P α es Q->qF K P α (ds++es) (vs++Q)
 |[],es,vs,Q,r,t=>by rw[r.nil_inv];exact t
 |d::ds,es,vs,Q,r,t=>by
  obtain⟨w,U,rfl,Y,J⟩:=r.cons_inv;exact .cons Y (J.append t)
theorem qF.get:∀ {ds:Aa D} {vs:Aa V} {i:Ai} {d:D},qF K P α ds vs->ds[i]? = Ab d->∃ v,vs[i]? = Ab v/\av K P α d v
 |[],_,_,_,_,e=>by simp at e
 |d::ds,vs,i,U,r,e=>by
  obtain⟨w,N,rfl,Q,Y⟩:=r.cons_inv;cases i with
  |zero=>simp at e;subst e;exact⟨w,rfl,Q⟩
  |succ i =>
   obtain⟨v,G,J⟩:=Y.get (i:=i) (d:=U) (by simpa using e)
   exact⟨v,by simpa using G,J⟩
theorem qF.drop:∀ {ds:Aa D} {vs:Aa V} (n:Ai),qF K P α ds vs->qF K P α (ds.drop n) (vs.drop n)
 |ds,vs,0,r=>by simpa using r
 |[],vs,n+1,r=>by rw[r.nil_inv];exact .nil
 |d::ds,vs,n+1,r=>by
  obtain⟨w,Y,rfl,_,Q⟩:=r.cons_inv;simpa using Q.drop n
theorem qF.take:∀ {ds:Aa D} {vs:Aa V} (n:Ai),qF K P α ds vs->qF K P α (ds.take n) (vs.take n)
 |ds,vs,0,r=>by simpa using qF.nil
 |[],vs,n+1,r=>by rw[r.nil_inv];exact .nil
 |d::ds,vs,n+1,r=>by
  obtain⟨w,J,rfl,Q,Y⟩:=r.cons_inv;simpa using qF.cons Q (Y.take n)
theorem qF.set (q:av K P α d v):∀ {ds:Aa D} {vs:Aa V} (n:Ai),qF K P α ds vs->qF K P α (ds.set n d) (vs.set n v)
 |[],vs,n,r=>by rw[r.nil_inv];exact .nil
 |e::ds,vs,0,r=>by
  obtain⟨w,J,rfl,Y,Q⟩:=r.cons_inv;exact .cons q Q
 |e::ds,vs,n+1,r=>by
  obtain⟨w,J,rfl,Y,Q⟩:=r.cons_inv;exact .cons Y (Q.set q n)
end
abbrev qE:=Aa (Al D)
def zD (K:Ah)(P:Hp)(α : Aa Af)(σ : _L.St)(al:qE):Prop:=al.length=σ.length/\∀ (i:Ai) (d:D),al[i]? = Ab (Ab d)->∃ v,σ[i]? = Ab (Ab v)/\av K P α d v
def nk (K:Ah)(P:Hp)(α : Aa Af){κ : Type}:Aa (κ × D)->Aa (κ × V)->Prop:=Paired λ(p:κ × D) (q:κ × V)=>p.1=q.1/\av K P α p.2 q.2
def QZ (ns:Aa Am):Am:=XV (Ip (ns.map hashInt))
def qAr (a:Af)(xs:Aa (Aa Am × Af × V))(h:Bk):Prop:=∃ Q:Aa (Aa Am × Af × Ad),Paired (λ(p:Aa Am × Af × V) (q:Aa Am × Af × Ad)=>p.1=q.1/\p.2.1=q.2.1/\qL p.2.2 q.2.2) xs Q /\
 ∃ o Y J,h.get? a=Ab o/\o.ExactDict/\o.data=.dict Y J/\Y.toList=Q.map λx=>⟨QZ x.1,.ref x.2.1,x.2.2⟩
abbrev dtO (a:Af)(xs:Aa (Aa Am × Af × V)):HO:=.ext (qAr a xs)
def yx (K:Ah)(P:Hp)(α : Aa Af):Aa (Aa Am × D)->Aa (Aa Am × Af × V)->Prop:=Paired λ(p:Aa Am × D) (q:Aa Am × Af × V)=>p.1=q.1/\jf K P q.2.1 (q.1.map V.int)/\av K P α p.2 q.2.2
def tm (K:Ah)(H P:Hp)(α : Aa Af)(a:Af):MO->Prop
 |.dead=>Ov
 |.lst N=>∃ Q,H a=Ab (.lst Q)/\qF K P α N Q
 |.dct Y=>∃ Q,H a=Ab (.dK Q)/\nk K P α Y Q
 |.dcT Y=>∃ J,H a=Ab (dtO a J)/\(a == IN)=false/\J.length<=sizeLine/\(J.map (·.1)).Nodup/\yx K P α Y J
 |.ins C U=>∃ G Q,H a=Ab (.ins C G Q)/\nk K P α U Q
inductive w_ (x:Ar)(H P:Hp)(α : Aa Af)(T:Af):Prop
 |mk (ps:Aw Ad) (e:H T=Ab (.tbl ps)) (pn:P T=none) (an:T ∉ α) (ok:TriplesOk ps.toList) (cd:∀ pos cv,codeAmong pos ps.toList=Ab cv->∃ c oc vs t,cv=.ref c/\H c=Ab (.frz oc (.frz oc (.own 0)))/\oc.data=.fields vs/\vs[1]? = Ab (.str (x ++ ".<locals>." ++ "<lambda>") t)):w_ x H P α T
def Q6 (K:Ah)(H P:Hp)(α : Aa Af):Prop:=∀ x∈vO,∀ c T,Ey K x=Ab (c,T)->w_ x H P α T
def RS (u:HO):Prop:=(∃ Q,u=.tbl Q)\/∃ o,u=.frz o (.frz o (.own 0))
theorem Q6.keep {K:Ah}{H H' P J:Hp}{α Q:ag}(r:Q6 K H P α)(e:∀ b u,H b=Ab u->RS u->H' b=Ab u)(hp:∀ b u,H b=Ab u->RS u->P b=none->b ∉ α->J b=none/\b ∉ Q):Q6 K H' J Q:=λx U c T h =>
 let ⟨G,Y,L,O,ok,E⟩:=r x U c T h
 let z:=hp _ _ Y (.inl ⟨_,rfl⟩) L O
 ⟨G,e _ _ Y (.inl ⟨_,rfl⟩),z.1,z.2,ok,λB N q=>let ⟨c,I,C,t,a,b,d⟩:=E B N q;⟨c,I,C,t,a,e _ _ b (.inr ⟨_,rfl⟩),d⟩⟩
structure bf (K:Ah)(H P:Hp)(α : Aa Af)(S:aq):Prop where
 tb:Q6 K H P α
 sub:qI P H
 len:α.length=S.length
 nd:α.Nodup
 sep:∀ (i:Ai) (a:Af) (o:MO),α[i]? = Ab a->S[i]? = Ab o->o≠.dead->P a=none
 at':∀ (i:Ai) (a:Af) (o:MO),α[i]? = Ab a->S[i]? = Ab o->tm K H P α a o
 own:∀ (i:Ai) (a:Af),α[i]? = Ab a->H a≠none
section
variable {K:Ah}{H P P':Hp}{α α':ag}{S:aq}
theorem zD.mono {σ : _L.St}(e:qI P P')(h:α<+:α')(r:zD K P α σ al):zD K P' α' σ al:=
 ⟨r.1,λi d q=>let ⟨v,Y,Q⟩:=r.2 i d q;⟨v,Y,av.mono e h d v Q⟩⟩
theorem nk.mono {κ : Type}(e:qI P P')(h:α<+:α'){kvs:Aa (κ × D)}{vs:Aa (κ × V)}(r:nk K P α kvs vs):nk K P' α' kvs vs:=by
 refine Paired.mapP r λp q z=>⟨z.1,av.mono e h _ _ z.2⟩
theorem yx.mono (e:qI P P')(h:α<+:α'){kvs:Aa (Aa Am × D)}{xs:Aa (Aa Am × Af × V)}(r:yx K P α kvs xs):yx K P' α' kvs xs:=
 Paired.mapP r λp q z=>⟨z.1,vA e z.2.1,av.mono e h _ _ z.2.2⟩
theorem tm.mono {a:Af}(e:qI P P')(h:α<+:α'):∀ {o:MO},tm K H P α a o->tm K H P' α' a o
 |.dead,_=>trivial
 |.lst _,⟨Q,q,r⟩=>⟨Q,q,qF.mono e h _ _ r⟩
 |.dct _,⟨Q,q,r⟩=>⟨Q,q,r.mono e h⟩
 |.dcT _,⟨Q,q,d,l,n,r⟩=>⟨Q,q,d,l,n,r.mono e h⟩
 |.ins _ _,⟨Y,Q,q,r⟩=>⟨Y,Q,q,r.mono e h⟩
theorem bf.grow (r:bf K H P α S)(e:qI H H'):bf K H' P α S where
 tb:=r.tb.keep (λb u q _=>e _ _ q) λ_ _ _ _ p n=>⟨p,n⟩
 sub:=r.sub.trans e
 len:=r.len
 nd:=r.nd
 sep:=r.sep
 at':=λi a o J U=>by
  have m:=r.at' i a o J U;cases o with
  |dead=>trivial
  |lst O=>obtain⟨Q,q,t⟩:=m;exact⟨Q,e _ _ q,t⟩
  |dct Y=>obtain⟨Q,q,t⟩:=m;exact⟨Q,e _ _ q,t⟩
  |dcT Y=>obtain⟨Q,q,t⟩:=m;exact⟨Q,e _ _ q,t⟩
  |ins C N=>obtain⟨G,Q,q,t⟩:=m;exact⟨G,Q,e _ _ q,t⟩
 own:=λi a q=>by
  have m:=r.own i a q;cases z:H a with
  |none=>exact absurd z m
  |some o=>rw[e _ _ z];intro w;cases w
theorem pL {H:Hp}{a:Af}(h:H a=none):qI H (bw H a o):=λb u e=>by rw[qJ (z0 e h)];exact e
theorem bf.pure {a:Af}(r:bf K H P α S)(h:H a=none):bf K (bw H a o) (bw P a o) α S/\qI P (bw P a o):=by
 have N:P a=none:=by
  cases z:P a with
  |none=>rfl
  |some u=>rw[r.sub _ _ z] at h;cases h
 have G:qI P (bw P a o):=pL N;have U:=r.grow (pL (o:=o) h);refine⟨⟨r.tb.keep (λb u q _=>(qJ (z0 q h)).trans q) λb u q _ p n=>⟨(qJ (z0 q h)).trans p,n⟩,λb u e=>?_,r.len,r.nd,λi b u Q J O=>?_,λi b u Q J=>(U.at' i b u Q J).mono G (Br _),U.own⟩,G⟩
 .by_cases Y:b=a
  .subst Y;rw[qT] at e ⊢;exact e
  .rw[qJ Y] at e ⊢;exact r.sub _ _ e
 .have Y:b≠a:=by rintro rfl;exact r.own i b Q h
  rw[qJ Y];exact r.sep i b u Q J O
theorem bf.new {a:Af}(r:bf K H P α S)(h:H a=none)(hm:tm K (bw H a o) P (α ++ [a]) a m):bf K (bw H a o) P (α ++ [a]) (S++[m]):=by
 have L:P a=none:=by
  cases z:P a with
  |none=>rfl
  |some u=>rw[r.sub _ _ z] at h;cases h
 have J:=r.grow (pL (o:=o) h);have O:α<+:α++[a]:=Lr _ _;have split:∀ (i:Ai) (b:Af),(α++[a])[i]? = Ab b->(i<α.length/\α[i]? = Ab b)\/(i=α.length/\b=a):=λi b q=>by
  by_cases Q:i<α.length
  .rw[Bo Q] at q;exact .inl ⟨Q,q⟩
  .rw[Dk om] at q
   cases G:i-α.length with
   |zero=>rw[G] at q;simp at q;exact .inr ⟨by fin2,q.symm⟩
   |succ k=>rw[G] at q;simp at q
 refine⟨r.tb.keep (λb u q _=>(qJ (z0 q h)).trans q) λb u q _ p n=>⟨p,λz=>(Bv.mp z).elim n λw=>z0 q h (by simpa using w)⟩,J.sub,by simp[r.len],?_,λi b u U Y C=>?_,λi b u U Y=>?_,λi b q=>?_⟩
 .rw[Kr]
  refine⟨r.nd,by simp,λb B c N e=>?_⟩
  simp at N;subst N;subst e;obtain⟨i,Q,e⟩:=Cp.mp B;exact r.own i b (by rw[An Q,e]) h
 .rcases split i b U with⟨Q,z⟩|⟨Q,rfl⟩
  .rw[Bo (by rw[<- r.len];exact Q)] at Y
   exact r.sep i b u z Y C
  .exact L
 .rcases split i b U with⟨Q,z⟩|⟨Q,rfl⟩
  .rw[Bo (by rw[<- r.len];exact Q)] at Y
   exact(J.at' i b u z Y).mono (qI.refl _) O
  .rw[Q,r.len,Dk (Av _)] at Y
   simp at Y;subst Y;exact hm
 .rcases split i b q with⟨_,z⟩|⟨_,rfl⟩
  .exact J.own i b z
  .rw[qT];intro z;cases z
theorem dX {N:ag}(Y:N.Nodup){i j:Ai}{x:Af}(a:N[i]? = Ab x)(b:N[j]? = Ab x):i=j:=by
 obtain⟨G,J⟩:=Bd.mp a;obtain⟨U,Q⟩:=Bd.mp b;exact(Pu Y).mp (J.trans Q.symm)
theorem bf.put {a:Af}{i:Ai}(r:bf K H P α S)(O:α[i]? = Ab a)(hs:S[i]? = Ab m)(hd:m≠.dead)(hm:tm K (bw H a o) P α a m'):bf K (bw H a o) P α (S.set i m'):=by
 have L:=r.sep i a m O hs hd;have A:i<S.length:=(Bd.mp hs).1;refine⟨r.tb.keep (λb u q B=>?_) λ_ _ _ _ p n=>⟨p,n⟩,λb u e=>?_,by simp[r.len],r.nd,λj b u J G M=>?_,λj b u J G=>?_,λj b q=>?_⟩
 .refine(qJ ?_).trans q
  rintro rfl;have z:=r.at' i _ m O hs;cases m with
  |dead=>exact hd rfl
  |lst I=>obtain⟨Q,z,_⟩:=z;rw[q] at z;rcases B with⟨_,rfl⟩|⟨_,rfl⟩ <;> cases z
  |dct U=>obtain⟨Q,z,_⟩:=z;rw[q] at z;rcases B with⟨_,rfl⟩|⟨_,rfl⟩ <;> cases z
  |dcT U=>obtain⟨Q,z,_⟩:=z;rw[q] at z;rcases B with⟨_,rfl⟩|⟨_,rfl⟩ <;> cases z
  |ins C E=>obtain⟨T,Q,z,_⟩:=z;rw[q] at z;rcases B with⟨_,rfl⟩|⟨_,rfl⟩ <;> cases z
 .have Y:b≠a:=by rintro rfl;rw[L] at e;cases e
  rw[qJ Y];exact r.sub _ _ e
 .by_cases N:j=i
  .subst N;rw[O] at J;cases J;exact L
  .rw[Bz (Dw N)] at G;exact r.sep j b u J G M
 .by_cases N:j=i
  .subst N;rw[O] at J;cases J
   rw[Dv A] at G;cases G;exact hm
  .rw[Bz (Dw N)] at G
   have Y:b≠a:=by rintro rfl;exact N (dX r.nd J O)
   have z:=r.at' j b u J G;cases u with
   |dead=>trivial
   |lst I=>obtain⟨Q,q,t⟩:=z;exact⟨Q,by rw[qJ Y];exact q,t⟩
   |dct U=>obtain⟨Q,q,t⟩:=z;exact⟨Q,by rw[qJ Y];exact q,t⟩
   |dcT U=>obtain⟨Q,q,t⟩:=z;exact⟨Q,by rw[qJ Y];exact q,t⟩
   |ins C E=>obtain⟨T,Q,q,t⟩:=z;exact⟨T,Q,by rw[qJ Y];exact q,t⟩
 .by_cases Y:b=a
  .subst Y;rw[qT];intro z;cases z
  .rw[qJ Y];exact r.own j b q
end
theorem nn {β : Type}{a:β}{p:Prop}(h:(none:Al β) = Ab a):p:=by cases h
theorem jD {β : Type}{c:Prop}[Jd c]{a b:β}(h:(if c then Ab a else none)=Ab b):c/\a=b:=by
 by_cases z:c
 .rw[Ay z] at h;exact⟨z,Dg h⟩
 .rw[AT z] at h;exact nn h
end _D
end
namespace _D
open _L
variable {gl:aa}{us cs:ai}{cp:Aa Et}{u vv:Ad}{p C:Af}{dd od:Al Af}{sl:Aw (Al Ad)}{np:Fc}{R:It->Hp->Prop}{M:Mf}{sp:Sp}{S S1:aq}{Q:VK}
abbrev DE:=qE->aq->a_ D
abbrev DT:=qE->aq->a_ Au
abbrev DA:=qE->aq->a_ (Aa D)
inductive ir where
 |nx (env:qE) (S:aq)|rt (d:D) (S:aq)|bk (env:qE) (S:aq)|ct (env:qE) (S:aq)|ex (c:Ad) (x:D) (env:qE) (S:aq)|bad
abbrev DS:=qE->aq->ir
def qf (X:Cx)(aj:aa)(H:Hp)(b:Af):Prop:=
 (∃ o,X.s₀.heap.get? b=Ab o)\/H b≠none\/(∃ p∈X.pn++aj,p.1=b)\/∃ x,X.env.cells.lookup x=Ab b
def Cv (X:Cx)(aj:aa)(H:Hp)(B h:Bk):Prop:=∀ b o,h.get? b=Ab o->qf X aj H b->b ∉ gx X.stack->B.get? b=Ab o
inductive R_ (B:Bk)(e:Af)(c:Ad)(dd:Al Af)(fl:Ad)(h:Bk):Prop
 |mk (oe:Co) (vs:Aw Ad) (T:Af) (oT:Co) (ts:Aw Ad) (he:h.get? e=Ab oe) (hc:oe.cls=c) (hdd:oe.dict=dd) (hd:oe.data=.fields vs) (h1:vs[1]? = Ab (.ref T)) (nT:B.get? T=none) (ne:T≠e) (hT:h.get? T=Ab oT) (hdT:oT.data=.fields ts) (h3:ts[3]? = Ab fl):R_ B e c dd fl h
def rn (B:Bk)(l:Aa Jk)(e:Af)(c:Ad)(dd:Al Af)(fl:Ad)(h:Bk):Prop:=B.StaysIn h/\B.get? e=none/\h.FunFrames B l/\R_ B e c dd fl h
inductive kn (X:Cx)(pins:aa)(H:Hp)(c:Ad)(dd:Al Af)(e:Af)(h:Bk):Prop where
 |new (ob:Co) (t:Af) (he:h.get? e=Ab ob) (hc:ob.cls=c) (hdd:ob.dict=dd) (hd:ob.data=.fields #[.ref t,.none,.none,.none,.bool false,.none]) (no:¬ qf X pins H e) (nf:e ∉ gx X.stack):kn X pins H c dd e h
 |fly (B:Bk):rn B X.stack e c dd .none h->Cv X pins H B h->kn X pins H c dd e h
def wk (K:Ah)(P:Hp)(α : Aa Af)(c:Ad)(x:D)(dd:Al Af):Prop:=match x with
 |.exl N U G=>N=c/\∃ Y J,dd=Ab Y/\P Y=Ab (o_ Y (U.zip J))/\U.length=J.length/\qF K P α G J
 |_=>Ov
inductive vn (X:Cx)(P:Hp)(α : Aa Af)(c:Ad)(x:D)(S:aq)(u:Ad)(s:Ag):Prop
 |mk (e:Af) (pins:aa) (σ : _L.St) (H:Hp) (P':Hp) (α' : Aa Af) (e1:u=.ref e) (I:Inv X pins σ H s) (r:bf X.K H P' α' S) (q1:qI P P') (q2:α<+:α') (q3:X.ex=[]/\X.stack=X.env::X.outer/\X.env.frame=Ab X.env.locals) (dd:Al Af) (q4:kn X pins H c dd e s.heap) (q5:wk X.K P' α' c x dd):vn X P α c x S u s
theorem vn.base {X:Cx}{P P1:Hp}{α Y:ag}(e:qI P P1)(h:α<+:Y)(k:vn X P1 Y c x S u s):vn X P α c x S u s:=by
 obtain⟨a,U,σ,H,L,J,O,I,r,G,T,E,dd,N,B⟩:=k;exact⟨a,U,σ,H,L,J,O,I,r,e.trans G,h.trans T,E,dd,N,B⟩
section
variable (X:Cx)
def qO {β:Type}(P:Hp)(α : Aa Af)(r:a_ β)(Ok:β->aq->Prop):Prop:=
 match r with
 |.ok d Y=>Ok d Y
 |.ex c x Y=>∀ u J,vn X P α c x Y u J->X.xe u J
 |.bad=>Fp
def jj (P:Hp)(α : Aa Af)(Q:VK)(d:D)(S':aq):Prop:=∀ v U J Y,bf X.K U J Y S'->qI P J->α<+:Y->av X.K J Y d v->Q v U
def yr (P:Hp)(α : Aa Af)(Q:Au->Hp->Prop)(b:Au)(S':aq):Prop:=∀ U J Y,bf X.K U J Y S'->qI P J->α<+:Y->Q b U
def T_ (P:Hp)(α : Aa Af)(Q:Aa V->Hp->Prop)(ds:Aa D)(S':aq):Prop:=∀ U G J Y,bf X.K G J Y S'->qI P J->α<+:Y->qF X.K J Y ds U->Q U G
abbrev qX (P:Hp)(α : Aa Af)(r:a_ D)(Q:VK):Prop:=qO X P α r (jj X P α Q)
abbrev yR (P:Hp)(α : Aa Af)(r:a_ Au)(Q:Au->Hp->Prop):Prop:=qO X P α r (yr X P α Q)
abbrev pY (P:Hp)(α : Aa Af)(r:a_ (Aa D))(Q:Aa V->Hp->Prop):Prop:=qO X P α r (T_ X P α Q)
def zF (P:Hp)(α : Aa Af)(r:ir)(D:Ends):Prop:=
 match r with
 |.nx O N=>∀ J G U Y,bf X.K G U Y N->zD X.K U Y J O->qI P U->α<+:Y->D.nx J G
 |.bk O N=>∀ J G U Y,bf X.K G U Y N->zD X.K U Y J O->qI P U->α<+:Y->D.bk J G
 |.ct O N=>∀ J G U Y,bf X.K G U Y N->zD X.K U Y J O->qI P U->α<+:Y->D.ct J G
 |.rt d N=>∀ v G U Y,bf X.K G U Y N->qI P U->α<+:Y->av X.K U Y d v->D.rt v G
 |.ex c x _ N=>∀ u B,vn X P α c x N u B->X.xe u B
 |.bad=>Fp
inductive tD (f:DE)(σ : _L.St)(H:Hp)(Q:VK):Prop
 |mk (P:Hp) (α : Aa Af) (env:qE) (S:aq) (r:bf X.K H P α S) (re:zD X.K P α σ env) (af:qX X P α (f env S) Q):tD f σ H Q
inductive ml (f:DT)(σ : _L.St)(H:Hp)(Q:Au->Hp->Prop):Prop
 |mk (P:Hp) (α : Aa Af) (env:qE) (S:aq) (r:bf X.K H P α S) (re:zD X.K P α σ env) (af:yR X P α (f env S) Q):ml f σ H Q
inductive ko (f:DA)(σ : _L.St)(H:Hp)(Q:Aa V->Hp->Prop):Prop
 |mk (P:Hp) (α : Aa Af) (env:qE) (S:aq) (r:bf X.K H P α S) (re:zD X.K P α σ env) (af:pY X P α (f env S) Q):ko f σ H Q
inductive iq (f:DS)(D:Ends)(σ : _L.St)(H:Hp):Prop
 |mk (P:Hp) (α : Aa Af) (env:qE) (S:aq) (r:bf X.K H P α S) (re:zD X.K P α σ env) (af:zF X P α (f env S) D):iq f D σ H
end
section
variable {X:Cx}{P P1:Hp}{α α1:ag}
theorem qX.base (e:qI P P1)(h:α<+:α1)(k:qX X P α r Q):qX X P1 α1 r Q:=by
 cases r with
 |ok d S=>exact λv O N Y r U B G=>k v O N Y r (e.trans U) (h.trans B) G
 |ex c x S=>exact λu J q=>k u J (q.base e h)
 |bad=>exact k
theorem yR.base {Q:Au->Hp->Prop}(e:qI P P1)(h:α<+:α1)(k:yR X P α r Q):yR X P1 α1 r Q:=by
 cases r with
 |ok d S=>exact λO G Y r U N=>k O G Y r (e.trans U) (h.trans N)
 |ex c x S=>exact λu J q=>k u J (q.base e h)
 |bad=>exact k
theorem pY.base {Q:Aa V->Hp->Prop}(e:qI P P1)(h:α<+:α1)(k:pY X P α r Q):pY X P1 α1 r Q:=by
 cases r with
 |ok d S=>exact λv B G Y r U N O=>k v B G Y r (e.trans U) (h.trans N) O
 |ex c x S=>exact λu J q=>k u J (q.base e h)
 |bad=>exact k
theorem zF.base {D:Ends}(e:qI P P1)(h:α<+:α1)(k:zF X P α r D):zF X P1 α1 r D:=by
 cases r with
 |nx B S=>exact λv N U Y r O J G=>k v N U Y r O (e.trans J) (h.trans G)
 |bk B S=>exact λv N U Y r O J G=>k v N U Y r O (e.trans J) (h.trans G)
 |ct B S=>exact λv N U Y r O J G=>k v N U Y r O (e.trans J) (h.trans G)
 |rt d S=>exact λv N U Y r J G T=>k v N U Y r (e.trans J) (h.trans G) T
 |ex c x B S=>exact λu L q=>k u L (q.base e h)
 |bad=>exact k
theorem xr (k:jj X P α Q d S)(r:bf X.K H P α S)(q:av X.K P α d v):Q v H:=k v H P α r (qI.refl _) (Br _) q
end
section
variable {X:Cx}{a b e:Cb}{au:Fc}
theorem oo {t t':TE}(h:PE X e t)(w:∀ σ H Q,t' σ H Q->t σ H Q):PE X e t':=λY s σ H Q I q=>h Y s σ H Q I (w σ H Q q)
theorem F_ {st:Et}{t t':TS}(h:PS X st t)(w:∀ D σ H,t' D σ H->t D σ H):PS X st t':=λY s σ H D I q=>h Y s σ H D I (w D σ H q)
theorem HU {st:Aa Et}{t t':TS}(h:ip X st t)(w:∀ D σ H,t' D σ H->t D σ H):ip X st t':=λY s σ H D I q=>h Y s σ H D I (w D σ H q)
theorem paW {t t':TA}(h:PA X es t)(w:∀ σ H Q,t' σ H Q->t σ H Q):PA X es t':=λau Y s σ H Q I q=>h au Y s σ H Q I (w σ H Q q)
structure Got (X:Cx)(pins:aa)(σ : _L.St)(env:qE)(P:Hp)(α : Aa Af)(u:Ad)(s1:Ag)(v:V)(H1 P1:Hp)(α1:ag)(d:D)(S1:aq):Prop where
 inv:Inv X pins σ H1 s1
 val:qL v u
 rel:bf X.K H1 P1 α1 S1
 env:zD X.K P1 α1 σ env
 rep:av X.K P1 α1 d v
 same:qI P P1
 pre:α<+:α1
inductive xt (X:Cx)(pins:aa)(σ : _L.St)(env:qE)(P:Hp)(α : Aa Af)(u:Ad)(s1:Ag){γ : Type}(g:D->aq->a_ γ)(Ok:γ->aq->Prop):Prop
 |mk (v:V) (H1 P1:Hp) (α1:ag) (d:D) (S1:aq) (G:Got X pins σ env P α u s1 v H1 P1 α1 d S1) (q:qO X P α (g d S1) Ok):xt X pins σ env P α u s1 g Ok
inductive uw (X:Cx)(pins:aa)(σ : _L.St)(env:qE)(P:Hp)(α : Aa Af)(us:ai)(s1:Ag){γ : Type}(g:Aa D->aq->a_ γ)(Ok:γ->aq->Prop):Prop
 |mk (vs:Aa V) (H1 P1:Hp) (α1:ag) (ds:Aa D) (S1:aq) (I:Inv X pins σ H1 s1) (rv:qQ vs us) (r:bf X.K H1 P1 α1 S1) (re:zD X.K P1 α1 σ env) (rp:qF X.K P1 α1 ds vs) (e1:qI P P1) (e2:α<+:α1) (q:qO X P α (g ds S1) Ok):uw X pins σ env P α us s1 g Ok
inductive xo (X:Cx)(pins:aa)(σ : _L.St)(env:qE)(P:Hp)(α : Aa Af)(b:Au)(s1:Ag){γ : Type}(g:Au->aq->a_ γ)(Ok:γ->aq->Prop):Prop
 |mk (H1 P1:Hp) (α1:ag) (S1:aq) (I:Inv X pins σ H1 s1) (r:bf X.K H1 P1 α1 S1) (re:zD X.K P1 α1 σ env) (e1:qI P P1) (e2:α<+:α1) (q:qO X P α (g b S1) Ok):xo X pins σ env P α b s1 g Ok
theorem zR {γ:Type}{g:D->aq->a_ γ}{Ok:γ->aq->Prop}{σ:_L.St}{H P:Hp}{α:ag}{al:qE}(A:PE X e (tD X f))(I:Inv X aj σ H s)(r:bf X.K H P α S)
  (L:zD X.K P α σ al) (J:qO X P α ((f al S).bind g) Ok) :
  db X (eval e X.env) (λu O=>xt X aj σ al P α u O g Ok) X.xe s:=by
 refine bv (A aj s σ H (λv G=>∃ U Y d S1,bf X.K G U Y S1/\zD X.K U Y σ al/\av X.K U Y d v/\qI P U/\α<+:Y/\qO X P α (g d S1) Ok) I ⟨P,α,al,S,r,L,?_⟩) λu O ⟨v,G,y,k,U,Y,d,S1,w,t,i,z,o,m⟩=>⟨v,G,U,Y,d,S1,⟨y,k,w,t,i,z,o⟩,m⟩;cases q:f al S with
 |bad=>rw[q] at J;exact J
 |ex c x B=>rw[q] at J;exact J
 |ok d B =>
  rw[q] at J;exact λv h l N n T E j=>⟨l,N,d,B,n,L.mono T E,j,T,E,J⟩
theorem y9 {γ:Type}{g:Aa D->aq->a_ γ}{Ok:γ->aq->Prop}{σ:_L.St}{H P:Hp}{α:ag}{al:qE}(w:PA X es (ko X f))(I:Inv X aj σ H s)(r:bf X.K H P α S)
  (T:zD X.K P α σ al) (J:qO X P α ((f al S).bind g) Ok) (au:Fc) :
  db X (spliced (Gm au (Bn es X.env))) (λus O=>uw X aj σ al P α us O g Ok) X.xe s:=by
 refine bv (w au aj s σ H (λo G=>∃ U Y B S1,bf X.K G U Y S1/\zD X.K U Y σ al/\qF X.K U Y B o/\qI P U/\α<+:Y/\qO X P α (g B S1) Ok) I ⟨P,α,al,S,r,T,?_⟩) λu O ⟨v,G,k,l,U,Y,d,S1,z,n,q3,j,t,i⟩=>⟨v,G,U,Y,d,S1,k,l,z,n,q3,j,t,i⟩;cases q:f al S with
 |bad=>rw[q] at J;exact J
 |ex c x L=>rw[q] at J;exact J
 |ok d L =>
  rw[q] at J;exact λv H' m N h E A y=>⟨m,N,d,L,h,T.mono E A,y,E,A,J⟩
theorem b9 {γ:Type}{f:DT}{g:Au->aq->a_ γ}{Ok:γ->aq->Prop}{aj:aa}{s:Ag}{σ:_L.St}{H P:Hp}{α:ag}{al:qE}{m:Lb Au}
  (z:∀ (Q:Au->Hp->Prop),ml X f σ H Q->db X m (TP X aj σ Q) X.xe s) (r:bf X.K H P α S) (B:zD X.K P α σ al) (J:qO X P α ((f al S).bind g) Ok) :
  db X m (λb T=>xo X aj σ al P α b T g Ok) X.xe s:=by
 refine bv (z (λb G=>∃ U Y S1,bf X.K G U Y S1/\zD X.K U Y σ al/\qI P U/\α<+:Y/\qO X P α (g b S1) Ok) ⟨P,α,al,S,r,B,?_⟩) λb T ⟨G,y,U,Y,S1,I,A,j,k,w⟩=>⟨G,U,Y,S1,y,I,A,j,k,w⟩;cases q:f al S with
 |bad=>rw[q] at J;exact J
 |ex c x O=>rw[q] at J;exact J
 |ok d O =>
  rw[q] at J;exact λv o N l L E=>⟨o,N,O,l,B.mono L E,L,E,J⟩
def dC (d:D):DE:=λ_ S=>.ok d S
def qB (i:Ai):DE:=λY S=>match Y[i]? with
 |some (Ab d)=>.ok d S
 |_=>.bad
theorem SI:PE X (.Constant (.int i) j au) (tD X (dC (.int i))):=oo HI λσ H Q ⟨P,α,J,S,r,U,Y⟩=>xr Y r (by simp only[av])
theorem II:PE X (.Constant (.bool i) j au) (tD X (dC (.bl i))):=oo qAB λσ H Q ⟨P,α,J,S,r,U,Y⟩=>xr Y r (by simp only[av])
theorem SO:PE X (.Constant (.str i) j au) (tD X (dC (.str i))):=oo HL λσ H Q ⟨P,α,J,S,r,U,Y⟩=>xr Y r (by simp only[av])
theorem SL:PE X (.Constant .none j au) (tD X (dC .non)):=oo HJ λσ H Q ⟨P,α,J,S,r,U,Y⟩=>xr Y r (by simp only[av])
set_option tactic.hygienic true in
theorem LH {σ:_L.St}(h:tD X (qB i) σ H Q):AB i σ H Q:=by
 obtain⟨P,α,N,S,r,G,Y⟩:=h;unfold qB at Y
 split at Y
 .rename_i d q
  obtain⟨v,U,J⟩:=G.2 i d q;exact⟨v,U,xr Y r J⟩
 .exact Aq Y
theorem dv (i:Ai){x:Ar}(J:X.N[i]? = Ab x:=by rfl)(hv:ow X.env.scope x:=by first|exact AbC rfl|exact AaG (AbC rfl)|exact AaG (AaG rfl))(hd:(x == ("__debug__" : Ar))=false:=by decide)
  (Y:(x == ("__classdict__" : Ar))=false:=by decide):PE X (.Name x au) (tD X (qB i)):=oo (c5 J hv hd Y) λσ H Q h=>LH h
theorem aZ (Y:Gl X x)(hm:X.mg x=Ab u)(r:qL v u)(q:∀ P α,av X.K P α d v)(hd:(x == ("__debug__" : Ar))=false:=by decide):PE X (.Name x au) (tD X (dC d)):=
 oo (N6 Y hm r hd) λσ H Q ⟨P,α,G,S,r,U,J⟩=>xr J r (q _ _)
theorem FM (J:Gl X x)(hm:X.mg x=none)(hv:Gr x=Ab (.type n))(Y:x ≠ "__name__":=by decide)(hd:(x == ("__debug__" : Ar))=false:=by decide):PE X (.Name x au) (tD X (dC (.ty n))):=
 oo (N5 (v:=.ty n) J hm hv rfl Y hd) λσ H Q ⟨P,α,N,S,r,G,U⟩=>xr U r (by simp only[av])
abbrev G2:=D->D->aq->a_ D
def gq (X:Cx)(f:Ad->Ad->Lb Ad)(g:G2):Prop:=
 ∀ (J:aa) (σ : _L.St) (H:Hp) (s:Ag) (P:Hp) (α : Aa Af) (S:aq) (v u:V) (vv Y:Ad) (a b:D) (Q:VK),Inv X J σ H s->bf X.K H P α S->qL v vv->qL u Y->av X.K P α a v->av X.K P α b u->qX X P α (g a b S) Q ->
  db X (f vv Y) (EP X J σ Q) X.xe s
theorem gq.of {f:Ad->Ad->Lb Ad}{g:G2}(h:lq X f r)(w:∀ H P α S v u a b Q,bf X.K H P α S->av X.K P α a v->av X.K P α b u->qX X P α (g a b S) Q->r v u H Q):gq X f g:=
 λO σ H s P α S v u vv U a b Q I J Y G N L B=>h O s σ H v u vv U Q I Y G (w H P α S v u a b Q J N L B)
def zi (X:Cx)(f:Ad->Lb Ad)(g:D->aq->a_ D):Prop:=
 ∀ (Y:aa) (σ : _L.St) (H:Hp) (s:Ag) (P:Hp) (α : Aa Af) (S:aq) (v:V) (vv:Ad) (a:D) (Q:VK),Inv X Y σ H s->bf X.K H P α S->qL v vv->av X.K P α a v->qX X P α (g a S) Q ->
  db X (f vv) (EP X Y σ Q) X.xe s
def zk (X:Cx)(g:G2):Prop:=
 ∀ (J Y:Cb) (G:aa) (σ : _L.St) (H:Hp) (s:Ag) (P:Hp) (α : Aa Af) (S:aq) (v u:V) (vv U:Ad) (a b:D) (Q:VK),Inv X G σ H s->bf X.K H P α S->qL v vv->qL u U->av X.K P α a v->av X.K P α b u->qX X P α (g a b S) Q ->
  subscripted Y false vv U=operate [vv,U] (Mw vv U)->db X (Sz J Y vv U) (EP X G σ Q) X.xe s
def xY (X:Cx)(f:Ad)(g:Aa D->aq->a_ D):Prop:=
 ∀ (Y:aa) (σ : _L.St) (H:Hp) (s:Ag) (P:Hp) (α : Aa Af) (S:aq) (U:Aa V) (us:ai) (J:Aa D) (Q:VK),Inv X Y σ H s->bf X.K H P α S->qQ U us->qF X.K P α J U->qX X P α (g J S) Q ->
  db X (call f us) (EP X Y σ Q) X.xe s
def d2 (g:G2)(J fb:DE):DE:=λY S=>(J Y S).bind λx S1=>(fb Y S1).bind λy U=>g x y U
def d1 (g:D->aq->a_ D)(J:DE):DE:=λY S=>(J Y S).bind g
variable {fa fb:DE}
theorem eA {f:Ad->Ad->Lb Ad}{σ:_L.St}(l:gq X f g)(k:PE X a (tD X fa))(j:PE X b (tD X fb))(I:Inv X aj σ H s)(h:tD X (d2 g fa fb) σ H Q) :
  db X (eval a X.env) (λv G=>db X (eval b X.env) (λu U=>db X (f v u) (EP X aj σ Q) X.xe U) X.xe G) X.xe s:=by
 obtain⟨P,α,m,S,r,w,z⟩:=h;refine bv (zR k I r w z) λvv t ⟨v,n,T,J,d,S1,Y,B⟩=>?_;refine bv (zR j Y.inv Y.rel Y.env (P:=T) (α:=J) (Ok:=jj X T J Q) (g:=λy O=>g d y O) ?_) λE c ⟨u,q,o,L,A,O,G2,N⟩=>?_
 .exact qX.base Y.same Y.pre B
 .exact l aj σ q c o L O v u vv E d A Q G2.inv G2.rel Y.val G2.val (av.mono G2.same G2.pre _ _ Y.rep) G2.rep (qX.base G2.same G2.pre N)
theorem IM (Y:gq X (Fj op) g)(U:PE X a (tD X fa))(J:PE X b (tD X fb)):PE X (.BinOp a op b au) (tD X (d2 g fa fb)):=
 λG s σ H Q I h=>wpAny_BinOp (eA Y U J I h)
theorem SE (Y:gq X (Cy op) g)(U:PE X a (tD X fa))(J:PE X b (tD X fb))(hm:Nk op b=false:=by first|exact gD _|with_unfolding_all rfl):PE X (.Compare a [op] [b] au) (tD X (d2 g fa fb)):=
 λG s σ H Q I h=>wpAny_Compare1 (eA Y U J I h) hm
theorem IP {g:D->aq->a_ D}(E:zi X (Aa9 op) g)(T:PE X a (tD X fa)):PE X (.UnaryOp op a au) (tD X (d1 g fa)):=by
 intro N s σ H Q I h;obtain⟨P,α,w,S,r,O,B⟩:=h;exact UnaryOp_ (bv (zR T I r O B) λvv G ⟨v,L,A,U,d,S1,Y,J⟩=>E N σ L G A U S1 v vv d Q Y.inv Y.rel Y.val Y.rep (qX.base Y.same Y.pre J))
theorem IL (ho:zk X g)(ha:PE X a (tD X fa))(hb:PE X b (tD X fb))(hs:nF b:=by intro _ _;rfl):PE X (.Subscript a b au) (tD X (d2 g fa fb)):=by
 intro w s σ H Q I h;obtain⟨P,α,U,S,r,B,J⟩:=h;have O:ut X (λx y H Q=>∃ P α S a b,bf X.K H P α S/\av X.K P α a x/\av X.K P α b y/\qX X P α (g a b S) Q):=λG N w s σ H x y v u Q I rx m ⟨P,α,S,a,b,r,n,p2,J⟩ T =>
  ho G N w σ H s P α S x y v u a b Q I r rx m n p2 J T
 refine oo (qAC O ha hb hs) (t':=tD X (d2 g fa fb)) (λσ H Q h=>?_) w s σ H Q I ⟨P,α,U,S,r,B,J⟩;obtain⟨P,α,U,S,r,B,J⟩:=h;refine⟨P,α,U,S,r,B,?_⟩;unfold d2 at J;cases q:fa U S with
 |bad=>rw[q] at J;exact J
 |ex c x i=>rw[q] at J;exact J
 |ok d S1 =>
  rw[q] at J;intro v H1 P1 L r1 E k rp;refine⟨P1,L,U,S1,r1,B.mono E k,?_⟩;have Y:qX X P α ((fb U S1).bind λy j=>g d y j) Q:=J;cases A:fb U S1 with
  |bad=>rw[A] at Y;exact Y
  |ex c x i=>rw[A] at Y;exact λu s' z=>Y u s' (z.base E k)
  |ok d' j =>
   rw[A] at Y;intro u H2 P2 o r2 t f l;exact⟨P2,o,j,d,d',r2,av.mono t f _ _ rp,l,qX.base (E.trans t) (k.trans f) Y⟩
def qC:DA:=λ_ S=>.ok [] S
def qA (f:DE)(g:DA):DA:=λY S=>(f Y S).bind λx S1=>(g Y S1).bind λJ U=>.ok (x::J) U
theorem DZ:PA X [] (ko X qC):=paW HH λσ H Q ⟨P,α,J,S,r,U,Y⟩=>Y [] H P α r (qI.refl _) (Br _) .nil
theorem FL (y:PE X e (tD X fa))(T:PA X es (ko X g))(hs:Bn (e::es) X.env=(false,eval e X.env)::Bn es X.env:=by rfl):PA X (e::es) (ko X (qA fa g)):=by
 intro au t s σ H Q I h;obtain⟨P,α,v,S,r,E,A⟩:=h;rw[hs];show Ao _ _ (spliced ((false,eval e X.env)::Gm au (Bn es X.env))) _ _ s;refine Sd (bv (zR y I r E A) λu f ⟨x,n,L,J,d,S1,Y,U⟩=>?_);refine bv (y9 T Y.inv Y.rel Y.env (P:=L) (α:=J) (Ok:=T_ X L J Q) (pY.base Y.same Y.pre U) au) λus s2 ⟨j,o,i,q,c,m,l,w,z,k,N,O,B,G⟩=>?_;exact⟨x::j,o,l,.cons Y.val w,G _ _ _ _ z O B (.cons (av.mono O B _ _ Y.rep) N)⟩
noncomputable def bi:Ai:=16777216
theorem xC:bi=sizeLine:=Es.symm
def zM (f:DA):DE:=λJ S=>(f J S).bind λY S1=>if Y.length<=bi then .ok (.tup Y) S1 else .bad
def xN (f:DA):DE:=λJ S=>(f J S).bind λY S1=>if Y.length<=bi then .ok (.lst Y) S1 else .bad
def gO (f:DA):DE:=λJ S=>(f J S).bind λY S1=>if Y.length<=bi then .ok (.loc S1.length) (S1++[.lst Y]) else .bad
theorem lM {K:Ah}{P:Hp}{α:ag}{a:Af}(h:jf K P a vs)(r:qF K P α ds vs):av K P α (.tup ds) (.ref a):=by simp only[av];exact⟨a,vs,rfl,h,r⟩
theorem lL {K:Ah}{P:Hp}{α:ag}{a:Af}(h:qe K P a vs)(r:qF K P α ds vs):av K P α (.lst ds) (.ref a):=by simp only[av];exact⟨a,vs,rfl,h,r⟩
theorem pF {H P:Hp}{α:ag}(r:bf X.K H P α S)(hp:H p=none)(J:qF X.K P α ds vs)(G:jj X P α Q (.tup ds) S):Q (.ref p) (bw H p (.tup vs)):=by
 obtain⟨U,Y⟩:=r.pure (o:=.tup vs) hp;exact G _ _ _ α U Y (Br _) (lM (.of qT) (qF.mono Y (Br _) _ _ J))
theorem wO {H P:Hp}{α:ag}(r:bf X.K H P α S)(hp:H p=none)(J:qF X.K P α ds vs)(G:jj X P α Q (.lst ds) S):Q (.ref p) (bw H p (.lst vs)):=by
 obtain⟨U,Y⟩:=r.pure (o:=.lst vs) hp;exact G _ _ _ α U Y (Br _) (lL (.inl (.inl qT)) (qF.mono Y (Br _) _ _ J))
theorem lF {H P:Hp}{α:ag}(r:bf X.K H P α S)(hp:H p=none)(J:qF X.K P α ds vs)(G:jj X P α Q (.loc S.length) (S++[.lst ds])):Q (.ref p) (bw H p (.lst vs)):=by
 have Y:α<+:α++[p]:=Lr _ _;have U:=r.new (o:=.lst vs) (m:=.lst ds) hp ⟨vs,qT,qF.mono (qI.refl _) Y _ _ J⟩;refine G _ _ _ _ U (qI.refl _) Y ?_;simp only[av];exact⟨p,rfl,by rw[<- r.len];simp⟩
theorem nR {f:DA}{σ:_L.St}{H:Hp}{G:Aa D->aq->a_ D}{mk:Aa V->HO}(h:tD X (λal S=>(f al S).bind λxs S1=>if xs.length<=bi then G xs S1 else .bad) σ H Q)
  (k:∀ N P1 J S1 ds vs p,bf X.K N P1 J S1->N p=none->qF X.K P1 J ds vs->qX X P1 J (G ds S1) Q->Q (.ref p) (bw N p (mk vs))) :
  ko X f σ H λvs N=>vs.length<=sizeLine/\∀ p,N p=none->Q (.ref p) (bw N p (mk vs)):=by
 obtain⟨P,α,al,S,r,A,w⟩:=h;refine⟨P,α,al,S,r,A,?_⟩;have Y:qX X P α ((f al S).bind λxs S1=>if xs.length<=bi then G xs S1 else .bad) Q:=w
 cases q:f al S with
 |bad=>rw[q] at Y;exact Y
 |ex c x z=>rw[q] at Y;exact Y
 |ok ds S1 =>
  rw[q] at Y;intro vs N P1 J T I L B;have U:qX X P α (if ds.length<=bi then G ds S1 else .bad) Q:=Y
  by_cases O:ds.length<=bi
  .rw[Ay O] at U
   exact⟨by rw[<- B.length,<- xC];exact O,λp E=>k N P1 J S1 ds vs p T E B (qX.base I L U)⟩
  .rw[AT O] at U;exact Aq U
theorem SQ {x1}(h:PA X es (ko X f)):PE X (.Tuple es x1 au) (tD X (zM f)):=
 oo (HM h) λσ H Q q=>nR (G:=λN S1=>.ok (.tup N) S1) (mk:=.tup) q λL E O S1 B T p r Y J U=>pF r Y J U
theorem SK (h:PA X es (ko X f)):PE X (.List es au) (tD X (xN f)):=
 oo (V2 h) λσ H Q q=>nR (G:=λN S1=>.ok (.lst N) S1) (mk:=.lst) q λL E O S1 B T p r Y J U=>wO r Y J U
theorem FP (h:PA X es (ko X f)):PE X (.List es au) (tD X (gO f)):=
 oo (V2 h) λσ H Q q=>nR (G:=λN S1=>.ok (.loc S1.length) (S1++[MO.lst N])) (mk:=.lst) q λL E O S1 B T p r Y J U=>lF r Y J U
end
section
variable {X:Cx}{a b c e:Cb}{au:Fc}{fa fb fc:DE}{ta tb:DT}
def xW:D->aq->Al Au
 |.non,_=>Ab false
 |.bl b,_=>Ab b
 |.int i,_=>Ab (i != 0)
 |.str x,_=>if x.length<=bi then Ab ((x.length:Am) != 0) else none
 |.tup Y,_=>Ab (!Y.isEmpty)
 |.lst Y,_=>Ab (!Y.isEmpty)
 |.dct0,_=>Ab false
 |.loc i,S=>match S[i]? with
  |some (.lst Y)=>Ab (!Y.isEmpty)
  |some (.dct J)=>Ab (!J.isEmpty)
  |_=>none
 |_,_=>none
theorem qF.isEmpty {K:Ah}{P:Hp}{α:ag}(r:qF K P α ds vs):(!ds.isEmpty)=!vs.isEmpty:=by
 cases ds with
 |nil=>rw[r.nil_inv];rfl
 |cons d ds=>obtain⟨w,Y,rfl,_,_⟩:=r.cons_inv;rfl
theorem xX {K:Ah}{H P:Hp}(e:qI P H){a:Af}{xs:Aa V}(h:jf K P a xs):jf K H a xs:=vA e h
theorem uY {H P:Hp}{α:ag}{k:Au}(r:bf X.K H P α S)(p:av X.K P α d v)(h:xW d S=Ab k):Q7 X.K v H k:=by
 cases d with
 |non=>simp only[av] at p;subst p;cases h;rfl
 |bl b=>simp only[av] at p;subst p;cases h;rfl
 |int i=>simp only[av] at p;subst p;cases h;rfl
 |str x =>
  simp only[av] at p;subst p;obtain⟨O,rfl⟩:=jD h;exact⟨by rw[<- xC];exact O,rfl⟩
 |tup U =>
  simp only[av] at p;obtain⟨a,Y,rfl,q,t⟩:=p;cases h;exact .inr (.inl ⟨Y,xX r.sub q,t.isEmpty⟩)
 |lst U =>
  simp only[av] at p;obtain⟨a,Y,rfl,q,t⟩:=p;cases h;exact .inl ⟨Y,(xT r.sub q).l,t.isEmpty⟩
 |dct0 =>
  simp only[av] at p;obtain⟨a,rfl,q⟩:=p;cases h;exact .inr (.inr ⟨[],r.sub _ _ q,rfl⟩)
 |loc i =>
  simp only[av] at p;obtain⟨a,rfl,q⟩:=p;have h:(match S[i]? with|some (.lst U)=>Ab (!U.isEmpty)|some (.dct J)=>Ab (!J.isEmpty)|_=>none)=Ab k:=h
  cases G:S[i]? with
  |none=>rw[G] at h;exact nn h
  |some m =>
   rw[G] at h;cases m with
   |lst U =>
    cases h;obtain⟨Y,z,t⟩:=r.at' i a _ q G;exact .inl ⟨Y,.of z,t.isEmpty⟩
   |dct J =>
    cases h;obtain⟨Y,z,t⟩:=r.at' i a _ q G;refine .inr (.inr ⟨Y,z,?_⟩);cases t <;> rfl
   |_=>exact nn h
 |ty n=>exact nn h
 |obj a=>exact nn h
 |exn c=>exact nn h
 |fd L N=>exact nn h
 |clo a Y N=>exact nn h
 |exl c B N=>exact nn h
theorem BZ {σ:_L.St}{H P:Hp}{α:ag}{k:Au}{Q:Au->Hp->Prop}(I:Inv X aj σ H s)(r:bf X.K H P α S)(Y:qL v vv)(p:av X.K P α d v)(h:xW d S=Ab k)(q:Q k H) :
  db X (truthy vv) (TP X aj σ Q) X.xe s:=bL aj s σ H v vv Q I Y ⟨k,uY r p h,q⟩
def kN (o:Al Au)(S:aq):a_ Au:=match o with
 |some b=>.ok b S
 |none=>.bad
def ef (f:DE):DT:=λY S=>(f Y S).bind λd S1=>kN (xW d S1) S1
theorem lO {P:Hp}{α:ag}{Ok:Au->aq->Prop}(h:qO X P α (kN o S) Ok):∃ b,o=Ab b/\Ok b S:=by
 cases o with
 |none=>exact Aq h
 |some b=>exact⟨b,rfl,h⟩
theorem R9 (T:PE X a (tD X fa))(N:∀ Y,isTrue a X.env Y=(do let v <- Y;Tc a.pos;holding [v] (truthy v)):=by intro _;rfl):PT X a (ml X (ef fa)):=by
 intro z s σ H Q I h;obtain⟨P,α,j,S,r,O,B⟩:=h;refine isTrue_plain (bv (zR T I r O B) λvv w ⟨v,L,A,G,d,S1,J,U⟩=>?_) (N _);obtain⟨k,E,q⟩:=lO U;exact BZ J.inv J.rel J.val J.rep E (q L A G J.rel J.same J.pre)
theorem R7 (ho:gq X (Cy op) g)(m:PE X a (tD X fa))(f:PE X b (tD X fb))(hm:Nk op b=false:=by first|exact gD _|with_unfolding_all rfl):PT X (.Compare a [op] [b] au) (ml X (ef (d2 g fa fb))):=by
 intro o s σ H Q I h;obtain⟨P,α,U,S,r,L,T⟩:=h;refine wpAny_isTrue_Compare1 ?_ hm;have N:tD X (d2 g fa fb) σ H (λv J=>∃ k,Q7 X.K v J k/\Q k J):=by
  refine⟨P,α,U,S,r,L,?_⟩;have Y:qO X P α ((d2 g fa fb U S).bind λd S1=>kN (xW d S1) S1) (yr X P α Q):=T;cases q:d2 g fa fb U S with
  |bad=>rw[q] at Y;exact Y
  |ex c x S'=>rw[q] at Y;exact Y
  |ok d S1 =>
   rw[q] at Y;obtain⟨k,E,O⟩:=lO (X:=X) Y;exact λv J P1 G B e3 n l=>⟨k,uY B l E,O J P1 G B e3 n⟩
 exact bv (eA ho m f I N) λv s1 t=>bv t λu s2 j=>bv j λx z ⟨y,A,I3,w,k,i,O⟩=>bL o z σ A y x Q I3 w ⟨k,i,O⟩
def wG (g g':G2)(fa fb fc:DE):DE:=λJ S=>(fa J S).bind λx S1=>(fb J S1).bind λy G=>(g x y G).bind λz Y =>
 match xW z Y with
 |some true=>(fc J Y).bind λw U=>g' y w U
 |some false=>.ok z Y
 |none=>.bad
inductive xq (X:Cx)(pins:aa)(σ : _L.St)(P:Hp)(α : Aa Af)(w:Ad)(s1:Ag){γ : Type}(k:D->aq->a_ γ)(Ok:γ->aq->Prop):Prop
 |mk (y:V) (H1 P1:Hp) (α1:ag) (d:D) (S1:aq) (I:Inv X pins σ H1 s1) (rv:qL y w) (r:bf X.K H1 P1 α1 S1) (rp:av X.K P1 α1 d y) (e1:qI P P1) (e2:α<+:α1) (q:qO X P α (k d S1) Ok):xq X pins σ P α w s1 k Ok
theorem hX {γ:Type}{f:Ad->Ad->Lb Ad}{k:D->aq->a_ γ}{Ok:γ->aq->Prop}{σ:_L.St}{P:Hp}{α:ag}{v u:V}{G:Ad}{a b:D}(ho:gq X f g)(I:Inv X aj σ H s)(r:bf X.K H P α S)
  (o:qL v vv) (j:qL u G) (T:av X.K P α a v) (pb:av X.K P α b u) (J:qO X P α ((g a b S).bind k) Ok) :
  db X (f vv G) (λw L=>xq X aj σ P α w L k Ok) X.xe s:=by
 refine bv (ho aj σ H s P α S v u vv G a b (λy N=>∃ U Y d S1,bf X.K N U Y S1/\av X.K U Y d y/\qI P U/\α<+:Y/\qO X P α (k d S1) Ok) I r o j T pb ?_) λw L ⟨y,N,n,l,U,Y,d,S1,E,z,q3,t,i⟩=>⟨y,N,U,Y,d,S1,n,l,E,z,q3,t,i⟩;cases q:g a b S with
 |bad=>rw[q] at J;exact J
 |ex c x B=>rw[q] at J;exact J
 |ok d B =>
  rw[q] at J;exact λv H' P' O r' A h m=>⟨P',O,d,B,r',m,A,h,J⟩
theorem qO.base' {β:Type}{P P1:Hp}{α J:ag}{r:a_ β}{Ok Y:β->aq->Prop}(e:qI P P1)(h:α<+:J)(G:∀ d S,Ok d S->Y d S)(k:qO X P α r Ok):qO X P1 J r Y:=by
 cases r with
 |ok d S=>exact G d S k
 |ex c x S=>exact λu U q=>k u U (q.base e h)
 |bad=>exact k
theorem UV (ho:gq X (Cy op) g)(f:gq X (Cy N) g')(ha:PE X a (tD X fa))(hb:PE X b (tD X fb))(hc:PE X c (tD X fc))
  (hm:v4 [op,N] [b,c]=false:=by with_unfolding_all rfl):PE X (.Compare a [op,N] [b,c] au) (tD X (wG g g' fa fb fc)):=by
 intro m s σ H Q I h;obtain⟨P,α,al,S,r,re,af⟩:=h;refine Compare_chain (bv (zR ha I r re af) λvv s1 ⟨v,H1,P1,zb,d,S1,U,o⟩=>chain_link (bv (zR hb U.inv U.rel U.env (qX.base U.same U.pre o)) λuu s2 ⟨u,H2,P2,zc,d',S2,G2,j⟩ =>
  bv (hX ho G2.inv G2.rel U.val G2.val (av.mono G2.same G2.pre _ _ U.rep) G2.rep (qX.base G2.same G2.pre j)) λw s3 ⟨y,t,P3,E,z,S3,I3,n,G,O,B,L,Y⟩=>?_)) hm
 cases q:xW z S3 with
 |none=>simp only[q] at Y;exact Aq Y
 |some k =>
  simp only[q] at Y;have tv:=uY G O q;refine bv (bL m s3 σ t y w (λA H'=>A=k/\H'=t) I3 n ⟨k,tv,rfl,rfl⟩) λA s4 ⟨x,i,hk,hH⟩=>?_;subst hk;subst hH;cases A with
  |false=>exact ite_ff ⟨y,x,i,n,Y y x P3 E G B L O⟩
  |true =>
   refine ite_tt (chain_last (bv (zR hc i G (G2.env.mono B L) (qX.base B L Y)) λww s5 ⟨w',H5,P5,l,d5,S5,J,T⟩=>?_));exact f m σ H5 s5 P5 l S5 u w' uu ww d' d5 Q J.inv J.rel G2.val J.val (av.mono (B.trans J.same) (L.trans J.pre) _ _ G2.rep) J.rep (qX.base J.same J.pre T)
theorem J9 (ho:gq X (Cy op) g)(zs:gq X (Cy T) g')(ha:PE X a (tD X fa))(hb:PE X b (tD X fb))(hc:PE X c (tD X fc))
  (hm:v4 [op,T] [b,c]=false:=by with_unfolding_all rfl):PT X (.Compare a [op,T] [b,c] au) (ml X (ef (wG g g' fa fb fc))):=by
 intro aj s σ H Q I h;obtain⟨P,α,J,S,r,re,af⟩:=h;have o:qO X P α ((wG g g' fa fb fc J S).bind λd S1=>kN (xW d S1) S1) (yr X P α Q):=af;have L:(wG g g' fa fb fc J S).bind (λd S1=>kN (xW d S1) S1)=(fa J S).bind λx S1=>(fb J S1).bind λy A=>(g x y A).bind λz Y =>
   match xW z Y with
   |some true=>((fc J Y).bind λw G=>g' y w G).bind λd S1=>kN (xW d S1) S1
   |some false=>.ok false Y
   |none=>.bad:=by
  unfold wG;cases fa J S with
  |bad=>rfl
  |ex _ _ _=>rfl
  |ok x S1 =>
   show a_.bind (a_.bind (fb J S1) _) _=a_.bind (fb J S1) _;cases fb J S1 with
   |bad=>rfl
   |ex _ _ _=>rfl
   |ok y A =>
    show a_.bind (a_.bind (g x y A) _) _=a_.bind (g x y A) _;cases g x y A with
    |bad=>rfl
    |ex _ _ _=>rfl
    |ok z Y =>
     show a_.bind (match xW z Y with|some true=>(fc J Y).bind λw G=>g' y w G|some false=>.ok z Y|none=>.bad) _=_
     cases E:xW z Y with
     |none=>simp only[E,a_.bind]
     |some k=>cases k <;> simp only[E,a_.bind,kN]
 rw[L] at o;refine isTrue_chain (bv (zR ha I r re o) λvv s1 ⟨v,H1,P1,z1,d,S1,O,zl⟩=>test_link (bv (zR hb O.inv O.rel O.env (yR.base O.same O.pre zl)) λuu s2 ⟨u,H2,P2,q,d',A,G2,zb⟩ =>
  bv (hX ho G2.inv G2.rel O.val G2.val (av.mono G2.same G2.pre _ _ O.rep) G2.rep (yR.base G2.same G2.pre zb)) λw s3 ⟨y,H3,P3,m,z,Y,I3,r3,B,zy,l,f,U⟩=>?_)) hm
 cases E:xW z Y with
 |none=>simp only[E] at U;exact Aq U
 |some k =>
  simp only[E] at U;have tv:=uY B zy E;refine bv (bL aj s3 σ H3 y w (λk' H'=>k'=k/\H'=H3) I3 r3 ⟨k,tv,rfl,rfl⟩) λk' s4 ⟨H4,I4,hk,hH⟩=>?_;subst hk;subst hH;cases k' with
  |false=>exact ite_ff ⟨H4,I4,U H4 P3 m B l f⟩
  |true =>
   have i:qO X P2 q ((fc J Y).bind λw G=>(g' d' w G).bind λd S1=>kN (xW d S1) S1) (yr X P2 q Q):=by
    have e:((fc J Y).bind λw G=>(g' d' w G).bind λd S1=>kN (xW d S1) S1)=(((fc J Y).bind λw G=>g' d' w G).bind λd S1=>kN (xW d S1) S1):=by
     cases fc J Y <;> rfl
    rw[e];exact U
   refine ite_tt (test_last (bv (zR hc I4 B (G2.env.mono l f) (yR.base l f i)) λww s5 ⟨w',H5,P5,z2,d5,S5,N,t⟩ =>
    bv (hX zs N.inv N.rel G2.val N.val (av.mono (l.trans N.same) (f.trans N.pre) _ _ G2.rep) N.rep (yR.base N.same N.pre t)) λx6 s6 ⟨y6,H6,P6,zc,d6,S6,I6,r6,j,n,e5,e6,zx⟩=>?_))
   obtain⟨k6,q6,z6⟩:=lO zx;exact BZ I6 j r6 n q6 (z6 H6 P6 zc j e5 e6)
def wA (t:DT):DT:=λY S=>(t Y S).bind λb S1=>.ok (!b) S1
def mU (t u:DT):DT:=λY S=>(t Y S).bind λb S1=>if b then u Y S1 else .ok false S1
def uN (t u:DT):DT:=λY S=>(t Y S).bind λb S1=>if b then .ok true S1 else u Y S1
theorem R8 (A:PT X a (ml X ta)):PT X (.UnaryOp .Not a au) (ml X (wA ta)):=by
 intro N s σ H Q I h;obtain⟨P,α,k,S,r,B,L⟩:=h;refine isTrue_not (bv (b9 (λO q=>A N s σ H O I q) r B L) λb y ⟨U,j,J,S1,T,G,E,w,z,Y⟩=>⟨U,T,Y U j J G w z⟩)
def sm (X:Cx)(e:Cb)(t:DT):Prop:=PW X e (ml X t)
theorem sm.pt {t:DT}(h:sm X e t):PT X e (ml X t):=h _
theorem M6 (Y:PT X a (ml X ta)):sm X (.BoolOp .And [a] au) ta:=NG Y
theorem RB (Y:PT X a (ml X ta)):sm X (.BoolOp .Or [a] au) ta:=HW Y
theorem RA {qG:Aa Cb}(g:PT X a (ml X ta))(l:sm X (.BoolOp .And (b::qG) au) tb):sm X (.BoolOp .And (a::b::qG) au) (mU ta tb):=by
 intro A B s σ H Q I h;obtain⟨P,α,o,S,r,j,y⟩:=h;refine isTrue_and (bv (b9 (λz q=>g B s σ H z I q) r j y) λk w ⟨U,E,J,S1,T,O,G,L,N,Y⟩=>?_);cases k with
 |true=>exact l A B w σ U Q T ⟨E,J,o,S1,O,G,yR.base L N Y⟩
 |false=>exact⟨U,T,Y U E J O L N⟩
theorem IU {qG:Aa Cb}(g:PT X a (ml X ta))(l:sm X (.BoolOp .Or (b::qG) au) tb):sm X (.BoolOp .Or (a::b::qG) au) (uN ta tb):=by
 intro A B s σ H Q I h;obtain⟨P,α,o,S,r,j,y⟩:=h;refine isTrue_or (bv (b9 (λz q=>g B s σ H z I q) r j y) λk w ⟨U,E,J,S1,T,O,G,L,N,Y⟩=>?_);cases k with
 |true=>exact⟨U,T,Y U E J O L N⟩
 |false=>exact l A B w σ U Q T ⟨E,J,o,S1,O,G,yR.base L N Y⟩
def vX (f g:DE):DE:=λY S=>(f Y S).bind λx S1=>match xW x S1 with
 |some true=>g Y S1
 |some false=>.ok x S1
 |none=>.bad
def QP (f:DE):DE:=λY S=>(f Y S).bind λx S1=>match xW x S1 with
 |some b=>.ok (.bl (!b)) S1
 |none=>.bad
theorem SN  (h:PE X a (tD X fa)):PE X (.BoolOp op [a] au) (tD X fa):=HK h
theorem AD {σ:_L.St}{k:Au}{R:Au->Ag->Prop}(I:Inv X aj σ H s)(N:qL v vv)(t:Q7 X.K v H k)(h:∀ s',Inv X aj σ H s'->R k s') :
  db X (truthy vv) R X.xe s:=bv (bL aj s σ H v vv (λY B=>Y=k/\B=H) I N ⟨k,t,rfl,rfl⟩) λY O ⟨L,J,U,G⟩=>by subst U;subst G;exact h O J
theorem SB {qG:Aa Cb}(j:PE X a (tD X fa))(w:PE X (.BoolOp .And (b::qG) au) (tD X fb)):PE X (.BoolOp .And (a::b::qG) au) (tD X (vX fa fb)):=by
 intro L s σ H Q I h;obtain⟨P,α,A,S,r,T,E⟩:=h;refine BoolOp_and (bv (zR j I r T E) λvv y ⟨v,N,B,U,d,S1,Y,J⟩=>?_);cases G:xW d S1 with
 |none=>simp only[G] at J;exact Aq J
 |some k =>
  simp only[G] at J;refine AD Y.inv Y.val (uY Y.rel Y.rep G) λz O=>?_;cases k with
  |true=>exact w L z σ N Q O ⟨B,U,A,S1,Y.rel,Y.env,qX.base Y.same Y.pre J⟩
  |false=>exact⟨v,N,O,Y.val,J v N B U Y.rel Y.same Y.pre Y.rep⟩
theorem SM (L:PE X a (tD X fa)):PE X (.UnaryOp .Not a au) (tD X (QP fa)):=by
 intro w s σ H Q I h;obtain⟨P,α,z,S,r,O,B⟩:=h;refine UnaryOp_ (bv (zR L I r O B) λvv A ⟨v,N,E,U,d,S1,J,Y⟩=>?_);cases G:xW d S1 with
 |none=>simp only[G] at Y;exact Aq Y
 |some k =>
  simp only[G] at Y;exact not_of (AD J.inv J.val (uY J.rel J.rep G) λj T=>⟨.bl (!k),N,T,rfl,Y (.bl (!k)) N E U J.rel J.same J.pre (by simp only[av])⟩)
def yk (t:DT)(f g:DE):DE:=λY S=>(t Y S).bind λb S1=>if b then f Y S1 else g Y S1
theorem IK (z:PT X c (ml X ta))(g:PE X a (tD X fa))(l:PE X b (tD X fb)):PE X (.IfExp c a b au) (tD X (yk ta fa fb)):=by
 intro G s σ H Q I h;obtain⟨P,α,B,S,r,y,o⟩:=h;refine wpAny_IfExp (bv (b9 (λj q=>z G s σ H j I q) r y o) λk O ⟨L,w,U,S1,T,N,J,E,A,Y⟩=>?_);cases k with
 |true=>exact g G O σ L Q T ⟨w,U,B,S1,N,J,qX.base E A Y⟩
 |false=>exact l G O σ L Q T ⟨w,U,B,S1,N,J,qX.base E A Y⟩
end
@[inline] noncomputable def a_.toS {β:Type}(al:qE)(r:a_ β)(k:β->aq->ir):ir:=
 match r with
 |.ok d S=>k d S
 |.ex c x S=>.ex c x al S
 |.bad=>.bad
section
variable {X:Cx}{a b c e:Cb}{au:Fc}{fa:DE}{ta:DT}{f g:DS}{st:Et}{qG:Aa Et}
def zP:DS:=λY S=>.nx Y S
def qS (f g:DS):DS:=λJ S=>match f J S with
 |.nx Y S1=>g Y S1
 |o=>o
theorem SZ:ip X [] (iq X zP):=HU oC λD σ H ⟨P,α,U,S,r,J,Y⟩=>Y σ H P α r J (qI.refl _) (Br _)
theorem M1 (h1:PS X st (iq X f))(h2:ip X qG (iq X g)):ip X (st::qG) (iq X (qS f g)):=HU (c8 h1 h2) λD σ H ⟨P,α,N,S,r,O,J⟩=>by
 refine⟨P,α,N,S,r,O,?_⟩;unfold qS at J;cases q:f N S with
 |nx Y S1 =>
  rw[q] at J;exact λT A E G I U B L=>⟨E,G,Y,S1,I,U,zF.base B L J⟩
 |rt d S1=>rw[q] at J;exact J
 |bk Y S1=>rw[q] at J;exact J
 |ct Y S1=>rw[q] at J;exact J
 |ex c x Y S1=>rw[q] at J;exact J
 |bad=>rw[q] at J;exact J
theorem R0 (h1:PS X st (iq X f)):ip X [st] (iq X f):=ND h1
theorem yI {β:Type}{P:Hp}{α:ag}{r:a_ β}{k:β->aq->ir}{D:Ends}(h:zF X P α (r.toS al k) D):qO X P α r λd S=>zF X P α (k d S) D:=by
 cases r with
 |ok d S=>exact h
 |ex c x S=>exact h
 |bad=>exact h
inductive xp (X:Cx)(pins:aa)(σ : _L.St)(env:qE)(P:Hp)(α : Aa Af)(u:Ad)(s1:Ag)(k:D->aq->ir)(E:Ends):Prop
 |mk (v:V) (H1 P1:Hp) (α1:ag) (d:D) (S1:aq) (G:Got X pins σ env P α u s1 v H1 P1 α1 d S1) (q:zF X P1 α1 (k d S1) E):xp X pins σ env P α u s1 k E
theorem mW {k:D->aq->ir}{σ:_L.St}{H P:Hp}{α:ag}{al:qE}{D:Ends}(N:PE X e (tD X fa))(I:Inv X aj σ H s)(r:bf X.K H P α S)
  (O:zD X.K P α σ al) (B:zF X P α ((fa al S).toS al k) D) :
  db X (eval e X.env) (λu U=>xp X aj σ al P α u U k D) X.xe s:=by
 have Y:qO X P α ((fa al S).bind λd S=>.ok d S) λd S=>zF X P α (k d S) D:=by
  have:=yI B;cases q:fa al S <;> rw[q] at this <;> exact this
 exact bv (zR N I r O Y) λu U ⟨v,L,T,J,d,S1,G,q⟩=>⟨v,L,T,J,d,S1,G,zF.base G.same G.pre q⟩
def wR (f:DE):DS:=λY S=>(f Y S).toS Y λ_ S1=>.nx Y S1
theorem M2 (U:PE X e (tD X fa))(hs:Pj e none au.line X.env=pure false:=by rfl):PS X (.Expr e au) (iq X (wR fa)):=by
 intro T s σ H D I h;obtain⟨P,α,E,S,r,N,O⟩:=h;exact wpAny_Expr_any (bv (mW U I r N O) λv L ⟨x,J,B,Y,d,S1,G,q⟩=>⟨σ,J,G.inv,q σ J B Y G.rel G.env (qI.refl _) (Br _)⟩) I.quiet hs
def qW (f:DE):DS:=λY S=>(f Y S).toS Y λd S1=>.rt d S1
theorem R4 (U:PE X e (tD X fa)):PS X (.Return (Ab e) au) (iq X (qW fa)):=by
 intro T s σ H D I h;obtain⟨P,α,E,S,r,N,O⟩:=h;exact wpAny_Return_some (bv (mW U I r N O) λv L ⟨x,J,B,Y,d,S1,G,q⟩=>⟨x,σ,J,G.inv,G.val,q x J B Y G.rel (qI.refl _) (Br _) G.rep⟩)
def gk (t:DT)(f g:DS):DS:=λY S=>(t Y S).toS Y λb S1=>if b then f Y S1 else g Y S1
theorem IS {as bs:Aa Et}(j:PT X c (ml X ta))(t:ip X as (iq X f))(v:ip X bs (iq X g)):PS X (.If c as bs au) (iq X (gk ta f g)):=by
 intro N s σ H D I h;obtain⟨P,α,Y,S,r,o,l⟩:=h;have O:qO X P α ((ta Y S).bind λd S=>.ok d S) λb S=>zF X P α (if b then f Y S else g Y S) D:=by
  have:=yI l;cases q:ta Y S <;> rw[q] at this <;> exact this
 refine wpAny_If (bv (b9 (λy q=>j N s σ H y I q) r o O) λk T ⟨A,z,G,S1,w,L,U,E,B,J⟩=>?_);cases k with
 |true=>exact t N T σ A D w ⟨z,G,Y,S1,L,U,zF.base E B J⟩
 |false=>exact v N T σ A D w ⟨z,G,Y,S1,L,U,zF.base E B J⟩
abbrev DG:=D->qE->aq->a_ qE
abbrev qu:=Aa D->qE->aq->a_ qE
def xg (X:Cx)(P:Hp)(α : Aa Af)(Q:_L.St->Hp->Prop)(bo:qE)(S':aq):Prop:=∀ J G U Y,bf X.K G U Y S'->zD X.K U Y J bo->qI P U->α<+:Y->Q J G
def pe (X:Cx)(g:DG):TG:=λv σ H Q=>∃ P α Y S d,bf X.K H P α S/\zD X.K P α σ Y/\av X.K P α d v/\qO X P α (g d Y S) (xg X P α Q)
def cO (X:Cx)(g:qu):um:=λU σ H Q=>∃ P α Y S J,bf X.K H P α S/\zD X.K P α σ Y/\qF X.K P α J U/\qO X P α (g J Y S) (xg X P α Q)
theorem zD.set {K:Ah}{P:Hp}{α:ag}{σ:_L.St}(Y:zD K P α σ al)(i:Ai)(G:av K P α d v):zD K P α (σ.set i (Ab v)) (al.set i (Ab d)):=by
 refine⟨by simp[Y.1],λj N e=>?_⟩
 by_cases U:i=j
 .subst U
  by_cases J:i<al.length
  .rw[Dv J] at e
   cases e;exact⟨v,by rw[Dv (by rw[<- Y.1];exact J)],G⟩
  .rw[Py (by simp;fin2)] at e;cases e
 .rw[Bz U] at e ⊢
  exact Y.2 j N e
noncomputable def bx (i:Ai):DG:=λd Y S=>.ok (Y.set i (Ab d)) S
theorem FU {i:Ai}(Y:X.N.Nodup)(hi:X.N[i]? = Ab x:=by rfl)(N:Loc X.env.scope x:=by first|exact AbC rfl|exact AaG rfl)(L:X.fn x=true\/X.env.scope.names.lookup x=Ab .local:=by first|exact .inl rfl|exact .inr rfl|assumption):PG X (.Name x au) (pe X (bx i)):=by
 intro O s σ H v u Q I G h;obtain⟨P,α,T,S,d,r,J,B,U⟩:=h;exact N7 Y hi N L O s σ H v u Q I G (U _ H P α r (J.set i B) (qI.refl _) (Br _))
def wB:qu:=λJ Y S=>match J with
 |[]=>.ok Y S
 |_=>.bad
def zE (g:DG)(J:qu):qu:=λG U S=>match G with
 |d::r=>(g d U S).bind λY S1=>J r Y S1
 |[]=>.bad
theorem FV:ti X [] (cO X wB):=by
 intro U s σ H O us Q I B h;obtain⟨P,α,L,S,Y,r,G,N,J⟩:=h;cases Y with
 |nil=>exact N8 U s σ H O us Q I B ⟨N.nil_inv,J σ H P α r G (qI.refl _) (Br _)⟩
 |cons d Y=>exact Aq J
theorem UZ {g:DG}(h1:PG X e (pe X g))(h2:ti X es (cO X L))(hs:(Ho (e::es) X.env).map (·.2)=assign e X.env::(Ho es X.env).map (·.2):=by rfl):ti X (e::es) (cO X (zE g L)):=by
 intro i s σ H vs us Q I m h;obtain⟨P,α,G,S,U,r,o,rp,j⟩:=h;cases U with
 |nil=>exact Aq j
 |cons d U =>
  obtain⟨w,v,rfl,y,t⟩:=rp.cons_inv;refine KW h1 h2 hs i s σ H _ us Q I m ⟨w,v,rfl,P,α,G,S,d,r,o,y,?_⟩;have Y:qO X P α ((g d G S).bind λJ S1=>L U J S1) (xg X P α Q):=j;cases q:g d G S with
  |bad=>rw[q] at Y;exact Y
  |ex c x k=>rw[q] at Y;exact Y
  |ok J S1 =>
   rw[q] at Y;intro l H' P' z r' E O B;refine⟨P',z,J,S1,U,r',E,qF.mono O B _ _ t,qO.base' O B (λbo k ok N H2 P2 A n T e3 e4=>ok N H2 P2 A n T (O.trans e3) (B.trans e4)) Y⟩
noncomputable def mq (n:Ai)(J:qu):DG:=λd U S=>match d with
 |.tup Y=>if Y.length=n then J Y U S else .bad
 |_=>.bad
set_option tactic.hygienic true in
theorem SU {k:Ai}{n:Ai}(N:X.calm=true)(h:ti X es (cO X U))(O:(Ho es X.env).length=n:=by rfl)(J:(Ho es X.env).findIdx? (·.1)=none:=by rfl):PG X (.Tuple es k au) (pe X (mq n U)):=by
 intro L s σ H v u Q I j B;obtain⟨P,α,A,S,d,r,T,G,Y⟩:=B;cases d with
 |tup w =>
  simp only[av] at G;obtain⟨a,z,rfl,q,t⟩:=G;simp only[mq] at Y
  split at Y
  .rename_i E
   exact HP N h O J L s σ H _ u Q I j ⟨a,z,rfl,xX r.sub q,by rw[<- t.length];exact E,P,α,A,S,w,r,T,t,Y⟩
  .exact Aq Y
 |_=>exact Aq Y
abbrev G3:=D->D->D->aq->a_ Po
def OkU (X:Cx)(P:Hp)(α : Aa Af)(Q:Hp->Prop)(_:Po)(S':aq):Prop:=∀ U J Y,bf X.K U J Y S'->qI P J->α<+:Y->Q U
def rE (X:Cx)(g:G3):D4:=λo i v H Q=>∃ P α S a b d,bf X.K H P α S/\av X.K P α a o/\av X.K P α b i/\av X.K P α d v/\qO X P α (g a b d S) (OkU X P α Q)
def sv (N J:DE)(g:G3):DG:=λd Y S=>(N Y S).bind λo S1=>(J Y S1).bind λi G=>(g o i d G).bind λ_ U=>.ok Y U
theorem SS {t fi:DE}{g:G3}(ho:PE X o (tD X t))(hi:PE X i (tD X fi))(hs:rH X (rE X g))
  (ha:∀ v,assign (.Subscript o i au) X.env v=(do
   let G <- holding [v] (eval o X.env)
   let O <- holding [v,G] (eval i X.env)
   Tc au
   holding [v,G,O] (setItem G O v)
   release [v,G,O] []):=by intro _;rfl):PG X (.Subscript o i au) (pe X (sv t fi g)):=by
 intro aj s σ H v u Q I rv h;obtain⟨P,α,al,S,d,r,re,rp,af⟩:=h;rw[ha];refine Ac (Dn (bv (zR ho I r re af) λG s1 ⟨x,H1,P1,N,d1,S1,J,B⟩=>?_));refine Ac (Dn (bv (zR hi J.inv J.rel J.env (P:=P1) (α:=N) (Ok:=xg X P1 N Q) (qO.base' J.same J.pre (λbo S' ok L j k U r2 E e3 e4=>ok L j k U r2 E (J.same.trans e3) (J.pre.trans e4)) B)) λO s2 ⟨y,j,k,U,d2,l,G2,Y⟩=>?_));refine Ac (Kq (Ac (Dn (bv (hs aj s2 σ j x y v G O u (λT=>Q σ T) G2.inv J.val G2.val rv ⟨k,U,l,d1,d2,d,G2.rel,av.mono G2.same G2.pre _ _ J.rep,G2.rep,av.mono (J.same.trans G2.same) (J.pre.trans G2.pre) _ _ rp,?_⟩) λ_ s3 ⟨T,I3,q3⟩=>?_))))
 .cases q:g d1 d2 d l with
  |bad=>rw[q] at Y;exact Y
  |ex c x S'=>rw[q] at Y;exact λu s' z=>Y u s' (z.base G2.same G2.pre)
  |ok w S3 =>
   rw[q] at Y;exact λH' P' A r' m n=>Y σ H' P' A r' (G2.env.mono m n) (G2.same.trans m) (G2.pre.trans n)
 .exact wpAny_release ⟨σ,T,I3,q3⟩
def qZ (f:DE)(g:DG):DS:=λY S=>(f Y S).toS Y λd S1=>(g d Y S1).toS Y λJ U=>.nx J U
theorem XN {g:DG}{P:Hp}{α:ag}{Y:Ends}(h:zF X P α ((g d al S).toS al λbo S2=>.nx bo S2) Y):qO X P α (g d al S) (xg X P α Y.nx):=by
 cases q:g d al S with
 |bad=>rw[q] at h;exact h
 |ex c x U=>rw[q] at h;exact h
 |ok J S1=>rw[q] at h;exact h
theorem SX {g:DG}(N:PE X e (tD X fa))(U:PG X tg (pe X g))(hs:Nj [tg] e au.line X.env=pure false:=by rfl)(hw:Ni [tg] e X.env=pure none:=by rfl)
  (h1:(Ho [tg] X.env).map (·.2)=[assign tg X.env]:=by rfl):PS X (.Assign [tg] e au) (iq X (qZ fa g)):=by
 intro O s σ H D I h;obtain⟨P,α,T,S,r,B,L⟩:=h;refine wpAny_Assign_stores (bv (mW N I r B L) λv J ⟨x,E,A,Y,d,S1,G,q⟩=>?_) hs hw;rw[h1];exact bv (U O J σ E x v _ G.inv G.val ⟨A,Y,T,S1,d,G.rel,G.env,G.rep,XN q⟩) λ_ w q=>q
theorem R5 {i:Ai}(N:X.N.Nodup)(T:PE X e (tD X fa))(hi:X.N[i]? = Ab x:=by rfl)(L:Loc X.env.scope x:=by first|exact AbC rfl|exact AaG rfl)(hs:Pj e (Ab (.Name x Y)) au.line X.env=pure false:=by rfl)
  (A:X.fn x=true\/X.env.scope.names.lookup x=Ab .local:=by first|exact .inl rfl|exact .inr rfl|assumption):PS X (.Assign [.Name x Y] e au) (iq X (qZ fa (bx i))):=by
 intro k s σ H D I h;obtain⟨P,α,z,S,r,O,B⟩:=h;refine wpAny_Assign_Name (bv (mW T I r O B) λv j ⟨y,U,w,J,d,S1,G,q⟩=>?_) hs;exact jO G.inv N hi L G.val (λo E=>⟨_,U,E,q _ U w J G.rel (G.env.set i G.rep) (qI.refl _) (Br _)⟩) A
noncomputable def V1 (i j:Ai)(al:qE)(S1:aq):Aa D->ir
 |[x,y]=>.nx ((al.set i (Ab x)).set j (Ab y)) S1
 |_=>.bad
def kO (i j:Ai)(f:DA):DS:=λY S=>(f Y S).toS Y λJ S1=>V1 i j Y S1 J
theorem R3 {i j:Ai}{f:DA}{G T O:Fc}{kt k2 pt2}(k:X.calm=true) (l:X.N.Nodup) (h:PA X [a,b] (ko X f)) (hi:X.N[i]? = Ab x:=by rfl) (n:X.N[j]? = Ab y:=by rfl) (L:i≠j:=by decide)
  (z:X.env.scope.names.lookup x=Ab .local:=by rfl) (hy:X.env.scope.names.lookup y=Ab .local:=by rfl)
  (hw:Ni [.Tuple [.Name x G,.Name y T] kt O] (.Tuple [a,b] k2 pt2) X.env=pure (Ab [x,y]):=by rfl)
  (hs:Nj [.Tuple [.Name x G,.Name y T] kt O] (.Tuple [a,b] k2 pt2) au.line X.env=pure false:=by rfl) :
  PS X (.Assign [.Tuple [.Name x G,.Name y T] kt O] (.Tuple [a,b] k2 pt2) au) (iq X (kO i j f)):=F_ (HS k l hi n L z hy h hw hs) λD σ H ⟨P,α,N,S,r,E,m⟩=>by
 refine⟨P,α,N,S,r,E,?_⟩;have Y:=yI m;cases q:f N S with
 |bad=>rw[q] at Y;exact Y
 |ex c x S'=>rw[q] at Y;exact Y
 |ok U S1 =>
  rw[q] at Y;intro vs H' P' B r' I A v;have J:zF X P α (V1 i j N S1 U) D:=Y;cases U with
  |nil=>exact Aq J
  |cons d U=>cases U with
   |nil=>exact Aq J
   |cons d' U=>cases U with
    |cons _ _=>exact Aq J
    |nil =>
     obtain⟨w,ws,rfl,o,t⟩:=v.cons_inv;obtain⟨w',s,rfl,p2,t⟩:=t.cons_inv;rw[t.nil_inv];exact⟨w,w',rfl,J _ _ P' B r' (((E.mono I A).set i o).set j p2) I A⟩
end
structure tw (K:Ah)(J:It)(P:Hp)(α : Aa Af)(ds:Aa D):Prop where
 go:∀ i H P1 α1 S,i<ds.length->bf K H P1 α1 S->qI P P1->α<+:α1->J.go i H
 yld:∀ i H x H' P1 α1 S,i<ds.length->bf K H P1 α1 S->qI P P1->α<+:α1->J.yld i H x H'->∃ P2 d,ds[i]? = Ab d/\bf K H' P2 α1 S/\qI P1 P2/\av K P2 α1 d x
 stop:∀ i H P1 α1 S,ds.length<=i->bf K H P1 α1 S->qI P P1->α<+:α1->J.stop i H
abbrev DI:=qE->aq->a_ (Aa D)
def vt (X:Cx)(P:Hp)(α : Aa Af)(R:It->Hp->Prop)(ds:Aa D)(S':aq):Prop:=∀ J G U Y,bf X.K G U Y S'->qI P U->α<+:Y->tw X.K J U Y ds->R J G
inductive so (X:Cx)(f:DI)(σ : _L.St)(H:Hp)(R:It->Hp->Prop):Prop
 |mk (P:Hp) (α : Aa Af) (env:qE) (S:aq) (r:bf X.K H P α S) (re:zD X.K P α σ env) (af:qO X P α (f env S) (vt X P α R)):so X f σ H R
def v9 {β:Type}(o:Al β)(S:aq):a_ β:=match o with
 |some b=>.ok b S
 |none=>.bad
theorem vY {X:Cx}{β:Type}{o:Al β}{P:Hp}{α:ag}{Ok:β->aq->Prop}(h:qO X P α (v9 o S) Ok):∃ b,o=Ab b/\Ok b S:=by
 cases o with
 |none=>exact Aq h
 |some b=>exact⟨b,rfl,h⟩
theorem uI {X:Cx}{β:Type}{c:Prop}[Jd c]{r:a_ β}{P:Hp}{α : Aa Af}{Ok:β->aq->Prop}(h:qO X P α (if c then r else .bad) Ok):c/\qO X P α r Ok:=by
 by_cases z:c
 .rw[Ay z] at h;exact⟨z,h⟩
 .rw[AT z] at h;exact Aq h
theorem hW {X:Cx}{β:Type}{g:D->a_ β}{P:Hp}{α:ag}{Ok:β->aq->Prop}(h:qO X P α (match ds with|[d]=>g d|_=>.bad) Ok):∃ d,ds=[d]/\qO X P α (g d) Ok:=by
 cases ds with
 |nil=>exact Aq h
 |cons d ds =>
  cases ds with
  |nil=>exact⟨d,rfl,h⟩
  |cons _ _=>exact Aq h
theorem lE {β:Type}{i:Ai}{f:Aa D->Al β}{g:Aa (bz × D)->Al β}{b:β}(h:(match S[i]? with|some (.lst xs)=>f xs|some (.dct kvs)=>g kvs|_=>none)=Ab b):(∃ xs,S[i]? = Ab (.lst xs)/\f xs=Ab b)\/∃ kvs,S[i]? = Ab (.dct kvs)/\g kvs=Ab b:=by
 cases e:S[i]? with
 |none=>rw[e] at h;exact nn h
 |some m =>
  rw[e] at h;cases m with
  |lst xs=>exact .inl ⟨xs,rfl,h⟩
  |dct kvs=>exact .inr ⟨kvs,rfl,h⟩
  |_=>exact nn h
theorem EA {β:Type}{i:Ai}{f:Aa D->Al β}{b:β}(h:(match S[i]? with|some (.lst xs)=>f xs|_=>none)=Ab b):∃ xs,S[i]? = Ab (.lst xs)/\f xs=Ab b:=by
 cases e:S[i]? with
 |none=>rw[e] at h;exact nn h
 |some m =>
  rw[e] at h;cases m with
  |lst xs=>exact⟨xs,rfl,h⟩
  |_=>exact nn h
inductive yt (d:D)(xs:Aa D):Prop
 |tup (e:d=.tup xs)
 |lst (e:d=.lst xs)
noncomputable def BP {β:Type}(S:aq)(n:Ai)(f:Aa D->a_ β) : a_ β:=match S[n]? with
 |some (.lst Y)=>f Y
 |_=>.bad
theorem pE {X:Cx}{β:Type}{f:Aa D->a_ β}{P:Hp}{α:ag}{Ok:β->aq->Prop}(h:qO X P α (BP S n f) Ok):∃ xs,S[n]? = Ab (.lst xs)/\qO X P α (f xs) Ok:=by
 unfold BP at h;cases e:S[n]? with
 |none=>rw[e] at h;exact Aq h
 |some m =>
  rw[e] at h;cases m with
  |lst xs=>exact⟨xs,rfl,h⟩
  |_=>exact Aq h
def x8:D->Al (Aa D)
 |.tup Y=>Ab Y
 |.lst Y=>Ab Y
 |_=>none
theorem ye (h:x8 d=Ab xs):yt d xs:=by
 cases d with
 |tup Y=>exact .tup (congrArg D.tup (Dg h))
 |lst Y=>exact .lst (congrArg D.lst (Dg h))
 |_=>exact nn h
def wU (f:DE):DI:=λY S=>(f Y S).bind λd S1=>v9 (x8 d) S1
section
variable {X:Cx}{K:Ah}{tg e:Cb}{fa:DE}
theorem JW {P:Hp}{α:ag}{a:Af}(q:ju K P a vs)(t:qF K P α ds vs):tw K (zn K a) P α ds where
 go:=λi H U J S Y r e _=>⟨vs,vs[i]'(by rw[<- t.length];exact Y),(e.trans r.sub).seq q,by simp⟩
 yld:=λi H x L U J S Y r e N y=>by
  obtain⟨rfl,y⟩:=y;have O:=y vs ((e.trans r.sub).seq q);obtain⟨v,G,B⟩:=t.get (An Y);rw[O] at G;cases G;exact⟨U,_,An Y,r,qI.refl _,av.mono e N _ _ B⟩
 stop:=λi H U J S Y r e _=>⟨vs,(e.trans r.sub).seq q,by rw[<- t.length];exact Y⟩
theorem T3 {P:Hp}{α:ag}{a:Af}(q:jf K P a vs)(t:qF K P α ds vs):tw K (Y_ K a) P α ds where
 go:=λi H U J S Y r e _=>⟨vs,vs[i]'(by rw[<- t.length];exact Y),vA (e.trans r.sub) q,by simp⟩
 yld:=λi H x L U J S Y r e N y=>by
  obtain⟨rfl,y⟩:=y;have O:=y vs (vA (e.trans r.sub) q);obtain⟨v,G,B⟩:=t.get (An Y);rw[O] at G;cases G;exact⟨U,_,An Y,r,qI.refl _,av.mono e N _ _ B⟩
 stop:=λi H U J S Y r e _=>⟨vs,vA (e.trans r.sub) q,by rw[<- t.length];exact Y⟩
theorem eT {σ:_L.St}{H P:Hp}{α:ag}(I:Inv X aj σ H s)(r:bf X.K H P α S)(J:qL v vv)(Y:av X.K P α d v)(hd:x8 d=Ab ds)
  (q:vt X P α R ds S):db X (Qy vv) (vq X aj σ tg R) X.xe s:=by
 cases d with
 |tup O =>
  cases hd;simp only[av] at Y;obtain⟨a,B,rfl,sq,t⟩:=Y;cases J;obtain⟨G,J,p,N⟩:=I.tuple (xX r.sub sq);refine Hl (show s.heap.IsTuple a G.toArray from p) ?_
  refine⟨s.heap.objs.size,[s.heap.objs.size],_,_,H,rfl,I.kept (t':=s.toks) λb o e=>Aj _ e,XC a _,⟨_,Bf _ rfl,rfl,rfl⟩,λb U=>?_,q _ _ P α r (qI.refl _) (Br _) (T3 sq t)⟩;have e:b=s.heap.objs.size:=by simpa using U
  subst e;exact I.fpOk (Av _) (I.hok.fresh (Av _))
 |lst O =>
  cases hd;simp only[av] at Y;obtain⟨a,B,rfl,sq,t⟩:=Y;cases J;obtain⟨G,J,p,N⟩:=I.list ((xT r.sub sq).l);refine Go p.isList ?_;refine⟨s.heap.objs.size,[s.heap.objs.size],_,_,H,rfl,I.kept (t':=s.toks) λb o e=>Aj _ e,sH a _,⟨_,Bf _ rfl,rfl,rfl⟩,λb U=>?_,q _ _ P α r (qI.refl _) (Br _) (JW sq.l t)⟩;have e:b=s.heap.objs.size:=by simpa using U
  subst e;exact I.fpOk (Av _) (I.hok.fresh (Av _))
 |_=>cases hd
theorem vt.base {P P1:Hp}{α Y:ag}(e:qI P P1)(h:α<+:Y)(k:vt X P α R ds S):vt X P1 Y R ds S:=λJ L N U r G O B=>k J L N U r (e.trans G) (h.trans O) B
theorem SV (O:PE X e (tD X fa)):PI X tg e (so X (wU fa)):=by
 intro T s σ H R I h;obtain⟨P,α,A,S,r,U,G⟩:=h;refine bv (zR O I r U G) λvv L ⟨v,w,z,N,d,S1,Y,J⟩=>?_;obtain⟨E,B,q⟩:=vY J;exact eT Y.inv Y.rel Y.val Y.rep B (q.base Y.same Y.pre)
noncomputable def w4 (lo:Am)(n:Ai):Aa D:=(Dd n).map λ(i:Ai)=>D.int (lo+(i:Am))
theorem pH (lo:Am)(n:Ai):(w4 lo n).length=n:=by simp[w4]
theorem dR {P:Hp}{α:ag}{lo:Am}:tw K (xm lo n) P α (w4 lo n) where
 go:=λi H U J S Y r e _=>by rw[pH] at Y;exact Y
 yld:=λi H x N U J S Y r e G y=>by
  obtain⟨rfl,rfl⟩:=y;rw[pH] at Y;exact⟨U,.int (lo+i),by simp[w4,Y],r,qI.refl _,by simp only[av]⟩
 stop:=λi H U J S Y r e _=>by rw[pH] at Y;exact Y
def jJ (ds:Aa D):Al (Aa D):=match ds with
 |[.int j]=>if -(2 ^ 62)<=j/\j<2 ^ 62 then Ab (w4 0 j.toNat) else none
 |[.int i,.int j]=>if -(2 ^ 62)<=i/\i<2 ^ 62 /\ -(2 ^ 62)<=j/\j<2 ^ 62 then Ab (w4 i (j-i).toNat) else none
 |_=>none
def wZ (f:DA):DI:=λY S=>(f Y S).bind λJ S1=>v9 (jJ J) S1
def ym:D->Al Am
 |.int i=>Ab i
 |_=>none
theorem fV (h:ym d=Ab i):d=.int i:=by
 cases d with
 |int k=>exact congrArg D.int (Dg h)
 |_=>exact nn h
inductive vp:Aa D->Aa D->Prop
 |one (j:Am) (h : -(2 ^ 62)<=j/\j<2 ^ 62):vp [.int j] (w4 0 j.toNat)
 |two (i j:Am) (h : -(2 ^ 62)<=i/\i<2 ^ 62 /\ -(2 ^ 62)<=j/\j<2 ^ 62):vp [.int i,.int j] (w4 i (j-i).toNat)
theorem qAJ (d:D):jJ [d]=(ym d).bind λj=>if -(2 ^ 62)<=j/\j<2 ^ 62 then Ab (w4 0 j.toNat) else none:=by cases d <;> rfl
theorem qAK (d d':D):jJ [d,d']=(ym d).bind λi=>(ym d').bind λj=>if -(2 ^ 62)<=i/\i<2 ^ 62 /\ -(2 ^ 62)<=j/\j<2 ^ 62 then Ab (w4 i (j-i).toNat) else none:=by
 cases d with
 |int i=>cases d' <;> rfl
 |_=>rfl
theorem NZ (h:jJ ds=Ab ao):vp ds ao:=by
 cases ds with
 |nil=>exact nn h
 |cons d ds =>
  cases ds with
  |nil =>
   obtain⟨j,e,h⟩:=Ec.mp ((qAJ d).symm.trans h);obtain⟨c,rfl⟩:=jD h;rw[fV e];exact .one j c
  |cons J ds =>
   cases ds with
   |nil =>
    obtain⟨i,e,h⟩:=Ec.mp ((qAK d J).symm.trans h);obtain⟨j,G,h⟩:=Ec.mp h;obtain⟨c,rfl⟩:=jD h;rw[fV e,fV G];exact .two i j c
   |cons _ _ =>
    have U:∀ Y t,jJ (d::J::Y::t)=none:=λY t=>by cases d <;> first|rfl|(cases J <;> rfl)
    exact nn ((U _ _).symm.trans h)
theorem lN {P:Hp}{α:ag}{ds:Aa D}(r:qF K P α (.int i::ds) vs):∃ Y,vs=.int i::Y/\qF K P α ds Y:=by
 obtain⟨w,Y,rfl,p,t⟩:=r.cons_inv;exact⟨Y,congrArg (· :: Y) (by simpa only [av] using p),t⟩
theorem PI.weak {t t':TI}(h:PI X tg Y t)(w:∀ σ H R,t' σ H R->t σ H R):PI X tg Y t':=λJ s σ H R I q=>h J s σ H R I (w σ H R q)
end
section
variable {X:Cx}{tg:Cb}{f:DA}{p au:Fc}
theorem J0 {e:Cb}{es:Aa Cb}(l:Gl X "range")(hm:X.mg "range" = none)(n:PA X (e::es) (ko X f))(hs:Bn (e::es) X.env=(false,eval e X.env)::Bn es X.env:=by rfl)(U:(Gm au (Bn es X.env)).any (·.1)=false:=by rfl) :
  PI X tg (.Call (.Name "range" p) (e::es) [] au) (so X (wZ f)):=by
 intro aj s σ H R I h;obtain⟨P,α,al,S,r,y,k⟩:=h;refine Call_ (vP I l hm boot_range (Hw (bv (y9 n I r y k au) λus s1 ⟨vs,T,w,Y,x,S1,E,O,B,o,L,N,A,J⟩=>?_) hs U));obtain⟨ao,m,q⟩:=vY J;cases NZ m with
 |one j c =>
  obtain⟨d,rfl,G⟩:=lN L;cases G.nil_inv;obtain⟨u,rfl,t,rfl⟩:=kF O;refine call_range_1 (cC E om om c.1 c.2 ?_);have z:=q (xm 0 j.toNat) T w Y B N A dR;rw[Int.sub_zero];exact z
 |two i j c =>
  obtain⟨d,rfl,G⟩:=lN L;obtain⟨g,rfl,v⟩:=lN G;cases v.nil_inv;obtain⟨u,u',rfl,⟨t,rfl⟩,t',rfl⟩:=XE O;exact call_range_2 (cC E c.1 c.2.1 c.2.2.1 c.2.2.2 (q (xm i (j-i).toNat) T w Y B N A dR))
noncomputable def yZ (g:DG)(f:DS):Aa D->qE->aq->ir
 |[],G,S=>.nx G S
 |d::N,G,S=>(g d G S).toS G λJ S1=>match f J S1 with
  |.nx Y U=>yZ g f N Y U
  |.ct Y U=>yZ g f N Y U
  |.bk Y U=>.nx Y U
  |o=>o
def yH (J:DI)(g:DG)(f:DS):DS:=λY S=>(J Y S).toS Y λU S1=>yZ g f U Y S1
inductive rj (X:Cx)(P1:Hp)(α1:ag)(g:DG)(f:DS)(ds:Aa D)(D:Ends)(i m:Ai)(σ : _L.St)(H:Hp):Prop
 |mk (hi:i<=ds.length) (hm:m=ds.length-i) (P2:Hp) (α2:ag) (env2:qE) (S2:aq) (r:bf X.K H P2 α2 S2) (re:zD X.K P2 α2 σ env2) (e1:qI P1 P2) (e2:α1<+:α2) (af:zF X P2 α2 (yZ g f (ds.drop i) env2 S2) D):rj X P1 α1 g f ds D i m σ H
theorem SY {f:DS}(hp:Vz (As X.prog X.w) X.A X.env X.xe)(hc:X.calm=true)(hi:PI X tg bg (so X fi))(hg:PG X tg (pe X g))(hb:ip X cp (iq X f))
  (hs:∀ x,Gn bg X.env x=pure x:=by intro _;rfl):PS X (.For tg bg cp [] au) (iq X (yH fi g f)):=F_ (HR hp hc hi hg hb hs) λD σ H ⟨P,α,al,S,r,re,af⟩=>by
 refine⟨P,α,al,S,r,re,?_⟩;have O:=yI af;cases q:fi al S with
 |bad=>rw[q] at O;exact O
 |ex c x S'=>rw[q] at O;exact O
 |ok L S1 =>
  rw[q] at O;have zb:zF X P α (yZ g f L al S1) D:=O;intro J H1 P1 A r1 e1 e2 it;refine⟨rj X P1 A g f L D,
   ⟨L.length,Hi _,rfl,P1,A,al,S1,r1,re.mono e1 e2,qI.refl _,Br _,zF.base e1 e2 zb⟩,?_⟩
  rintro i m zl H2 ⟨hi,rfl,P2,B,E,s,r2,t,n,h,T⟩;by_cases N:i<L.length
  .refine .inr ⟨it.go i H2 P2 B s N r2 n h,rj X P1 A g f L D (i+1) (L.length-(i+1)),λzy H' w=>⟨_,?_,w⟩,λx H3 y=>?_⟩
   .omega
   .obtain⟨P3,d,hd,r3,e5,rp⟩:=it.yld i H2 x H3 P2 B s N r2 n h y
    have z:L.drop i=d::L.drop (i+1):=by
     rw[Fi N];rw[An N] at hd;rw[Dg hd]
    rw[z] at T;have G:=yI (zF.base e5 (Br _) T);refine⟨P3,B,E,s,d,r3,t.mono e5 (Br _),rp,?_⟩;cases q2:g d E s with
    |bad=>rw[q2] at G;exact G
    |ex c x S'=>rw[q2] at G;exact G
    |ok I S3 =>
     rw[q2] at G;intro z1 H4 P4 zx r4 zc e6 e7;refine⟨P4,zx,I,S3,r4,zc,?_⟩;have Y:=zF.base e6 e7 G;cases l:f I S3 with
     |bad=>simp only[l] at Y;exact Y
     |ex c x U o=>simp only[l] at Y;exact Y
     |rt d4 o=>simp only[l] at Y;exact Y
     |bk U o=>simp only[l] at Y;exact Y
     |nx U o =>
      simp only[l] at Y;exact λzs H5 P5 k r5 j e v=>⟨N,rfl,P5,k,U,o,r5,j,((n.trans e5).trans e6).trans e,(h.trans e7).trans v,zF.base e v Y⟩
     |ct U o =>
      simp only[l] at Y;exact λzs H5 P5 k r5 j e v=>⟨N,rfl,P5,k,U,o,r5,j,((n.trans e5).trans e6).trans e,(h.trans e7).trans v,zF.base e v Y⟩
  .have z:L.drop i=[]:=Jp om
   rw[z] at T;exact .inl ⟨it.stop i H2 P2 B s om r2 n h,T zl H2 P2 B r2 t (qI.refl _) (Br _)⟩
end
abbrev DF:=Aa D->aq->a_ D
section
variable {X:Cx}{x:Ar}{p au:Fc}{e:Cb}{es:Aa Cb}{F:DF}{fa:DA}
def qH (F:DF)(fa:DA):DE:=λY S=>(fa Y S).bind λJ S1=>F J S1
theorem d8 {σ:_L.St}{J P P1:Hp}{α Y:ag}{ds:Aa D}(B:xY X u F)(L:Inv X aj σ J U)(N:bf X.K J P1 Y S1)(T:qQ vs us)
  (G:qF X.K P1 Y ds vs) (e1:qI P P1) (e2:α<+:Y) (O:qO X P α (F ds S1) (jj X P α Q)):db X (call u us) (EP X aj σ Q) X.xe U:=B aj σ J U P1 Y S1 vs us ds Q L N T G (qX.base e1 e2 O)
theorem UU {id:Er}(N:xY X (.builtin id) F)(q:Gl X x)(hm:X.mg x=none)(hv:Gr x=Ab (.builtin id))(j:PA X (e::es) (ko X fa))(O:x ≠ "__name__":=by decide)(Y:(x == ("__debug__" : Ar))=false:=by decide)
  (B:Bn (e::es) X.env=(false,eval e X.env)::Bn es X.env:=by rfl) (U:(Gm au (Bn es X.env)).any (·.1)=false:=by rfl):PE X (.Call (.Name x p) (e::es) [] au) (tD X (qH F fa)):=by
 intro g s σ H Q I h;obtain⟨P,α,d,S,r,L,E⟩:=h;refine Jy (vP I q hm hv ?_ O Y);exact Qk (bv (y9 j I r L E au) λus l ⟨f,v,t,z,c,S1,A,o,G,w,T,y,k,J⟩=>d8 N A G o T y k J) B U
theorem W7 (N:xY X (.type T) F)(o:Gl X x)(hm:X.mg x=none)(hv:Gr x=Ab (.type T))(y:PA X (e::es) (ko X fa))(O:x ≠ "__name__":=by decide)(Y:(x == ("__debug__" : Ar))=false:=by decide)
  (B:Bn (e::es) X.env=(false,eval e X.env)::Bn es X.env:=by rfl) (U:(Gm au (Bn es X.env)).any (·.1)=false:=by rfl):PE X (.Call (.Name x p) (e::es) [] au) (tD X (qH F fa)):=by
 intro c s σ H Q I h;obtain⟨P,α,v,S,r,L,A⟩:=h;refine Jy (vP I o hm hv ?_ O Y);exact Hw (bv (y9 y I r L A au) λus g ⟨t,f,m,j,d,S1,w,l,G,z,E,k,q,J⟩=>d8 N w G l E k q J) B U
end
theorem zC.there {P:Bc}{a:Af}(x:zC P w H h a o):∃ J,h.get? a=Ab J:=by
 cases o with
 |lst G=>obtain⟨_,_,_,_,e⟩:=x;exact⟨_,e⟩
 |tup G=>obtain⟨_,_,_,J,e,_⟩:=x;exact⟨_,e⟩
 |dK Y=>obtain⟨_,_,_,_,o,_,_,e,_⟩:=x;exact⟨_,e⟩
 |dT Y=>obtain⟨_,_,_,_,o,_,_,e,_⟩:=x;exact⟨_,e⟩
 |set S n=>obtain⟨o,_,_,_,e,_⟩:=x;exact⟨_,e⟩
 |ins C N U=>obtain⟨_,_,_,e,_⟩:=x;exact⟨_,e⟩
 |own y=>obtain⟨_,e⟩:=x;exact⟨_,e⟩
 |xd U=>obtain⟨_,⟨_,_,_,e,_⟩,_⟩:=x;exact⟨_,e⟩
 |rng lo B=>obtain⟨_,_,_,e⟩:=x;exact⟨_,e⟩
 |frz J u=>obtain⟨e,_⟩:=x;exact⟨_,e⟩
 |tbl O=>exact⟨_,show h.get? a=Ab _ from x⟩
 |met f y=>exact⟨_,show h.get? a=Ab _ from x⟩
 |ext φ => obtain⟨_,e,_⟩:=x;exact e
section
variable {X:Cx}{aj:aa}{σ: _L.St}{H:Hp}{s:Ag}{B h':Bk}
abbrev kf (X:Cx):Prop:=X.ex=[]/\X.stack=X.env::X.outer/\X.env.frame=Ab X.env.locals
theorem kf.mem (F:kf X){b:Af}:b∈gx X.stack↔b=X.env.locals\/b∈X.fs:=by
 rw[F.2.1];unfold gx;rw[Gy,F.2.2];exact Ax
theorem qf.there (I:Inv X aj σ H s)(F:kf X){b:Af}(o:qf X aj H b):∃ Y,s.heap.get? b=Ab Y:=by
 rcases o with⟨o,e⟩|e|⟨p,J,rfl⟩|⟨x,e⟩
 .exact I.base.there b o e (by rw[F.1];simp)
 .cases q:H b with
  |none=>exact absurd q e
  |some u=>exact zC.there (I.hok b u q)
 .exact⟨_,(I.pin p J).1⟩
 .obtain⟨v,Y,U,_⟩:=I.cell x b e
  exact⟨Y,U⟩
theorem Inv.fly (I:Inv X aj σ H s)(F:kf X)(cv:Cv X aj H B s.heap)(st:B.StaysIn h')(up:s.heap.UpToSlots h'):Inv X aj σ H { s with heap:=h' } /\ Cv X aj H B h':=by
 have L:∀ b o,s.heap.get? b=Ab o->qf X aj H b->b ∉ gx X.stack->h'.get? b=Ab o:=λb o e q n=>st b o (cv b o e q n);have j:∀ b o,X.s₀.heap.get? b=Ab o->b≠X.env.locals:=λb o e=>Cw (Bi (Az e) I.ok.above);have O:∀ b o,X.s₀.heap.get? b=Ab o->b ∉ X.fs->b ∉ gx X.stack:=λb o e n z=>(F.mem.mp z).elim (j b o e) n;have nx:∀ b,b ∉ X.ex:=λb=>by rw[F.1];simp
 have N:∀ b,b∈gx X.stack->∀ o,s.heap.get? b=Ab o->∃ sl,h'.get? b=Ab { o with slots:=sl }:=λb hb o e=>by
  obtain⟨_,y,t,A⟩:=I.stack.mem hb;rw[e] at t;cases t;exact up b o e A
 have Y:∀ x c,X.env.cells.lookup x=Ab c->∀ v,s.heap.IsCell c v->h'.IsCell c v:=λx c e v ⟨o,ho,hd⟩=>by
  obtain⟨sl,q⟩:=up c o ho λvs z=>by rw[hd] at z;cases z
  exact⟨_,q,hd⟩
 refine⟨⟨I.ok,I.os,I.bare,⟨λb o e n hb G=>?_,λb o e n hb G=>?_,I.base.free,λb o e G=>?_,I.base.tups,I.base.frzs,I.base.tbls⟩,?_,λx c e=>?_,I.free,I.freeC,λp g=>?_,λa o e=>?_,I.len⟩,λb o e q n=>?_⟩
 .exact L b o (I.base.keep b o e n hb G) (.inl ⟨o,e⟩) (O b o e hb)
 .obtain⟨sl,J⟩:=I.base.slot b o e n hb G
  obtain⟨w,U⟩:=N b (F.mem.mpr (.inr hb)) _ J;exact⟨w,U⟩
 .obtain⟨y,J⟩:=I.base.there b o e G
  by_cases hb:b∈gx X.stack
  .obtain⟨sl,U⟩:=N b hb _ J
   exact⟨_,U⟩
  .exact⟨y,L b y J (.inl ⟨o,e⟩) hb⟩
 .obtain⟨m,T,hl⟩:=I.loc
  refine⟨m,up.ns T,λi x v J U E=>?_⟩;obtain⟨u,r,l⟩:=hl i x v J U E;refine⟨u,r,?_⟩;rcases l with l|⟨k,c,e,z⟩
  .exact .inl l
  .exact .inr ⟨k,c,e,Y x c e _ z⟩
 .obtain⟨v,z⟩:=I.cell x c e
  exact⟨v,Y x c e v z⟩
 .obtain⟨e,n,h,A,d⟩:=I.pin p g
  exact⟨L p.1 p.2 e (.inr (.inr (.inl ⟨p,g,rfl⟩))) λz=>(F.mem.mp z).elim h A,n,h,A,d⟩
 .refine(I.hok a o e).stay (λb u hb q=>?_) (λ_ q=>q) λ_ _ q=>q
  have T:H b≠none:=by
   rcases hb with rfl|hb
   .rw[e];intro z;cases z
   .rw[hb];intro z;cases z
  exact L b u q (.inr (.inl T)) λz=>T (I.stkFree b z)
 .obtain⟨f,J⟩:=qf.there I F q
  have U:=cv b f J q n;have E:=st b f U;rw[e] at E;cases E;exact U
theorem nQ (o:Co)(f:Aw Ad->Aw Ad):(o.mapFields f).dict=o.dict:=by
 obtain⟨c,d,Y,sl⟩:=o;cases Y <;> rfl
section
variable {M:Mf}{A:Bl}{E:ae}
theorem WC {al:Jk}{j:Aa Jk}{vs:Aw Ad}{head:Ad}{Y:Au}{Q:Po->Ag->Prop}(g:A.frames=Ab (al::j))(hl:s.heap.FunFrames B (al::j))(hf:al.frame=Ab L)(I:s.heap.get? e=Ab G)
  (l:B.StaysIn s.heap) (U:B.get? e=none) (hd:G.data=.fields vs) (hsz:1<vs.size) (h:∀ h',rn B (al::j) e G.cls G.dict (Kv L) h'->s.heap.UpToSlots h'->Q () { s with heap:=h' }) :
  Ao M A (do let a <- frameOf al;let pl <- entryPlaceOf L Y;let b <- Ya head a .none (Kv L) .none pl;AaT (.ref e) 1 b) Q E s:=by
 have ne:e ∉ (al::j).filterMap (·.frame):=λz=>by
  obtain⟨_,o,m,N⟩:=hl.mem z;rw[I] at m;cases m;exact N vs hd
 refine Ac (wpAny_frameOf_fun g hl hf λJ k=>Ac (wpAny_entryPlaceOf λpl O=>?_));unfold Ya newFields;refine Ac (Dq ?_ (O.sizeOk5 _ _ _ _ _));generalize x:({ cls:=.type "traceback",dict:=none,data:=.fields ([head,.ref L,.none,Kv L,.none]++(if pl.isEmpty then Ja 6 Dj else pl)).toArray } : Co)=T
 obtain⟨y,t,h3⟩:∃ y,T.data=.fields y/\y[3]? = Ab (Kv L):=⟨_,by rw[<- x],by first|(simp;done)|(rcases O with rfl|⟨_,_,_,_,_,_,_,rfl⟩ <;> simp)⟩
 have fT:T.isFreed=false:=Mi t;have f:J.get? e=Ab G:=(k.2.1 e ne).trans I;have r:=Aj (h:=J) T f;have d:J.objs.size≠e:=Hd (Az f);have c:∀ b o,b≠e->J.get? b=Ab o->((J.push T).update e (Ma (·.setIfInBounds 1 (Cc J.objs.size)))).get? b=Ab o:=λb o n q=>by
  rw[Bt _ _ (Dw n)];exact Aj _ q
 refine Jw r hd hsz (h _ ?_ ?_)
 .have i:B.StaysIn J:=λb o q=>(k.2.1 b λz=>by rw[(hl.mem z).1] at q;cases q).trans (l b o q)
  have v:=Ls hd (·.setIfInBounds 1 (Cc J.objs.size))
  refine⟨λb o q=>c b o (λz=>by rw[z,U] at q;cases q) (i b o q),U,hl.of_keeps λb o q N=>?_,.mk _ _ J.objs.size T y (DL _ r (Mi v)) (v6 _ _) (nQ _ _) v (by simp[hsz]) i.fresh d ((Bt _ _ (Dw d)).trans (Bf J fT)) t h3⟩
  obtain⟨sl,z⟩:=k.2.2 b o q;exact⟨_,c b _ (λw=>by rw[w,I] at q;cases q;exact N vs hd) z,rfl⟩
 .intro b o q N
  obtain⟨sl,z⟩:=k.2.2 b o q;exact⟨sl,c b _ (λw=>by rw[w,I] at q;cases q;exact N vs hd) z⟩
theorem WS {l:Aa Jk}{fl v:Ad}(x:rn B l e c dd fl h):∃ J vs T O U,h.get? e=Ab J/\J.cls=c/\J.dict=dd/\J.data=.fields vs/\vs[1]? = Ab (.ref T)/\h.get? T=Ab O/\O.data=.fields U/\U[3]? = Ab fl /\
  rn B l e c dd v (h.update T (Ma (·.setIfInBounds 3 v)))/\h.UpToSlots (h.update T (Ma (·.setIfInBounds 3 v))):=by
 obtain⟨t,m,i,J,vs,T,O,U,k,j,N,y,r,g,f,I,Y,d⟩:=x;have L:∀ b,b≠T->(h.update T (Ma (·.setIfInBounds 3 v))).get? b=h.get? b:=λb n=>Bt _ _ (Dw n)
 have w:∀ b o,h.get? b=Ab o->(∀ vs,o.data≠.fields vs)->b≠T:=λb o q G z=>by rw[z,I] at q;cases q;exact G U Y
 refine⟨J,vs,T,O,U,k,j,N,y,r,I,Y,d,⟨λb o q=>(L b λz=>by rw[z,g] at q;cases q).trans (t b o q),m,i.of_keeps λb o q G=>⟨o,(L b (w b o q G)).trans q,rfl⟩,.mk J vs T _ _ ((L e (Dw f)).trans k) j N y r g f (DL _ I (Mi (Ls Y _))) (Ls Y _) ?_⟩,λb o q G=>⟨o.slots,(L b (w b o q G)).trans q⟩⟩
 simp[(Dh.mp d).1]
theorem ZC {l:Aa Jk}{fl:Ad}{Q:Po->Ag->Prop}(x:rn B l e c dd fl s.heap)(N:∀ h',rn B l e c dd .none h'->s.heap.UpToSlots h'->Q () { s with heap:=h' }) : Ao M A (We (.ref e) none) Q E s:=by
 obtain⟨w,j,T,z,I,G,_,_,U,L,J,Y,O,k,up⟩:=WS (v:=.none) x;unfold We;refine Ac (Du G U L ?_);rw[Ay (show (Cc T != Dj)=true from by simp)]
 exact Jw J Y (Dh.mp O).1 (N _ k up)
end
theorem BL {M:Mf}{A:Bl}{E:ae}{Q:Po->Ag->Prop}(I:Inv X aj σ H s)(F:kf X)(d:A.frames=Ab X.stack)(f:kn X aj H c dd e s.heap)
  (r:∀ h' B,rn B X.stack e c dd (Kv X.env.locals) h'->Cv X aj H B s.heap->s.heap.UpToSlots h'->Q () { s with heap:=h' }) : Ao M A (Td (.ref e) X.env) Q E s:=by
 have z:=F.2.1;rw[z] at d;unfold Td;simp only[F.2.2];cases f with
 |new ob t J l Y N no nf =>
  subst l Y;refine Ac (Du J N (x:=.none) rfl ?_);rw[AT da]
  have j:=PySem.W.funFrames_hide (as:=e::gx X.stack) I.stack λal J a ha=>Cd _ (Lp.mpr ⟨al,J,ha⟩);have L:Cv X aj H (Nt s.heap (e::gx X.stack)) s.heap:=λb o q h n=>Xn _ q λw=>(Ax.mp w).elim (λw=>no (w▸h)) n;have O:(Nt s.heap (e::gx X.stack)).get? e=none:=Xd _ Dm;have k4:(Nt s.heap (e::gx X.stack)).StaysIn s.heap:=λb o q=>Yx _ q;generalize Nt s.heap (e::gx X.stack)=B at j L O k4;exact WC d (z▸j) F.2.2 J k4 O N a8 λh' k up=>r h' B (z▸k) L up
 |fly B fl cv =>
  obtain⟨oe,vs,T,oT,ts,J,l,Y,N,h1,hT,G,h3,k,up⟩:=WS (v:=.none) fl;subst l Y;refine Ac (Du J N h1 ?_);rw[Ay (show (Cc T != Dj)=true from by simp)]
  refine Ac (Du hT G h3 ?_);rw[AT (show ¬((Dj == Kv X.env.locals)=true) from by simp[Kv])]
  refine Ac (Jw hT G (Dh.mp h3).1 ?_);obtain⟨j,L,O,zl,zc,_,_,_,g,zb,U,i,m,_⟩:=k;rw[<- zb,<- U] at r;exact WC (z▸d) (z▸O) F.2.2 g j L i (Dh.mp m).1 λh' y u=>r h' B (z▸y) cv (up.trans u)
theorem YB {M:Mf}{A:Bl}{E:ae}{Q:Po->Ag->Prop}(I:Inv X aj σ H s)(F:kf X)(z:A.frames=Ab X.stack)(f:kn X aj H c dd e s.heap)
  (y:∀ h' B,rn B X.outer e c dd .none h'->Inv X aj σ H { s with heap:=h' } -> Cv X aj H B h'->Q () { s with heap:=h' }) : Ao M A (leaving X.env (.ref e)) Q E s:=by
 unfold leaving;refine Ac (BL I F z f λw B k N O=>ZC (s:={ s with heap:=w }) k λG U q=>?_)
 obtain⟨L,Y⟩:=Inv.fly I F N U.1 (O.trans q);obtain⟨j,o,J,T⟩:=U;rw[F.2.1] at J;exact y G B ⟨j,o,J.2.2,T⟩ L Y
end
def m_ (P:Bc)(w:Bu):ue:=λU H s E u Y =>
 ∃ e c dd J B,u=.ref e/\Y.os=s.os/\Ps Y.gens/\Un (gx U) [] H J s.heap Y.heap/\gt P w J Y.heap/\rn B U e c dd .none Y.heap /\
  (∀ b o,Y.heap.get? b=Ab o->((∃ o,s.heap.get? b=Ab o)\/J b≠none)->b ∉ gx U->B.get? b=Ab o)/\E c dd J
section
variable {X:Cx}{aj:aa}{σ: _L.St}{H:Hp}{s s':Ag}
theorem RJ (I:Inv X aj σ H s)(F:kf X)(h:m_ X.prog X.w X.stack H s E u s'):∃ e c dd H',u=.ref e/\Inv X aj σ H' s'/\kn X aj H' c dd e s'.heap/\E c dd H':=by
 obtain⟨e,c,dd,H',B,rfl,os,Y,L,U,fl,J,q⟩:=h;have w:Inv X aj σ H' s':=Inv.call' I os L U Y (ch:=[]) λb z=>absurd z a8
 refine⟨e,c,dd,H',rfl,w,.fly B fl λb o O G n=>J b o O ?_ n,q⟩;rcases G with⟨o,z⟩|z|⟨p,N,rfl⟩|⟨x,z⟩
 .exact .inl (I.base.there b o z (by rw[F.1];simp))
 .exact .inr z
 .exact .inl ⟨_,(I.pin p N).1⟩
 .obtain⟨v,T,A,_⟩:=I.cell x b z
  exact .inl ⟨T,A⟩
end
structure ay (cm:Au)(k:Ai)(A:Bl):Prop where
 hd:cm=true->A.handled=none
 dp:A.depth+3*k+5<Ro
 un:A.units+16*k+200<Ed
 gd:A.guards=Ab []
theorem ay.mono {j k:Ai}(r:ay cm k A)(h:j<=k:=by decide):ay cm j A:=⟨r.hd,by have:=r.dp;fin2,by have:=r.un;fin2,r.gd⟩
theorem ay.deeper {k:Ai}(r:ay cm (k+1) A)(al:Jk):ay cm k (A.deeper al):=
 ⟨r.hd,by have:=r.dp;show A.depth+1+3*k+5<_;fin2,by have:=r.un;show A.units+3+16*k+200<_;fin2,r.gd⟩
theorem ay.depth {k:Ai}(r:ay cm k A):A.depth<Ro:=by have:=r.dp;fin2
theorem ay.units {k:Ai}(r:ay cm k A):A.units+64<Ed:=by have:=r.un;fin2
theorem ay.of {k:Ai}(r:gp k A):ay true k A:=⟨λ_=>r.hd,r.dp,r.un,r.gd⟩
theorem ay.any {k:Ai}(r:ay cm k A):ay false k A:=⟨(λz=>nomatch z),r.dp,r.un,r.gd⟩
theorem ay.mark {k:Ai}(r:ay cm k A)(h:Al Ad):ay false k (A.mark h):=⟨(λz=>nomatch z),r.dp,r.un,r.gd⟩
noncomputable abbrev Cx.re (X:Cx)(A:Bl)(cm:Au)(E:ae):Cx:={ X with A:=A,calm:=cm,xe:=E }
theorem Inv.re {X:Cx}{σ:_L.St}(I:Inv X aj σ H s)(A:Bl)(cm:Au)(E:ae)(Y:A.frames=Ab X.stack)(J:cm=true->A.handled=none):Inv (Cx.re X A cm E) aj σ H s:=
 ⟨⟨I.ok.mod,I.ok.kind,I.ok.glob,I.ok.blt,I.ok.above,I.ok.inj,I.ok.has,I.ok.cab,J,Y,I.ok.stk,I.ok.exf,I.ok.bs,I.ok.bsz,I.ok.noex,I.ok.exfs,I.ok.funs,I.ok.frf⟩,I.os,I.bare,I.base,I.loc,I.cell,I.free,I.freeC,I.pin,I.hok,I.len⟩
theorem Inv.unre {X:Cx}{σ:_L.St}(I:Inv (Cx.re X A cm E) aj σ H s)(Y:X.A.frames=Ab X.stack)(J:X.calm=true->X.A.handled=none):Inv X aj σ H s:=
 ⟨⟨I.ok.mod,I.ok.kind,I.ok.glob,I.ok.blt,I.ok.above,I.ok.inj,I.ok.has,I.ok.cab,J,Y,I.ok.stk,I.ok.exf,I.ok.bs,I.ok.bsz,I.ok.noex,I.ok.exfs,I.ok.funs,I.ok.frf⟩,I.os,I.bare,I.base,I.loc,I.cell,I.free,I.freeC,I.pin,I.hok,I.len⟩
structure nq (P:Bc)(w:Bu)(K:Ah)(mg:ah)(base:Bk)(cm:Au)(k:Ai)(f:Af)(fd:Gd)(ps:Aa Ar)(sp:Sp):Prop where
 len:∀ vs H Q E,sp vs H Q E->vs.length=ps.length
 run:∀ (A:Bl) (outer:Aa Jk) (s:Ag) (H:Hp) (args:Args) (us:ai) (vs:Aa V) (Q:VK) (E:XK),ay cm k A->md P w K mg base A outer s H->Pv s fd args (ps.zip us)->qQ vs us->sp vs H Q E ->
  Ht (As P w) A (.call (.ref f) args) (CR (m_ P w) outer P w H s Q E) s
theorem nq.ok {P:Bc}{K:Ah}{base:Bk}{k:Ai}(F:nq P w K mg base true k f fd J sp):my P w K mg base (m_ P w) k f fd J sp:=
 ⟨F.len,λA G s H Y us N Q E U=>F.run A G s H Y us N Q E (.of U)⟩
theorem nq.any {P:Bc}{K:Ah}{base:Bk}{k:Ai}(F:nq P w K mg base false k f fd J sp):nq P w K mg base cm k f fd J sp:=
 ⟨F.len,λA G s H Y us N Q E U=>F.run A G s H Y us N Q E U.any⟩
theorem nq.imp {P:Bc}{K:Ah}{base:Bk}{k:Ai}{J:Sp}(F:nq P w K mg base cm k f fd U sp)
  (h:∀ vs H Q E,J vs H Q E->sp vs H Q E):nq P w K mg base cm k f fd U J:=
 ⟨λvs H Q E q=>F.len vs H Q E (h _ _ _ _ q),λA O s H Y us vs Q E G N B hv L=>F.run A O s H Y us vs Q E G N B hv (h _ _ _ _ L)⟩
noncomputable def ls (cm:Au)(P:Bc)(w:Bu)(K:Ah)(mg:ah)(base:Bk)(N:Aa Ar)(J:Ar)(am:Fq)(f:Af)(U:Ad)(A:Bl)(G:Aa Jk)(s:Ag)(H:Hp)(E:XK):Cx where
 prog:=P
 w:=w
 K:=K
 mg:=mg
 base:=base
 A:=A.deeper (Hq J am s.heap.objs.size f U)
 N:=N
 s₀:=s
 H₀:=H
 env:=Hq J am s.heap.objs.size f U
 outer:=G
 stack:=Hq J am s.heap.objs.size f U::G
 ex:=[]
 calm:=cm
 fn:=λ_=>true
 pn:=[]
 xe:=λe O=>Ao (As P w) (A.deeper (Hq J am s.heap.objs.size f U)) (leaving (Hq J am s.heap.objs.size f U) e) (λ_ Y=>m_ P w G H s E e Y) (λB Y=>m_ P w G H s E B Y) O
section
variable {P:Bc}{w:Bu}{K:Ah}{mg:ah}{base:Bk}{cm:Au}{N:Aa Ar}{ba:Ar}{am:Fq}{f:Af}{cd:Ad}{A:Bl}{ar:Aa Jk}{s:Ag}{H:Hp}{E:XK}
theorem UR:Vz (As P w) (A.deeper (Hq ba am s.heap.objs.size f cd)) (Hq ba am s.heap.objs.size f cd) (ls cm P w K mg base N ba am f cd A ar s H E).xe:=PassesOwn.leaving (Q₁:=λe Y=>m_ P w ar H s E e Y)
abbrev zv (P:Bc)(w:Bu)(A:Bl)(al:Jk)(ar:Aa Jk)(H:Hp)(s:Ag)(E:XK):Ad->Ag->Prop:=λe J=>Ao (As P w) (A.deeper al) (leaving al e) (λ_ Y=>m_ P w ar H s E e Y) (λU Y=>m_ P w ar H s E U Y) J
theorem US {X:Cx}{α:ag}(d:X.A=A.deeper X.env)(k:vn X T α c x S u s')
  (q:∀ H' G Y dd,bf X.K H' G Y S->qI T G->α<+:Y->wk X.K G Y c x dd->E c dd H'):zv X.prog X.w A X.env X.outer X.H₀ X.s₀ E u s':=by
 obtain⟨e,a,σ,O,t,U,rfl,I,r,l,g,F,dd,fl,i⟩:=k;unfold zv;rw[<- d];refine YB I F I.ok.frames fl λh B m J j=>?_;refine⟨e,c,dd,O,B,rfl,J.os,J.bare,by have z:=J.base;rw[F.1] at z;exact z,J.hok,m,λb o y L n=>j b o y ?_ λz=>?_,q O t U dd r l g i⟩
 .rcases L with z|z
  .exact .inl z
  .exact .inr (.inl z)
 .rcases (kf.mem F).mp z with z|z
  .subst z
   rcases L with⟨o',v⟩|z
   .exact absurd (Az v) (Me.mpr J.ok.above)
   .exact z J.free
  .exact n z
theorem Z2 {G:Ag}{vs:Aa V}(S:ci N U am)(hd:cm=true->A.handled=none)(Y:md P w K mg base A ar s H)(hl:vs.length=U.length)(r:qQ vs us)
  (x:InCallC s s.heap.objs.size (Xq (Hq ba am s.heap.objs.size f cd).kindOf (U.zip us) λ_=>none) (Io (s.heap.objs.size+1) am.names []) (Xr (Hq ba am s.heap.objs.size f cd).kindOf (U.zip us) λ_=>none) G) :
  Inv (ls cm P w K mg base N ba am f cd A ar s H E) [] (_L.w5 N vs) H G:=by
 have I:=dQ (CX:=m_ P w) (E:=E) (A:={ A with handled:=none }) S rfl ⟨Y.frames,Y.mod,Y.bs,Y.bsz,Y.funs,Y.frf,Y.hok,Y.bare⟩ hl r x
 have J:=Inv.re I (A.deeper (Hq ba am s.heap.objs.size f cd)) cm (ls cm P w K mg base N ba am f cd A ar s H E).xe (Xe Y.frames) hd;exact J
end
theorem RK {P:Bc}{w:Bu}{K:Ah}{mg:ah}{base:Bk}{cm:Au}{k:Ai}{f:Af}{T:Ar}{il:Wb}{am:Fq}{oc:Ad}{an:Al Af}{i:Aw (Al Ad)}{x:Ar}{kV j pm Y ct:Ad}{N c:Aa Ar}
  {A:Bl} {L:Aa Jk} {s:Ag} {H:Hp} {G:Args} {us:ai} {vs:Aa V} {Q:VK} {E:XK} (lk:K.lookup f=Ab ⟨oc,od,.func (Gf x T il cp am .none kV j pm an Y ct),i⟩) (m:Kz K Y T=true) (S:ci N c am) (hl:vs.length=c.length) (h:ay cm (k+1) A)
  (g:md P w K mg base A L s H) (hb:Pv s (Gf x T il cp am .none kV j pm an Y ct) G (c.zip us)) (r:qQ vs us)
  (B:∃ t,ip (ls cm P w K mg base N T am f Y A L s H E) cp t/\t { nx:=λ_ H'=>Q .non H',rt:=Q } (_L.w5 N vs) H) :
  Ht (As P w) A (.call (.ref f) G) (CR (m_ P w) L P w H s Q E) s:=by
 have KX:K.In s.heap:=g.mod.kin.keeps λb o e=>(g.bs b o e).1;have bi:s.heap.NoLimit:=g.mod.nolimit.keeps λb o e=>(g.bs b o e).1;have O:∀ y∈c.zip us,am.names.lookup y.1=Ab .local \/ (am.names.lookup y.1=Ab .cell/\((Io (s.heap.objs.size+1) am.names []).lookup y.1).isSome=true):=λ⟨n,v⟩ hy=>by
  rcases S.par n (Qq hy).1 with q|q
  .exact .inl q
  .exact .inr ⟨q,Ly _ _ _ (.inl q)⟩
 refine Wc h.depth (KX _ _ lk) rfl S.co S.gen rfl (Za KX m) (hb _ _ _ _ ?_);refine Sj S.kind O λal he s1 x=>?_;subst he;refine⟨bi.keeps x.toInCall.keep,codeAny_func ?_⟩;obtain⟨t,ht,hq⟩:=B;have I:Inv (ls cm P w K mg base N T am f Y A L s H E) [] (_L.w5 N vs) H s1:=Z2 S h.hd g hl r x;refine Fd (ht [] s1 (_L.w5 N vs) H _ I hq) (λfl d z=>?_) λe d z=>z;have l:∀ {U : _L.St} {H':Hp} {v:V} {u:Ad},Inv (ls cm P w K mg base N T am f Y A L s H E) [] U H' d->qL v u->Q v H'->CE L P w H s Q u d:=
  λ{U H' v u} J a q=>⟨v,H',J.os,J.bare,J.base,J.hok,a,q⟩
 cases fl with
 |ret u =>
  obtain⟨v,U,H',J,a,q⟩:=z;exact l J a q
 |next =>
  obtain⟨U,H',J,q⟩:=z;exact l (v:=V.non) (u:=Dj) J rfl q
 |brk =>
  obtain⟨_,_,_,q⟩:=z;exact Aq q
 |cont =>
  obtain⟨_,_,_,q⟩:=z;exact Aq q
def fU (K:Ah)(x:Ar)(Y:Ad):Prop:=∀ c T,Ey K x=Ab (c,T)->Y=.ref c
theorem WT {P:Bc}{w:Bu}{K:Ah}{mg:ah}{base:Bk}{cm:Au}{k:Ai}{st:Et}(F:rk K x L st f fd)(S:ci N O (qM st))
  (G:∀ vs H Q E,sp vs H Q E->vs.length=O.length)
  (J:∀ (Y:Ad) (A:Bl) (B:Aa Jk) (s:Ag) (H:Hp) (vs:Aa V) (Q:VK) (E:XK),fd.code=Y/\Mod K mg base->ay cm k (A.deeper (Hq L (qM st) s.heap.objs.size f Y))->sp vs H Q E ->
   ∃ t,ip (ls cm P w K mg base N L (qM st) f Y A B s H E) (zJ st) t/\t { nx:=λ_ H'=>Q .non H',rt:=Q } (_L.w5 N vs) H) :
  nq P w K mg base cm (k+1) f fd O sp:=by
 obtain⟨d,od,kV,y,l,g,Y,c,q,rfl,lk,T⟩:=F.ex;exact⟨G,λA B s H z us vs Q E I j o r U=>RK lk T S (G _ _ _ _ U) I j o r (J Y A B s H vs Q E ⟨rfl,j.mod⟩ (I.deeper _) U)⟩
def wW (n:Ai)(ds:Aa D):qE:=ds.map Ab++Ja (n-ds.length) none
noncomputable def KQ:ir->a_ D
 |.rt d S=>.ok d S
 |.nx _ S=>.ok .non S
 |.ex c x _ S=>.ex c x S
 |_=>.bad
def qR (n:Ai)(g:DS):DF:=λY S=>KQ (g (wW n Y) S)
def y_ (K:Ah)(P:Hp)(α : Aa Af)(R:a_ D)(Q:VK)(E:XK):Prop:=match R with
 |.ok d G=>∀ v U J Y,bf K U J Y G->qI P J->α<+:Y->av K J Y d v->Q v U
 |.ex c x G=>∀ U J Y dd,bf K U J Y G->qI P J->α<+:Y->wk K J Y c x dd->E c dd U
 |.bad=>Fp
def ug (K:Ah)(n:Ai)(F:DF):Sp:=λJ H Q E=>J.length=n/\∃ P α Y S,bf K H P α S/\qF K P α Y J/\y_ K P α (F Y S) Q E
theorem ZW {K:Ah}{P:Hp}{α:ag}(r:qF K P α ds vs):zD K P α (_L.w5 N vs) (wW N.length ds):=by
 refine⟨by simp[wW,_L.w5,r.length],λi d e=>?_⟩
 unfold wW at e;unfold _L.w5;by_cases Y:i<ds.length
 .rw[Bo (by simpa using Y),Ee] at e
  rw[Bo (by rw[Ap,<- r.length];exact Y),Ee]
  cases q:ds[i]? with
  |none=>rw[q] at e;cases e
  |some G =>
   rw[q] at e;cases e;obtain⟨v,U,J⟩:=r.get q;exact⟨v,by rw[U];rfl,J⟩
 .rw[Dk (by simpa using Y),Ow] at e
  split at e <;> cases e
section
variable {P:Bc}{w:Bu}{K:Ah}{mg:ah}{base:Bk}{cm:Au}
theorem UH {H T:Hp}{α:ag}{ds:Aa D}{vs:Aa V}{S':aq}(n:ip (ls cm P w K mg base N y am f U A I s H E) cp (iq (ls cm P w K mg base N y am f U A I s H E) g))
  (r:bf K H T α S') (m:qF K T α ds vs) (Y:y_ K T α (qR N.length g ds S') Q E):∃ t,ip (ls cm P w K mg base N y am f U A I s H E) cp t/\t { nx:=λ_ H'=>Q .non H',rt:=Q } (_L.w5 N vs) H:=by
 refine⟨_,n,T,α,wW N.length ds,S',r,ZW m,?_⟩;unfold qR at Y;cases q:g (wW N.length ds) S' with
 |rt d S1=>rw[q] at Y;exact λv H' L J O G B k=>Y v H' L J O G B k
 |nx j S1=>rw[q] at Y;exact λl H' L J O o G B=>Y .non H' L J O G B (by simp only[av])
 |bk j S1=>rw[q] at Y;exact Aq Y
 |ct j S1=>rw[q] at Y;exact Aq Y
 |ex c x j S1=>rw[q] at Y;exact λu i z=>US (A:=A) rfl z λH' L J dd O G B=>Y H' L J dd O G B
 |bad=>rw[q] at Y;exact Aq Y
theorem fnX {st:Et}{k:Ai}{g:DS}(F:rk K x G st f fd)(S:ci N O (qM st))
  (J:∀ (Y:Ad) (A:Bl) (U:Aa Jk) (s:Ag) (H:Hp) (E:XK),fd.code=Y/\Mod K mg base->ay cm k (A.deeper (Hq G (qM st) s.heap.objs.size f Y)) ->
   ip (ls cm P w K mg base N G (qM st) f Y A U s H E) (zJ st) (iq (ls cm P w K mg base N G (qM st) f Y A U s H E) g)) :
  nq P w K mg base cm (k+1) f fd O (ug K O.length (qR N.length g)):=by
 refine WT F S (λz H Q E h=>h.1) λY A U s H z Q E L B h=>?_;obtain⟨q,o,α,j,y,r,T,I⟩:=h;exact UH (J Y A U s H E L B) r T I
end
section
variable {X:Cx}{cm:Au}{k:Ai}{f:Af}{fd:Gd}{ps:Aa Ar}{F:DF}{x:Ar}{p au:Fc}{e:Cb}{es:Aa Cb}{fa:DA}{n:Ai}
def qP (n:Ai)(F:DF)(fa:DA):DE:=λJ S=>(fa J S).bind λY S1=>if Y.length=n then F Y S1 else .bad
def EX (X:Cx)(P:Hp)(α : Aa Af)(R:a_ D):XK:=λc dd N=>match R with
 |.ex U x G=>c=U/\∃ J Y,bf X.K N J Y G/\qI P J/\α<+:Y/\wk X.K J Y c x dd
 |_=>Fp
theorem A4 {P:Hp}{α:ag}{R:a_ D}(J:qX X P α R Q):y_ X.K P α R Q (EX X P α R):=by
 cases R with
 |ok d O=>exact J
 |ex c x O=>exact λT L Y dd N B U G=>⟨rfl,L,Y,N,B,U,G⟩
 |bad=>exact J
theorem UJ {σ:_L.St}{P:Hp}{α:ag}{R:a_ D}(E:(∃ c x S',R=.ex c x S')->kf X)(I:Inv X aj σ H s)(U:qX X P α R Q)
  (h:Ht (As X.prog X.w) X.A (.call u ⟨us,[]⟩) (CR (m_ X.prog X.w) X.stack X.prog X.w H s Q (EX X P α R)) s):db X (call u us) (EP X aj σ Q) X.xe s:=by
 refine Nl (My h λr O Y=>?_);cases r with
 |error u =>
  have Y:m_ X.prog X.w X.stack H s (EX X P α R) u O:=Y;cases R with
  |ok d S'=>obtain⟨_,_,_,_,_,_,_,_,_,_,_,_,q⟩:=Y;exact Aq q
  |bad=>exact Aq U
  |ex y j S' =>
   have G:=E ⟨_,_,_,rfl⟩;obtain⟨a,c,dd,z,rfl,w,fl,rfl,T,J,A,L,N,B⟩:=RJ I G Y;exact U _ _ ⟨a,aj,σ,z,T,J,rfl,w,A,L,N,G,dd,fl,B⟩
 |ok fl =>
  cases fl with
  |ret u=>exact I.after Y
  |next=>exact Aq Y
  |brk=>exact Aq Y
  |cont=>exact Aq Y
theorem L4 {aj:aa}{σ:_L.St}{H:Hp}{s:Ag}{vs:Aa V}{P:Hp}{α:ag}{ds:Aa D}(G:nq X.prog X.w X.K X.mg X.base cm k f fd ps (ug X.K n F))(B:ay cm k X.A)(E:u3 X.K fd ps [])(A:kf X)
  (I:Inv X aj σ H s) (r:bf X.K H P α S) (O:qQ vs us) (U:qF X.K P α ds vs) (L:ds.length=n) (N:qX X P α (F ds S) Q):db X (call (.ref f) us) (EP X aj σ Q) X.xe s:=by
 have J:ug X.K n F vs H Q (EX X P α (F ds S)):=⟨by rw[<- U.length];exact L,P,α,ds,S,r,U,A4 N⟩
 have T:us.length=ps.length:=by rw[<- O.length];exact G.len _ _ _ _ J
 have Y:=E s us I.kIn (by rw[Gs];exact T)
 rw[Gs] at Y;exact UJ (λ_=>A) I N (G.run X.A X.stack s H ⟨us,[]⟩ us vs Q _ B I.env0 Y O J)
theorem dE {al:qE}{S:aq}{P:Hp}{α:ag}{ds:Aa D}{Ok:D->aq->Prop}(h:qO X P α (if ds.length=n then F ds S1 else .bad) Ok):ds.length=n/\qO X P α (F ds S1) Ok:=by
 by_cases Y:ds.length=n
 .rw[Ay Y] at h;exact⟨Y,h⟩
 .rw[AT Y] at h;exact Aq h
theorem FN (G:nq X.prog X.w X.K X.mg X.base cm k f fd ps (ug X.K n F))(T:ay cm k X.A)(v:kf X)(d:Gl X x)(hm:X.mg x=Ab (.ref f))(L:Ff X.K (.ref f)=true)(o:u3 X.K fd ps [])
  (l:PA X (e::es) (ko X fa)) (Y:(x == ("__debug__" : Ar))=false:=by decide) (A:Bn (e::es) X.env=(false,eval e X.env)::Bn es X.env:=by rfl) (N:(Gm au (Bn es X.env)).any (·.1)=false:=by rfl) :
  PE X (.Call (.Name x p) (e::es) [] au) (tD X (qP n F fa)):=by
 intro i s σ H Q I h;obtain⟨P,α,al,S,r,w,j⟩:=h;refine Jy (uW I d hm ?_ Y);refine Ze (h₀:=X.base) I.ok.mod.kin L (bv (y9 l I r w j au) λus m ⟨vs,a,P1,q,b,S1,O,t,B,y,z,g,c,U⟩=>⟨O.kIn,?_⟩) A N;obtain⟨E,J⟩:=dE (al:=al) (S:=S) U;exact L4 G T o v O B t z E (qX.base g c J)
end
noncomputable abbrev kG:Aa Ad:=[.type "ValueError",.type "Exception",.type "BaseException",.type "object"]
noncomputable def O7:Ad->Au
 |.str _ _=>true
 |_=>false
def rF (K:Ah)(N:Af):Au:=match Ld N K with
 |some o=>match o.data with
  |.dict Y _=>Y.toList.all λe=>O7 e.key
  |_=>false
 |none=>false
def uX (K:Ah)(N:Af):Au:=rF K N&&decide (Do K N "__init__" = Ab none)
theorem cQ {K:Ah}(h1:rF K N=true):Wv K N=true:=by
 unfold rF at h1;unfold Wv;cases e:Ld N K with
 |none=>rw[e] at h1;cases h1
 |some o =>
  rw[e] at h1;obtain⟨G,od,Y,sl⟩:=o;cases Y with
  |dict J U =>
   simp only at h1 ⊢;rw[Array.all_toList] at h1;refine Eq.trans (congrArg (λf=>Array.all J f) (funext λe=>?_)) h1;cases e.key <;> rfl
  |_=>cases h1
theorem xO {K:Ah}(h:uX K N=true):Wv K N=true/\Do K N "__init__" = Ab none:=by
 unfold uX at h;rw[Bj,Ce] at h;exact⟨cQ h.1,h.2⟩
def fB (K:Ah)(C:Af)(f:Ad->wE->Aw (Al Ad)->Au):Au:=match Ld C K with
 |some o=>(match o.data with|.cls Y=>f o.cls Y o.slots|_=>false)
 |none=>false
theorem pD {K:Ah}{f:Ad->wE->Aw (Al Ad)->Au}(h:fB K C f=true):∃ J od Y sl,Ld C K=Ab ⟨J,od,.cls Y,sl⟩/\f J Y sl=true:=by
 unfold fB at h;cases e:Ld C K with
 |none=>rw[e] at h;exact Dt h
 |some o =>
  rw[e] at h;obtain⟨J,od,U,sl⟩:=o;cases U with
  |cls Y=>exact⟨J,od,Y,sl,rfl,h⟩
  |_=>exact Dt h
def m8 (K:Ah)(C A:Af):Au:=fB K C λJ Y sl=>fB K A λ_ ca _=>decide (J=.type "type")&&(decide (Y.mro=.ref C::.ref A::kG)&&(!Y.hasDel&&(uX K Y.ns&&(uX K ca.ns&&(decide (sl.toList.length=6)&&decide (sl.toList[4]? = Ab (Ab (.builtin "ValueError.__new__"))))))))
inductive vz (h:Bk)(C:Af):Prop
 |mk (nm q:Ar) (N:Af) (bs bm:ai) (hdct:Au) (sn:Aa Ar) (sub:ai) (ab:Au) (col:Al Au) (dd:Al Af) (k0 k1 k2 k3 k5:Al Ad) (mN:ah) (hC:h.get? C=Ab (Mj nm q C N bs bm hdct sn sub ab col dd k0 k1 k2 k3 k5 "ValueError.__new__")) (hN:h.Ns N mN) (hni:mN "__init__" = none) (T:Yb h kG bm):vz h C
theorem lJ {β:Type}{l:Aa β}{n:Ai}(h:l.length=n+1):∃ a t,l=a::t/\t.length=n:=by
 cases l with
 |nil=>exact Nat.noConfusion h
 |cons a t=>exact⟨a,t,rfl,AbN h⟩
theorem C_ {β:Type}{l:Aa β}(h:l.length=6):∃ a b c d e f,l=[a,b,c,d,e,f]:=by
 obtain⟨a,t,J,h⟩:=lJ h;obtain⟨b,I,U,h⟩:=lJ h;obtain⟨c,E,G,h⟩:=lJ h;obtain⟨d,T,Y,h⟩:=lJ h;obtain⟨e,B,N,h⟩:=lJ h;obtain⟨f,L,O,h⟩:=lJ h;exact⟨a,b,c,d,e,f,by rw[J,U,G,Y,N,O,Li.mp h]⟩
theorem V0 {Y:wE}{U:ai}{k0 k1 k2 k3 G k5:Al Ad}(hm:Y.mro=.ref C::U)(hd:Y.hasDel=false)(hs:sl.toList=[k0,k1,k2,k3,G,k5])(J:sl.toList[4]? = Ab (Ab (.builtin n))) :
  (⟨.type "type",od,.cls Y,sl⟩:Co)=Mj Y.name Y.qualname C Y.ns Y.bases U Y.hasDict Y.slotNames Y.subclasses Y.abstract Y.collection od k0 k1 k2 k3 k5 n:=by
 rw[hs] at J;cases J;cases Y;cases sl;cases hm;cases hd;cases hs;rfl
theorem MA {K:Ah}(J:K.In h)(e:Ld C K=Ab ⟨.type "type",od,.cls Y,sl⟩)(h2:Y.mro=.ref C::.ref A::kG)(h3:Y.hasDel=false)(U:uX K Y.ns=true)(L:sl.toList.length=6)(E:sl.toList[4]? = Ab (Ab (.builtin "ValueError.__new__")))(T:Yb h kG (.ref A::kG)):vz h C:=by
 obtain⟨G,H,I,O,x,B,N⟩:=C_ L;exact⟨_,_,_,_,_,_,_,_,_,_,_,G,H,I,O,B,_,(J _ _ e).trans (congrArg Ab (V0 h2 h3 N E)),.of_isNs (Oo J (xO U).1),On J (xO U).1 (xO U).2,T⟩
theorem MB {K:Ah}(J:K.In h)(z:m8 K C A=true):vz h C:=by
 obtain⟨H,od,E,sl,e,z⟩:=pD z;obtain⟨T,I,ca,w,L,z⟩:=pD z;have U:=Dc.mp z;have O:=Dc.mp U.2;have G:=Dc.mp O.2;have N:=Dc.mp G.2;have Y:=Dc.mp N.2;have B:=Dc.mp Y.2;rw[Cf U.1] at e;exact MA J e (Cf O.1) (Jg _▸G.1) N.1 (Cf B.1) (Cf B.2) (.own (J _ _ L) (.of_isNs (Oo J (xO Y.1).1)) (On J (xO Y.1).1 (xO Y.1).2) .base)
section
variable {X:Cx}{au:Fc}{fa:DA}
def jK (c:Ad)(fa:DA):DS:=λY S=>(fa Y S).toS Y λJ S1=>if J.length<=bi then .ex c .non Y S1 else .bad
inductive uv (X:Cx)(pins:aa)(σ : _L.St)(env:qE)(P:Hp)(α : Aa Af)(us:ai)(s1:Ag)(k:Aa D->aq->ir)(E:Ends):Prop
 |mk (vs:Aa V) (H1 P1:Hp) (α1:ag) (ds:Aa D) (S1:aq) (I:Inv X pins σ H1 s1) (rv:qQ vs us) (r:bf X.K H1 P1 α1 S1) (re:zD X.K P1 α1 σ env) (rp:qF X.K P1 α1 ds vs) (e1:qI P P1) (e2:α<+:α1) (q:zF X P1 α1 (k ds S1) E):uv X pins σ env P α us s1 k E
theorem aY {k:Aa D->aq->ir}{σ:_L.St}{H P:Hp}{α:ag}{al:qE}{D:Ends}(L:PA X es (ko X fa))(I:Inv X aj σ H s)(r:bf X.K H P α S)
  (E:zD X.K P α σ al) (w:zF X P α ((fa al S).toS al k) D) (au:Fc) :
  db X (spliced (Gm au (Bn es X.env))) (λus G=>uv X aj σ al P α us G k D) X.xe s:=by
 have Y:qO X P α ((fa al S).bind λd S=>.ok d S) λd S=>zF X P α (k d S) D:=by
  have:=yI w;cases q:fa al S <;> rw[q] at this <;> exact this
 exact bv (y9 L I r E Y au) λu G ⟨y,z,o,U,T,S1,j,l,B,J,A,N,O,q⟩=>⟨y,z,o,U,T,S1,j,l,B,J,A,N,O,zF.base N O q⟩
theorem J8 {Y:Cb}{qG:Aa Cb}{np O:Fc}(f:X.calm=true)(k:kf X)(d:Gl X x)(hm:X.mg x=Ab (.ref C))(hx:m8 X.K C Ae=true)(i:PA X (Y::qG) (ko X fa))
  (w:(x == ("__debug__" : Ar))=false:=by decide) (G:Bn (Y::qG) X.env=(false,eval Y X.env)::Bn qG X.env:=by rfl) (j:(Gm O (Bn qG X.env)).any (·.1)=false:=by rfl) :
  PS X (.Raise (Ab (.Call (.Name x np) (Y::qG) [] O)) none au) (iq X (jK (.ref C) fa)):=by
 intro m s σ H D I h;obtain⟨P,α,al,S,r,l,af⟩:=h;obtain⟨nm,qn,N,bs,v,hdct,sn,sub,ab,col,dd,k0,k1,k2,k3,k5,mN,b,g,E,T⟩:=MB I.mod.kin hx;refine wpAny_Raise_call_subT (C:=C) (nm:=nm) (q:=qn) (N:=N) (bs:=bs) (bm:=v) (hdct:=hdct) (sn:=sn) (sub:=sub) (ab:=ab) (col:=col) (dd:=dd) (k0:=k0) (k1:=k1) (k2:=k2) (k3:=k3) (k5:=k5)
  Ke (mN:=mN) (T.hasType Ke.hasBase) (I.ok.hd f) (by rw[G];show (false||(Gm O (Bn qG X.env)).any (·.1))=false;rw[j];rfl) E (uW I d hm ⟨rfl,?_⟩ w)
 have run:=aY i I r l af O;rw[G] at run ⊢;refine Qm (bv run λus s2 ⟨vs,n,a,B,y,S1,J,rv,r1,zb,rp,e1,e2,q⟩=>?_);have c:us.length=y.length:=by rw[rp.length,rv.length]
 by_cases A:y.length<=bi
 .rw[Ay A] at q
  refine⟨rfl,by rw[c,<- xC];exact A,J.bk _ _ b,g.keeps J.bk,T.keeps J.bk,λh' e hm=>?_⟩
  obtain⟨t,G,_,_⟩:=hm.there;refine q _ _ ⟨e,m,σ,n,a,B,rfl,J.kept (t':=s2.toks) hm.keeps,r1,qI.refl _,Br _,k,none,.new _ t G rfl rfl rfl (λL=>?_) (λz=>?_),trivial⟩
  .obtain⟨o1,U⟩:=qf.there J k L
   rw[hm.new] at U;cases U
  .obtain⟨_,o,U,_⟩:=J.stack.mem z
   rw[hm.new] at U;cases U
 .rw[AT A] at q;exact Aq q
end
section
variable {X:Cx}{aj:aa}{σ: _L.St}{H:Hp}{s:Ag}
theorem K3 {M:Mf}{A:Bl}{E:ae}{Q:Po->Ag->Prop}(I:Inv X aj σ H s)(F:kf X)(T:A.frames=Ab X.stack)(f:kn X aj H c dd e s.heap)
  (w:∀ h' B,rn B X.stack e c dd .none h'->Inv X aj σ H { s with heap:=h' } -> Cv X aj H B h'->Q () { s with heap:=h' }) :
  Ao M A (Td (.ref e) X.env) (λ_ Y=>Ao M A (We (.ref e) none) Q E Y) E s:=
 BL I F T f λL B k N O=>ZC (s:={ s with heap:=L }) k λG U z =>
  let ⟨j,J⟩:=Inv.fly I F N U.1 (O.trans z)
  w G B U j J
theorem iA {c fl:Ad}(I:Inv X aj σ H s)(x:rn B X.stack e c dd fl s.heap)(w:Cv X aj H B s.heap):¬ qf X aj H e/\e ∉ gx X.stack/\∃ Y vs,s.heap.get? e=Ab Y/\Y.cls=c/\Y.dict=dd/\Y.data=.fields vs:=by
 obtain⟨y,j,g,O,vs,T,l,k,J,E,U,G,_⟩:=x;have N:e ∉ gx X.stack:=λz=>by
  obtain⟨_,o,L,A⟩:=I.stack.mem z;rw[J] at L;cases L;exact A vs G
 refine⟨λz=>?_,N,O,vs,J,E,U,G⟩;have q:=w e O J z N;rw[j] at q;cases q
theorem Inv.track {φ:Bk->Prop}(I:Inv X aj σ H s)(F:kf X)(U:¬ qf X aj H e)(E:e ∉ gx X.stack)(L:∀ H',zC X.prog X.w H' s.heap e (.ext φ)) : Inv X aj σ (bw H e (.ext φ)) s:=by
 have Y:H e=none:=by
  cases q:H e with
  |none=>rfl
  |some u=>exact absurd (.inr (.inl (by rw[q];intro z;cases z))) U
 have g:e≠X.env.locals:=λz=>E (F.mem.mpr (.inl z));have y:∀ b o,X.s₀.heap.get? b=Ab o->b≠e:=λb o q z=>U (.inl ⟨o,z▸q⟩);refine⟨I.ok,I.os,I.bare,⟨I.base.keep,I.base.slot,λb o q n O=>?_,I.base.there,λb J q=>?_,λb o J q=>?_,λb T q=>?_⟩,I.loc,I.cell,?_,λx k q=>?_,λp G=>?_,λb u q=>?_,I.len⟩
 .rw[qJ (y b o q)];exact I.base.free b o q n O
 .have z:=I.base.tups b J q
  rw[qJ (z0 z Y)];exact z
 .have z:=I.base.frzs b o J q
  rw[qJ (z0 z Y)];exact z
 .obtain⟨m,z⟩:=I.base.tbls b T q
  exact⟨m,by rw[qJ (z0 z Y)];exact z⟩
 .rw[qJ (Dw g)];exact I.free
 .have z:k≠e:=λz=>U (.inr (.inr (.inr ⟨x,z▸q⟩)))
  rw[qJ z];exact I.freeC x k q
 .obtain⟨A,w,j,l,B⟩:=I.pin p G
  have z:p.1≠e:=λz=>U (.inr (.inr (.inl ⟨p,G,z⟩)));exact⟨A,by rw[qJ z];exact w,j,l,B⟩
 .by_cases N:b=e
  .subst N
   rw[qT] at q;cases q;exact L _
  .rw[qJ N] at q
   exact(I.hok b u q).stay (λ_ _ _ z=>z) (λk z=>by rw[qJ (z0 z Y)];exact z) λk J z=>by rw[qJ (z0 z Y)];exact z
theorem Inv.gone {i t':Ai}{h':Bk}(I:Inv X aj σ H s)(g:X.N.Nodup)(hi:X.N[i]? = Ab n){m:ah}{v:Al Ad}(hl:∀ (j:Ai) (y:Ar) (w:V),X.N[j]? = Ab y->σ[j]? = Ab (Ab w)->ow X.env.scope y->∃ u,qL w u/\D3 X.env s.heap m y u)(hv:h'.Ns X.env.locals λy=>if y=n then v else m y)(N:Fb X.env.locals s.heap h') :
  Inv X aj (σ.set i none) H { s with heap:=h',toks:=t' }:=by
 have Y:∀ b o,X.s₀.heap.get? b=Ab o->b≠X.env.locals:=λb o e=>Cw (Bi (Az e) I.ok.above);have U:∀ b o,b≠X.env.locals->s.heap.get? b=Ab o->h'.get? b=Ab o:=λb o n e=>(N.2 b n).trans e;refine⟨I.ok,I.os,I.bare,⟨λb o e n O G=>U b o (Y b o e) (I.base.keep b o e n O G),λb o e n O G=>?_,I.base.free,λb o e G=>?_,I.base.tups,I.base.frzs,I.base.tbls⟩,⟨_,hv,λj y w B J a=>?_⟩,λx c e=>?_,I.free,I.freeC,λp A=>?_,λb u q=>?_,by simpa using I.len⟩
 .obtain⟨sl,q⟩:=I.base.slot b o e n O G
  exact⟨sl,U b _ (Y b o e) q⟩
 .obtain⟨E,q⟩:=I.base.there b o e G
  exact⟨E,U b E (Y b o e) q⟩
 .have T:i≠j:=λz=>by
   subst z;by_cases t:i<σ.length
   .rw[Dv t] at J;cases J
   .rw[Py (by simp;fin2)] at J;cases J
  rw[Bz T] at J;obtain⟨u,r,l⟩:=hl j y w B J a;refine⟨u,r,?_⟩;rcases l with⟨k,z⟩|⟨k,c,z,f⟩
  .refine .inl ⟨k,?_⟩
   have:y≠n:=λz=>T (mJ g hi (z▸B));simp[this,z]
  .exact .inr ⟨k,c,z,f.sameBut N (I.cne y c z)⟩
 .obtain⟨w,z⟩:=I.cell x c e
  exact⟨w,z.sameBut N (I.cne x c e)⟩
 .obtain⟨e,n,L,h,d⟩:=I.pin p A
  exact⟨U p.1 p.2 L e,n,L,h,d⟩
 .refine(I.hok b u q).stay (λc w hc z=>U c w ?_ z) (λ_ z=>z) λ_ _ z=>z
  rintro rfl;rcases hc with rfl|hc
  .rw[I.free] at q;cases q
  .rw[I.free] at hc;cases hc
theorem iB {A:Bl}{E:ae}{i:Ai}{O:Fc}{Q:Po->Ag->Prop}(I:Inv X aj σ H s)(U:X.N.Nodup)(hi:X.N[i]? = Ab n)(Y:X.env.scope.names.lookup n=Ab .local)
  (h:∀ s',Inv X aj (σ.set i none) H s'->Q () s'):Ao M A (do Ys X.env n .none;unbindBehindTheSuite X.env n O) Q E s:=by
 obtain⟨m,N,G⟩:=id I.loc;exact wpAny_nameGoes_keeps Y N (by rw[I.ok.kind];rfl) λB v hv J=>h _ (Inv.gone I U hi G hv J)
end
noncomputable abbrev Cx.tryIn (X:Cx)(E:ae)(pn:aa):Cx:={ X with xe:=E,pn:=pn }
abbrev Cx.suite (X:Cx)(e:Af):Cx:=Cx.re X (X.A.mark (Ab (.ref e))) false λ_ _=>Fp
noncomputable def bB (c:Ad)(x:D):D:=match x with
 |.exl _ _ _=>x
 |_=>.exn c
def mL (N i:Ai)(cs:ai)(f g:DS):DS:=λG S=>match f G S with
 |.ex c x U S1=>if cs.contains c then (match g ((Ja N none).set i (Ab (bB c x))) S1 with
   |.rt d J=>.rt d J
   |.nx Y J=>.nx (Y.set i none) J
   |_=>.bad) else .bad
 |o=>o
section
variable {X:Cx}{aj:aa}{σ: _L.St}{H:Hp}{s:Ag}
theorem Inv.inTry (I:Inv X aj σ H s)(E:ae):Inv (Cx.tryIn X E (X.pn++aj)) [] σ H s:=
 ⟨⟨I.ok.mod,I.ok.kind,I.ok.glob,I.ok.blt,I.ok.above,I.ok.inj,I.ok.has,I.ok.cab,I.ok.hd,I.ok.frames,I.ok.stk,I.ok.exf,I.ok.bs,I.ok.bsz,I.ok.noex,I.ok.exfs,I.ok.funs,I.ok.frf⟩,I.os,I.bare,I.base,I.loc,I.cell,I.free,I.freeC,λp Y=>I.pin p (by simpa using Y),I.hok,I.len⟩
theorem Inv.outTry (I:Inv (Cx.tryIn X E (X.pn++aj)) gl σ H s):Inv X aj σ H s:=
 ⟨⟨I.ok.mod,I.ok.kind,I.ok.glob,I.ok.blt,I.ok.above,I.ok.inj,I.ok.has,I.ok.cab,I.ok.hd,I.ok.frames,I.ok.stk,I.ok.exf,I.ok.bs,I.ok.bsz,I.ok.noex,I.ok.exfs,I.ok.funs,I.ok.frf⟩,I.os,I.bare,I.base,I.loc,I.cell,I.free,I.freeC,λp Y=>I.pin p (Dp _ Y),I.hok,I.len⟩
theorem SP.outTry {D:Ends}(h:SP (Cx.tryIn X E (X.pn++aj)) [] D f s'):SP X aj D f s':=by
 cases f with
 |next=>obtain⟨Y,J,I,q⟩:=h;exact⟨Y,J,Inv.outTry I,q⟩
 |brk=>obtain⟨Y,J,I,q⟩:=h;exact⟨Y,J,Inv.outTry I,q⟩
 |cont=>obtain⟨Y,J,I,q⟩:=h;exact⟨Y,J,Inv.outTry I,q⟩
 |ret u=>obtain⟨v,Y,J,I,r,q⟩:=h;exact⟨v,Y,J,Inv.outTry I,r,q⟩
theorem kn.outTry (f:kn (Cx.tryIn X E (X.pn++aj)) gl H c dd e h):kn X aj H c dd e h:=by
 have Y:∀ b,qf X aj H b->qf (Cx.tryIn X E (X.pn++aj)) gl H b:=λb o=>by
  rcases o with o|o|⟨p,N,z⟩|o
  .exact .inl o
  .exact .inr (.inl o)
  .exact .inr (.inr (.inl ⟨p,Dp _ N,z⟩))
  .exact .inr (.inr (.inr o))
 cases f with
 |new I t O U J G A T=>exact .new I t O U J G (λz=>A (Y e z)) T
 |fly B fl L=>exact .fly B fl λb o e q n=>L b o e (Y b q) n
theorem VN {K:Ah}{P:Hp}{α:ag}{n:Ai}(h:σ.length=n):zD K P α σ (Ja n none):=by
 refine⟨by simp[h],λi d e=>?_⟩
 rw[Ow] at e
 split at e <;> cases e
theorem zD.unset {K:Ah}{P:Hp}{α:ag}(Y:zD K P α σ al)(i:Ai):zD K P α (σ.set i none) (al.set i none):=by
 refine⟨by simp[Y.1],λj d e=>?_⟩
 by_cases J:i=j
 .subst J
  by_cases U:i<al.length
  .rw[Dv U] at e;cases e
  .rw[Py (by simp;fin2)] at e;cases e
 .rw[Bz J] at e ⊢
  exact Y.2 j d e
end
section
variable {X:Cx}{au:Fc}{f g:DS}
theorem MC {K:Ah}{P:Hp}{α:ag}(r:wk K P α c x dd):∃ φ,(∀ (U:Bc) (w:Bu) (H:Hp) (h:Bk) Y vs,h.get? e=Ab Y->Y.cls=c->Y.dict=dd->Y.data=.fields vs->zC U w H h e (.ext φ)) /\ ∀ J,qI P J->J e=Ab (.ext φ) -> av K J α (bB c x) (.ref e):=by
 have z:∃ φ,(∀ (U:Bc) (w:Bu) (H:Hp) (h:Bk) Y vs,h.get? e=Ab Y->Y.cls=c->Y.dict=dd->Y.data=.fields vs->zC U w H h e (.ext φ)) /\ ∀ J,qI P J->J e=Ab (.ext φ) -> av K J α (.exn c) (.ref e):=
  ⟨_,λU w H h Y vs N B _ _=>(⟨⟨Y,N,B⟩,⟨Y,N⟩,λv y ⟨o,O,G⟩ k=>⟨o,k o O,G⟩⟩:zC U w H h e (RG e c)),λJ s q=>by simp only[av];exact⟨e,rfl,q⟩⟩
 cases x with
 |exl T j I =>
  obtain⟨rfl,E,vs,rfl,q,A,d⟩:=r;refine⟨_,λU w H h Y vs N B L l=>(⟨⟨Y,N,B,L,vs,l⟩,⟨Y,N⟩,λv y ⟨o,O,G⟩ k=>⟨o,k o O,G⟩⟩:zC U w H h e (RF e T E)),λJ s G=>?_⟩;show av K J α (.exl T j I) (.ref e);simp only[av];exact⟨e,E,vs,rfl,G,s _ _ q,A,qF.mono s (Br _) _ _ d⟩
 |_=>exact z
theorem RM {aj:aa}{D:Ends}{c:Ad}{m:_D.D}{e a:Af}{s':Ag}{σ:_L.St}{H P:Hp}{α:ag}{x n:Ar}{i:Ai}{L:Et}{U:Aa Et}{k:Fc}
  (F:kf X) (hg:Gl X x) (hm:X.mg x=Ab (.ref a)) (z4:∀ c∈cs,La X.K c (.ref a)=Ab true) (h:X.N.Nodup) (hi:X.N[i]? = Ab n) (O:X.env.scope.names.lookup n=Ab .local)
  (hs:∀ e,ip (Cx.suite X e) (L::U) (iq (Cx.suite X e) g)) (hc:cs.contains c=true) (I:Inv X aj σ H s') (r:bf X.K H P α S1) (fl:kn X aj H c dd e s'.heap) (ln:wk X.K P α c m dd)
  (J:zF X P α (match g ((Ja X.N.length none).set i (Ab (bB c m))) S1 with|.rt d S2=>.rt d S2|.nx Y S2=>.nx (Y.set i none) S2|_=>.bad) D) (z3:(x == ("__debug__" : Ar))=false) :
  db X (Td (.ref e) X.env) (λ_ E=>db X (We (.ref e) none) (λ_ w =>
   db X (handleBy (.ref e) X.env [.ExceptHandler (Ab (.Name x np)) (Ab n) (L::U) k]) (SP X aj D) X.xe w) X.xe E) X.xe s':=by
 have y:La X.K c (.ref a)=Ab true:=z4 c (by simpa using hc)
 have Z:∀ {σ : _L.St} {H:Hp} {s:Ag},Inv X aj σ H s->Inv (Cx.suite X e) aj σ H s:=λI=>Inv.re I _ false _ I.ok.frames λz=>nomatch z;refine K3 I F I.ok.frames fl λh5 B f5 b t=>?_;refine wpAny_handleBy_cons (codeAny_handlers_test (A:=X.A.mark (Ab (.ref e))) (uW (X:=Cx.suite X e) (Z b) hg hm ?_ z3)) (by intro q;cases q)
 obtain⟨y0,yv,z7,z8,zs,zb,_,_⟩:=iA b f5 t;refine(PySem.W.exm_one b.kIn (by subst zb;exact(PySem.W.Looks.ld zs).andThen .now) y).at ?_
 refine codeAny_handlers_suite_as ?_;refine ZC (s:={ s' with heap:=h5 }) f5 λh6 f6 u6=>?_
 obtain⟨I6,zc⟩:=Inv.fly b F t f6.1 u6;obtain⟨l,zy,ys,z6,zx,z1,j,zl⟩:=iA I6 f6 zc;obtain⟨φ,ho,hr⟩:=MC (e:=e) ln;have J6:Inv X aj σ (bw H e (.ext φ)) { s' with heap:=h6 }:=Inv.track I6 F l zy λ_=>ho _ _ _ _ _ _ zx z1 j zl
 have hn:H e=none:=by
  cases q:H e with
  |none=>rfl
  |some u=>exact absurd (.inr (.inl (by rw[q];intro z;cases z))) l
 obtain⟨r1,sP⟩:=r.pure (o:=.ext φ) hn;refine jO (X:=Cx.suite X e) (v:=.ref e) (Z J6) h hi (.inl O) rfl (λs7 I7=>?_) (.inr O);have z2:zD X.K (bw P e (.ext φ)) α (σ.set i (Ab (.ref e))) ((Ja X.N.length none).set i (Ab (bB c m))):=(VN I.len).set i (hr _ sP qT);refine Fd (hs e aj s7 _ _ { nx:=λN G=>D.nx (N.set i none) G,rt:=D.rt } I7 ⟨_,α,_,S1,r1,z2,?_⟩) (λfl s8 q=>?_) λ_ _ z=>Aq z
 .cases q:g ((Ja X.N.length none).set i (Ab (bB c m))) S1 with
  |rt d S2=>rw[q] at J;exact λv G P' T r' e1 e2 rp=>J v G P' T r' (sP.trans e1) e2 rp
  |nx Y S2=>rw[q] at J;exact λN G P' T r' z5 e1 e2=>J _ G P' T r' (zD.unset z5 i) (sP.trans e1) e2
  |bk Y S2=>rw[q] at J;exact Aq J
  |ct Y S2=>rw[q] at J;exact Aq J
  |ex c' x' Y S2=>rw[q] at J;exact Aq J
  |bad=>rw[q] at J;exact Aq J
 .cases fl with
  |next =>
   obtain⟨N,G,I8,q⟩:=q;exact iB (Inv.unre I8 I.ok.frames I.ok.hd) h hi O λs9 I9=>⟨_,G,I9,q⟩
  |brk =>
   obtain⟨_,_,_,q⟩:=q;exact Aq q
  |cont =>
   obtain⟨_,_,_,q⟩:=q;exact Aq q
  |ret u =>
   obtain⟨v,N,G,I8,rv,q⟩:=q;exact iB (Inv.unre I8 I.ok.frames I.ok.hd) h hi O λs9 I9=>⟨v,_,G,I9,rv,q⟩
set_option tactic.hygienic true in
theorem R6 {x n:Ar}{o:Af}{i:Ai}{U:Et}{J:Aa Et}{np N:Fc}(F:kf X)(hb:∀ E t,Vz (As X.prog X.w) X.A X.env E->ip (Cx.tryIn X E t) cp (iq (Cx.tryIn X E t) f))
  (hs:∀ e,ip (Cx.suite X e) (U::J) (iq (Cx.suite X e) g)) (hg:Gl X x) (hm:X.mg x=Ab (.ref o)) (j:∀ c∈cs,La X.K c (.ref o)=Ab true) (b:X.N.Nodup) (hi:X.N[i]? = Ab n:=by rfl) (w:X.env.scope.names.lookup n=Ab .local:=by rfl)
  (A:(x == ("__debug__" : Ar))=false:=by decide):PS X (.Try cp [.ExceptHandler (Ab (.Name x np)) (Ab n) (U::J) N] [] [] au) (iq X (mL X.N.length i cs f g)):=by
 intro l s σ H D I h;obtain⟨P,α,v,S,r,a,Y⟩:=h;refine wpAny_Try_except ?_;refine Fd (hb _ (X.pn++l) (PassesOwn.looking (K:=λe O=>db X (We e none) (λ_ B=>db X (handleBy e X.env [.ExceptHandler (Ab (.Name x np)) (Ab n) (U::J) N]) (SP X l D) X.xe B) X.xe O) (E₁:=X.xe))
  [] s σ H D (Inv.inTry I _) ⟨P,α,v,S,r,a,?_⟩) (λfl s1 q=>?_) λ_ _ z=>z
 .unfold mL at Y
  cases q:f v S with
  |rt d L=>rw[q] at Y;exact Y
  |nx G L=>rw[q] at Y;exact Y
  |bk G L=>rw[q] at Y;exact Y
  |ct G L=>rw[q] at Y;exact Y
  |bad=>rw[q] at Y;exact Y
  |ex c x' G L =>
   rw[q] at Y;dsimp only at Y;intro u s' k;obtain⟨e,y,zb,H',P',zc,rfl,I',r',e1,e2,F',dd,fl,ln⟩:=k
   split at Y
   .rename_i m
    exact RM F hg hm j b hi w hs m (Inv.outTry I') r' (kn.outTry fl) ln (zF.base e1 e2 Y) A
   .exact Aq Y
 .have T:=SP.outTry q
  cases fl with
  |next=>exact Qp T
  |brk=>exact T
  |cont=>exact T
  |ret u=>exact T
end
end _D
namespace _D
open _L PySem.W
variable {R:Si->Ag->Prop}
structure ma (K:Ah)(C:Af):Prop where
 ga:findIn K (.ref C) "__getattribute__" = Ab (Ab (.builtin "BaseException.__getattribute__"))
 hk:findIn K (.ref C) "__getattr__" = Ab none
 cl:findIn K (.ref C) "__class__" = Ab (Ab (.builtin "object.__class__"))
 sp:specialIn K (.builtin "object.__class__") "__get__" = Ab (Ab (.builtin "getset_descriptor.__get__"))
 tk:takesIn K (.builtin "object.__class__")=Ab true
 mo:mroIn K C (.type "object")=Ab true
 mb:mroIn K C (.type "BaseException")=Ab true
 isC:(clsIn K C).isSome=true
section
variable {prog:Bc}{w:Bu}{A:Bl}{E:ae}{s:Ag}{K:Ah}{x C:Af}
abbrev u4 (x C:Af)(h:Bk):Prop:=∃ Q,h.get? x=Ab Q/\Q.cls=.ref C
theorem u4.type (I:u4 x C h):Looks M h (typeOf (.ref x)) (.ref C):=by
 obtain⟨Q,e,c⟩:=I;rw[<- c];exact(Looks.ld e).andThen .now
theorem JG (X:K.In h)(Z:ma K C):Looks M h (AbO (.ref x) (.ref C) "__class__") (.bind (.builtin "getset_descriptor.__get__") (.builtin "object.__class__")):=by
 have U:=Oy (M:=M) X Z.cl;have Y:Looks M h (AbM (Ab (.builtin "object.__class__"))) (Ab (.builtin "getset_descriptor.__get__")):=looks_specialIn X Z.sp;have J:=looks_takesIn (M:=M) X Z.tk;have Q:Looks M h (Zp (Ab (.builtin "object.__class__")) (Ab (.builtin "getset_descriptor.__get__"))) (Ab (.builtin "getset_descriptor.__get__",.builtin "object.__class__")):=J.andThen .now;exact U.andThen (Y.andThen (Q.andThen (Looks.tag .now)))
theorem MF {tp:Ad}(X:K.In s.heap)(Z:ma K C)(I:u4 x C s.heap)(h:R (.ok (.ret (.ref C))) s) :
  Ht (As prog w) A (.call (.builtin "getset_descriptor.__get__") ⟨[.builtin "object.__class__",.ref x,tp],[]⟩) R s:=by
 have LT:=u4.type (M:=As prog w) I;have Q:=Wf (M:=As prog w) X Z.mo;cases s;refine Kw KF.slot_gs.plain KF.entry_gs (KF.slot_gs.check _ _ _ _ _ _ _ _ KF.type_class (KF.args_gs _ _ _) ?_);unfold HT.«getset_descriptor.__get__» Zq;rw[dga_obj];refine Ac (Ak ?_);unfold Yc Va Vh Yd;simp only[KF.owner_class]
 repeat lk
 refine⟨Op _ (by decide +kernel),Gu KF.entry_class ?_⟩
 unfold HT.«object.__class__» shownTypeOf
 repeat lk
 exact h
theorem RH {Y:Sr}(X:K.In s.heap)(Z:ma K C)(I:u4 x C s.heap)(h:R (.ok (.ret (.ref C))) s) :
  Ht (As prog w) A (.call (.builtin "BaseException.__getattribute__") ⟨[.ref x,.str "__class__" Y],[]⟩) R s:=by
 have LT:=u4.type (M:=As prog w) I;have O:=Wf (M:=As prog w) X Z.mb;have N:=JG (M:=As prog w) (x:=x) X Z;have G:builtinKind "BaseException.__getattribute__" = Ab .slot:=by decide +kernel
 have U:splitId "BaseException.__getattribute__" = Ab ("BaseException","__getattribute__"):=by decide +kernel
 have J:∀ (A:Bl) (Q:Po->Ag->Prop) (E:ae),Q () s->Ao (As prog w) A (Ue "BaseException.__getattribute__" ⟨[.ref x,.str "__class__" Y],[]⟩) Q E s:=by
  intro A Q E B;have L:=Xh (.ref x) (.str "__class__" Y);simp only[Ue,G,U];unfold Yd;refine Ac (Ac (LT.here (O.here ?_)))
  repeat (any_goals (first|assumption|wp_step))
 refine Kw Lj.ga.plain Wg (J _ _ _ ?_);cases s;unfold HT.«object.__getattribute__»;refine Ac (Lf (show slotArgs "__getattribute__" 1 ⟨[.ref x,.str "__class__" Y],[]⟩=pure (.ref x,[.str "__class__" Y]) from by kernel_rfl) ?_)
 refine Ac (Ak (Ac (LT.at (Ac (N.at ?_)))));show Ao _ _ (Te _ _ _ _) _ _ _;unfold Te;dsimp only;exact Ac (Dn (Nl (MF X Z I (Ak h))))
theorem WK {Q:Al Ad->Ag->Prop}(X:K.In s.heap)(Z:ma K C)(I:u4 x C s.heap)(h:Q (Ab (.ref C)) { s with toks:=s.toks+1 }) : Ao (As prog w) A (getAttr? (.ref x) "__class__") Q E s:=by
 have LT:=u4.type (M:=As prog w) I;have U:=Oy (M:=As prog w) X Z.ga;have Y:=Oy (M:=As prog w) X Z.hk;unfold getAttr? getAttrBy? getAttrBy;cases s;refine Ac (wpAny_mkText (Ac (Iq (Dn (Ac (LT.at (Ac (U.at ?_))))))));dsimp only;have J:(Nm "BaseException.__getattribute__" == Nm "object.__getattribute__")=false:=by decide +kernel
 rw[J,Jx,AT Gx];unfold getAttrByItsOwn hookBefore;rw[Ay (show onTheHeap (.ref C)=true from rfl)]
 refine Ac (Y.at (Ac (Iq (Dn ?_))));unfold callGetattribute;rw[He,AT Gx];unfold boundAndCalled;refine Ac (Lf (Lj.ga.bind (.ref x)) ?_);refine Nl (RH X Z I ?_);show Ao _ _ (handedOut (.ref C)) _ _ _;exact Ak (Ak h)
set_option tactic.hygienic true in
theorem p6 (Z:ma K C):KitX K (.ref x) (.ref C) (u4 x C) where
 ty:=λ_ _ _ I=>I.type
 it:=λM h X _=>by
  have z:=Z.isC;unfold clsIn at z
  split at z
  .rename_i Q
   intro H N L G k q;unfold isType loadHead;exact Ac (Ww (k _ _ (X _ _ Q)) (Ak q))
  .cases z
 ne:=λh J T B n O X Y=>by
  have z:=Z.isC;unfold clsIn at z
  split at z
  .rename_i Q
   cases U:(Cc C == Cc J) with
   |false=>rfl
   |true =>
    obtain rfl:C=J:=Value.ref.inj (Re.mp U);have y:=(X _ _ Q).symm.trans Y;cases y
  .cases z
 ca:=λX I k=>WK X Z I k
end
end _D
namespace _D
open _L
variable {ix:Aa (Ar × Af)}{α α1:ag}{ds:Aa D}{C:Af}{s:Ag}{K:Ah}{o:Co}{H P P1:Hp}{S S1:aq}
theorem mM {α:Type}{t:Lb α}{Q Y:α->Ag->Prop}(h:Ao M A t Q (λ_ _=>Fp) s)(J:∀ a s,Q a s->Y a s):Ao M A t Y E s:=Fd h J λ_ _ x=>x.elim
def gI (Q:Aa Cb)(al:Jk):Lb Au:=forIn Q true λc r=>if r=true then do let ok <- PySem.isTrue c al (eval c al);pure (Qr ok) else pure (Qr r)
def ur (X:Cx)(J:Aa Cb)(t:DT):Prop:=
 ∀ (Y:aa) (s:Ag) (σ : _L.St) (H:Hp) (Q:Au->Hp->Prop),Inv X Y σ H s->ml X t σ H Q->db X (gI J X.env) (TP X Y σ Q) X.xe s
def xS:DT:=λ_ S=>.ok true S
section
variable {X:Cx}
theorem M5:ur X [] xS:=λU s σ H Q I ⟨P,α,J,S,r,G,Y⟩=>by
 unfold gI;rw[Rq];exact Ak ⟨H,I,Y H P α r (qI.refl _) (Br _)⟩
theorem _I {σ:_L.St}(O:PE X e (tD X f))(I:Inv X aj σ H s)(r:bf X.K H P α S)(B:zD X.K P α σ al)(q:f al S=.ok d S1) :
  db X (eval e X.env) (λu U=>∃ v J P1 α1,Got X aj σ al P α u U v J P1 α1 d S1) X.xe s:=by
 refine bv (zR (g:=λd S=>a_.ok d S) (Ok:=λY Q=>Y=d/\Q=S1) O I r B (by rw[q];exact⟨rfl,rfl⟩)) λu U ⟨v,J,P1,α1,Y,Q,G,L,N⟩=>?_
 have T:Y=d:=L;have E:Q=S1:=N;subst T;subst E;exact⟨v,J,P1,α1,G⟩
theorem qAD {t:DT}{σ:_L.St}{b:Au}(L:ur X N t)(I:Inv X aj σ H s)(r:bf X.K H P α S)(G:zD X.K P α σ al)(q:t al S=.ok b S1) :
  db X (gI N X.env) (λY U=>Y=b/\∃ Q P1 α1,Inv X aj σ Q U/\bf X.K Q P1 α1 S1/\zD X.K P1 α1 σ al/\qI P P1/\α<+:α1) X.xe s:=by
 refine bv (L aj s σ H (λY Q=>Y=b/\∃ P1 α1,bf X.K Q P1 α1 S1/\zD X.K P1 α1 σ al/\qI P P1/\α<+:α1) I ⟨P,α,al,S,r,G,?_⟩) λY U ⟨Q,A,e,P1,α1,T,w,j,E⟩=>⟨e,Q,P1,α1,A,T,w,j,E⟩;rw[q];exact λy M J z O B=>⟨rfl,M,J,z,G.mono O B,O,B⟩
theorem _G {σ:_L.St}{al Y:qE}{d:D}(z:PG X tg (pe X g))(I:Inv X aj σ H s)(r:bf X.K H P α S)(L:zD X.K P α σ al)(l:qL v u)
  (T:av X.K P α d v) (q:g d al S=.ok Y S1) :
  db X (assign tg X.env u) (λ_ N=>∃ Q J P1 α1,Inv X aj Q J N/\bf X.K J P1 α1 S1/\zD X.K P1 α1 Q Y/\qI P P1/\α<+:α1) X.xe s:=by
 refine bv (z aj s σ H v u (λQ J=>∃ P1 α1,bf X.K J P1 α1 S1/\zD X.K P1 α1 Q Y/\qI P P1/\α<+:α1) I l ⟨P,α,al,S,d,r,L,T,?_⟩) λ_ N ⟨Q,J,E,P1,α1,O,y,p,B⟩=>⟨Q,J,P1,α1,E,O,y,p,B⟩;rw[q];exact λw c j G k U A M=>⟨j,G,k,U,A,M⟩
def pX (K:Ah)(P:Hp)(α : Aa Af)(ds:Aa D)(o:Co):Prop:=∃ (Q:ai) (n:Ai) (Y:Aa V),o={ cls:=.type "list",data:=.seq Q.toArray n } /\ qQ Y Q/\qF K P α ds Y/\ds.length<=bi
theorem pX.mono (e:qI P P1)(h:α<+:α1)(a:pX K P α ds o):pX K P1 α1 ds o:=by
 obtain⟨Q,n,J,Y,N,U,G⟩:=a;exact⟨Q,n,J,Y,N,qF.mono e h _ _ U,G⟩
theorem pX.cell (a:pX K P α ds o):∀ v,o.data≠.cell v:=by
 obtain⟨Q,n,Y,rfl,_⟩:=a;intro v z;cases z
theorem Inv.pin1 {σ:_L.St}{a:Af}(I:Inv X aj σ H s)(f:xR X aj H a)(e:s.heap.get? a=Ab o)(d:∀ v,o.data≠.cell v):Inv X (aj++[(a,o)]) σ H s:=
 I.pins_of λp Q=>(Bv.mp Q).elim (λz=>I.pin p (Cj _ z)) λz=>by
  have Y:p=(a,o):=by simpa using z
  subst Y;exact⟨e,f.1,f.2.1,f.2.2.1,d⟩
theorem Inv.pinned1 {aj:aa}{σ:_L.St}{a:Af}(I:Inv X (aj++[(a,o)]) σ H s):s.heap.get? a=Ab o/\H a=none:=by
 have:=I.pin (a,o) (Cj _ (Cj _ a8))
 exact⟨this.1,this.2.1⟩
end
structure Acc where
 m:Au
 O:Ah->Hp->Aa Af->Aa D->Co->Prop
 mono:∀ {K:Ah} {P P1:Hp} {α α1:ag} {ds:Aa D} {o:Co},qI P P1->α<+:α1->O K P α ds o->O K P1 α1 ds o
 cell:∀ {K:Ah} {P:Hp} {α : Aa Af} {ds:Aa D} {o:Co},O K P α ds o->∀ v,o.data≠.cell v
@[reducible] def kj:Acc:=⟨false,pX,pX.mono,pX.cell⟩
def w6 (m:Au)(Y:Cb)(Q:Aa En)(am:Fq)(J:Fc):Cb:=match m with
 |false=>.ListComp Y Q am J
 |true=>.SetComp Y Q am J
structure fw (B:Acc)(Y:Cx)(pins:aa)(P1:Hp)(α1:ag)(fp:ag)(acc:Af)(env:qE)(S:aq)(ds:Aa D)(s:Ag)(σ : _L.St)(H P:Hp)(α : Aa Af)(o:Co):Prop where
 inv:Inv Y pins σ H s
 rel:bf Y.K H P α S
 env:zD Y.K P α σ env
 same:qI P1 P
 pre:α1<+:α
 fpn:∀ b∈fp,H b=none
 acn:H acc=none
 at':s.heap.get? acc=Ab o
 acc:B.O Y.K P α ds o
noncomputable def vL (ix:Aa (Ar × Af)):Aa (Ar × Je)->Aa (Ar × Af)->Aa (Ar × Af)
 |[],Q=>Q
 |(n,k)::r,Q=>vL ix r (if k == .free then (n,(ix.lookup n).getD 0)::Q else Q)
theorem sI {al:Jk}{am:Fq}(h:∀ y∈am.names,y.2=.free->∃ c,al.cells.lookup y.1=Ab c):closureFor am al=pure (vL al.cells am.names []):=by
 have E:∀ (l:Aa (Ar × Je)) (Y:Aa (Ar × Af)),(∀ y∈l,y.2=.free->∃ c,al.cells.lookup y.1=Ab c) ->
   (forIn l Y λx Y=>match x with|(Q,U)=>if (U == Ir)=true then do let a <- cellOf al Q;pure (Qr ((Q,a)::Y)) else pure (Qr Y):Lb (Aa (Ar × Af)))=pure (vL al.cells l Y):=by
  intro l
  induction l with
  |nil=>intro Y _;rfl
  |cons y r L =>
   intro Y N;obtain⟨n,k⟩:=y;rw[Vi];by_cases O:k=.free
   .subst O
    obtain⟨c,T⟩:=N (n,.free) Dm rfl;have J:al.cells.lookup n=Ab c:=T;have e:cellOf al n=pure c:=by unfold cellOf;rw[J]
    simp only[Fg,Ef,e,pure_bind];rw[L _ λz G=>N z (Cd _ G)];simp only[vL,Fg,Ef,J,Uf]
   .have B:(k == Ir)=false:=by simpa using O
    simp only[B,By,Ek,pure_bind];rw[L _ λz G=>N z (Cd _ G)];simp only[vL,B,By,Ek]
 unfold closureFor;have:=E am.names [] h;simp only[bind_pure];exact this
theorem fO:∀ (l:Aa (Ar × Je)) (Y:Aa (Ar × Af)),(vL ix l Y).lookup x=Ab c->Y.lookup x=Ab c\/((x,Ir)∈l/\c=(ix.lookup x).getD 0)
 |[],Y,h=>.inl h
 |(n,k)::r,Y,h=>by
  rcases fO r _ h with h|⟨G,U⟩
  .by_cases J:k=.free
   .subst J
    simp only[Fg,Ef,Hr] at h;cases Q:x == n with
    |true =>
     rw[Q] at h;have e:x=n:=by simpa using Q
     subst e;exact .inr ⟨Dm,(Dg h).symm⟩
    |false=>rw[Q] at h;exact .inl h
   .have Q:(k == Ir)=false:=by simpa using J
    simp only[Q,By,Ek] at h;exact .inl h
  .exact .inr ⟨Cd _ G,U⟩
theorem dA {x:Ar}:∀ (l:Aa (Ar × Je)) (Q:Aa (Ar × Af)),((x,Ir)∈l\/∃ c,Q.lookup x=Ab c)->∃ c,(vL ix l Q).lookup x=Ab c
 |[],Q,h=>by
  rcases h with h|h
  .cases h
  .exact h
 |(n,k)::r,Q,h=>by
  refine dA r _ ?_;rcases h with h|⟨c,h⟩
  .rcases Ax.mp h with e|h
   .cases e
    exact .inr ⟨(ix.lookup x).getD 0,by simp only[Fg,Ef,Hr]⟩
   .exact .inl h
  .by_cases Y:k=.free
   .subst Y
    simp only[Fg,Ef,Hr];cases J:x == n with
    |true=>exact .inr ⟨_,rfl⟩
    |false=>exact .inr ⟨c,h⟩
   .have J:(k == Ir)=false:=by simpa using Y
    simp only[J,By,Ek];exact .inr ⟨c,h⟩
structure dk (scX:Fq)(NX:Aa Ar)(scope:Fq)(N':Aa Ar)(cap:Aa (Al Ai)):Prop where
 kind:scope.kind=.function
 names:∀ y∈scope.names,y.2=.local -> scope.names.lookup y.1=Ab .local
 cel:∀ y∈scope.names,y.2=.cell->scope.names.lookup y.1=Ab .cell
 free:∀ y∈scope.names,y.2=.free->scX.names.lookup y.1=Ab .cell\/scX.names.lookup y.1=Ab .free
 fr2:∀ y∈scope.names,y.2=.free->scope.names.lookup y.1=Ab .free
 len:cap.length=N'.length
 caps:((cap.zip N').all λp=>match p.1 with|none=>true|some i=>NX[i]? == Ab p.2&&scope.names.lookup p.2 == Ab .free)=true
 nd:N'.Nodup
def vT (cj:Aa (Al Ai))(σ : _L.St):_L.St:=cj.map λo=>match o with
 |none=>none
 |some i=>(σ[i]?).join
def xK (cj:Aa (Al Ai))(al:qE):qE:=cj.map λo=>match o with
 |none=>none
 |some i=>(al[i]?).join
theorem VM {σ:_L.St}(G:zD K P α σ al)(cj:Aa (Al Ai)):zD K P α (vT cj σ) (xK cj al):=by
 refine⟨by simp[vT,xK],λj d e=>?_⟩
 unfold xK at e;unfold vT;rw[Ee] at e ⊢;cases q:cj[j]? with
 |none=>rw[q] at e;cases e
 |some o =>
  rw[q] at e;cases o with
  |none=>cases e
  |some i =>
   have Q:(al[i]?).join=Ab d:=by simpa using e
   cases z:al[i]? with
   |none=>rw[z] at Q;cases Q
   |some w =>
    rw[z] at Q;have Y:w=Ab d:=Q;subst Y;obtain⟨v,U,J⟩:=G.2 i d z;exact⟨v,by simp[U],J⟩
noncomputable def zA (X:Cx)(Q:Aa Ar)(am:Fq)(Y:Aa (Ar × Af))(C:Af)(ex:ag)(s₀:Ag)(H₀:Hp):Cx:=
 { X with N:=Q,s₀:=s₀,H₀:=H₀,env:=compEnvC am Y C X.env,outer:=X.stack,stack:=X.stack,ex:=ex,fn:=λx=>decide (am.names.lookup x=Ab .cell),pn:=[],xe:=λ_ _=>Fp }
theorem jI {am:Fq}{al:Jk}:∀ {Q:Aa (Ar × Je)} {x:Ar} {k:Je},
  (Q.map λ(n,k)=>if (k == Ir&&al.scope.kind == .function&&al.kindOf n == Ab .cell) then (n,Pz) else (n,k)).lookup x=Ab k ->
  Q.lookup x=Ab k\/(k=.cell/\Q.lookup x=Ab .free)
 |[],_,_,h=>by simp at h
 |(n,U)::r,x,k,h=>by
  rw[Ds,Hr] at h;rw[Hr];dsimp only at h;cases J:(U == Ir&&al.scope.kind == .function&&al.kindOf n == Ab .cell) with
  |true =>
   rw[J] at h;simp only[Ef] at h;cases Y:x == n with
   |true =>
    rw[Y] at h;have e:Pz=k:=Dg h;have G:U=.free:=by
     have:=(Bj _ _).mp J;have:=(Bj _ _).mp this.1;simpa using this.1
    subst G;exact .inr ⟨e.symm,rfl⟩
   |false=>rw[Y] at h;exact jI (am:=am) h
  |false =>
   rw[J] at h;simp only[By,Ek] at h;cases Y:x == n with
   |true=>rw[Y] at h;exact .inl h
   |false=>rw[Y] at h;exact jI (am:=am) h
section
variable {X:Cx}{am:Fq}{N':Aa Ar}{cj:Aa (Al Ai)}{aj:aa}{σ: _L.St}{H2:Hp}{s2:Ag}{fp:ag}
theorem gN (S:dk X.env.scope X.N am N' cj){x:Ar}{k:Je}(h:(relabel am X.env).names.lookup x=Ab k):am.names.lookup x=Ab k\/(k=.cell/\am.names.lookup x=Ab .free):=jI (am:=am) h
theorem XX (S:dk X.env.scope X.N am N' cj)(ok:X.Ok){x:Ar}{c:Af}(h:(vL X.env.cells am.names []).lookup x=Ab c):X.env.cells.lookup x=Ab c/\(x,Ir)∈am.names:=by
 rcases fO _ _ h with h|⟨J,Y⟩
 .cases h
 .have:=S.free _ J rfl
  obtain⟨U,Q⟩:=ok.has x this;rw[Q,Uf] at Y;rw[Q,Y];exact⟨rfl,J⟩
def KR (am:Fq)(C:Af):Aa (Ar × Af):=Io (C+1) am.names []
def gL (X:Cx)(am:Fq)(C:Af):Aa (Ar × Af):=Io (C+1) am.names (vL X.env.cells am.names [])
theorem vC:∀ (Q:Aa (Ar × Je)) (lo:Ai) (aw:Aa (Ar × Af)),Io lo Q aw=Io lo Q [] ++ aw
 |[],_,_=>rfl
 |(n,k)::r,lo,aw=>by
  unfold Io
  split
  .rw[vC r _ ((n,lo)::aw),vC r _ [(n,lo)],Cg];rfl
  .exact vC r lo aw
set_option tactic.hygienic true in
theorem b0:∀ (Q:Aa (Ar × Je)) (lo:Ai) {n:Ar} {c:Af},(n,c)∈Io lo Q [] -> (n,Pz)∈Q
 |[],_,_,_,h=>by cases h
 |(J,k)::r,lo,n,c,h=>by
  unfold Io at h
  split at h
  .rename_i Y
   rw[vC] at h;rcases Bv.mp h with h|h
   .exact Cd _ (b0 r _ h)
   .have e:(n,c)=(J,lo):=by simpa using h
    cases e;have:k=Pz:=by simpa using Y
    rw[this];exact Dm
  .exact Cd _ (b0 r _ h)
theorem xM (S:dk X.env.scope X.N am N' cj)(ok:X.Ok){C:Af}{x:Ar}{c:Af}(h:(gL X am C).lookup x=Ab c):((x,c)∈KR am C/\am.names.lookup x=Ab .cell)\/(X.env.cells.lookup x=Ab c/\(x,Ir)∈am.names):=by
 unfold gL at h;rw[vC,Zf] at h;cases q:(Io (C+1) am.names []).lookup x with
 |some Q =>
  rw[q] at h;cases h;have m:=Gz q;exact .inl ⟨m,S.cel _ (b0 _ _ m) rfl⟩
 |none =>
  rw[q] at h;exact .inr (XX S ok h)
theorem rY (S:dk X.env.scope X.N am N' cj)(ok:X.Ok){C:Af}{x:Ar}(h:am.names.lookup x=Ab .cell\/am.names.lookup x=Ab .free):∃ c,(gL X am C).lookup x=Ab c:=by
 unfold gL;rw[vC,Zf];rcases h with h|h
 .have:=Ly am.names (C+1) [] (x:=x) (.inl h)
  obtain⟨c,Y⟩:=Oh.mp this;exact⟨c,by rw[Y];rfl⟩
 .obtain⟨J,Q⟩:=dA (ix:=X.env.cells) am.names [] (.inl (Gz h))
  rw[Q];cases (Io (C+1) am.names []).lookup x with
  |none=>exact⟨J,rfl⟩
  |some c=>exact⟨c,rfl⟩
theorem FJ (S:dk X.env.scope X.N am N' cj)(Q:Inv X aj σ H2 s2)(A:∀ b∈fp,xR X aj H2 b)(B:∀ b∈fp,b<s2.heap.objs.size)(U:s2.heap.objs.size<=C){h1:Bk}(N:CellsOk h1 (C+1) (KR am C)) :
  (zA X N' am (gL X am C) C fp s2 H2).Ok where
 mod:=Q.ok.mod
 kind:=S.kind
 glob:=Q.ok.glob
 blt:=Q.ok.blt
 above:=U
 inj:=λx y c h1 G=>by
  rcases xM S Q.ok h1 with⟨L,_⟩|⟨L,_⟩ <;> rcases xM S Q.ok G with⟨O,_⟩|⟨O,_⟩
  .exact PySem.name_of_addr N.apart L O
  .obtain⟨v,M,J,_⟩:=Q.cell y c O
   exact absurd (Bi (Az J) U) (Me.mpr (Fx (N.empty x c L).2))
  .obtain⟨v,M,J,_⟩:=Q.cell x c L
   exact absurd (Bi (Az J) U) (Me.mpr (Fx (N.empty y c O).2))
  .exact Q.ok.inj x y c L O
 has:=λx E=>by
  have T:(relabel am X.env).names.lookup x=Ab .cell\/(relabel am X.env).names.lookup x=Ab .free:=E;refine rY S Q.ok ?_;rcases T with h|h
  .rcases gN S h with h|⟨_,h⟩
   .exact .inl h
   .exact .inr h
  .rcases gN S h with h|⟨z,_⟩
   .exact .inr h
   .cases z
 cab:=λx c h G=>by
  have E:am.names.lookup x=Ab .cell:=Cf h;rcases xM S Q.ok G with⟨m,_⟩|⟨_,m⟩
  .exact Cs U (Fx (N.empty x c m).2)
  .have:=S.fr2 _ m rfl
   have this':am.names.lookup x=Ab .free:=this;rw[E] at this';cases this'
 hd:=Q.ok.hd
 frames:=Q.ok.frames
 stk:=.inl rfl
 exf:=λb Y=>⟨Cw (Bi (B b Y) U),λx c h=>by
  rcases xM S Q.ok h with⟨m,_⟩|⟨m,_⟩
  .exact Dw (Cw (Ji (Bi (B b Y) U) (N.empty x c m).2))
  .exact(A b Y).2.2.2.2.1 x c m⟩
 bs:=Q.bs
 bsz:=Cs Q.ok.bsz Q.sz
 noex:=λb o e Y=>by
  obtain⟨_,_,_,h,_⟩:=A b Y;rcases h with h|h
  .exact Q.ok.noex b o e h
  .exact absurd (Bi (Az e) (Cs Q.ok.bsz h)) (Ex _)
 exfs:=λb Y I=>by
  obtain⟨_,h1,G,_⟩:=A b Y;rcases Ax.mp (Q.stkSub b I) with z|z
  .exact h1 z
  .exact G z
 funs:=Q.stack
 frf:=Q.stkFree
theorem UP {s4:Ag}{m:ah}(S:dk X.env.scope X.N am N' cj)(Y:Inv X aj σ H2 s2)(hf:∀ b∈fp,xR X aj H2 b)(l:∀ b∈fp,b<s2.heap.objs.size)(f:s2.heap.objs.size<=C)
  (hn:s4.heap.Ns C m) (os:s4.os=s2.os) (bj:s4.gens=s2.gens) (Q:∀ b o,s2.heap.get? b=Ab o->s4.heap.get? b=Ab o) (A:CellsOk s4.heap (C+1) (KR am C)) :
  Inv (zA X N' am (gL X am C) C fp s2 H2) [] (vT cj σ) H2 s4 where
 ok:=FJ S Y hf l f A
 os:=os
 bare:=bj▸Y.bare
 base:=Un.kept Q
 loc:=by
  refine⟨m,hn,λj x v h1 U h3=>?_⟩;have d:N'[j]? = Ab x:=h1;unfold vT at U;rw[Ee] at U;cases q:cj[j]? with
  |none=>rw[q] at U;cases U
  |some o =>
   rw[q] at U;cases o with
   |none=>cases U
   |some i =>
    have E:(σ[i]?).join=Ab v:=by simpa using U
    have r:σ[i]? = Ab (Ab v):=by
     cases z:σ[i]? with
     |none=>rw[z] at E;cases E
     |some w=>rw[z] at E;have:w=Ab v:=E;rw[this]
    have hz:(Ab i,x)∈cj.zip N':=by
     refine List.mem_iff_getElem?.mpr ⟨j,?_⟩;rw[List.getElem?_zip_eq_some];exact⟨q,d⟩
    have n:=Ca.mp S.caps _ hz;simp only[Bj,Re] at n;obtain⟨hN,J⟩:=n;have t:=S.free _ (Gz J) rfl;obtain⟨mo,zb,hl⟩:=Y.loc;have M:ow X.env.scope x:=by
     rcases t with k|k
     .exact .inr (.inl k)
     .exact .inr (.inr k)
    obtain⟨u,ru,lk⟩:=hl i x v hN r M;refine⟨u,ru,?_⟩;rcases lk with⟨kl,_⟩|⟨_,c,y,G⟩
    .have O:X.env.scope.names.lookup x=Ab .local:=kl
     rcases t with k|k
     .have L:X.env.scope.names.lookup x=Ab .cell:=k
      rw[O] at L;cases L
     .have L:X.env.scope.names.lookup x=Ab .free:=k
      rw[O] at L;cases L
    .obtain⟨c',T⟩:=rY S Y.ok (C:=C) (.inr J)
     have e:X.env.cells.lookup x=Ab c':=by
      rcases xM S Y.ok T with⟨_,z⟩|⟨z,_⟩
      .rw[J] at z;cases z
      .exact z
     rw[y] at e;cases e;refine .inr ⟨?_,c,T,?_⟩
     .have g:ow (relabel am X.env) x:=h3
      rcases g with h|h|h
      .rcases gN S h with h|⟨z,_⟩
       .rw[J] at h;cases h
       .cases z
      .exact .inl h
      .exact .inr h
     .obtain⟨B,N,I⟩:=G
      exact⟨B,Q c B N,I⟩
 cell:=λx c h=>by
  rcases xM S Y.ok h with⟨m,_⟩|⟨m,_⟩
  .exact⟨none,(A.empty x c m).1⟩
  .obtain⟨v,B,N,I⟩:=Y.cell x c m
   exact⟨v,B,Q c B N,I⟩
 free:=Y.hok.fresh f
 freeC:=λx c h=>by
  rcases xM S Y.ok h with⟨m,_⟩|⟨m,_⟩
  .exact Y.hok.fresh (Cs f (Fx (A.empty x c m).2))
  .exact Y.freeC x c m
 pin:=λp a=>absurd (show p∈([]:aa) from a) a8
 hok:=Y.hok.kept Q
 len:=by
  show (vT cj σ).length=N'.length;simp[vT,S.len]
end
theorem WZ {P:Bc}{a:Af}{o:HO}(x:gt P w H h)(Y:H a=none)(Q:zC P w (bw H a o) h a o):gt P w (bw H a o) h:=λb u e=>by
 by_cases J:b=a
 .subst J;rw[qT] at e;cases e;exact Q
 .rw[qJ J] at e
  exact(x b u e).stay (λc v _ q=>q) (λc q=>by rw[qJ (z0 q Y)];exact q) λc U q=>by rw[qJ (z0 q Y)];exact q
theorem WY {P:Bc}{h h':Bk}(x:gt P w H h)(Q:H C=none)(k:∀ b o,b≠C->h.get? b=Ab o->h'.get? b=Ab o):gt P w H h':=λb u e =>
 (x b u e).stay (λc v Y q=>k c v (by
  rintro rfl;rcases Y with z|z
  .subst z;rw[Q] at e;cases e
  .rw[Q] at z;cases z) q) (λ_ q=>q) λ_ _ q=>q
section
variable {X:Cx}{am:Fq}{N':Aa Ar}{cj:Aa (Al Ai)}
def kR (X:Cx)(aj:aa)(σ : _L.St)(P1:Hp)(α1:ag)(ds:Aa D)(G:aq)(aw C:Af)(s:Ag):Prop:=
 ∃ (Y J:Hp) (Q : Aa Af) (U:Aa V),Inv X aj σ (bw Y aw (.lst U)) s/\bf X.K Y J Q G/\Y aw=none/\qI P1 J/\α1<+:Q/\qF X.K J Q ds U/\Y C=none
theorem rX {Y:Cx}{σ w:_L.St}{J s':Ag}{fp:ag}{aw:Af}{H' l:Hp}{L:ag}{a:qE}{y:aq}{m:Aa (Ar × Af)}(I2:Inv X aj σ T J)
  (hf:∀ b∈fp,xR X aj T b) (h:Y=zA X N' am m C fp J T) (hC:J.heap.objs.size<=C) (hA:J.heap.objs.size<=aw) (j:aw≠C) (st:fw kj Y [] P1 α1 fp aw a y ds s' w H' l L o)
  {h':Bk} (d:Fb C s'.heap h'):kR X aj σ P1 α1 ds y aw C { s' with heap:=h' }:=by
 subst h;obtain⟨p,n,I,rfl,x,k,v⟩:=st.acc;have N:∀ b o,b≠C->s'.heap.get? b=Ab o->h'.get? b=Ab o:=λb o G e=>(d.2 b G).trans e;have z:∀ b o,J.heap.get? b=Ab o->b≠C:=λb o e=>Cw (Bi (Az e) hC);have nA:∀ b o,J.heap.get? b=Ab o->b≠aw:=λb o e=>Cw (Bi (Az e) hA);have base:Un (gx X.stack) fp T H' J.heap s'.heap:=st.inv.base;have A:∀ b u,H' b=Ab u->b≠aw:=λb u e=>z0 e st.acn;have un:Un (gx X.stack) fp T (bw H' aw (.lst I)) J.heap h':=by
  refine⟨λb Q q O G U=>N b Q (z b Q q) (base.keep b Q q O G U),λb Q q O G U=>?_,λb Q q O U=>?_,λb Q q U=>?_,λb xs q=>?_,λb Q u q=>?_,λb ps q=>?_⟩
  .obtain⟨f,e⟩:=base.slot b Q q O G U
   exact⟨f,N b _ (z b Q q) e⟩
  .rw[qJ (nA b Q q)];exact base.free b Q q O U
  .obtain⟨c,e⟩:=base.there b Q q U
   exact⟨c,N b c (z b Q q) e⟩
  .have:=base.tups b xs q;rw[qJ (A _ _ this)];exact this
  .have:=base.frzs b Q u q;rw[qJ (A _ _ this)];exact this
  .obtain⟨i,e⟩:=base.tbls b ps q
   exact⟨i,by rw[qJ (A _ _ e)];exact e⟩
 have B:gt X.prog X.w H' h':=WY st.inv.hok st.inv.free N;have E:h'.get? aw=Ab { cls:=.type "list",data:=.seq p.toArray n }:=N aw _ j st.at';have M:gt X.prog X.w (bw H' aw (.lst I)) h':=WZ B st.acn ⟨by rw[<- k.length,<- xC];exact v,p,n,x,E⟩
 refine⟨H',l,L,I,?_,st.rel,st.acn,st.same,st.pre,k,st.inv.free⟩;exact I2.call' (s':={ s' with heap:=h' }) (ch:=fp) (st.inv.os) un M st.inv.bare λb G=>by
  obtain⟨_,h1,h2,h3,h4,r⟩:=hf b G;exact⟨h3,h1,h4,r⟩
theorem aW (S:dk X.env.scope X.N am N' cj)(ok:X.Ok):closureFor am X.env=pure (vL X.env.cells am.names []):=sI λy Y Q=>ok.has y.1 (S.free y Y Q)
theorem M8 {σ:_L.St}(c:kR X aj σ P1 α1 ds J aw C s)(ok:jj X P1 α1 Q (.lst ds) J):EP X aj σ Q (.ref aw) s:=by
 obtain⟨y,z,B,j,I,r,N,w,U,E,_⟩:=c;exact⟨.ref aw,_,I,rfl,wO r N E λv L A Y G O T M=>ok v L A Y G (w.trans O) (U.trans T) M⟩
end
end _D
section
namespace _D
open _L PySem.SeqAt
noncomputable def yl (b:Au):Am:=if b then 1 else 0
mutual
def fz:D->D->Au
 |.non,.non=>true
 |.bl a,.bl b=>a == b
 |.bl a,.int b=>yl a == b
 |.int a,.bl b=>a == yl b
 |.int a,.int b=>a == b
 |.str a,.str b=>a == b
 |.tup Y,.tup Q=>xB Y Q
 |.lst Y,.lst Q=>xB Y Q
 |_,_=>false
def xB:Aa D->Aa D->Au
 |[],[]=>true
 |x::Q,y::Y=>fz x y&&xB Q Y
 |_,_=>false
end
noncomputable def pl:Ai->D->Au
 |_,.non=>true
 |_,.bl _=>true
 |_,.int _=>true
 |_,.str _=>true
 |n+1,.tup Q=>Q.all (pl n)
 |n+1,.lst Q=>Q.all (pl n)
 |_,_=>false
theorem dG (x y:D)(xs ys:Aa D):xB (x::xs) (y::ys)=(fz x y&&xB xs ys):=rfl
theorem yA:∀ (xs ys:Aa D),xB xs ys=((Dd (min xs.length ys.length)).all (λj=>fz (xs.getD j .non) (ys.getD j .non))&&xs.length == ys.length)
 |[],[]=>rfl
 |[],y::ys=>rfl
 |x::xs,[]=>rfl
 |x::xs,y::ys=>by
  have Q:=yA xs ys;rw[dG,Q,Ba,Ba,Nat.succ_min_succ,Pq,Tf,Kl,Bool.and_assoc];have e:(xs.length+1 == ys.length+1)=(xs.length == ys.length):=by simp
  rw[e];rfl
theorem JF {xs ys:Aa D}(h:xs.length≠ys.length):xB xs ys=false:=by
 rw[yA];simp[h]
theorem nW (xs ys:Aa D):fz (.tup xs) (.tup ys)=xB xs ys:=rfl
theorem nV (xs ys:Aa D):fz (.lst xs) (.lst ys)=xB xs ys:=rfl
section
variable {X:Cx}{aj:aa}{σ: _L.St}{H P:Hp}{α: Aa Af}{S:aq}{s:Ag}
inductive Kd (X:Cx)(P:Hp)(α : Aa Af)(s:Ag):D->Ad->Prop where
 |non:Kd X P α s .non .none
 |bl (b:Au):Kd X P α s (.bl b) (.bool b)
 |int (i:Am) (t:Sr):Kd X P α s (.int i) (.int i t)
 |str (x:Ar) (t:Sr):Kd X P α s (.str x) (.str x t)
 |tup (a:Af) (xs:Aa D) (its:ai) (vs:Aa V) (rp:qF X.K P α xs vs) (rv:qQ vs its) (h:s.heap.IsTuple a its.toArray) (q:jf X.K P a vs):Kd X P α s (.tup xs) (.ref a)
 |lst (a:Af) (xs:Aa D) (its:ai) (vs:Aa V) (rp:qF X.K P α xs vs) (rv:qQ vs its) (h:s.heap.IsList a its.toArray) (q:qe X.K P a vs):Kd X P α s (.lst xs) (.ref a)
theorem yX (I:Inv X aj σ H s)(r:bf X.K H P α S){n:Ai}{d:D}{v:V}{u:Ad}(h:pl n d=true)(p:av X.K P α d v)(Q:qL v u):Kd X P α s d u:=by
 cases d with
 |non=>simp only[av] at p;subst p;cases Q;exact .non
 |bl b=>simp only[av] at p;subst p;cases Q;exact .bl b
 |int i=>simp only[av] at p;subst p;obtain⟨t,rfl⟩:=Q;exact .int i t
 |str x=>simp only[av] at p;subst p;obtain⟨t,rfl⟩:=Q;exact .str x t
 |tup U =>
  simp only[av] at p;obtain⟨a,G,rfl,q,t⟩:=p;cases Q;obtain⟨N,Y,J,_⟩:=I.tuple (xX r.sub q);exact .tup a U N G t Y J q
 |lst U =>
  simp only[av] at p;obtain⟨a,G,rfl,q,t⟩:=p;cases Q;obtain⟨N,Y,J,_⟩:=I.list ((xT r.sub q).l);exact .lst a U N G t Y J.isList q
 |_=>cases n <;> exact Dt h
theorem wN (J:qF X.K P α ds vs)(U:qQ vs ao){j:Ai}(h:j<ao.toArray.size):∃ v,av X.K P α (ds.getD j .non) v/\qL v ao.toArray[j]/\ds.getD j .non∈ds:=by
 have L:=J.length;have B:=U.length;have N:j<ao.length:=by simpa using h
 have Q:j<ds.length:=by lia
 obtain⟨v,C,p⟩:=J.get (An Q);obtain⟨u,Y,q⟩:=U.get C;have G:ao.toArray[j]=u:=by
  have:ao[j]? = Ab ao[j]:=An N;rw[this] at Y;simpa using Dg Y
 have O:ds.getD j .non=ds[j]:=by simp[Jh,Q]
 rw[G,O];exact⟨v,p,q,Jq Q⟩
theorem wD {ds:Aa D}(h:ds.all (pl n)=true){d:D}(hd:d∈ds):pl n d=true:=Ca.mp h d hd
theorem l0 {h:Bk}{a:Af}(h1:h.IsTuple a xs)(h2:h.IsTuple a ys):xs=ys:=by
 obtain⟨o,e,_,n,d⟩:=h1;obtain⟨U,Y,_,J,Q⟩:=h2;cases e.symm.trans Y;cases d.symm.trans Q;rfl
theorem iH {h:Bk}{a:Af}(h1:h.IsList a xs)(h2:h.IsList a ys):xs=ys:=by
 obtain⟨o,e,_,n,d⟩:=h1;obtain⟨U,Y,_,J,Q⟩:=h2;cases e.symm.trans Y;cases d.symm.trans Q;rfl
theorem Z4 {h:Bk}{a:Af}(h1:h.IsTuple a xs)(h2:h.IsList a ys):Fp:=by
 obtain⟨o,e,c,_⟩:=h1;obtain⟨J,Q,Y,_⟩:=h2;cases e.symm.trans Q;exact absurd (c.symm.trans Y) da
inductive jh (X:Cx)(P:Hp)(α : Aa Af)(xs ys:Aa D)(its its2:ai):Prop
 |mk (vs ws:Aa V) (rp:qF X.K P α xs vs) (rv:qQ vs its) (rp2:qF X.K P α ys ws) (rv2:qQ ws its2):jh X P α xs ys its its2
theorem jh.len1 (q:jh X P α xs ys ao Q):xs.length=ao.length:=by
 obtain⟨G,U,Y,J,_,_⟩:=q;exact Y.length.trans J.length
theorem jh.len2 (q:jh X P α xs ys ao Q):ys.length=Q.length:=by
 obtain⟨G,U,_,_,Y,J⟩:=q;exact Y.length.trans J.length
inductive oy (X:Cx)(P:Hp)(α : Aa Af):D->D->Prop
 |eq {d d':D} (h:fz d d'=true):oy X P α d d'
 |tt (xs ys:Aa D) (its:ai) (q:jh X P α xs ys its its):oy X P α (.tup xs) (.tup ys)
 |ll (xs ys:Aa D) (its:ai) (q:jh X P α xs ys its its):oy X P α (.lst xs) (.lst ys)
theorem oK (k1:Kd X P α s d u)(k2:Kd X P α s d' u):oy X P α d d':=by
 cases k1 with
 |non=>cases k2;exact .eq rfl
 |bl b=>cases k2;exact .eq (Fg _)
 |int i t=>cases k2;exact .eq (Fg _)
 |str x t=>cases k2;exact .eq (Fg _)
 |tup a L O T B E h q =>
  cases k2 with
  |tup _ G Q N J Y U C =>
   cases l0 h U;exact .tt L G O ⟨T,N,B,E,J,Y⟩
  |lst _ G Q N J Y U C=>exact(Z4 h U).elim
 |lst a L O T B E h q =>
  cases k2 with
  |lst _ G Q N J Y U C =>
   cases iH h U;exact .ll L G O ⟨T,N,B,E,J,Y⟩
  |tup _ G Q N J Y U C=>exact(Z4 U h).elim
theorem dH (I:Inv X aj σ H s)(r:bf X.K H P α S){m:Ai}(A:∀ (d d':D) (u:Ad),pl m d=true->pl m d'=true->Kd X P α s d u->Kd X P α s d' u->fz d d'=true){xs ys:Aa D}{ao:ai}(h1:xs.all (pl m)=true)(h2:ys.all (pl m)=true)(q:jh X P α xs ys ao ao):xB xs ys=true:=by
 obtain⟨z,k,U,O,Y,Q⟩:=q;have B:=U.length.trans O.length;have M:=Y.length.trans Q.length;rw[yA,B,M,Ur,Bj];refine⟨Ca.mpr λj J=>?_,BEq.rfl⟩;have J:j<ao.toArray.size:=Fe.mp J;obtain⟨w,E,T,N⟩:=wN U O J;obtain⟨y,C,L,G⟩:=wN Y Q J;exact A _ _ _ (wD h1 N) (wD h2 G) (yX I r (wD h1 N) E T) (yX I r (wD h2 G) C L)
theorem i3 (I:Inv X aj σ H s)(r:bf X.K H P α S):∀ (n:Ai) (d d':D) (u:Ad),pl n d=true->pl n d'=true->Kd X P α s d u->Kd X P α s d' u->fz d d'=true:=by
 intro n
 induction n with
 |zero =>
  intro d d' u Q Y N G;cases oK N G with
  |eq h=>exact h
  |tt=>exact Dt Q
  |ll=>exact Dt Q
 |succ m O =>
  intro d d' u Q Y N G;cases oK N G with
  |eq h=>exact h
  |tt J U C q=>exact(nW J U).trans (dH I r O Q Y q)
  |ll J U C q=>exact(nV J U).trans (dH I r O Q Y q)
structure E3 (A:Bl)(s:Ag)(u u':Ad)(b:Au):Prop where
 eq:EqAt A s u u' b
 rc:RcAt A s u u' b
 ne:RcNeAt A s u u' (!b)
inductive yw (X:Cx)(P:Hp)(α : Aa Af)(A:Bl)(s:Ag):D->D->Ad->Ad->Prop
 |of {d d':D} {u u':Ad} (b:Au) (e:fz d d'=b) (h:E3 A s u u' b):yw X P α A s d d' u u'
 |tt (a b:Af) (xs ys:Aa D) (its its2:ai) (ha:s.heap.IsTuple a its.toArray) (hb:s.heap.IsTuple b its2.toArray) (q:jh X P α xs ys its its2):yw X P α A s (.tup xs) (.tup ys) (.ref a) (.ref b)
 |ll (a b:Af) (xs ys:Aa D) (its its2:ai) (ha:s.heap.IsList a its.toArray) (hb:s.heap.IsList b its2.toArray) (q:jh X P α xs ys its its2):yw X P α A s (.lst xs) (.lst ys) (.ref a) (.ref b)
theorem B0 {A:Bl}(Q:A.units<Ed)(k1:Kd X P α s d u)(k2:Kd X P α s d' j):yw X P α A s d d' u j:=by
 cases k1 with
 |non  =>
  cases k2 with
  |non  => exact .of _ rfl ⟨AbG _,RcAt.none_none,RcNeAt.none_none⟩
  |bl b=>exact .of _ rfl ⟨EqAt.none_bool b,RcAt.none_bool b,RcNeAt.none_bool b⟩
  |int b Y=>exact .of _ rfl ⟨EqAt.none_int b Y,RcAt.none_int b Y,RcNeAt.none_int b Y⟩
  |str b Y=>exact .of _ rfl ⟨EqAt.none_str b Y,RcAt.none_str b Y,RcNeAt.none_str b Y⟩
  |tup b B U L C O J T=>exact .of _ rfl ⟨EqAt.none_tuple J Q,RcAt.none_tuple J Q,RcNeAt.none_tuple J Q⟩
  |lst b B U L C O J T=>exact .of _ rfl ⟨EqAt.none_list J Q,RcAt.none_list J Q,RcNeAt.none_list J Q⟩
 |bl a =>
  cases k2 with
  |non  => exact .of _ rfl ⟨EqAt.bool_none a,RcAt.bool_none a,RcNeAt.bool_none a⟩
  |bl b=>exact .of _ rfl ⟨EqAt.bool_bool a b,RcAt.bool_bool a b,RcNeAt.bool_bool a b⟩
  |int b Y=>exact .of _ rfl ⟨EqAt.bool_int a b Y,RcAt.bool_int a b Y,RcNeAt.bool_int a b Y⟩
  |str b Y=>exact .of _ rfl ⟨EqAt.bool_str a b Y,RcAt.bool_str a b Y,RcNeAt.bool_str a b Y⟩
  |tup b B U L C O J T=>exact .of _ rfl ⟨EqAt.bool_tuple a J Q,RcAt.bool_tuple a J Q,RcNeAt.bool_tuple a J Q⟩
  |lst b B U L C O J T=>exact .of _ rfl ⟨EqAt.bool_list a J Q,RcAt.bool_list a J Q,RcNeAt.bool_list a J Q⟩
 |int a G =>
  cases k2 with
  |non  => exact .of _ rfl ⟨EqAt.int_none a G,RcAt.int_none a G,RcNeAt.int_none a G⟩
  |bl b=>exact .of _ rfl ⟨EqAt.int_bool a G b,RcAt.int_bool a G b,RcNeAt.int_bool a G b⟩
  |int b Y=>exact .of _ rfl ⟨EqAt.int_int a G b Y,RcAt.int_int a G b Y,RcNeAt.int_int a G b Y⟩
  |str b Y=>exact .of _ rfl ⟨EqAt.int_str a G b Y,RcAt.int_str a G b Y,RcNeAt.int_str a G b Y⟩
  |tup b B U L C O J T=>exact .of _ rfl ⟨EqAt.int_tuple a G J Q,RcAt.int_tuple a G J Q,RcNeAt.int_tuple a G J Q⟩
  |lst b B U L C O J T=>exact .of _ rfl ⟨EqAt.int_list a G J Q,RcAt.int_list a G J Q,RcNeAt.int_list a G J Q⟩
 |str a G =>
  cases k2 with
  |non  => exact .of _ rfl ⟨EqAt.str_none a G,RcAt.str_none a G,RcNeAt.str_none a G⟩
  |bl b=>exact .of _ rfl ⟨EqAt.str_bool a G b,RcAt.str_bool a G b,RcNeAt.str_bool a G b⟩
  |int b Y=>exact .of _ rfl ⟨EqAt.str_int a G b Y,RcAt.str_int a G b Y,RcNeAt.str_int a G b Y⟩
  |str b Y=>exact .of _ rfl ⟨EqAt.str_str a G b Y,RcAt.str_str a G b Y,RcNeAt.str_str a G b Y⟩
  |tup b B U L C O J T=>exact .of _ rfl ⟨EqAt.str_tuple a G J Q,RcAt.str_tuple a G J Q,RcNeAt.str_tuple a G J Q⟩
  |lst b B U L C O J T=>exact .of _ rfl ⟨EqAt.str_list a G J Q,RcAt.str_list a G J Q,RcNeAt.str_list a G J Q⟩
 |tup a M E w I z N y =>
  cases k2 with
  |non  => exact .of _ rfl ⟨EqAt.tuple_none N Q,RcAt.tuple_none N Q,RcNeAt.tuple_none N Q⟩
  |bl b=>exact .of _ rfl ⟨EqAt.tuple_bool b N Q,RcAt.tuple_bool b N Q,RcNeAt.tuple_bool b N Q⟩
  |int b Y=>exact .of _ rfl ⟨EqAt.tuple_int b Y N Q,RcAt.tuple_int b Y N Q,RcNeAt.tuple_int b Y N Q⟩
  |str b Y=>exact .of _ rfl ⟨EqAt.tuple_str b Y N Q,RcAt.tuple_str b Y N Q,RcNeAt.tuple_str b Y N Q⟩
  |tup b B U L C O J T=>exact .tt a b M B E U N J ⟨w,L,I,z,C,O⟩
  |lst b B U L C O J T=>exact .of _ rfl ⟨EqAt.tuple_list N J Q,RcAt.tuple_list N J Q,RcNeAt.tuple_list N J Q⟩
 |lst a M E w I z N y =>
  cases k2 with
  |non  => exact .of _ rfl ⟨EqAt.list_none N Q,RcAt.list_none N Q,RcNeAt.list_none N Q⟩
  |bl b=>exact .of _ rfl ⟨EqAt.list_bool b N Q,RcAt.list_bool b N Q,RcNeAt.list_bool b N Q⟩
  |int b Y=>exact .of _ rfl ⟨EqAt.list_int b Y N Q,RcAt.list_int b Y N Q,RcNeAt.list_int b Y N Q⟩
  |str b Y=>exact .of _ rfl ⟨EqAt.list_str b Y N Q,RcAt.list_str b Y N Q,RcNeAt.list_str b Y N Q⟩
  |tup b B U L C O J T=>exact .of _ rfl ⟨EqAt.list_tuple N J Q,RcAt.list_tuple N J Q,RcNeAt.list_tuple N J Q⟩
  |lst b B U L C O J T=>exact .ll a b M B E U N J ⟨w,L,I,z,C,O⟩
theorem E3.cast {b c:Au}(e:c=b)(h:E3 A s u Q b):E3 A s u Q c:=e▸h
theorem B3 {A:Bl}{a b:Af}{xs ys:Aa D}{ao Q:ai}(N:A.units<Ed)(G:s.heap.IsTuple a ao.toArray)(U:s.heap.IsTuple b Q.toArray)(O:xs.length=ao.length)(C:ys.length=Q.length)
  (sub:∀ j (h1:j<ao.toArray.size) (h2:j<Q.toArray.size),EqAt A.in1 s ao.toArray[j] Q.toArray[j] (fz (xs.getD j .non) (ys.getD j .non))) (same:a=b->xB xs ys=true):E3 A s (.ref a) (.ref b) (xB xs ys):=by
 have e:xB xs ys=((Dd (min ao.toArray.size Q.toArray.size)).all (λj=>fz (xs.getD j .non) (ys.getD j .non))&&ao.toArray.size == Q.toArray.size):=by rw[yA,O,C];rfl
 have J:=RcAt.tuples G U N sub;have R2:=RcNeAt.tuples G U N sub;rw[<- e] at J R2;refine⟨?_,J,R2⟩;by_cases Y:a=b
 .rw[same Y,Y]
  exact AbG _
 .exact EqAt.of_refs Y J
theorem IV {A:Bl}{a b:Af}{xs ys:Aa D}{ao Q:ai}(N:A.units<Ed)(G:s.heap.IsList a ao.toArray)(U:s.heap.IsList b Q.toArray)(C:xs.length=ao.length)(B:ys.length=Q.length)
  (sub:∀ j (h1:j<ao.toArray.size) (h2:j<Q.toArray.size),EqAt A.in1 s ao.toArray[j] Q.toArray[j] (fz (xs.getD j .non) (ys.getD j .non))) (same:a=b->xB xs ys=true):E3 A s (.ref a) (.ref b) (xB xs ys):=by
 have R:RcAt A s (.ref a) (.ref b) (xB xs ys)/\RcNeAt A s (.ref a) (.ref b) (!xB xs ys):=by
  by_cases J:ao.length=Q.length
  .have e:xB xs ys=(Dd ao.toArray.size).all (λj=>fz (xs.getD j .non) (ys.getD j .non)):=by rw[yA,C,B,<- J,Ur,BEq.rfl,AbH];rfl
   rw[e];exact⟨RcAt.lists G U J N sub,RcNeAt.lists G U J N sub⟩
  .rw[JF (by rw[C,B];exact J)]
   have O:(ao.toArray.size != Q.toArray.size)=true:=bne_iff_ne.mpr J;exact⟨RcAt.lists_lengths G U O N,RcNeAt.lists_lengths G U O N⟩
 refine⟨?_,R.1,R.2⟩;by_cases Y:a=b
 .rw[same Y,Y]
  exact AbG _
 .exact EqAt.of_refs Y R.1
theorem eF (I:Inv X aj σ H s)(r:bf X.K H P α S):∀ (n:Ai) (A:Bl) (d d':D) (u L:Ad),A.units+n<Ed->pl n d=true->pl n d'=true->Kd X P α s d u->Kd X P α s d' L->E3 A s u L (fz d d'):=by
 intro n
 induction n with
 |zero =>
  intro A d d' u L M U N B C;cases B0 M B C with
  |of b e h=>exact h.cast e
  |tt=>exact Dt U
  |ll=>exact Dt U
 |succ m x =>
  intro A d d' u L M U N B C;have G:A.units<Ed:=Oq (Hs _ _) M;have we:A.in1.units+m<Ed:=by show A.units+1+m<Ed;lia
  have sub:∀ {Y J:Aa D} {O Q:ai},Y.all (pl m)=true->J.all (pl m)=true->jh X P α Y J O Q ->
    ∀ j (U:j<O.toArray.size) (N:j<Q.toArray.size),EqAt A.in1 s O.toArray[j] Q.toArray[j] (fz (Y.getD j .non) (J.getD j .non)):=λ{Y J O Q} y k ⟨vs,ws,v,o,c1,t⟩ j g l=>by
   obtain⟨w1,i,f,z⟩:=wN v o g;obtain⟨w2,p,c,w⟩:=wN c1 t l;exact(x A.in1 _ _ _ _ we (wD y z) (wD k w) (yX I r (wD y z) i f) (yX I r (wD k w) p c)).eq
  cases B0 G B C with
  |of b e h=>exact h.cast e
  |tt a b Y J O Q E T q=>exact(B3 G E T q.len1 q.len2 (sub U N q) λe=>by subst e;exact(nW Y J).symm.trans (i3 I r (m+1) _ _ _ U N B C)).cast (nW Y J)
  |ll a b Y J O Q E T q=>exact(IV G E T q.len1 q.len2 (sub U N q) λe=>by subst e;exact(nV Y J).symm.trans (i3 I r (m+1) _ _ _ U N B C)).cast (nV Y J)
def zW:Ai:=30
def mj:G2:=λa b S=>if pl zW a&&pl zW b then .ok (.bl (fz a b)) S else .bad
def ni:G2:=λa b S=>if pl zW a&&pl zW b then .ok (.bl (!fz a b)) S else .bad
set_option tactic.hygienic true in
theorem OR (B:X.A.units+64<Ed):gq X (Cy .Eq) mj:=by
 intro aj σ H s P α S v u G U a b Q I r C O J N Y;unfold mj at Y
 split at Y
 .rename_i h
  rw[Bj] at h;exact(eF I r zW X.A a b G U (by unfold zW;lia) h.1 h.2 (yX I r h.1 J C) (yX I r h.2 N O)).rc _ _ _ _ ⟨.bl _,H,I,rfl,xr Y r (by simp only[av])⟩
 .exact Aq Y
set_option tactic.hygienic true in
theorem OW (B:X.A.units+64<Ed):gq X (Cy .NotEq) ni:=by
 intro aj σ H s P α S v u G U a b Q I r C O J N Y;unfold ni at Y
 split at Y
 .rename_i h
  rw[Bj] at h;exact(eF I r zW X.A a b G U (by unfold zW;lia) h.1 h.2 (yX I r h.1 J C) (yX I r h.2 N O)).ne _ _ _ _ ⟨.bl _,H,I,rfl,xr Y r (by simp only[av])⟩
 .exact Aq Y
end
end _D
end
namespace _D
open _L
variable {aj:aa}{kvs:Aa (bz × D)}{ao us:ai}{xs ds:Aa D}{vs:Aa V}{f:Ad->Ad->Lb Ad}{s:Ag}{d:D}{v:V}{Q:VK}{σ:_L.St}
section
variable {X:Cx}
noncomputable def i2 (C:Am->Am->Au)(f:Am->Am->D):G2:=λa b S=>match a,b with
 |.int i,.int j=>if C i j then .ok (f i j) S else .bad
 |_,_=>.bad
theorem B9 {C:Am->Am->Au}{f:Am->Am->D}{a b:D}{S:aq}{P:Hp}{α:ag}{Ok:D->aq->Prop}(h:qO X P α (i2 C f a b S) Ok):∃ i j,a=.int i/\b=.int j/\C i j=true/\Ok (f i j) S:=by
 cases a with
 |int i =>
  cases b with
  |int j =>
   obtain⟨Y,h⟩:=uI (X:=X) h;exact⟨i,j,rfl,rfl,Y,h⟩
  |_=>exact Aq h
 |_=>exact Aq h
theorem xF {P:Hp}{α:ag}(r:av X.K P α (.int i) v):v=.int i:=by simpa only [av] using r
theorem tS {Y:Am->Am->Prop}{v:Am->Am->V}{C:Am->Am->Au}{d:Am->Am->D}(h:lq X f (rI Y v))(N:∀ i j,C i j=true->Y i j)(hv:∀ P α i j,av X.K P α (d i j) (v i j)):gq X f (i2 C d):=
 gq.of h λH P α S x y a b Q r U O G=>by
  obtain⟨i,j,rfl,rfl,J,ok⟩:=B9 G;exact⟨i,j,xF U,xF O,N i j J,xr ok r (hv P α i j)⟩
theorem bH {v:Am->Am->V}{d:Am->Am->D}(h:lq X f (sr v))(hv:∀ P α i j,av X.K P α (d i j) (v i j)):gq X f (i2 (λ_ _=>true) d):=
 gq.of h λH P α S x y a b Q r Y U J=>by
  obtain⟨i,j,rfl,rfl,_,ok⟩:=B9 J;exact⟨i,j,xF Y,xF U,xr ok r (hv P α i j)⟩
def wM:G2:=i2 (λ_ _=>true) λi j=>.int (i-j)
theorem EY:gq X (Fj .Sub) wM:=bH HG λP α i j=>by simp only[av]
noncomputable def rP (i j:Am):Au:=decide (-(2 ^ 64)<i/\i<2 ^ 64)||decide (-(2 ^ 64)<j/\j<2 ^ 64)
theorem TY:gq X (Fj .Mult) (i2 rP λi j=>.int (i*j)):=tS HE (λi j h=>by
 unfold rP at h;rw[Ny] at h;rcases h with h|h
 .exact .inl (Cf h)
 .exact .inr (Cf h)) λP α i j=>by simp only[av]
noncomputable def DH (i j:Am):Au:=decide (0<j/\j<1073741824)
def kI:G2:=i2 DH λi j=>.int (i/j)
theorem ES:gq X (Fj .FloorDiv) kI:=tS N2 (λi j h=>(Cf h:0<j/\j<1073741824)) λP α i j=>by simp only[av]
def uO:G2:=i2 (λ_ j=>decide (0<j)) λi j=>.int (i % j)
theorem EV:gq X (Fj .Mod) uO:=tS HD (λi j h=>Cf h) λP α i j=>by simp only[av]
noncomputable def DJ (i j:Am):Au:=decide (0<=j/\j<=1000000/\i.natAbs<2 ^ 64)
def kK:G2:=i2 DJ λi j=>.int (i ^ j.toNat)
theorem EW:gq X (Fj .Pow) kK:=tS HF (λi j h=>(Cf h:0<=j/\j<=1000000/\i.natAbs<2 ^ 64)) λP α i j=>by simp only[av]
def wu:G2:=i2 (λ_ _=>true) λi j=>.bl (decide (i<j))
def pq:G2:=i2 (λ_ _=>true) λi j=>.bl (decide (i<=j))
def yh:G2:=i2 (λ_ _=>true) λi j=>.bl (decide (j<i))
def yi:G2:=i2 (λ_ _=>true) λi j=>.bl (decide (j<=i))
theorem BO:gq X (Cy .Lt) wu:=bH qAA λP α i j=>by simp only[av]
theorem OV:gq X (Cy .LtE) pq:=bH OZ λP α i j=>by simp only[av]
theorem OT:gq X (Cy .Gt) yh:=bH OY λP α i j=>by simp only[av]
theorem OS:gq X (Cy .GtE) yi:=bH OX λP α i j=>by simp only[av]
def kJ:D->aq->a_ D:=λa S=>match a with
 |.int i=>.ok (.int (-i)) S
 |_=>.bad
theorem AI:zi X (Aa9 .USub) kJ:=by
 intro aj σ H s P α S v J a Q I r U p Y;cases a with
 |int i=>exact AJ aj s σ H v J Q I U ⟨i,xF p,xr Y r (by simp only[av])⟩
 |_=>exact Aq Y
noncomputable def ul:G2:=λa b S=>match b with
 |.non=>match a with
  |.non=>.ok (.bl true) S
  |_=>.ok (.bl false) S
 |_=>.bad
def bC:G2:=λa b S=>match b with
 |.non=>match a with
  |.non=>.ok (.bl false) S
  |_=>.ok (.bl true) S
 |_=>.bad
theorem o3 {P:Hp}{α:ag}(r:av X.K P α d v):decide (v=.non)=(match d with|.non=>true|_=>false):=by
 cases d <;> simp only[av] at r
 case non=>subst r;rfl
 case bl=>subst r;rfl
 case int=>subst r;rfl
 case str=>subst r;rfl
 case ty=>subst r;rfl
 case clo=>obtain⟨rfl,_⟩:=r;rfl
 case obj=>obtain⟨rfl,_⟩:=r;rfl
 case tup=>obtain⟨a,vs,rfl,_⟩:=r;rfl
 case lst=>obtain⟨a,vs,rfl,_⟩:=r;rfl
 case dct0=>obtain⟨a,rfl,_⟩:=r;rfl
 case loc=>obtain⟨a,rfl,_⟩:=r;rfl
 case exn=>obtain⟨a,rfl,_⟩:=r;rfl
 case fd=>obtain⟨a,o,vs,rfl,_⟩:=r;rfl
 case exl=>obtain⟨a,Y,vs,rfl,_⟩:=r;rfl
theorem OU:gq X (Cy .Is) ul:=gq.of HC λH P α S x y a b Q r U J Y=>by
 cases b with
 |non =>
  simp only[av] at J;refine⟨J,?_⟩;rw[o3 U];cases a <;> exact xr Y r (by simp only[av])
 |_=>exact Aq Y
theorem KN:gq X (Cy .IsNot) bC:=gq.of N3 λH P α S x y a b Q r U J Y=>by
 cases b with
 |non =>
  simp only[av] at J;refine⟨J,?_⟩;rw[o3 U];cases a <;> exact xr Y r (by simp only[av] <;> rfl)
 |_=>exact Aq Y
def zB:G2:=λa b S=>match a,b with
 |.int i,.int j=>.ok (.int (i+j)) S
 |.str x,.str y=>if x.length+y.length<=bi then .ok (.str (x++y)) S else .bad
 |.tup xs,.tup Y=>if xs.length+Y.length<=bi then .ok (.tup (xs++Y)) S else .bad
 |.lst xs,.lst Y=>if xs.length+Y.length<=bi then .ok (.lst (xs++Y)) S else .bad
 |_,_=>.bad
theorem yJ {H P:Hp}{α:ag}{S:aq}(I:Inv X aj σ H s)(r:bf X.K H P α S)(p:av X.K P α (.tup xs) v) :
  ∃ a vs ao,v=.ref a/\jf X.K P a vs/\qF X.K P α xs vs/\qQ vs ao/\Rm s.heap a ao.toArray/\xs.length=ao.length/\xs.length<=bi:=by
 simp only[av] at p;obtain⟨a,vs,rfl,q,t⟩:=p;obtain⟨ao,Y,J,z⟩:=I.tuple (xX r.sub q);exact⟨a,vs,ao,rfl,q,t,Y,J,by rw[t.length,Y.length],by rw[t.length,xC];exact z⟩
theorem yS {H P:Hp}{α:ag}{S:aq}(I:Inv X aj σ H s)(r:bf X.K H P α S)(p:av X.K P α (.lst xs) v) :
  ∃ a vs ao n,v=.ref a/\qe X.K P a vs/\qF X.K P α xs vs/\qQ vs ao/\s.heap.get? a=Ab { cls:=.type "list",data:=.seq ao.toArray n } /\ xs.length=ao.length/\xs.length<=bi:=by
 simp only[av] at p;obtain⟨a,vs,rfl,q,t⟩:=p;have:∃ ao n,qQ vs ao/\s.heap.get? a=Ab { cls:=.type "list",data:=.seq ao.toArray n } /\ vs.length<=sizeLine:=by
  rcases q with q|⟨ao,n,e,z,Y⟩
  .obtain⟨z,ao,n,Y,e⟩:=(oH r.sub q).ok I.hok
   exact⟨ao,n,Y,e,z⟩
  .exact⟨ao,n,Y,I.kIn _ _ e,z⟩
 obtain⟨ao,n,Y,e,z⟩:=this;exact⟨a,vs,ao,n,rfl,q,t,Y,e,by rw[t.length,Y.length],by rw[t.length,xC];exact z⟩
theorem eW {H P:Hp}{α:ag}{S:aq}(I:Inv X aj σ H s)(r:bf X.K H P α S)(t:qF X.K P α xs vs)(Y:qQ vs ao)(hz:xs.length<=bi)
  (ok:jj X P α Q (.tup xs) S):EP X aj σ Q (.ref s.heap.objs.size) { s with heap:=s.heap.push { cls:=.type "tuple",data:=.seq ao.toArray } }:=by
 refine⟨.ref s.heap.objs.size,_,I.laid (t':=s.toks) (o:=.tup vs) (λb J q=>Aj _ q) (Av _) ⟨by rw[<- t.length,<- xC];exact hz,ao,Y,ZB _ _⟩,rfl,pF r (I.hok.fresh (Av _)) t ok⟩
theorem eV {H P:Hp}{α:ag}{S:aq}(I:Inv X aj σ H s)(r:bf X.K H P α S)(t:qF X.K P α xs vs)(Y:qQ vs ao)(hz:xs.length<=bi)
  (ok:jj X P α Q (.lst xs) S):EP X aj σ Q (.ref s.heap.objs.size) { s with heap:=s.heap.push { cls:=.type "list",data:=.seq ao.toArray } }:=by
 refine⟨.ref s.heap.objs.size,_,I.laid (t':=s.toks) (o:=.lst vs) (λb J q=>Aj _ q) (Av _) ⟨by rw[<- t.length,<- xC];exact hz,ao,0,Y,Bf _ rfl⟩,rfl,wO r (I.hok.fresh (Av _)) t ok⟩
theorem D8 {H P:Hp}{α:ag}{S:aq}(I:Inv X aj σ H s)(r:bf X.K H P α S)(rv:qL v p)(h:qL u j)(M:av X.K P α (.tup xs) v)(l:av X.K P α (.tup ys) u)(hl:xs.length+ys.length<=bi)(B:jj X P α Q (.tup (xs++ys)) S) :
  db X (Fj .Add p j) (EP X aj σ Q) X.xe s:=by
 obtain⟨a,vs,ao,rfl,q1,t1,E,q,o,_⟩:=yJ I r M;obtain⟨b,ws,Y,rfl,q2,x,C,w,t,_⟩:=yJ I r l;cases rv;cases h;by_cases N:ao=[]
 .obtain⟨⟨cls,e,data,i⟩,g,y,n,k⟩:=id q
  obtain⟨⟨c,O,data2,L⟩,G,J,m,U⟩:=id w;simp only at y k J U;subst y k J U;have T:xs=[]:=Li.mp (by rw[o,N];rfl)
  subst T;exact Zn ⟨_,g,rfl⟩ ⟨_,G,rfl⟩ Ud Xs Pp Ox (Om _ _) (tuple_addW0 a b ao.toArray Y.toArray n m e O i L (by simp[N]))
   ⟨g,G,⟨.ref b,H,I,rfl,xr B r l⟩⟩
 .refine _H.s_ q w N (λz=>⟨.ref a,H,I,rfl,xr B r ?_⟩) (λz=>?_) (by rw[<- o,<- t,<- xC];exact hl)
  .have A:ys=[]:=Li.mp (by rw[t,z];rfl)
   rw[A,Gs];exact M
  .exact eW I r (t1.append x) (E.append C) (by rw[Bb];exact hl) B
theorem D7 {H P:Hp}{α:ag}{S:aq}(I:Inv X aj σ H s)(r:bf X.K H P α S)(z:qL v N)(M:qL u U)(O:av X.K P α (.lst xs) v)(A:av X.K P α (.lst ys) u)(hl:xs.length+ys.length<=bi)(B:jj X P α Q (.lst (xs++ys)) S) :
  db X (Fj .Add N U) (EP X aj σ Q) X.xe s:=by
 obtain⟨a,vs,ao,n,rfl,k,j,J,L,T,_⟩:=yS I r O;obtain⟨b,o,G,y,rfl,q,E,Y,C,w,_⟩:=yS I r A;cases z;cases M;refine AaH L C ?_ (by rw[Bh,Bh,<- T,<- w,<- xC];exact hl)
 rw[Ye];exact eV I r (j.append E) (J.append Y) (by rw[Bb];exact hl) B
inductive zu (a b:D)(S:aq):Prop
 |bad (e:zB a b S=.bad)
 |int (i j:Am) (ea:a=.int i) (eb:b=.int j)
 |str (x y:Ar) (ea:a=.str x) (eb:b=.str y)
 |tup (x y:Aa D) (ea:a=.tup x) (eb:b=.tup y)
 |lst (x y:Aa D) (ea:a=.lst x) (eb:b=.lst y)
theorem _Y (a b:D)(S:aq):zu a b S:=by
 cases a with
 |int i=>cases b with
  |int j=>exact .int i j rfl rfl
  |_=>exact .bad rfl
 |str i=>cases b with
  |str j=>exact .str i j rfl rfl
  |_=>exact .bad rfl
 |tup i=>cases b with
  |tup j=>exact .tup i j rfl rfl
  |_=>exact .bad rfl
 |lst i=>cases b with
  |lst j=>exact .lst i j rfl rfl
  |_=>exact .bad rfl
 |_=>exact .bad rfl
theorem ER:gq X (Fj .Add) zB:=by
 intro aj σ H s P α S v u T L a b Q I r B C G O Y;cases _Y a b S with
 |bad e=>rw[e] at Y;exact Aq Y
 |int i j J U =>
  subst J U;exact HB aj s σ H v u T L Q I B C ⟨i,j,xF G,xF O,xr Y r (by simp only[av])⟩
 |str x y J U =>
  subst J U;obtain⟨N,Y⟩:=uI (X:=X) Y;simp only[av] at G O;exact ZT aj s σ H v u T L Q I B C ⟨x,y,G,O,by rw[<- xC];exact N,xr Y r (by simp only[av])⟩
 |tup xs E J U =>
  subst J U;obtain⟨N,Y⟩:=uI (X:=X) Y;exact D8 I r B C G O N Y
 |lst xs E J U =>
  subst J U;obtain⟨N,Y⟩:=uI (X:=X) Y;exact D7 I r B C G O N Y
def dj:G2:=λa b S=>match b with
 |.int k=>match a with
  |.tup xs=>v9 (io xs k) S
  |.lst xs=>v9 (io xs k) S
  |.loc i=>match S[i]? with
   |some (.lst xs)=>v9 (io xs k) S
   |_=>.bad
  |_=>.bad
 |_=>.bad
theorem nG {P:Hp}{α:ag}{k:Am}(Y:qF X.K P α ds vs)(h:io ds k=Ab d):∃ v,io vs k=Ab v/\av X.K P α d v:=by
 unfold io at h ⊢;rw[<- Y.length];cases q:nh ds.length k with
 |none=>rw[q] at h;cases h
 |some j =>
  rw[q] at h;obtain⟨v,U,J⟩:=Y.get (show ds[j]? = Ab d from h)
  exact⟨v,U,J⟩
theorem _Q:zk X dj:=by
 intro Y J aj σ H s P α S v u T B a b Q I r A E N M G L;cases b with
 |int k =>
  have C:=xF M;cases a with
  |tup xs =>
   obtain⟨d,e,ok⟩:=vY (X:=X) G;simp only[av] at N;obtain⟨p,vs,rfl,q,t⟩:=N;obtain⟨w,O,U⟩:=nG t e;exact RW Y J aj s σ H _ u T B Q I A E ⟨p,vs,k,w,rfl,C,xX r.sub q,O,xr ok r U⟩ L
  |lst xs =>
   obtain⟨d,e,ok⟩:=vY (X:=X) G;simp only[av] at N;obtain⟨p,vs,rfl,q,t⟩:=N;obtain⟨w,O,U⟩:=nG t e;exact iN Y J aj s σ H _ u T B Q I A E ⟨p,vs,k,w,rfl,C,(xT r.sub q).l,O,xr ok r U⟩ L
  |loc i =>
   obtain⟨xs,j,G⟩:=pE (X:=X) (f:=λxs=>v9 (io xs k) S) G;obtain⟨d,e,ok⟩:=vY (X:=X) G;simp only[av] at N;obtain⟨p,rfl,q⟩:=N;obtain⟨vs,z,t⟩:=r.at' i p _ q j;obtain⟨w,O,U⟩:=nG t e;exact iN Y J aj s σ H _ u T B Q I A E ⟨p,vs,k,w,rfl,C,.of z,O,xr ok r U⟩ L
  |_=>exact Aq G
 |_=>exact Aq G
def mE:G3:=λo i d S=>match o,i with
 |.loc n,.int k=>match S[n]? with
  |some (.lst xs)=>match nh xs.length k with
   |some j=>.ok () (S.set n (.lst (xs.set j d)))
   |none=>.bad
  |_=>.bad
 |_,_=>.bad
theorem qAR:rH X (rE X mE):=by
 intro aj s σ H o i v C O u Q I L T E h;obtain⟨P,α,S,a,b,d,r,U,B,N,Y⟩:=h;cases a with
 |loc n =>
  cases b with
  |int k =>
   obtain⟨xs,G,Y⟩:=pE (X:=X) (f:=λxs=>match nh xs.length k with|some j=>.ok () (S.set n (.lst (xs.set j d)))|none=>.bad) Y
   cases J:nh xs.length k with
   |none=>rw[J] at Y;exact Aq Y
   |some j =>
    rw[J] at Y;simp only[av] at U;obtain⟨p,rfl,q⟩:=U;obtain⟨vs,z,t⟩:=r.at' n p _ q G;refine GV aj s σ H _ i v C O u Q I L T E ⟨p,vs,k,j,rfl,xF B,z,by rw[<- t.length];exact J,?_⟩
    refine Y _ P α (r.put (m':=.lst (xs.set j d)) q G (by intro z;cases z) ⟨vs.set j v,qT,t.set N j⟩) (qI.refl _) (Br _)
  |_=>exact Aq Y
 |_=>exact Aq Y
def ZE:D->aq->Al Ai
 |.tup xs,_=>Ab xs.length
 |.lst xs,_=>Ab xs.length
 |.str x,_=>if x.length<=bi then Ab x.length else none
 |.dct0,_=>Ab 0
 |.loc i,S=>match S[i]? with
  |some (.lst xs)=>Ab xs.length
  |_=>none
 |_,_=>none
def eK:DF:=λds S=>match ds with
 |[d]=>match ZE d S with
  |some n=>.ok (.int n) S
  |none=>.bad
 |_=>.bad
end
section
variable {X:Cx}
theorem yN {P:Hp}{α:ag}(Y:qF X.K P α [d] vs)(J:qQ vs us):∃ v u,vs=[v]/\us=[u]/\av X.K P α d v/\qL v u:=by
 obtain⟨v,U,rfl,p,t⟩:=Y.cons_inv;have:=t.nil_inv;subst this;obtain⟨u,rfl,q⟩:=kF J;exact⟨v,u,rfl,rfl,p,q⟩
theorem uD {P:Hp}{α:ag}{e:D}(Y:qF X.K P α [d,e] vs)(N:qQ vs us):∃ v w u x,vs=[v,w]/\us=[u,x]/\av X.K P α d v/\av X.K P α e w/\qL v u/\qL w x:=by
 obtain⟨v,J,rfl,p,t⟩:=Y.cons_inv;obtain⟨w,J,rfl,U,t⟩:=t.cons_inv;have:=t.nil_inv;subst this;obtain⟨u,x,rfl,q,G⟩:=XE N;exact⟨v,w,u,x,rfl,rfl,p,U,q,G⟩
def ZD (d:D)(S:aq):Al Ai:=match d with
 |.dct0=>none
 |_=>ZE d S
theorem E7 {H P:Hp}{α:ag}{S:aq}(r:bf X.K H P α S)(p:av X.K P α d v)(Y:ZD d S=Ab n):D2 X.K v H n:=by
 cases d with
 |str x =>
  cases (show v=.str x from p)
  obtain⟨U,rfl⟩:=jD Y;exact⟨by rw[<- xC];exact U,rfl⟩
 |tup xs =>
  simp only[av] at p;obtain⟨a,J,rfl,sq,t⟩:=p;cases Y;exact .inr ⟨J,xX r.sub sq,t.length⟩
 |lst xs =>
  simp only[av] at p;obtain⟨a,J,rfl,sq,t⟩:=p;cases Y;exact .inl ⟨J,(xT r.sub sq).l,t.length⟩
 |loc i =>
  simp only[av] at p;obtain⟨a,rfl,e⟩:=p;obtain⟨xs,G,Y⟩:=EA (f:=λxs=>Ab xs.length) Y;cases Y;obtain⟨J,z,t⟩:=r.at' i a _ e G;exact .inl ⟨J,.of z,t.length⟩
 |_=>exact nn Y
inductive xk (ds:Aa D)(S:aq)(r:a_ D):Prop
 |bad (e:r=.bad)
 |of (d:D) (n:Ai) (ed:ds=[d]) (hn:ZD d S=Ab n) (e:r=.ok (.int n) S)
theorem OB (ds:Aa D)(S:aq):xk ds S (match ds with|[.dct0]=>.bad|_=>eK ds S):=by
 cases ds with
 |nil=>exact .bad rfl
 |cons d ds =>
  cases ds with
  |cons _ _=>cases d <;> exact .bad rfl
  |nil =>
   have z:(match [d] with|[D.dct0]=>a_.bad|_=>eK [d] S)=(match ZD d S with|some n=>a_.ok (D.int n) S|none=>.bad):=by cases d <;> rfl
   rw[z];cases Y:ZD d S with
   |none=>exact .bad rfl
   |some n=>exact .of d n rfl Y rfl
theorem DQ (C:Ov):xY X (.builtin "len") (λds S=>match ds with|[.dct0]=>.bad|_=>eK ds S):=by
 intro aj σ H s P α S vs us ds Q I r U N J;have Y:qO X P α (match ds with|[D.dct0]=>a_.bad|_=>eK ds S) (jj X P α Q):=J
 clear J;cases OB ds S with
 |bad e=>rw[e] at Y;exact Aq Y
 |of d n O G e =>
  rw[e] at Y;subst O;obtain⟨v,u,rfl,rfl,p,q⟩:=yN N U;exact UK aj s σ H _ _ Q I U ⟨v,n,rfl,E7 r p G,xr Y r (by simp only[av])⟩
noncomputable def mf:D->aq->Al Er
 |.non,_=>Ab "NoneType"
 |.bl _,_=>Ab "bool"
 |.int _,_=>Ab "int"
 |.str _,_=>Ab "str"
 |.tup _,_=>Ab "tuple"
 |.lst _,_=>Ab "list"
 |.dct0,_=>Ab "dict"
 |.loc i,S=>match S[i]? with
  |some (.lst _)=>Ab "list"
  |some (.dct _)=>Ab "dict"
  |_=>none
 |_,_=>none
def gX (a b:Er):Au:=a == b||(a == "bool" && b == "int")
noncomputable def pC (b:Er):Au:=b == "int" || b == "bool" || b == "tuple" || b == "list" || b == "str" || b == "dict"
noncomputable def E4 (a b:Er):Al Au:=if (Hn a == Hn b)=true then Ab true else if PySem.W.kitMeta b=true then (fastBuiltinMro a).map (·.contains (.type b)) else none
noncomputable def yz:Aa Er:=["NoneType","bool","int","str","tuple","list","dict"]
noncomputable def za:Aa Er:=["int","bool","tuple","list","str","dict"]
theorem T9:(yz.all λa=>za.all λb=>decide (E4 a b=Ab (gX a b)))=true:=by decide +kernel
theorem H9 {b:Er}(Y:pC b=true):b∈za:=by simpa [pC,za,or_assoc] using Y
theorem TB {K:Ah}{a b:Er}(J:a∈yz)(Y:pC b=true):Mv K (.type a) (.type b)=Ab (gX a b):=
 Cf (p:=E4 a b=Ab (gX a b)) (Ca.mp (Ca.mp T9 a J) b (H9 Y))
def zU:DF:=λds S=>match ds with
 |[d,.ty b]=>if pC b then match mf d S with
   |some a=>.ok (.bl (gX a b)) S
   |none=>.bad
  else .bad
 |_=>.bad
inductive TyV (X:Cx)(H:Hp)(v:V)(a:Er):Prop
 |of (t:jt X.K H v (.type a))
 |tup (p:Af) (vs:Aa V) (e:v=.ref p) (q:jf X.K H p vs) (ea:a = "tuple")
 |lst (p:Af) (vs:Aa V) (e:v=.ref p) (q:ju X.K H p vs) (ea:a = "list")
theorem AH {S:aq}{a:Er}(h:mf d S=Ab a):a∈yz:=by
 cases d with
 |non=>cases h;exact .head _
 |bl b=>cases h;exact .tail _ (.head _)
 |int i=>cases h;exact .tail _ (.tail _ (.head _))
 |str x=>cases h;exact .tail _ (.tail _ (.tail _ (.head _)))
 |tup xs=>cases h;exact .tail _ (.tail _ (.tail _ (.tail _ (.head _))))
 |lst xs=>cases h;exact .tail _ (.tail _ (.tail _ (.tail _ (.tail _ (.head _)))))
 |dct0=>cases h;exact .tail _ (.tail _ (.tail _ (.tail _ (.tail _ (.tail _ (.head _))))))
 |loc i =>
  rcases lE (f:=λ_=>Ab "list") (g:=λ_=>Ab "dict") h with⟨_,_,h⟩|⟨_,_,h⟩
  .cases h;exact .tail _ (.tail _ (.tail _ (.tail _ (.tail _ (.head _)))))
  .cases h;exact .tail _ (.tail _ (.tail _ (.tail _ (.tail _ (.tail _ (.head _))))))
 |_=>exact nn h
theorem qAZ {H P:Hp}{α:ag}{S:aq}{a:Er}(r:bf X.K H P α S)(p:av X.K P α d v)(h:mf d S=Ab a):TyV X H v a:=by
 cases d with
 |non=>cases h;cases (show v=.non from p);exact .of .non
 |bl b=>cases h;cases (show v=.bl b from p);exact .of (.bl b)
 |int i=>cases h;cases (show v=.int i from p);exact .of (.int i)
 |str x=>cases h;cases (show v=.str x from p);exact .of (.str x)
 |tup xs =>
  cases h;simp only[av] at p;obtain⟨a,vs,e,q,t⟩:=p;exact .tup a vs e (xX r.sub q) rfl
 |lst xs =>
  cases h;simp only[av] at p;obtain⟨a,vs,e,q,t⟩:=p;exact .lst a vs e (xT r.sub q).l rfl
 |dct0 =>
  cases h;simp only[av] at p;obtain⟨a,rfl,q⟩:=p;exact .of (.dK (r.sub _ _ q))
 |loc i =>
  simp only[av] at p;obtain⟨a,rfl,q⟩:=p;rcases lE (f:=λ_=>Ab "list") (g:=λ_=>Ab "dict") h with⟨xs,Y,h⟩|⟨kvs,Y,h⟩
  .cases h
   obtain⟨vs,z,t⟩:=r.at' i a _ q Y;exact .of (.lst z)
  .cases h
   obtain⟨vs,z,t⟩:=r.at' i a _ q Y;exact .of (.dK z)
 |_=>exact nn h
inductive zo (ds:Aa D)(S:aq):Prop
 |bad (e:zU ds S=.bad)
 |of (d:D) (b a:Er) (ed:ds=[d,.ty b]) (hb:pC b=true) (ha:mf d S=Ab a) (e:zU ds S=.ok (.bl (gX a b)) S)
theorem _T (ds:Aa D)(S:aq):zo ds S:=by
 cases ds with
 |nil=>exact .bad rfl
 |cons d ds =>
  cases ds with
  |nil=>exact .bad rfl
  |cons e ds =>
   cases ds with
   |cons _ _=>cases e <;> exact .bad rfl
   |nil =>
    cases e with
    |ty b =>
     have z:zU [d,.ty b] S=if pC b then (match mf d S with|some a=>.ok (.bl (gX a b)) S|none=>.bad) else .bad:=rfl
     by_cases Y:pC b=true
     .rw[Ay Y] at z
      cases J:mf d S with
      |none=>rw[J] at z;exact .bad z
      |some a=>rw[J] at z;exact .of d b a rfl Y J z
     .rw[AT Y] at z
      exact .bad z
    |_=>exact .bad rfl
theorem XT:xY X (.builtin "isinstance") zU:=by
 intro aj σ H s P α S vs us ds Q I r l E G;cases _T ds S with
 |bad e=>rw[e] at G;exact Aq G
 |of d b a M A T e =>
  subst M;rw[e] at G;obtain⟨v,w,u,x,rfl,rfl,p,U,q,y⟩:=uD E l;simp only[av] at U;subst U;cases (show x=Hn b from y)
  have J:=TB (K:=X.K) (AH T) A;have Y:∀ B,EP X aj σ Q (.bool (gX a b)) { s with toks:=B }:=λB=>⟨.bl _,H,I.tok B,rfl,xr G r (by simp only[av])⟩
  cases qAZ r p T with
  |of k=>exact Y3 I q k J Y
  |tup U j e sq O =>
   subst e O;cases (show u=Cc U from q)
   obtain⟨ao,L,⟨o,C,N,_⟩,_⟩:=I.tuple sq;exact Ej Yz I.kIn ⟨o,C,N⟩ J (λz=>nomatch z) Y
  |lst U j e sq O =>
   subst e O;cases (show u=Cc U from q)
   obtain⟨ao,L,⟨o,_,C,N,_⟩,_⟩:=I.list sq;exact Ej Sv I.kIn ⟨o,C,N⟩ J (λz=>nomatch z) Y
noncomputable def xI:Aa D->Al (Aa Au)
 |[]=>Ab []
 |.bl b::r=>(xI r).map (b::·)
 |_=>none
theorem vK {P:Hp}{α:ag}:∀ {ds:Aa D} {bs:Aa Au} {vs:Aa V} {us:ai},xI ds=Ab bs->qF X.K P α ds vs->qQ vs us->us=bs.map Fv
 |[],bs,vs,us,h,Y,J=>by
  cases h;have:=Y.nil_inv;subst this;cases J;rfl
 |d::ds,bs,vs,us,h,Y,J=>by
  cases d with
  |bl b =>
   obtain⟨N,q,rfl⟩:=Em.mp (show (xI ds).map (b::·)=Ab bs from h)
   obtain⟨w,O,rfl,p,t⟩:=Y.cons_inv;simp only[av] at p;subst p;cases J with
   |cons U G =>
    cases (show _=Fv b from U)
    rw[vK q t G];rfl
  |_=>exact nn h
def kH (Y:Au):DF:=λds S=>match ds with
 |[d]=>match (x8 d).bind xI with
  |some J=>.ok (.bl (if Y then J.any id else J.all id)) S
  |none=>.bad
 |_=>.bad
theorem sA (bs:Aa Au):((Dd bs.length).all λi=>bs.getD i false)=bs.all id:=by
 induction bs with
 |nil=>rfl
 |cons b bs Y =>
  rw[Ba,Pq,Tf,Kl,Tf,<- Y];rfl
theorem sC (bs:Aa Au):((Dd bs.length).any λi=>bs.getD i false)=bs.any id:=by
 induction bs with
 |nil=>rfl
 |cons b bs Y =>
  rw[Ba,Pq,Lz,Zr,Lz,<- Y];rfl
theorem Y5 {h':Bk}{J:Ai}(I:Inv X aj σ H s)(k:∀ b Y,b ∉ [s.heap.objs.size]->(s.heap.push o).get? b=Ab Y->h'.get? b=Ab Y):Inv X aj σ H { s with heap:=h',toks:=J }:=
 I.kept λb u e=>k b u (by simp;exact Cw (Az e)) (Aj _ e)
theorem kD {bs:Aa Au}(hi:ao=bs.map Fv){A:Bl}:TruthOf X.prog X.w A (λi v=>ao.toArray[i]? = Ab v) (λi=>bs.getD i false):=λi v U G O hv N=>by
 subst hi;have Y:(bs.map Fv)[i]? = Ab v:=by simpa using hv
 rw[Ee] at Y;cases e:bs[i]? with
 |none=>rw[e] at Y;exact nn Y
 |some b =>
  rw[e] at Y;cases Dg Y;have:bs.getD i false=b:=by simp[Jh,e]
  have J:G (bs.getD i false) U:=N;rw[this] at J;exact Su J
theorem MG {S:aq}{P:Hp}{α:ag}{Ok:D->aq->Prop}(h:qO X P α (kH Y ds S) Ok):∃ d xs bs,ds=[d]/\yt d xs/\xI xs=Ab bs/\Ok (.bl (if Y then bs.any id else bs.all id)) S:=by
 obtain⟨d,rfl,J⟩:=hW (X:=X) (β:=D) (g:=λd=>match (x8 d).bind xI with|some bs=>.ok (D.bl (if Y then bs.any id else bs.all id)) S|none=>.bad) h
 cases G:(x8 d).bind xI with
 |none=>rw[G] at J;exact Aq J
 |some bs =>
  rw[G] at J;obtain⟨xs,N,U⟩:=Ec.mp G;exact⟨d,xs,bs,rfl,ye N,U,J⟩
theorem DN (U:Au)(h:X.calm=true):xY X (.builtin (if U then "any" else "all")) (kH U):=by
 intro aj σ H s P α S vs us ds Q I r x y l;obtain⟨d,xs,z,A,hd,M,ok⟩:=MG l;clear l;subst A;obtain⟨v,u,rfl,rfl,p,q⟩:=yN y x;clear y;have N:∀ {o:Co} (J:Bk) (G:Ai),(∀ b i,b ∉ [s.heap.objs.size]->(s.heap.push o).get? b=Ab i->J.get? b=Ab i)->EP X aj σ Q (.bool (if U then z.any id else z.all id)) { s with heap:=J,toks:=G }:=
  λ{o} J G k=>⟨.bl _,H,Y5 I k,rfl,xr ok r (by simp only[av])⟩
 clear x ok;have m:X.A.in1.handled=none:=I.ok.hd h;cases hd with
 |tup A =>
  subst A;obtain⟨a,ws,ao,rfl,sq,t,B,L,hl,_⟩:=yJ I r p;cases (show u=Cc a from q)
  have O:=vK M t B;have Y:ao.toArray.size=z.length:=by rw[O];simp
  have C:a≠s.heap.objs.size:=by obtain⟨o,e,_⟩:=L;exact Cw (Az e)
  have W:=Walks.tuple (prog:=X.prog) (w:=X.w) m s.heap.objs.size a C ao.toArray;have j:∀ o,(s.heap.push o).IsTuple a ao.toArray:=λo=>by obtain⟨o,e,c⟩:=L;exact⟨o,Aj _ e,c⟩
  have E:s.heap.IsTuple a ao.toArray:=L;cases U with
  |false =>
   refine call_all_walk (Hl E ⟨s.heap.objs.size,_,_,_,_,_,_,rfl,W,⟨⟨_,Bf _ rfl,rfl,rfl⟩,j _⟩,kD O,λJ G k=>?_⟩);rw[Y,sA];exact N J G k
  |true =>
   refine call_any_walk (Hl E ⟨s.heap.objs.size,_,_,_,_,_,_,rfl,W,⟨⟨_,Bf _ rfl,rfl,rfl⟩,j _⟩,kD O,λJ G k=>?_⟩);rw[Y,sC];exact N J G k
 |lst A =>
  subst A;obtain⟨a,ws,ao,n,rfl,sq,t,B,L,hl,_⟩:=yS I r p;cases (show u=Cc a from q)
  have g:s.heap.IsList a ao.toArray:=⟨_,L,rfl,n,rfl⟩;have O:=vK M t B;have Y:ao.toArray.size=z.length:=by rw[O];simp
  have C:a≠s.heap.objs.size:=Cw (Az L);have W:=Ab0 (prog:=X.prog) (w:=X.w) m s.heap.objs.size a C ao.toArray;have T:∀ o,(s.heap.push o).IsList a ao.toArray:=λo=>⟨_,Aj _ L,rfl,n,rfl⟩;cases U with
  |false =>
   refine call_all_walk (Go g ⟨s.heap.objs.size,_,_,_,_,_,_,rfl,W,⟨⟨_,Bf _ rfl,rfl,rfl⟩,T _⟩,kD O,λJ G k=>?_⟩);rw[Y,sA];exact N J G k
  |true =>
   refine call_any_walk (Go g ⟨s.heap.objs.size,_,_,_,_,_,_,rfl,W,⟨⟨_,Bf _ rfl,rfl,rfl⟩,T _⟩,kD O,λJ G k=>?_⟩);rw[Y,sC];exact N J G k
def QX:DF:=λds S=>match ds with
 |[.int i]=>.ok (.int i) S
 |[.bl b]=>.ok (.int (yl b)) S
 |_=>.bad
inductive zp (ds:Aa D)(S:aq):Prop
 |bad (e:QX ds S=.bad)
 |int (i:Am) (e:ds=[.int i])
 |bl (b:Au) (e:ds=[.bl b])
theorem _V (ds:Aa D)(S:aq):zp ds S:=by
 cases ds with
 |nil=>exact .bad rfl
 |cons d ds =>
  cases ds with
  |cons _ _=>cases d <;> exact .bad rfl
  |nil =>
   cases d with
   |int i=>exact .int i rfl
   |bl b=>exact .bl b rfl
   |_=>exact .bad rfl
theorem DP:xY X (.type "int") QX:=by
 intro aj σ H s P α S vs us ds Q I r J U Y;cases _V ds S with
 |bad e=>rw[e] at Y;exact Aq Y
 |int i e =>
  subst e;obtain⟨v,u,rfl,rfl,p,q⟩:=yN U J;exact d9 aj s σ H _ _ Q I J (.inl ⟨_,by rw[xF p],xr Y r (by simp only[av])⟩)
 |bl b e =>
  subst e;obtain⟨v,u,rfl,rfl,p,q⟩:=yN U J;simp only[av] at p;subst p;exact d9 aj s σ H _ _ Q I J (.inr ⟨_,rfl,xr Y r (by simp only[av];rfl)⟩)
def j9:DF:=λds S=>match ds with
 |[d]=>match x8 d with
  |some xs=>.ok (.tup xs) S
  |none=>.bad
 |_=>.bad
theorem UN:xY X (.type "tuple") j9:=by
 intro aj σ H s P α S vs us ds Q I r N O B;obtain⟨d,rfl,Y⟩:=hW (X:=X) (β:=D) (g:=λd=>match x8 d with|some xs=>.ok (D.tup xs) S|none=>.bad) B
 obtain⟨xs,U,J⟩:∃ xs,x8 d=Ab xs/\jj X P α Q (.tup xs) S:=by
  cases U:x8 d with
  |none=>rw[U] at Y;exact Aq Y
  |some xs=>rw[U] at Y;exact⟨xs,rfl,Y⟩
 obtain⟨v,u,rfl,rfl,p,q⟩:=yN O N;cases ye U with
 |tup e =>
  subst e;have L:=p;simp only[av] at p;obtain⟨a,G,rfl,sq,t⟩:=p;exact pV aj s σ H _ _ Q I N ⟨a,G,rfl,.inr ⟨xX r.sub sq,xr J r L⟩⟩
 |lst e =>
  subst e;simp only[av] at p;obtain⟨a,G,rfl,sq,t⟩:=p;exact pV aj s σ H _ _ Q I N ⟨a,G,rfl,.inl ⟨(xT r.sub sq).l,λl C=>pF r C t J⟩⟩
def gS:DF:=λds S=>match ds with
 |[d]=>match x8 d with
  |some xs=>.ok (.lst xs) S
  |none=>.bad
 |_=>.bad
theorem FD:xY X (.type "list") gS:=by
 intro aj σ H s P α S vs us ds Q I r O C B;obtain⟨d,rfl,Y⟩:=hW (X:=X) (β:=D) (g:=λd=>match x8 d with|some xs=>.ok (D.lst xs) S|none=>.bad) B
 obtain⟨xs,U,J⟩:∃ xs,x8 d=Ab xs/\jj X P α Q (.lst xs) S:=by
  cases U:x8 d with
  |none=>rw[U] at Y;exact Aq Y
  |some xs=>rw[U] at Y;exact⟨xs,rfl,Y⟩
 obtain⟨v,u,rfl,rfl,p,q⟩:=yN C O;cases ye U with
 |tup e =>
  subst e;simp only[av] at p;obtain⟨a,N,rfl,sq,t⟩:=p;exact pZ aj s σ H _ _ Q I O ⟨a,N,rfl,.inr (xX r.sub sq),λl G=>wO r G t J⟩
 |lst e =>
  subst e;simp only[av] at p;obtain⟨a,N,rfl,sq,t⟩:=p;exact pZ aj s σ H _ _ Q I O ⟨a,N,rfl,.inl ((xT r.sub sq).l),λl G=>wO r G t J⟩
end
section
variable {X:Cx}
structure r_ (K:Ah)(cl:ag):Prop where
 ex:∀ C∈cl,ma K C
 one:∀ C∈cl,∀ B∈cl,Mv K (.ref C) (.ref B)=Ab (C == B)
 ve:∀ C∈cl,Mv K (.ref C) (.type "ValueError")=Ab true
def yW (Y:ag):DF:=λds S=>match ds with
 |[.exn (.ref C),.obj B]=>if Y.contains C&&Y.contains B then .ok (.bl (C == B)) S else .bad
 |[.exn (.ref C),.ty b]=>if Y.contains C&&(b == "ValueError") then .ok (.bl true) S else .bad
 |_=>zU ds S
theorem WJ {H P:Hp}{α:ag}{S:aq}(I:Inv X aj σ H s)(r:bf X.K H P α S)(p:av X.K P α (.exn (.ref C)) v)(q:qL v u):∃ a,u=.ref a/\u4 a C s.heap:=by
 simp only[av] at p;obtain⟨a,rfl,z⟩:=p;obtain⟨y,_⟩:=I.hok a _ (r.sub _ _ z);exact⟨a,q,y⟩
inductive xn (cl:ag)(ds:Aa D)(S:aq):Prop
 |bad (e:yW cl ds S=.bad)
 |old (e:yW cl ds S=zU ds S)
 |obj (C B:Af) (ed:ds=[.exn (.ref C),.obj B]) (h1:C∈cl) (h2:B∈cl) (e:yW cl ds S=.ok (.bl (C == B)) S)
 |ve (C:Af) (ed:ds=[.exn (.ref C),.ty "ValueError"]) (h1:C∈cl) (e:yW cl ds S=.ok (.bl true) S)
theorem O8 (Y:ag)(C:Af)(d:D)(S:aq):xn Y [.exn (.ref C),d] S:=by
 cases d with
 |obj B =>
  have z:yW Y [.exn (.ref C),.obj B] S=if (Y.contains C&&Y.contains B)=true then .ok (.bl (C == B)) S else .bad:=rfl
  by_cases h:(Y.contains C&&Y.contains B)=true
  .rw[Ay h] at z
   have J:=Dc.mp h;exact .obj C B rfl (Fa.mp J.1) (Fa.mp J.2) z
  .rw[AT h] at z
   exact .bad z
 |ty b =>
  have z:yW Y [.exn (.ref C),.ty b] S=if (Y.contains C&&(b == "ValueError"))=true then .ok (.bl true) S else .bad:=rfl
  by_cases h:(Y.contains C&&(b == "ValueError"))=true
  .rw[Ay h] at z
   have J:=Dc.mp h;cases (Re.mp J.2);exact .ve C rfl (Fa.mp J.1) z
  .rw[AT h] at z
   exact .bad z
 |_=>exact .old rfl
theorem RT (Y:ag)(ds:Aa D)(S:aq):xn Y ds S:=by
 cases ds with
 |nil=>exact .old rfl
 |cons a ds =>
  cases a with
  |exn c =>
   cases c with
   |ref C =>
    cases ds with
    |nil=>exact .old rfl
    |cons b ds =>
     cases ds with
     |nil=>exact O8 Y C b S
     |cons _ _=>cases b <;> exact .old rfl
   |_=>exact .old rfl
  |_=>exact .old rfl
theorem aS (hK:r_ X.K L):xY X (.builtin "isinstance") (yW L):=by
 intro aj σ H s P α S vs us ds Q I r A G Y;cases RT L ds S with
 |bad e=>rw[e] at Y;exact Aq Y
 |old e=>rw[e] at Y;exact XT aj σ H s P α S vs us ds Q I r A G Y
 |obj C B T J M e =>
  rw[e] at Y;subst T;obtain⟨v,w,u,x,rfl,rfl,p,U,q,E⟩:=uD G A;simp only[av] at U;obtain⟨rfl,_⟩:=U;cases (show x=Cc B from E)
  obtain⟨a,rfl,N⟩:=WJ I r p q;exact Ej (p6 (hK.ex C J)) I.kIn N (hK.one C J B M) (λz=>nomatch z) λO=>⟨.bl _,H,I.tok O,rfl,xr Y r (by simp only[av])⟩
 |ve C T J e =>
  rw[e] at Y;subst T;obtain⟨v,w,u,x,rfl,rfl,p,U,q,E⟩:=uD G A;simp only[av] at U;subst U;cases (show x=Hn "ValueError" from E)
  obtain⟨a,rfl,N⟩:=WJ I r p q;exact Ej (p6 (hK.ex C J)) I.kIn N (hK.ve C J) (λz=>nomatch z) λO=>⟨.bl _,H,I.tok O,rfl,xr Y r (by simp only[av])⟩
def wj (X:Cx)(id:Er)(g:D->Aa D->aq->a_ D):Prop:=
 ∀ (aj:aa) (σ : _L.St) (H:Hp) (s:Ag) (P:Hp) (α : Aa Af) (S:aq) (v:V) (Y:Ad) (vs:Aa V) (us:ai) (a:D) (ds:Aa D) (Q:VK),Inv X aj σ H s->bf X.K H P α S->qL v Y->av X.K P α a v->qQ vs us->qF X.K P α ds vs->qX X P α (g a ds S) Q ->
  db X (call (.builtin id) (Y::us)) (EP X aj σ Q) X.xe s
def qr (T:Er)(g:D->Aa D->aq->a_ D)(U:DE)(G:DA):DE:=λJ S=>(U J S).bind λa Y=>if (mf a Y == Ab T)=true then (G J Y).bind λds N=>g a ds N else .bad
theorem U2 {H P:Hp}{α:ag}{S:aq}{a:D}(r:bf X.K H P α S)(p:av X.K P α a v)(h:mf a S=Ab T)(hT:T = "list" \/ T = "dict" \/ T = "int" \/ T = "str"):A_ X.K T v H:=by
 cases a with
 |int i=>cases h;simp only[av] at p;subst p;rfl
 |str x=>cases h;simp only[av] at p;subst p;rfl
 |lst xs =>
  cases h;simp only[av] at p;obtain⟨b,vs,rfl,q,t⟩:=p;exact .inl ⟨rfl,vs,(xT r.sub q).l⟩
 |dct0 =>
  cases h;simp only[av] at p;obtain⟨b,rfl,q⟩:=p;exact .inr (.inr (.inl ⟨rfl,.inl ⟨[],r.sub _ _ q⟩⟩))
 |loc i =>
  simp only[av] at p;obtain⟨b,rfl,q⟩:=p;rcases lE (f:=λ_=>Ab "list") (g:=λ_=>Ab "dict") h with⟨xs,Y,h⟩|⟨kvs,Y,h⟩
  .cases h
   obtain⟨vs,z,t⟩:=r.at' i b _ q Y;exact .inl ⟨rfl,vs,ju.of z⟩
  .cases h
   obtain⟨vs,z,t⟩:=r.at' i b _ q Y;exact .inr (.inr (.inl ⟨rfl,.inl ⟨vs,z⟩⟩))
 |non=>cases h;exact absurd hT da
 |bl b=>cases h;exact absurd hT da
 |tup xs=>cases h;exact absurd hT da
 |_=>exact nn h
variable {o e:Cb}{es:Aa Cb}{fo:DE}{fa:DA}{name:Ar}{ki cq:Fc}{T id:Er}{g:D->Aa D->aq->a_ D}
theorem SA {P:Hp}{α:ag}{a:D}{S:aq}{β:Type}{k:a_ β}{Ok:β->aq->Prop}(h:qO X P α (if (mf a S == Ab T)=true then k else .bad) Ok):mf a S=Ab T/\qO X P α k Ok:=by
 by_cases z:(mf a S == Ab T)=true
 .rw[Ay z] at h;exact⟨Re.mp z,h⟩
 .rw[AT z] at h;exact Aq h
theorem IJ (u:PlainAttrs T)(slot:Slot T name id)(A:typeOf (.builtin id)=pure (.type "method_descriptor"))(hT:T = "list" \/ T = "dict" \/ T = "int" \/ T = "str")(hm:wj X id g)(ho:PE X o (tD X fo))(i:PA X (e::es) (ko X fa))
  (G:Lx o name X.env (eval o X.env)=eval o X.env:=by rfl)
  (O:((Gm cq (Bn (e::es) X.env)).all (λx=>!x.1)&&(backToKw cq (keywordEach [] X.env)).all (λx=>x.1.isSome)
   && decide ((e::es).length+([]:Aa Keyword).length+(if ([] : Aa Keyword).isEmpty then 0 else 1)<30))=true:=by rfl)
  (U:(ki.endLine == cq.line)=true:=by rfl) (hs:Bn (e::es) X.env=(false,eval e X.env)::Bn es X.env:=by rfl) (J:(Gm cq (Bn es X.env)).any (·.1)=false:=by rfl) :
  PE X (.Call (.Attribute o name ki) (e::es) [] cq) (tD X (qr T g fo fa)):=by
 intro aj s σ H Q I h;obtain⟨P,α,m,S,r,l,t⟩:=h;refine wpAny_Call_method_late G O U rfl (bv (zR ho I r l t) λb s1 ⟨v,H1,k,N,d,c,Y,E⟩=>?_);obtain⟨ht,C⟩:=SA E;obtain⟨n,q⟩:=U1 Y.inv Y.val (U2 Y.rel Y.rep ht hT);refine⟨T,id,u,slot,A,n,q,?_⟩;have y:=y9 i Y.inv Y.rel Y.env (P:=k) (α:=N) (Ok:=jj X k N Q) (qX.base Y.same Y.pre (r:=(fa m c).bind λds L=>g d ds L) C) cq;rw[hs] at y ⊢;refine Vj (by show (false||(Gm cq (Bn es X.env)).any (·.1))=false;rw[J] <;> rfl) (Qm ?_)
 exact bv y λus s2 ⟨vs,H2,P2,M,ds,L,I2,rv,p,a,B,z,j,w⟩=>hm aj σ H2 s2 P2 M L v b vs us d ds Q I2 p Y.val (av.mono z j _ _ Y.rep) rv B (qX.base z j w)
def xQ:D->Aa D->aq->a_ D:=λa ds S=>match a,ds with
 |.loc i,[d]=>match S[i]? with
  |some (.lst xs)=>if xs.length<bi then .ok .non (S.set i (.lst (xs++[d]))) else .bad
  |_=>.bad
 |_,_=>.bad
inductive ApV (a:D)(ds:Aa D)(S:aq):Prop
 |bad (e:xQ a ds S=.bad)
 |of (i:Ai) (d:D) (xs:Aa D) (ea:a=.loc i) (ed:ds=[d]) (hS:S[i]? = Ab (.lst xs)) (hl:xs.length<bi) (e:xQ a ds S=.ok .non (S.set i (.lst (xs++[d]))))
theorem apV (a:D)(ds:Aa D)(S:aq):ApV a ds S:=by
 cases a with
 |loc i =>
  cases ds with
  |nil=>exact .bad rfl
  |cons d ds =>
   cases ds with
   |cons _ _=>exact .bad rfl
   |nil =>
    have z:xQ (.loc i) [d] S=(match S[i]? with|some (.lst xs)=>(if xs.length<bi then .ok .non (S.set i (.lst (xs++[d]))) else .bad)|_=>.bad):=rfl
    cases J:S[i]? with
    |none=>rw[J] at z;exact .bad z
    |some m =>
     rw[J] at z;cases m with
     |lst xs =>
      by_cases Y:xs.length<bi
      .exact .of i d xs rfl rfl J Y (z.trans (Ay Y))
      .exact .bad (z.trans (AT Y))
     |_=>exact .bad z
 |_=>exact .bad rfl
theorem YJ:wj X "list.append" xQ:=by
 intro aj σ H s P α S v B vs us a ds Q I r M p J U Y;cases apV a ds S with
 |bad e=>rw[e] at Y;exact Aq Y
 |of i d xs O L G C e =>
  rw[e] at Y;subst O L;obtain⟨w,u,rfl,rfl,A,E⟩:=yN U J;simp only[av] at p;obtain⟨b,rfl,q⟩:=p;obtain⟨N,z,t⟩:=r.at' i b _ q G;refine YO aj s σ H (.ref b) [w] B [u] Q I M (.cons E .nil) ⟨b,N,w,rfl,rfl,z,by rw[<- t.length,<- xC];exact C,?_⟩
  exact xr Y (r.put (m':=.lst (xs++[d])) q G (by intro z;cases z) ⟨N++[w],qT,t.append (.cons A .nil)⟩) (by simp only[av])
end
def yB:D->Al bz
 |.int i=>Ab (.inl i)
 |.str x=>Ab (.inr x)
 |_=>none
def x5 (kvs:Aa (bz × D))(k:bz):Al D:=(kvs.find? λY=>decide (Y.1=k)).map (·.2)
noncomputable def wQ (kvs:Aa (bz × D))(k:bz)(v:D):Aa (bz × D):=
 if (kvs.any λY=>decide (Y.1=k))=true then kvs.map (λY=>if Y.1=k then (Y.1,v) else Y) else kvs++[(k,v)]
section
variable {K:Ah}{P:Hp}{α: Aa Af}
theorem iO {vs:Aa (bz × V)}(r:nk K P α kvs vs):kvs.length=vs.length:=Paired.length r
theorem bZ {k:bz}:∀ {kvs:Aa (bz × D)} {vs:Aa (bz × V)},nk K P α kvs vs->(∀ d,x5 kvs k=Ab d->∃ v,yQ vs k=Ab v/\av K P α d v)/\(x5 kvs k=none->yQ vs k=none)
 |_,_,.nil=>⟨λd h=>by simp[x5] at h,λ_=>rfl⟩
 |(G,d1)::kvs,(O,N)::vs,.cons z t=>by
  obtain⟨e,r⟩:=z;dsimp only at e r;subst e;obtain⟨U,J⟩:=bZ (k:=k) t;unfold x5 yQ at *;by_cases Y:G=k
  .subst Y
   constructor
   .intro d h
    simp at h;subst h;exact⟨N,by simp,r⟩
   .intro h
    simp at h
  .constructor
   .intro d h
    rw[Vk (by simpa using Y)] at h ⊢
    exact U d h
   .intro h
    rw[Vk (by simpa using Y)] at h ⊢
    exact J h
theorem TC {k:bz}{vs:Aa (bz × V)}(h:nk K P α kvs vs):(kvs.any λY=>decide (Y.1=k))=(vs.any λY=>decide (Y.1=k)):=by
 induction h with
 |nil=>rfl
 |cons z t J=>rw[Lz,Lz,J,z.1]
theorem TH {k:bz}(q:av K P α d v){kvs:Aa (bz × D)}{vs:Aa (bz × V)}(h:nk K P α kvs vs):nk K P α (kvs.map λY=>if Y.1=k then (Y.1,d) else Y) (vs.map λY=>if Y.1=k then (Y.1,v) else Y):=by
 induction h with
 |nil=>exact .nil
 |cons z t J =>
  rw[Ds,Ds];refine .cons ?_ J;rw[<- z.1]
  split
  .exact⟨rfl,q⟩
  .exact z
theorem TF {k:bz}(q:av K P α d v){kvs:Aa (bz × D)}{vs:Aa (bz × V)}(h:nk K P α kvs vs):nk K P α (kvs++[(k,d)]) (vs++[(k,v)]):=by
 induction h with
 |nil=>exact .cons ⟨rfl,q⟩ .nil
 |cons z t Y=>exact .cons z Y
theorem iP {k:bz}(q:av K P α d v){kvs:Aa (bz × D)}{vs:Aa (bz × V)}(r:nk K P α kvs vs):nk K P α (wQ kvs k d) (v8 vs k v):=by
 unfold wQ v8;rw[TC r]
 split
 .exact TH q r
 .exact TF q r
theorem tI {k:bz}(h:yB d=Ab k)(r:av K P α d v):v=kV k:=by
 cases d with
 |int i=>cases h;simp only[av] at r;exact r
 |str x=>cases h;simp only[av] at r;exact r
 |_=>cases h
end
section
variable {X:Cx}{o i e:Cb}{au:Fc}
noncomputable def eB:DE:=λ_ S=>.ok (.loc S.length) (S++[.dct []])
theorem SG:PE X (.Dict [] [] au) (tD X eB):=by
 refine oo hZ λσ H Q ⟨P,α,N,S,r,O,U⟩ p G=>?_;have Y:α<+:α++[p]:=Lr _ _;have J:=r.new (o:=.dK []) (m:=.dct []) G ⟨[],qT,.nil⟩;refine U _ _ _ _ J (qI.refl _) Y ?_;simp only[av];exact⟨p,rfl,by rw[<- r.len];simp⟩
def bQ:DE:=λ_ S=>.ok .dct0 S
theorem FO:PE X (.Dict [] [] au) (tD X bQ):=by
 refine oo hZ λσ H Q ⟨P,α,N,S,r,O,J⟩ p U=>?_;obtain⟨Y,G⟩:=r.pure (o:=.dK []) U;refine J _ _ _ α Y G (Br _) ?_;simp only[av];exact⟨p,rfl,qT⟩
def yL:G3:=λo i d S=>match o with
 |.loc n=>match S[n]? with
  |some (.dct kvs)=>match yB i with
   |some k=>if kvs.length<bi then .ok () (S.set n (.dct (wQ kvs k d))) else .bad
   |none=>.bad
  |_=>mE o i d S
 |_=>mE o i d S
inductive xb (a b d:D)(S:aq):Prop
 |bad (e:yL a b d S=.bad)
 |old (e:yL a b d S=mE a b d S)
 |of (n:Ai) (kvs:Aa (bz × D)) (k:bz) (ea:a=.loc n) (hS:S[n]? = Ab (.dct kvs)) (hk:yB b=Ab k) (hl:kvs.length<bi) (e:yL a b d S=.ok () (S.set n (.dct (wQ kvs k d))))
theorem qAQ (a b d:D)(S:aq):xb a b d S:=by
 cases a with
 |loc n =>
  have z:yL (.loc n) b d S=(match S[n]? with|some (.dct kvs)=>(match yB b with|some k=>(if kvs.length<bi then .ok () (S.set n (.dct (wQ kvs k d))) else .bad)|none=>.bad)|_=>mE (.loc n) b d S):=rfl
  cases J:S[n]? with
  |none=>rw[J] at z;exact .old z
  |some m =>
   rw[J] at z;cases m with
   |dct kvs =>
    cases U:yB b with
    |none=>rw[U] at z;exact .bad z
    |some k =>
     rw[U] at z;by_cases Y:kvs.length<bi
     .exact .of n kvs k rfl J U Y (z.trans (Ay Y))
     .exact .bad (z.trans (AT Y))
   |_=>exact .old z
 |_=>exact .old rfl
theorem CZ (w:X.A.units+1<Ed):rH X (rE X yL):=by
 intro aj s σ H o i v G M u Q I C B L h;obtain⟨P,α,S,a,b,d,r,J,N,U,Y⟩:=h;cases qAQ a b d S with
 |bad e=>rw[e] at Y;exact Aq Y
 |old e =>
  rw[e] at Y;exact qAR aj s σ H o i v G M u Q I C B L ⟨P,α,S,a,b,d,r,J,N,U,Y⟩
 |of n kvs k E O T A e =>
  rw[e] at Y;subst E;simp only[av] at J;obtain⟨p,rfl,q⟩:=J;obtain⟨vs,z,t⟩:=r.at' n p _ q O;cases tI T N;cases (show G=Cc p from C)
  refine W4 w I (nE.k (v:=v) z (by rw[<- iO t,<- xC];exact A)) B L λy j=>⟨_,j,?_⟩
  exact Y _ P α (r.put (m':=.dct (wQ kvs k d)) q O (by intro z;cases z) ⟨_,qT,iP U t⟩) (qI.refl _) (Br _)
def qB1:D->Aa D->aq->a_ D:=λa ds S=>match a,ds with
 |.loc n,[i,x]=>match S[n]? with
  |some (.dct kvs)=>match yB i with
   |some k=>.ok ((x5 kvs k).getD x) S
   |none=>.bad
  |_=>.bad
 |_,_=>.bad
def mZ:D->Aa D->aq->a_ D:=λa ds S=>match a,ds with
 |.lst xs,[.bl k]=>match xI xs with
  |some Y=>.ok (.int (Y.countP (· == k):Ai)) S
  |none=>.bad
 |_,_=>.bad
noncomputable def nZ (k:Au):Aa Au->Al Ai
 |[]=>none
 |b::r=>if b=k then Ab 0 else (nZ k r).map (· + 1)
def t7:D->Aa D->aq->a_ D:=λa ds S=>match a,ds with
 |.lst xs,[.bl k]=>match (xI xs).bind (nZ k) with
  |some j=>.ok (.int j) S
  |none=>.bad
 |_,_=>.bad
theorem eG (k:Au){bs:Aa Au}{y:Ad}(U:y∈(bs.map Fv).toArray):AbQ y (.bool k) (Vl k y):=by
 have J:y∈bs.map Fv:=by rwa [List.mem_toArray] at U
 obtain⟨b,_,rfl⟩:=Ci.mp J;exact λY w A E s Q h=>AbD b k Y w E Q h
theorem cY (k:Au)(bs:Aa Au):(bs.map Fv).countP (Vl k)=bs.countP (· == k):=by
 rw[List.countP_map];rfl
theorem mS {β:Type}{r:a_ β}{P:Hp}{α:ag}{Ok:β->aq->Prop}(e:r=.bad)(h:qO X P α r Ok):Fp:=by
 rw[e] at h;exact h
inductive BlV (a:D)(ds:Aa D):Prop
 |no (h:∀ (g:Aa D->Au->a_ D),(match a,ds with|.lst xs,[.bl k]=>g xs k|_,_=>.bad)=.bad)
 |of (xs:Aa D) (k:Au) (ea:a=.lst xs) (ed:ds=[.bl k])
theorem K_ (a:D)(ds:Aa D):BlV a ds:=by
 cases a with
 |lst xs =>
  cases ds with
  |nil=>exact .no λ_=>rfl
  |cons d ds =>
   cases ds with
   |cons _ _=>cases d <;> exact .no λ_=>rfl
   |nil =>
    cases d with
    |bl k=>exact .of xs k rfl rfl
    |_=>exact .no λ_=>rfl
 |_=>exact .no λ_=>rfl
theorem K8:wj X "list.count" mZ:=by
 intro aj σ H s P α S v A vs us a ds Q I r j p U O Y;cases K_ a ds with
 |no h=>exact(mS (X:=X) (r:=mZ a ds S) (h _) Y).elim
 |of xs k L M =>
  subst L M;have Y:qO X P α (match xI xs with|some J=>a_.ok (D.int (J.countP (· == k):Ai)) S|none=>.bad) (jj X P α Q):=Y
  cases G:xI xs with
  |none=>rw[G] at Y;exact Aq Y
  |some J =>
   rw[G] at Y;obtain⟨q,w,rfl,rfl,C,E⟩:=yN O U;simp only[av] at C;subst C;cases (show w=Fv k from E)
   obtain⟨b,l,ao,n,rfl,sq,t,N,B,u,_⟩:=yS I r p;cases (show A=Cc b from j)
   have T:=vK G t N;subst T;refine Xx Us ⟨_,B,rfl⟩ PySem.F.entry_list_count (PySem.F.args_list_count_2 _ _) (PySem.SeqAt.list_countAt b (J.map Fv).toArray n none #[] (.bool k) (Vl k)) ⟨B,λy z=>(eG k z).at _ _,?_⟩;refine⟨.int _,H,I.tok _,⟨_,rfl⟩,?_⟩;rw[show (J.map Fv).toArray.toList=J.map Fv from rfl,cY]
   exact xr Y r (by simp only[av])
theorem iE {k:Au}:∀ {bs:Aa Au} {j:Ai},nZ k bs=Ab j->∃ h:j<bs.length,bs[j]=k/\∀ m (hm:m<bs.length),m<j->bs[m]≠k
 |[],j,h=>by cases h
 |b::r,j,h=>by
  unfold nZ at h;by_cases Y:b=k
  .rw[Ay Y] at h
   cases h;exact⟨by simp,by simpa using Y,λm hm z=>absurd z (AaU _)⟩
  .rw[AT Y] at h
   obtain⟨i,U,rfl⟩:=Em.mp h;obtain⟨O,J,G⟩:=iE U;refine⟨by simp;lia,by simpa using J,λm hm N=>?_⟩
   cases m with
   |zero=>simpa using Y
   |succ m=>simpa using G m (by simp at hm;lia) li
theorem K9:wj X "list.index" t7:=by
 intro aj σ H s P α S v vv vs us a ds Q I r rv p G L Y;cases K_ a ds with
 |no h=>exact(mS (X:=X) (r:=t7 a ds S) (h _) Y).elim
 |of xs k w ed =>
  subst w ed;have Y:qO X P α (match (xI xs).bind (nZ k) with|some j=>a_.ok (D.int j) S|none=>.bad) (jj X P α Q):=Y
  cases O:(xI xs).bind (nZ k) with
  |none=>rw[O] at Y;exact Aq Y
  |some j =>
   rw[O] at Y;obtain⟨T,l,u⟩:=Ec.mp O;obtain⟨vx,ux,rfl,rfl,E,g⟩:=yN L G;simp only[av] at E;subst E;cases (show ux=Fv k from g)
   obtain⟨b,ws,ao,n,rfl,sq,t,U,A,hl,z⟩:=yS I r p;cases (show vv=Cc b from rv)
   have N:=vK l t U;subst N;obtain⟨c,M,h3⟩:=iE u;have J:T.length<=sizeLine:=by
    have e1:=t.length;have x:=U.length;rw[Ap] at x;rw[xC] at z
    lia
   refine Xx Ut ⟨_,A,rfl⟩ PySem.F.entry_list_index (PySem.F.args_list_index_2 _ _) (AbI b (T.map Fv).toArray n (.bool k) (Vl k) (λy hy=>eG k hy) j (by simpa using c) ?_ ?_ ?_) ⟨A,?_⟩
   .rw[Es] at J;lia
   .simp[Vl,M]
   .intro m q B
    have C:m<T.length:=by simpa using q
    have:=h3 m C B;simp[Vl,this]
   .exact⟨.int _,H,I.tok _,⟨_,rfl⟩,xr Y r (by simp only[av])⟩
end
def sS (S:aq):aq:=S.map λ_=>.dead
noncomputable def QY (H P:Hp)(α : Aa Af):Hp:=λb=>if (P b).isSome then P b else if b∈α then H b else none
section
variable {K:Ah}{H P:Hp}{α: Aa Af}{S:aq}
theorem JJ (r:bf K H P α S):qI (QY H P α) H:=λb o e=>by
 unfold QY at e
 split at e
 .exact r.sub b o e
 .split at e
  .exact e
  .cases e
theorem bf.frz (r:bf K H P α S):bf K H (QY H P α) α (sS S) where
 tb:=r.tb.keep (λ_ _ q _=>q) λb u q _ p n=>⟨by unfold QY;rw[p];simp[n],n⟩
 sub:=JJ r
 len:=by rw[r.len];simp[sS]
 nd:=r.nd
 sep:=λi a o J Y U=>by
  unfold sS at Y;rw[Ee] at Y;cases q:S[i]? with
  |none=>rw[q] at Y;cases Y
  |some m=>rw[q] at Y;cases Y;exact absurd rfl U
 at':=λi a o J Y=>by
  unfold sS at Y;rw[Ee] at Y;cases q:S[i]? with
  |none=>rw[q] at Y;cases Y
  |some m=>rw[q] at Y;cases Y;trivial
 own:=r.own
end
section
variable {X:Cx}{c e:Cb}{fe:DE}
def qCH (i:Ai)(g:G2)(fe:DE):DS:=λY S=>match Y[i]? with
 |some (Ab x)=>(fe Y S).toS Y λy J=>(g x y J).toS Y λz U=>.nx (Y.set i (Ab z)) U
 |_=>.bad
def zY (xs:Aa D)(lo hi:Al Am):Aa D:=(xs.drop (_H.cf xs.length 0 lo)).take (_H.cf xs.length xs.length hi-_H.cf xs.length 0 lo)
abbrev DO:=qE->aq->a_ (Al Am)
def S_ (X:Cx)(P:Hp)(α : Aa Af)(Q:Al Am->Hp->Prop)(o:Al Am)(S':aq):Prop:=∀ U J Y,bf X.K U J Y S'->qI P J->α<+:Y->Q o U
def wo (X:Cx)(f:DO):TO:=λσ H Q=>∃ P α Y S,bf X.K H P α S/\zD X.K P α σ Y/\qO X P α (f Y S) (S_ X P α Q)
def xA:DO:=λ_ S=>.ok none S
def zS (f:DE):DO:=λJ S=>(f J S).bind λd Y=>match d with
 |.int i=>.ok (Ab i) Y
 |_=>.bad
theorem FZ:PO X none (wo X xA):=λaj s σ H Q I ⟨P,α,J,S,r,U,Y⟩=>NA aj s σ H Q I (Y H P α r (qI.refl _) (Br _))
theorem M0 (O:PE X e (tD X fe)):PO X (Ab e) (wo X (zS fe)):=by
 intro aj s σ H Q I h;obtain⟨P,α,J,S,r,C,L⟩:=h;refine NB (te:=tD X fe) O aj s σ H Q I ⟨P,α,J,S,r,C,?_⟩;have Y:qO X P α ((fe J S).bind λd G=>match d with|.int i=>.ok (Ab i) G|_=>.bad) (S_ X P α Q):=L
 cases q:fe J S with
 |bad=>rw[q] at Y;exact Y
 |ex c x w=>rw[q] at Y;exact Y
 |ok d G =>
  rw[q] at Y;intro v T M U N E A B;cases d with
  |int i=>exact⟨i,xF B,Y T M U N E A⟩
  |_=>exact Aq Y
theorem qF.cut {K:Ah}{P:Hp}{α:ag}(r:qF K P α ds vs)(lo hi:Al Am):qF K P α (zY ds lo hi) (b7 vs lo hi):=by
 unfold zY b7;rw[r.length];exact(r.drop _).take _
def su (d:D)(lo hi:Al Am)(S:aq):a_ D:=match d with
 |.lst xs=>.ok (.lst (zY xs lo hi)) S
 |.loc i=>match S[i]? with
  |some (.lst xs)=>.ok (.lst (zY xs lo hi)) S
  |_=>.bad
 |.tup xs=>.ok (.tup (zY xs lo hi)) S
 |_=>.bad
def lz (fe:DE)(fl N:DO):DE:=λY S=>(fe Y S).bind λd J=>(fl Y J).bind λlo O=>(N Y O).bind λU G=>su d lo U G
end
end _D
namespace _D
open _L _H
section
variable {prog:Bc}{w:Bu}{A:Bl}{E:ae}{s:Ag}
theorem pW {t U:Af}{lo hi:Al Am}{Q:ae}(Y:Rm s.heap t items)(hs:s.heap.IsSliceOf U C O .none)(pl:Sk C lo)(L:Sk O hi)
  (hw:cf items.size 0 lo=0/\cf items.size items.size hi=items.size) (h:Q (.ref t) s):Ao (As prog w) A (Mw (.ref t) (.ref U)) Q E s:=by
 obtain⟨B,N,G,_⟩:=id hs;have J:s.TypeIs (.ref U) "slice":=⟨B,N,G⟩;unfold Mw
 try with_reducible refine Dn ?_
 first|refine Ac (Ak ?_)|skip
 refine Ac (Sy Y.typeIs da ?_)
 refine Ac (Eb (name:=Gh "__getitem__") Y.typeIs Dy
  (Eg Dy Y.typeIs Rc ?_ (Sb _ _)))
 show Ao _ _ (Kc (.ref t) >>= _) _ _ s;refine Ac (Xt Y ?_);refine Ac (Kk J ?_);rw[Ay da]
 refine Ac (jL hs pl L ?_);show Ao _ _ (if (((cf items.size 0 lo:Ai):Am) == 0&&(1:Am) == 1&&(cf items.size items.size hi-cf items.size 0 lo) == items.size)=true then _ else _) _ _ s
 rw[hw.1,hw.2,Ay a8]
 unfold Builtin.Tuple.tupleIsExact;refine Ac (Ac (Kk Y.typeIs (Ak ?_)));rw[Ay da]
 exact Ac (Gw (Ak ⟨_,rfl,Ak h⟩))
end
section
variable {X:Cx}{e:Cb}{fe:DE}{au p2:Fc}
def _B (X:Cx):V->Al Am->Al Am->Hp->VK->Prop:=λx lo Y H Q=>∃ P α S d,bf X.K H P α S/\av X.K P α d x/\qX X P α (su d lo Y S) Q
theorem _x:uq X (_B X):=by
 intro E s σ H x v w A lo J M Q I C B pl T h;obtain⟨P,α,S,d,r,p,U⟩:=h;cases d with
 |lst G =>
  simp only[av] at p;obtain⟨a,Y,rfl,q,t⟩:=p;exact oO E s σ H _ v w A lo J M Q I C B pl T ⟨a,Y,rfl,(xT r.sub q).l,λb N=>wO r N (qF.cut t lo J) U⟩
 |loc i =>
  obtain⟨G,u,U⟩:=pE (X:=X) (f:=λG=>a_.ok (D.lst (zY G lo J)) S) U;simp only[av] at p;obtain⟨a,rfl,q⟩:=p;obtain⟨Y,z,t⟩:=r.at' i a _ q u;exact oO E s σ H _ v w A lo J M Q I C B pl T ⟨a,Y,rfl,ju.of z,λb N=>wO r N (qF.cut t lo J) U⟩
 |tup G =>
  have y:=p;simp only[av] at p;obtain⟨a,Y,rfl,q,t⟩:=p;by_cases L:cf Y.length 0 lo=0/\cf Y.length Y.length J=Y.length
  .cases C
   obtain⟨k,o,j,g⟩:=I.tuple (xX r.sub q);have O:k.toArray.size=Y.length:=by rw[Bh];exact o.length.symm
   refine⟨"tuple",_,Dy.lookup,j.typeIs,pW j B pl T (by rw[O];exact L) ⟨.ref a,H,I,rfl,xr U r ?_⟩⟩
   have e:zY G lo J=G:=by
    unfold zY;rw[t.length,L.1,L.2,<- t.length];simp
   rw[e];exact y
  .exact A3 E s σ H _ v w A lo J M Q I C B pl T ⟨a,Y,rfl,xX r.sub q,L,λb N=>pF r N (qF.cut t lo J) U⟩
 |_=>exact Aq U
theorem UX {lo hi:Al Cb}{fl L:DO}(b:PE X e (tD X fe))(hl:PO X lo (wo X fl))(n:PO X hi (wo X L)):PE X (.Subscript e (.Slice lo hi none p2) au) (tD X (lz fe fl L)):=
 oo (KU _x b hl n) λσ H Q ⟨P,α,G,S,r,E,t⟩=>by
  refine⟨P,α,G,S,r,E,?_⟩;have U:qO X P α ((fe G S).bind λd T=>(fl G T).bind λlo C=>(L G C).bind λhi N=>su d lo hi N) (jj X P α Q):=t;cases q:fe G S with
  |bad=>rw[q] at U;exact U
  |ex c x p=>rw[q] at U;exact U
  |ok d T =>
   rw[q] at U;intro v H1 o O i A z a;refine⟨o,O,G,T,i,E.mono A z,?_⟩;have J:qO X o O ((fl G T).bind λlo C=>(L G C).bind λhi N=>su d lo hi N) (jj X o O Q):=qX.base A z U;cases M:fl G T with
   |bad=>rw[M] at J;exact J
   |ex c x p=>rw[M] at J;exact J
   |ok l C =>
    rw[M] at J;intro H2 y B s j w;refine⟨y,B,G,C,s,(E.mono A z).mono j w,?_⟩;have Y:qO X y B ((L G C).bind λhi N=>su d l hi N) (jj X y B Q):=qX.base j w J;cases k:L G C with
    |bad=>rw[k] at Y;exact Y
    |ex c x p=>rw[k] at Y;exact Y
    |ok u N =>
     rw[k] at Y;intro h P3 I m g f;exact⟨P3,I,N,d,m,av.mono (j.trans g) (w.trans f) _ _ a,qX.base g f Y⟩
end
end _D
namespace _D
open _L
variable {α:ag}{N:Aa Ar}{ao ds sy:Aa D}{cp:Aa Et}{vs:Aa V}{Q:ae}{C:Af}{Qa Qd:Ag->Prop}{m:Ai}{o':Al (Ai × MO)}{tp:Au}{xs ys:Aw Ad}{h':Bk}{R:It->Hp->Prop}{S SF:aq}{al gc:qE}
def zK (tp:Au)(h:Bk)(it l:Af)(k:Ai):Prop:=if tp then h.IsTupleIter it l k else h.IsListIter it l k
def xZ (tp:Au)(h:Bk)(l:Af)(xs:Aw Ad):Prop:=if tp then h.IsTuple l xs else h.IsList l xs
theorem zK.keep {it l:Af}{k:Ai}(x:zK tp h it l k)(q:∀ o,h.get? it=Ab o->h'.get? it=Ab o):zK tp h' it l k:=by
 cases tp <;> (obtain⟨o,e,r⟩:=x;exact⟨o,q o e,r⟩)
theorem xZ.keep {l:Af}(x:xZ tp h l xs)(q:∀ o,h.get? l=Ab o->h'.get? l=Ab o):xZ tp h' l xs:=by
 cases tp <;> (obtain⟨o,e,r⟩:=x;exact⟨o,q o e,r⟩)
theorem zK.there {it l:Af}{k:Ai}(x:zK tp h it l k):∃ o,h.get? it=Ab o/\∀ v,o.data≠.cell v:=by
 cases tp <;> (obtain⟨o,e,_,d⟩:=x;exact⟨o,e,λv z=>by rw[d] at z;cases z⟩)
section
variable {prog:Bc}{w:Bu}{A:Bl}{E:ae}{s:Ag}
theorem KJ {it t:Af}(Y:s.heap.IsTupleIter it t i)(B:s.heap.IsTuple t items)(J:items[i]? = Ab x)
  (O:∀ h',h'.IsTupleIter it t (i+1)->Fb it s.heap h'->Q x { s with heap:=h' }) : Ao (As prog w) A (Eh (.ref it)) Q E s:=by
 obtain⟨o,e,c,d⟩:=id Y;obtain⟨u,U,_,m,G⟩:=B;unfold Eh;refine Ac (Eb (name:=Gh "__next__") Y.typeIs Kg (Eg Kg Y.typeIs Rr ?_ (Rf _)));show Ao _ _ (field (.ref it) 0 >>= _) _ _ s;refine Ac (Du e d (x:=.ref t) rfl ?_);show Ao _ _ (if (Cc t == Dj)=true then _ else _) _ _ s;rw[AT (show ¬ ((Cc t == Dj)=true) from Gx)]
 show Ao _ _ (field (.ref it) 1 >>= _) _ _ s;refine Ac (Du e d (x:=.int i 0) rfl ?_);show Ao _ _ (seqItems? (.ref t) >>= _) _ _ s;refine Ac (Fh U G ?_);simp only[Fy,J];refine Ac (Jw e d a8 (Ak ⟨x,rfl,Ak (O _ ⟨_,DL _ e (Mi (Ls d _)),(v6 ..).trans c,?_⟩ (Ib ..))⟩))
 rw[Ls d];simp[Kv]
theorem h8 {it t:Af}{Q:ae}(J:A.handled=none)(Y:s.heap.IsTupleIter it t i)(L:s.heap.IsTuple t items)(U:items[i]? = none)
  (O:∀ h' e,Heap.ExtBut it s.heap h'->(∃ o,h'.get? e=Ab o/\o.cls=.type "StopIteration")->E (.ref e) { s with heap:=h' }) : Ao (As prog w) A (Eh (.ref it)) Q E s:=by
 obtain⟨o,e,c,d⟩:=id Y;obtain⟨u,G,_,m,B⟩:=L;unfold Eh;refine Ac (Eb (name:=Gh "__next__") Y.typeIs Kg (Eg Kg Y.typeIs Rr ?_ (Rf _)));show Ao _ _ (field (.ref it) 0 >>= _) _ _ s;refine Ac (Du e d (x:=.ref t) rfl ?_);show Ao _ _ (if (Cc t == Dj)=true then _ else _) _ _ s;rw[AT (show ¬ ((Cc t == Dj)=true) from Gx)]
 show Ao _ _ (field (.ref it) 1 >>= _) _ _ s;refine Ac (Du e d (x:=.int i 0) rfl ?_);show Ao _ _ (seqItems? (.ref t) >>= _) _ _ s;refine Ac (Fh G B ?_);simp only[Fy,U];refine Ac (Gw (Ac (Jw e d a8 ?_)))
 show Ao _ _ (newExc (.type "StopIteration") [] >>= _) _ _ _;refine Ac ?_;simp only[newExc,newTuple];refine Ac (Dq ?_ (by size_fits))
 refine Ac (m:=Ru _ _) (Lf (a:=Dj) (by first|rfl|(simp only[Ru];rfl)) (Dq ?_ (by size_fits)))
 simp only[raiseNew];refine Ac (wpAny_handled ?_)
 first|rw[show A.in1.handled=none from J]|rw[J]
 exact Ac (Ak (wpAny_throw (O _ _ (((Ib ..).extBut.push _).push _) ⟨_,Bf _ rfl,rfl⟩)))
theorem pA {it l:Af}{k:Ai}(Y:zK tp s.heap it l k)(hl:xZ tp s.heap l xs)(J:xs[k]? = Ab x)
  (U:∀ h',zK tp h' it l (k+1)->Fb it s.heap h'->Q x { s with heap:=h' }) : Ao (As prog w) A (Eh (.ref it)) Q E s:=by
 cases tp with
 |false=>exact wpAny_nextOf_list_item Y hl J U
 |true=>exact KJ Y hl J U
theorem jF {it l:Af}{k:Ai}{Q:ae}(U:A.handled=none)(Y:zK tp s.heap it l k)(hl:xZ tp s.heap l xs)(J:xs[k]? = none)
  (G:∀ h' e,Heap.ExtBut it s.heap h'->(∃ o,h'.get? e=Ab o/\o.cls=.type "StopIteration")->E (.ref e) { s with heap:=h' }) : Ao (As prog w) A (Eh (.ref it)) Q E s:=by
 cases tp with
 |false=>exact wpAny_nextOf_list_end U Y hl J G
 |true=>exact h8 U Y hl J G
structure ZA (z I O i j:Af):Prop where
 Iz:I≠z
 Oz:O≠z
 iz:i≠z
 jz:j≠z
 IO:I≠O
 Ii:I≠i
 Ij:I≠j
 Oi:O≠i
 Oj:O≠j
 ij:i≠j
structure Off (z O i j a:Af):Prop where
 z:a≠z
 O:a≠O
 i:a≠i
 j:a≠j
abbrev UE (z O i j:Af)(h h':Bk):Prop:=∀ c o,c≠z->c≠O->c≠i->c≠j->h.get? c=Ab o->h'.get? c=Ab o
theorem PJ {g:Au}{z I O i j a b:Af}{k:Ai}{x y p q:Ad}(D:ZA z I O i j)(Da:Off z O i j a)(n:Off z O i j b)
  (hz:Rv s.heap z I O .none) (hI:Kh s.heap I (.ref i) (.ref j)) (hO:Kh s.heap O p q) (h1:zK tp s.heap i a k) (h2:zK g s.heap j b k) (ha:xZ tp s.heap a xs) (hb:xZ g s.heap b ys) (hx:xs[k]? = Ab x) (hy:ys[k]? = Ab y)
  (hQ:∀ h',Rv h' z I O (Kv s.heap.objs.size)->Kh h' O x y->zK tp h' i a (k+1)->zK g h' j b (k+1)->Kh h' s.heap.objs.size x y->h'.objs.size=s.heap.objs.size+1->UE z O i j s.heap h'->Q (.ref s.heap.objs.size) { s with heap:=h' }) :
  Ao (As prog w) A (HT.«zip.__next__» ⟨[.ref z],[]⟩) (λfin s'=>∃ v,fin=.done (.ret v)/\Q v s') E s:=by
 show Ao _ _ (field (.ref z) 2 >>= _) _ _ _;refine Ac (Du hz rfl (x:=.bool false) rfl ?_);show Ao _ _ (field (.ref z) 3 >>= _) _ _ _;refine Ac (Du hz rfl (x:=.ref I) rfl (Ac (Fh hI rfl ?_)));show Ao _ _ (Ez (.ref z) >>= _) _ _ _;refine Ac ?_;unfold Ez;refine Ac (Du hz rfl (x:=.none) rfl (Ak ?_));simp only[Ef];refine Ac (Gw (Ac (Du hz rfl (x:=.ref O) rfl (Ac (Fn hz a8 λg1 t U=>?_)))))
 replace t:Rv g1 z I O .ellipsis:=t
 refine Ac ?_;simp only[Ug,AaV,Vi,Rq];refine Ac (Ac (Tg ?_));show Ao _ _ (Eh (.ref i) >>= _) _ _ _;refine Ac (pA (h1.keep λo e=>U.extBut _ _ D.iz e) (ha.keep λo e=>U.extBut _ _ Da.z e) hx λg2 i2 B=>Ak ?_);have O2:Kh g2 O p q:=B.extBut _ _ D.Oi (U.extBut _ _ D.Oz hO);refine Ac (Fh O2 rfl (Ac (Qn O2 λg3 O3 G=>Ac (Mk (Ak ?_)))))
 replace O3:Kh g3 O x q:=O3
 refine Ac (Ac (Tg ?_));show Ao _ _ (Eh (.ref j) >>= _) _ _ _;refine Ac (pA (h2.keep λo e=>G.extBut _ _ D.Oj.symm (B.extBut _ _ D.ij.symm (U.extBut _ _ D.jz e))) (hb.keep λo e=>G.extBut _ _ n.O (B.extBut _ _ n.i (U.extBut _ _ n.z e))) hy λg4 j4 L=>Ak ?_);have O4:Kh g4 O x q:=L.extBut _ _ D.Oj O3;refine Ac (Fh O4 rfl (Ac (Qn O4 λY l T=>Ac (Mk (Ak (Ak ?_))))))
 replace l:Kh Y O x y:=l
 refine Ac (Fh l rfl (Ac (Wx ?_)));have sz:Y.objs.size=s.heap.objs.size:=by rw[T.1,L.1,G.1,B.1,U.1]
 have z5:Rv Y z I O .ellipsis:=T.extBut _ _ D.Oz.symm (L.extBut _ _ D.jz.symm (G.extBut _ _ D.Oz.symm (B.extBut _ _ D.iz.symm t)));have k5:UE z O i j s.heap Y:=λc o J d c3 f e=>T.extBut _ _ d (L.extBut _ _ f (G.extBut _ _ d (B.extBut _ _ c3 (U.extBut _ _ J e))));have i5:zK tp Y i a (k+1):=i2.keep λo e=>T.extBut _ _ D.Oi.symm (L.extBut _ _ D.ij (G.extBut _ _ D.Oi.symm e));have j5:zK g Y j b (k+1):=j4.keep λo e=>T.extBut _ _ D.Oj.symm e;have zl:z<Y.objs.size:=Az z5;show Ao _ _ (Hj (.ref z) (.ref Y.objs.size) >>= _) _ _ _;refine Ac ?_;unfold Hj;have z6:Rv (Y.push { cls:=.type "tuple",data:=.seq #[x,y] }) z I O .ellipsis:=Aj _ z5;refine Ac (Fn z6 a8 λg7 h s7=>?_)
 replace h:Rv g7 z I O (Kv Y.objs.size):=h
 refine Fn h a8 λM u r=>?_
 replace u:Rv M z I O (Kv Y.objs.size):=u
 have up:∀ c o,c≠z->Y.get? c=Ab o->M.get? c=Ab o:=λc o J e=>r.extBut _ _ J (s7.extBut _ _ J (Aj _ e));have T8:Kh M Y.objs.size x y:=r.extBut _ _ (Hd zl) (s7.extBut _ _ (Hd zl) (Bf _ rfl));have H:M.objs.size=Y.objs.size+1:=by rw[r.1,s7.1,Ep]
 rw[sz] at u T8 H;refine Ak ⟨_,rfl,?_⟩;show Q (.ref Y.objs.size) _;rw[sz];exact hQ M u (up _ _ D.Oz l) (i5.keep λo e=>up _ o D.iz e) (j5.keep λo e=>up _ o D.jz e) T8 H λc o J d c3 f e=>up c o J (k5 c o J d c3 f e)
end
section
variable {prog:Bc}{w:Bu}{A:Bl}{E:ae}{s:Ag}
theorem PN {tq:Au}{z I O i j a b:Af}{k:Ai}{p q:Ad}{Q:Fin->Ag->Prop}(hh:A.handled=none)(D:ZA z I O i j)(Da:Off z O i j a)(r:Off z O i j b)
  (hz:Rv s.heap z I O .none) (hI:Kh s.heap I (.ref i) (.ref j)) (hO:Kh s.heap O p q) (h1:zK tp s.heap i a k) (h2:zK tq s.heap j b k) (ha:xZ tp s.heap a xs) (hb:xZ tq s.heap b ys) (B:xs[k]? = none\/ys[k]? = none)
  (hE:∀ h' e,UE z O i j s.heap h'->(∃ o,h'.get? e=Ab o/\o.cls=.type "StopIteration")->E (.ref e) { s with heap:=h' }) : Ao (As prog w) A (HT.«zip.__next__» ⟨[.ref z],[]⟩) Q E s:=by
 show Ao _ _ (field (.ref z) 2 >>= _) _ _ _;refine Ac (Du hz rfl (x:=.bool false) rfl ?_);show Ao _ _ (field (.ref z) 3 >>= _) _ _ _;refine Ac (Du hz rfl (x:=.ref I) rfl (Ac (Fh hI rfl ?_)));show Ao _ _ (Ez (.ref z) >>= _) _ _ _;refine Ac ?_;unfold Ez;refine Ac (Du hz rfl (x:=.none) rfl (Ak ?_));simp only[Ef];refine Ac (Gw (Ac (Du hz rfl (x:=.ref O) rfl (Ac (Fn hz a8 λt u J=>?_)))))
 replace u:Rv t z I O .ellipsis:=u
 refine Ac ?_;simp only[Ug,AaV,Vi,Rq];refine Ac (Ac (Tg ?_));show Ao _ _ (Eh (.ref i) >>= _) _ _ _;have T:zK tp t i a k:=h1.keep λo e=>J.extBut _ _ D.iz e;have L:xZ tp t a xs:=ha.keep λo e=>J.extBut _ _ Da.z e;cases v:xs[k]? with
 |none =>
  refine Ac (jF hh T L v λl e x2 f=>?_);obtain⟨g,U,M⟩:=f;have z2:Rv l z I O .ellipsis:=x2 _ _ D.iz.symm u;have d:e≠z:=λy=>by subst y;rw[z2] at U;cases U;simp at M
  exact Fn z2 a8 λg3 _ Y=>hE g3 e (λc o G _ n _ y=>Y.extBut _ _ G (x2 _ _ n (J.extBut _ _ G y))) ⟨g,Y.extBut _ _ d U,M⟩
 |some x =>
  have hy:ys[k]? = none:=by
   rcases B with y|y
   .rw[v] at y;cases y
   .exact y
  refine Ac (pA T L v λl i2 H=>Ak ?_);have h:Kh l O p q:=H.extBut _ _ D.Oi (J.extBut _ _ D.Oz hO);refine Ac (Fh h rfl (Ac (Qn h λg3 O3 Y=>Ac (Mk (Ak ?_)))));refine Ac (Ac (Tg ?_));show Ao _ _ (Eh (.ref j) >>= _) _ _ _;refine Ac (jF hh (h2.keep λo e=>Y.extBut _ _ D.Oj.symm (H.extBut _ _ D.ij.symm (J.extBut _ _ D.jz e))) (hb.keep λo e=>Y.extBut _ _ r.O (H.extBut _ _ r.i (J.extBut _ _ r.z e))) hy λg4 e x4 f=>?_);obtain⟨g,U,M⟩:=f;have z4:Rv g4 z I O .ellipsis:=x4 _ _ D.jz.symm (Y.extBut _ _ D.Oz.symm (H.extBut _ _ D.iz.symm u));have d:e≠z:=λy=>by subst y;rw[z4] at U;cases U;simp at M
  exact Fn z4 a8 λg5 _ s5=>hE g5 e (λc o G c2 n c4 y=>s5.extBut _ _ G (x4 _ _ c4 (Y.extBut _ _ c2 (H.extBut _ _ n (J.extBut _ _ G y))))) ⟨g,s5.extBut _ _ d U,M⟩
noncomputable abbrev uC (tp:Au)(l:Af):Co:={ cls:=.type (if tp then "tuple_iterator" else "list_iterator"),data:=.fields #[.ref l,.int 0 0] }
abbrev xz (tp:Au)(h:Bk)(a:Af):Bk:=h.push (uC tp a)
abbrev xy (tp Y:Au)(h:Bk)(a b:Af):Bk:=(xz tp h a).push (uC Y b)
abbrev xx (tp Y:Au)(h:Bk)(a b:Af):Bk:=(xy tp Y h a b).push { cls:=.type "tuple",data:=.seq #[.ref h.objs.size,.ref (xz tp h a).objs.size] }
abbrev xw (tp Y:Au)(h:Bk)(a b:Af):Bk:=(xx tp Y h a b).push { cls:=.type "tuple",data:=.seq #[.none,.none] }
abbrev uf (tp Y:Au)(h:Bk)(a b:Af):Bk:=(xw tp Y h a b).push { cls:=.type "zip",data:=.fields #[.none,.bool false,.bool false,.ref (xy tp Y h a b).objs.size,.ref (xx tp Y h a b).objs.size] }
set_option maxHeartbeats 4000000 in
theorem D0 (tp:Au)(a b:Af)(xs ys:Aw Ad) :
  Meets (HT.«zip.__new__» ⟨[.type "zip",.ref a,.ref b],[]⟩) (λ_ R s=>xZ tp s.heap a xs/\xZ tp s.heap b ys/\R (.ok (.ret (.ref (xw tp tp s.heap a b).objs.size))) { s with heap:=uf tp tp s.heap a b }):=
 .of_wp λprog w A R s h=>by
  obtain⟨Y,g,d,J,os⟩:=s;obtain⟨B,I,h⟩:=h;have T:=sub_zip;have O:∀ L:Co,xZ tp (Y.push L) b ys:=λL=>I.keep λo e=>Aj _ e;cases tp
  .have U:AaI (Qb ⟨Y,g,d,J,os⟩) a xs:=B
   have G:AaI (Qb ⟨Y.push { cls:=.type "list_iterator",data:=.fields #[.ref a,.int 0 0] },g,d,J,os⟩) b ys:=O _
   wp_walk using Go U,Go G
   exact⟨_,rfl,h⟩
  .have U:Zs (Qb ⟨Y,g,d,J,os⟩) a xs:=B
   have G:Zs (Qb ⟨Y.push { cls:=.type "tuple_iterator",data:=.fields #[.ref a,.int 0 0] },g,d,J,os⟩) b ys:=O _
   wp_walk using Hl U,Hl G
   exact⟨_,rfl,h⟩
theorem gY {h:Bk}{it l:Af}(e:h.get? it=Ab (uC tp l)):zK tp h it l 0:=by
 cases tp
 .exact⟨_,e,rfl,rfl⟩
 .exact⟨_,e,rfl,rfl⟩
theorem UL {a b:Af}(y:xZ tp s.heap a xs)(j:xZ tp s.heap b ys)
  (h:∀ h',Rv h' (s.heap.objs.size+4) (s.heap.objs.size+2) (s.heap.objs.size+3) .none->Kh h' (s.heap.objs.size+2) (.ref s.heap.objs.size) (.ref (s.heap.objs.size+1)) ->
   Kh h' (s.heap.objs.size+3) .none .none->zK tp h' s.heap.objs.size a 0->zK tp h' (s.heap.objs.size+1) b 0->h'.objs.size=s.heap.objs.size+5->(∀ c o,s.heap.get? c=Ab o->h'.get? c=Ab o)->Q (.ref (s.heap.objs.size+4)) { s with heap:=h' }) :
  Ao (As prog w) A (call (.type "zip") [.ref a,.ref b]) Q E s:=by
 refine callType_new F.called_zip da (F.typeCall_zip_2 _ _) (F.newCall_zip_2 _ _) (λG=>F.args_object_init_3 G _ _) F.entry_zip_new (D0 tp a b xs ys) ⟨y,j,?_⟩
 have O:(xz tp s.heap a).objs.size=s.heap.objs.size+1:=Ep ..;have Y:(xy tp tp s.heap a b).objs.size=s.heap.objs.size+2:=by rw[Ep,O]
 have J:(xx tp tp s.heap a b).objs.size=s.heap.objs.size+3:=by rw[Ep,Y]
 have U:(xw tp tp s.heap a b).objs.size=s.heap.objs.size+4:=by rw[Ep,J]
 have H:(uf tp tp s.heap a b).objs.size=s.heap.objs.size+5:=by rw[Ep,U]
 have B:(uf tp tp s.heap a b).get? (xw tp tp s.heap a b).objs.size=Ab _:=Bf _ rfl;have I:(uf tp tp s.heap a b).get? (xx tp tp s.heap a b).objs.size=Ab _:=Aj _ (Bf _ rfl);have L:(uf tp tp s.heap a b).get? (xy tp tp s.heap a b).objs.size=Ab _:=Aj _ (Aj _ (Bf _ rfl));have T:(uf tp tp s.heap a b).get? (xz tp s.heap a).objs.size=Ab (uC tp b):=Aj _ (Aj _ (Aj _ (Bf _ rfl)));have M:(uf tp tp s.heap a b).get? s.heap.objs.size=Ab (uC tp a):=Aj _ (Aj _ (Aj _ (Aj _ (Bf _ rfl))));have z:∀ c o,s.heap.get? c=Ab o->(uf tp tp s.heap a b).get? c=Ab o:=λc o e=>Aj _ (Aj _ (Aj _ (Aj _ (Aj _ e))));show _/\_;rw[Y,J,U] at B;rw[O,Y] at L;rw[J] at I;rw[O] at T;rw[U];exact⟨⟨_,B,rfl⟩,h _ B L I (gY M) (gY T) H z⟩
end
def Sq (tp:Au)(K:Ah)(H:Hp)(a:Af)(xs:Aa V):Prop:=if tp then jf K H a xs else ju K H a xs
section
variable {X:Cx}{aj:aa}{σ: _L.St}{H:Hp}{s:Ag}
theorem Sq.at {a:Af}{xs:Aa V}(I:Inv X aj σ H s)(q:Sq tp X.K H a xs):∃ ao,qQ xs ao/\xZ tp s.heap a ao.toArray:=by
 cases tp with
 |true =>
  obtain⟨ao,Y,p,_⟩:=I.tuple q;exact⟨ao,Y,p⟩
 |false =>
  obtain⟨ao,Y,p,_⟩:=I.list q;exact⟨ao,Y,p.isList⟩
theorem Sq.inj {a:Af}{xs ys:Aa V}(I:Inv X aj σ H s)(q:Sq tp X.K H a xs)(Y:Sq tp X.K H a ys):xs=ys:=by
 cases tp with
 |true=>exact I.tuple_inj q Y
 |false=>exact I.list_inj q Y
theorem Sq.off {a b:Af}{xs:Aa V}(I:Inv X aj σ H s)(q:Sq tp X.K H a xs)(f:xR X aj H b):a≠b:=by
 have Y:H a≠none\/∃ o,X.K.lookup a=Ab o:=by
  cases tp with
  |true =>
   rcases q with (q|⟨o,q⟩)|⟨o,_,_,q,_⟩
   .exact .inl (by rw[q];intro z;cases z)
   .exact .inl (by rw[q];intro z;cases z)
   .exact .inr ⟨_,q⟩
  |false =>
   rcases q with (q|⟨o,q⟩)|⟨o,_,_,q,_⟩
   .exact .inl (by rw[q];intro z;cases z)
   .exact .inl (by rw[q];intro z;cases z)
   .exact .inr ⟨_,q⟩
 rintro rfl;rcases Y with k|⟨o,k⟩
 .exact k f.1
 .have e:=I.mod.kin a o k
  rcases f.2.2.2.1 with z|z
  .exact I.ok.noex a o e z
  .exact absurd (Az (I.ok.bs a o e).1) (Me.mpr z)
theorem Inv.turnLay {fp:ag}{T:Af}{xs:Aa V}{ao:ai}(I:Inv X aj σ H s)(J:∀ b∈fp,xR X aj H b)(k:∀ b o,b ∉ fp->s.heap.get? b=Ab o->h'.get? b=Ab o)(y:∀ b∈fp,∃ o,h'.get? b=Ab o)
  (hT:s.heap.objs.size<=T) (w:qQ xs ao) (O:Rm h' T ao.toArray) (hz:xs.length<=sizeLine):Inv X aj σ (bw H T (.tup xs)) { s with heap:=h' }:=by
 have U:H T=none:=I.hok.fresh hT;have E:∀ b o,s.heap.get? b=Ab o->b≠T:=λb o e=>Cw (Bi (Az e) hT);refine I.step (g':=s.gens) (d':=s.drawn) (t':=s.toks) (ch:=fp) (λb Y=>⟨(J b Y).2.2.2.1,(J b Y).2.1,(J b Y).2.2.2.2.1,(J b Y).2.2.2.2.2⟩) (λb o _ _ hc e _=>k b o hc e) (λb o _ _ hc e _=>⟨o.slots,k b o hc e⟩)
  (λb o _ e n=>by rw[qJ (E b o e)];exact n) (λb o hc e=>⟨o,k b o hc e⟩) (λb ys e=>by rw[qJ (z0 e U)];exact e) (λb o u e=>by rw[qJ (z0 e U)];exact e)
  (λb j e=>⟨#[],by rw[qJ (z0 e U),e];simp⟩) (λm M=>?_) (λb u e=>?_) I.bare
 .obtain⟨o,B,L,A,r⟩:=M
  exact⟨o,B,L,k _ o (λz=>(J _ z).2.1 rfl) A,r⟩
 .by_cases Y:b=T
  .subst Y
   rw[qT] at e;cases e;exact⟨hz,ao,w,O⟩
  .rw[qJ Y] at e
   refine(I.hok b u e).stay (λc v hc q=>k c v (λz=>?_) q) (λc q=>by rw[qJ (z0 q U)];exact q) λc ys q=>by rw[qJ (z0 q U)];exact q
   have G:=(J c z).1;rcases hc with rfl|hc
   .rw[G] at e;cases e
   .rw[G] at hc;cases hc
theorem Inv.turnL {fp:ag}(I:Inv X aj σ H s)(Y:∀ b∈fp,xR X aj H b)(k:∀ b o,b ∉ fp->s.heap.get? b=Ab o->h'.get? b=Ab o):Inv X aj σ H { s with heap:=h' }:=by
 refine I.step (g':=s.gens) (d':=s.drawn) (t':=s.toks) (ch:=fp) (λb U=>⟨(Y b U).2.2.2.1,(Y b U).2.1,(Y b U).2.2.2.2.1,(Y b U).2.2.2.2.2⟩) (λb o _ _ hc e _=>k b o hc e) (λb o _ _ hc e _=>⟨o.slots,k b o hc e⟩)
  (λb o _ e n=>n) (λb o hc e=>⟨o,k b o hc e⟩) (λb ys e=>e) (λb o u e=>e) (λb T e=>⟨#[],by rw[e];simp⟩) (λm L=>?_) (λb u e=>?_) I.bare
 .obtain⟨o,G,O,B,r⟩:=L
  exact⟨o,G,O,k _ o (λz=>(Y _ z).2.1 rfl) B,r⟩
 .refine(I.hok b u e).stay (λc v hc q=>k c v (λz=>?_) q) (λc q=>q) λc ys q=>q
  have J:=(Y c z).1;rcases hc with rfl|hc
  .rw[J] at e;cases e
  .rw[J] at hc;cases hc
end
def W_ (tp:Au)(K:Ah)(a b:Af):It:=
  ⟨λi H=>∃ xs ys x y,Sq tp K H a xs/\Sq tp K H b ys/\xs[i]? = Ab x/\ys[i]? = Ab y,
   λi H v Y=>∃ T x y,v=.ref T/\H T=none/\Y=bw H T (.tup [x,y])/\(∀ xs,Sq tp K H a xs->xs[i]? = Ab x)/\∀ ys,Sq tp K H b ys->ys[i]? = Ab y,
   λi H=>∃ xs ys,Sq tp K H a xs/\Sq tp K H b ys/\(xs.length<=i\/ys.length<=i)⟩
def Q8 (tp:Au)(z I O i j a b:Af)(k:Ai)(h:Bk):Prop:=∃ p q,Rv h z I O .none/\Kh h I (.ref i) (.ref j)/\Kh h O p q/\zK tp h i a k/\zK tp h j b k
theorem bM {z I O i j a b:Af}{k:Ai}(st:Q8 tp z I O i j a b k h):∀ c∈[z,I,O,i,j],∃ o,h.get? c=Ab o/\∀ v,o.data≠.cell v:=λc Y=>by
 obtain⟨p,q,J,L,B,U,G⟩:=st;simp only[Ax,Di,Gk] at Y;rcases Y with rfl|rfl|rfl|rfl|rfl
 .exact⟨_,J,λv y=>by cases y⟩
 .exact⟨_,L,λv y=>by cases y⟩
 .exact⟨_,B,λv y=>by cases y⟩
 .exact U.there
 .exact G.there
theorem BK {c z I O i j:Af}(h:c ∉ [z,I,O,i,j]):c≠z/\c≠O/\c≠i/\c≠j:=by
 simp only[Ax,Di,Gk,Wh] at h;exact⟨h.1,h.2.2.1,h.2.2.2.1,h.2.2.2.2⟩
theorem P9 {P:Bc}{K:Ah}{z I O i j a b:Af}(D:ZA z I O i j):lh P w K (.Tuple jr x1 jo) (W_ tp K a b) [z,I,O,i,j] z (Q8 tp z I O i j a b) where
 mem:=.head _
 obj:=λk h st=>bM st
 keep:=λk h h' st l=>by
  obtain⟨p,q,B,M,v,g,d⟩:=st;exact⟨p,q,l z (.head _) _ B,l I (.tail _ (.head _)) _ M,l O (.tail _ (.tail _ (.head _))) _ v,g.keep λo e=>l i (.tail _ (.tail _ (.tail _ (.head _)))) o e,d.keep λo e=>l j (.tail _ (.tail _ (.tail _ (.tail _ (.head _))))) o e⟩
 item:=by
  intro X hP hw hK Y k aj s σ H E J U st hg;subst hP hw hK;obtain⟨p,q,B,M,v,g,d⟩:=st;obtain⟨xs,ys,x,y,r,f,hx,hy⟩:=hg;obtain⟨ia,ra,ha⟩:=r.at J;obtain⟨ib,rb,hb⟩:=f.at J;obtain⟨u,hu,ru⟩:=ra.get hx;obtain⟨u',zy,zx⟩:=rb.get hy;have G:∀ {c:Af} {A:Aa V},Sq tp X.K H c A->Off z O i j c:=λ{c A} L=>⟨L.off J (U z (.head _)),L.off J (U O (.tail _ (.tail _ (.head _)))),L.off J (U i (.tail _ (.tail _ (.tail _ (.head _))))),L.off J (U j (.tail _ (.tail _ (.tail _ (.tail _ (.head _))))))⟩;have hT:s.TypeIs (.ref z) "zip":=⟨_,B,rfl⟩;unfold Pe;refine Ac (Iq (Eb (name:=Gh "__next__") hT Qs (Eg Qs hT AaJ
   (PJ D (G r) (G f) B M v g d ha hb (by simpa using hu) (by simpa using zy) λh' a1 a2 a3 a4 a5 a6 a7=>Ak ?_) (wP _))))
  refine⟨_,rfl,wpAny_letOwnedTupleGo_zip (s:={ s with heap:=h' }) a1 λh2 b1 b2=>?_⟩
  have up:∀ c o,c≠z->h'.get? c=Ab o->h2.get? c=Ab o:=λc o n e=>(b2.2 c n).trans e;have zl:z<s.heap.objs.size:=Az B;have T2:Kh h2 s.heap.objs.size u u':=up _ _ (Hd zl) a5;have zb:Q8 tp z I O i j a b (k+1) h2:=⟨u,u',b1,up _ _ D.Iz (a7 I _ D.Iz D.IO D.Ii D.Ij M),up _ _ D.Oz a2,a3.keep λo e=>up _ o D.iz e,a4.keep λo e=>up _ o D.jz e⟩;refine⟨.ref s.heap.objs.size,bw H s.heap.objs.size (.tup [x,y]),?_,rfl,⟨_,x,y,rfl,J.hok.fresh (Av _),rfl,λA qz=>by rw[qz.inj J r];exact hx,λA qz=>by rw[qz.inj J f];exact hy⟩,zb,λc Y=>?_⟩
  .show _L.Inv X aj σ (bw H s.heap.objs.size (.tup [x,y])) { s with heap:=h2 }
   refine Inv.turnLay (fp:=[z,I,O,i,j]) (ao:=[u,u']) J U (λc o Y e=>?_) (λc Y=>?_) (Av _) (.cons ru (.cons zx .nil)) ⟨_,T2,rfl,_,rfl⟩ (by show 2<=sizeLine;decide)
   .have Y:=BK Y
    exact up c o Y.1 (a7 c o Y.1 Y.2.1 Y.2.2.1 Y.2.2.2 e)
   .obtain⟨o,e,_⟩:=bM zb c Y
    exact⟨o,e⟩
  .have hn:=(U c Y).1
   rw[qJ ?_]
   .exact hn
   .rintro rfl
    obtain⟨o,e,_⟩:=bM ⟨p,q,B,M,v,g,d⟩ _ Y;exact absurd (Az e) (Ex _)
 done:=by
  intro X hP hw hK Y k aj s σ H E J U st hg;subst hP hw hK;obtain⟨p,q,B,M,v,g,d⟩:=st;obtain⟨xs,ys,r,f,t⟩:=hg;obtain⟨ia,ra,ha⟩:=r.at J;obtain⟨ib,rb,hb⟩:=f.at J;have G:∀ {c:Af} {A:Aa V},Sq tp X.K H c A->Off z O i j c:=λ{c A} L=>⟨L.off J (U z (.head _)),L.off J (U O (.tail _ (.tail _ (.head _)))),L.off J (U i (.tail _ (.tail _ (.tail _ (.head _))))),L.off J (U j (.tail _ (.tail _ (.tail _ (.tail _ (.head _))))))⟩;have hT:s.TypeIs (.ref z) "zip":=⟨_,B,rfl⟩;have l1:=ra.length;have l2:=rb.length;unfold Pe;refine Ac (Iq (Eb (name:=Gh "__next__") hT Qs (Eg Qs hT AaJ
   (PN (J.ok.hd Y) D (G r) (G f) B M v g d ha hb ?_ λh' e l he=>?_) (wP _))))
  .rcases t with y|y
   .exact .inl (by simp;lia)
   .exact .inr (by simp;lia)
  .obtain⟨o,ho,zc⟩:=he
   refine Ac (Qc (T:="StopIteration") (b:=true) ⟨o,ho,zc⟩ Wy (Ak ⟨rfl,Inv.turnL (fp:=[z,I,O,i,j]) J U λc o Y e=>?_⟩));have Y:=BK Y;exact l c o Y.1 Y.2.1 Y.2.2.1 Y.2.2.2 e
 self:=λ_ _ _ _ _ st h=>by
  obtain⟨p,q,B,_⟩:=st;exact wpAny_pyIter_zip B h
noncomputable def vV (xs ys:Aa D):Aa D:=List.zipWith (λx y=>D.tup [x,y]) xs ys
def IA (ds:Aa D):Al (Aa D):=match ds with
 |[.tup xs,.tup ys]=>Ab (vV xs ys)
 |[.lst xs,.lst ys]=>Ab (vV xs ys)
 |_=>none
def nO (f:DA):DI:=λal S=>(f al S).bind λds Y=>v9 (IA ds) Y
theorem PH {xs ys:Aa D}{i:Ai}:(vV xs ys)[i]? = match xs[i]?,ys[i]? with|some x,Ab y=>Ab (D.tup [x,y])|_,_=>none:=by
 unfold vV;rw[List.getElem?_zipWith];cases xs[i]? <;> cases ys[i]? <;> rfl
theorem mR (xs ys:Aa D):(vV xs ys).length=min xs.length ys.length:=by simp[vV]
section
variable {K:Ah}
theorem Sq.mono {P Y:Hp}(e:qI P Y){a:Af}{xs:Aa V}(q:Sq tp K P a xs):Sq tp K Y a xs:=by
 cases tp with
 |true=>exact vA e q
 |false=>exact e.seq q
theorem T4 {P:Hp}{a b:Af}{xs ys:Aa D}(I:Sq tp K P a vs)(B:Sq tp K P b Y)(L:qF K P α xs vs)(A:qF K P α ys Y):tw K (W_ tp K a b) P α (vV xs ys) where
 go:=λi H k U S J r e _=>by
  rw[mR] at J;have E:i<vs.length:=by rw[<- L.length];lia
  have G:i<Y.length:=by rw[<- A.length];lia
  exact⟨vs,Y,vs[i],Y[i],I.mono (e.trans r.sub),B.mono (e.trans r.sub),by simp,by simp⟩
 yld:=λi H x H' k U S J r e z y=>by
  obtain⟨T,u,w,rfl,p,rfl,v,g⟩:=y;rw[mR] at J;have E:i<xs.length:=by lia
  have G:i<ys.length:=by lia
  obtain⟨n,d,l⟩:=L.get (An E);obtain⟨s,c,f⟩:=A.get (An G);have M:=v vs (I.mono (e.trans r.sub));have j:=g Y (B.mono (e.trans r.sub));rw[d] at M;cases M;rw[c] at j;cases j;obtain⟨q,O⟩:=r.pure (o:=.tup [u,w]) p;refine⟨_,.tup [xs[i],ys[i]],?_,q,O,?_⟩
  .rw[PH,An E,An G]
  .exact lM (.of qT) (.cons (av.mono (e.trans O) z _ _ l) (.cons (av.mono (e.trans O) z _ _ f) .nil))
 stop:=λi H k U S J r e _=>by
  rw[mR] at J;have t:=L.length;have h:=A.length;exact⟨vs,Y,I.mono (e.trans r.sub),B.mono (e.trans r.sub),by lia⟩
end
section
variable {X:Cx}{e1 e2:Cb}{jr:Aa Cb}{x1:Ai}{jo:Fc}{f:DA}{p au:Fc}
theorem UB {σ:_L.St}{H P:Hp}{a b:Af}{xs ys:Aa D}(I:Inv X aj σ H s)(r:bf X.K H P α S)(G:Sq tp X.K P a vs)(J:Sq tp X.K P b B)(T:qF X.K P α xs vs)(k:qF X.K P α ys B)
  (q:vt X P α R (vV xs ys) S):db X (call (.type "zip") [.ref a,.ref b]) (λv L=>db X (Qy v) (vq X aj σ (.Tuple jr x1 jo) R) X.xe L) X.xe s:=by
 obtain⟨o,d,M⟩:=(G.mono r.sub).at I;obtain⟨g,t,E⟩:=(J.mono r.sub).at I;refine UL M E λh' O j u y w l A=>?_;refine wpAny_pyIter_zip (s:={ s with heap:=h' }) O ?_
 have D:ZA (s.heap.objs.size+4) (s.heap.objs.size+2) (s.heap.objs.size+3) s.heap.objs.size (s.heap.objs.size+1):=by constructor <;> (intro z;simp at z)
 refine⟨_,[s.heap.objs.size+4,s.heap.objs.size+2,s.heap.objs.size+3,s.heap.objs.size,s.heap.objs.size+1],_,_,H,rfl,I.kept (t':=s.toks) A,P9 (a:=a) (b:=b) D,⟨_,_,O,j,u,y,w⟩,λc Y=>?_,q _ _ P α r (qI.refl _) (Br _) (T4 G J T k)⟩;have U:s.heap.objs.size<=c:=by
  simp only[Ax,Di,Gk] at Y;rcases Y with rfl|rfl|rfl|rfl|rfl <;> simp
 exact I.fpOk U (I.hok.fresh U)
inductive zh (ds:Aa D)(its:Aa D):Prop
 |tup (xs ys:Aa D) (ed:ds=[.tup xs,.tup ys]) (e:its=vV xs ys)
 |lst (xs ys:Aa D) (ed:ds=[.lst xs,.lst ys]) (e:its=vV xs ys)
theorem LZ (h:IA ds=Ab ao):zh ds ao:=by
 cases ds with
 |nil=>exact nn h
 |cons a ds =>
  cases a with
  |tup xs =>
   cases ds with
   |nil=>exact nn h
   |cons b ds =>
    cases b with
    |tup ys =>
     cases ds with
     |nil=>exact .tup xs ys rfl (Dg h).symm
     |cons _ _=>exact nn h
    |_=>exact nn h
  |lst xs =>
   cases ds with
   |nil=>exact nn h
   |cons b ds =>
    cases b with
    |lst ys =>
     cases ds with
     |nil=>exact .lst xs ys rfl (Dg h).symm
     |cons _ _=>exact nn h
    |_=>exact nn h
  |_=>exact nn h
theorem SW (d:Gl X "zip")(hm:X.mg "zip" = none)(i:PA X [e1,e2] (ko X f))(hs:Bn [e1,e2] X.env=(false,eval e1 X.env)::Bn [e2] X.env:=by rfl)(E:(Gm au (Bn [e2] X.env)).any (·.1)=false:=by rfl) :
  PI X (.Tuple jr x1 jo) (.Call (.Name "zip" p) [e1,e2] [] au) (so X (nO f)):=by
 intro aj s σ H R I h;obtain⟨P,α,al,S,r,o,l⟩:=h;refine Call_ (vP I d hm boot_zip (Hw (bv (y9 i I r o l au) λus s1 ⟨vs,H1,P1,c,ds,S1,k,z,j,g,y,e1,e2,G⟩=>?_) hs E));obtain⟨ao,n,q⟩:=vY G;cases LZ n with
 |tup xs ys A e =>
  subst A e;obtain⟨v,w,u,x,rfl,rfl,Y,J,U,B⟩:=uD y z;simp only[av] at Y J;obtain⟨a,t,rfl,T,O⟩:=Y;obtain⟨b,vb,rfl,L,M⟩:=J;cases (show u=Cc a from U)
  cases (show x=Cc b from B)
  exact UB (tp:=true) k j T L O M (q.base e1 e2)
 |lst xs ys A e =>
  subst A e;obtain⟨v,w,u,x,rfl,rfl,Y,J,U,B⟩:=uD y z;simp only[av] at Y J;obtain⟨a,t,rfl,T,O⟩:=Y;obtain⟨b,vb,rfl,L,M⟩:=J;cases (show u=Cc a from U)
  cases (show x=Cc b from B)
  exact UB (tp:=false) k j T.l L.l O M (q.base e1 e2)
end
def td (K:Ah)(mg:ah)(x:Ar)(st:Et)(J:Aa Ar):Prop:=∃ f Y,mg x=Ab (.ref f)/\rk K x x st f Y/\u3 K Y J []
def Lk (K:Ah)(f:Af)(fd:Gd):Prop:=∃ U J Y,K.lookup f=Ab ⟨U,J,.func fd,Y⟩
theorem p7 {K:Ah}{st:Et}(F:rk K x q st f fd):Lk K f fd:=by
 obtain⟨O,G,kV,J,B,T,U,L,Y,_,lk,_⟩:=F.ex;exact⟨O,G,Y,lk⟩
theorem Lk.one {K:Ah}(h:Lk K f fd)(h':Lk K f Y):fd=Y:=by
 obtain⟨T,L,B,e⟩:=h;obtain⟨O,G,J,U⟩:=h';rw[e] at U;cases U;rfl
def rq (P:Bc)(w:Bu)(K:Ah)(mg:ah)(base:Bk)(cm:Au)(k:Ai)(x:Ar)(n:Ai)(F:DF):Prop:=
 ∃ f J Y,Y.length=n/\mg x=Ab (.ref f)/\Ff K (.ref f)=true/\u3 K J Y [] /\ Lk K f J/\nq P w K mg base cm k f J Y (ug K n F)
def rG (P:Bc)(w:Bu)(K:Ah)(mg:ah)(base:Bk)(cm:Au)(k:Ai)(x:Ar)(Y:Aa Ar)(F:DF):Prop:=
 ∃ f J,mg x=Ab (.ref f)/\Ff K (.ref f)=true/\u3 K J Y [] /\ Lk K f J/\nq P w K mg base cm k f J Y (ug K Y.length F)
section
variable {P:Bc}{w:Bu}{K:Ah}{mg:ah}{base:Bk}{cm:Au}
theorem PV {Y:Ad}(hm:mg x=Ab (.ref f))(lk:Lk K f fd)(h:fd.code=Y/\Mod K mg base):fU K x Y:=λc T e=>by
 obtain⟨G,U,J,lk⟩:=lk;rw[<- h.1];exact PySem.W.law_code h.2.kin h.2.glob e hm (h.2.kin _ _ lk) rfl
theorem SR {st:Et}{k:Ai}{g:DS}(h:td K mg x st U)(S:ci N U (qM st))
  (J:∀ (f:Af) (Y:Ad) (A:Bl) (G:Aa Jk) (s:Ag) (H:Hp) (E:XK),fU K x Y->ay cm k (A.deeper (Hq x (qM st) s.heap.objs.size f Y)) ->
   ip (ls cm P w K mg base N x (qM st) f Y A G s H E) (zJ st) (iq (ls cm P w K mg base N x (qM st) f Y A G s H E) g)):rq P w K mg base cm (k+1) x U.length (qR N.length g):=by
 obtain⟨f,T,O,F,I⟩:=h;exact⟨f,T,U,rfl,O,F.kp,I,p7 F,fnX F S λY A G s H E L B=>J f Y A G s H E (PV O (p7 F) L) B⟩
theorem FT {st:Et}{k:Ai}{g:DS}(h:td K mg x st G)(S:ci N G (qM st))
  (J:∀ (f:Af) (Y:Ad) (A:Bl) (U:Aa Jk) (s:Ag) (H:Hp) (E:XK),fU K x Y->ay cm k (A.deeper (Hq x (qM st) s.heap.objs.size f Y)) ->
   ip (ls cm P w K mg base N x (qM st) f Y A U s H E) (zJ st) (iq (ls cm P w K mg base N x (qM st) f Y A U s H E) g)):rG P w K mg base cm (k+1) x G (qR N.length g):=by
 obtain⟨f,T,O,F,I⟩:=h;exact⟨f,T,O,F.kp,I,p7 F,fnX F S λY A U s H E L B=>J f Y A U s H E (PV O (p7 F) L) B⟩
theorem rq.any {k n:Ai}{F:DF}(h:rq P w K mg base false k x n F):rq P w K mg base cm k x n F:=by
 obtain⟨f,O,J,Y,B,G,L,U,X⟩:=h;exact⟨f,O,J,Y,B,G,L,U,X.any⟩
end
section
variable {X:Cx}{cm:Au}{k n:Ai}{F:DF}{x:Ar}{p au:Fc}{e:Cb}{es:Aa Cb}{fa:DA}
theorem dcN (G:rq X.prog X.w X.K X.mg X.base cm k x n F)(U:ay cm k X.A)(I:kf X)(B:Gl X x)(H:PA X (e::es) (ko X fa))(Y:(x == ("__debug__" : Ar))=false:=by decide)(L:Bn (e::es) X.env=(false,eval e X.env)::Bn es X.env:=by rfl)(J:(Gm au (Bn es X.env)).any (·.1)=false:=by rfl) :
  PE X (.Call (.Name x p) (e::es) [] au) (tD X (qP n F fa)):=by
 obtain⟨f,z,w,M,T,O,E,A,G⟩:=G;exact FN G U I B T O E H Y L J
theorem SD (J:Gl X x)(hm:X.mg x=Ab (.ref C))(Y:Ff X.K (.ref C)=true)(hd:(x == ("__debug__" : Ar))=false:=by decide):PE X (.Name x au) (tD X (dC (.obj C))):=
 aZ J hm (v:=.ref C) rfl (λP α => by simp only[av];exact⟨trivial,Y⟩) hd
end
def xJ:DF:=λds S=>match ds with
 |[.dct0]=>.bad
 |_=>eK ds S
theorem FC {X:Cx}:xY X (.builtin "len") xJ:=DQ trivial
def QN:DE:=λ_ _=>.bad
theorem SC {X:Cx}:PE X e (tD X QN):=λ_ _ _ _ _ _ ⟨_,_,_,_,_,_,h⟩=>Aq h
theorem PU:∃ C:Am->Am->Au,C=rP:=⟨_,rfl⟩
def PR:Am->Am->Au:=Qe PU
theorem rQ:PR=rP:=Qf PU
def wL:G2:=i2 PR λi j=>.int (i*j)
theorem TZ {X:Cx}:gq X (Fj .Mult) wL:=by
 unfold wL;rw[rQ];exact TY
theorem we {k:Ai}(Y:ay cm k A):A.units+1<Ed:=by have:=Y.units;lia
def ng (F:DF):DF:=λds S=>match F ds S with
 |.ok d Y=>.ok d Y
 |_=>.bad
theorem H8 {F:DF}(h:F ds S=.ok d S'):ng F ds S=.ok d S':=by unfold ng;rw[h]
section
variable {X:Cx}{cm:Au}{k n:Ai}{F:DF}{x:Ar}{p au:Fc}{e:Cb}{es:Aa Cb}{fa:DA}{f:Af}{fd:Gd}{ps:Aa Ar}
theorem L3 {aj:aa}{σ:_L.St}{H:Hp}{s:Ag}{Q:VK}{us:ai}{P:Hp}(G:nq X.prog X.w X.K X.mg X.base cm k f fd ps (ug X.K n F))(E:ay cm k X.A)(j:u3 X.K fd ps [])
  (I:Inv X aj σ H s) (r:bf X.K H P α S) (T:qQ vs us) (L:qF X.K P α ds vs) (A:ds.length=n) (Y:qX X P α (ng F ds S) Q):db X (call (.ref f) us) (EP X aj σ Q) X.xe s:=by
 have B:vs.length=n:=by rw[<- L.length];exact A
 have O:ug X.K n F vs H Q λ_ _ _=>Fp:=by
  refine⟨B,P,α,ds,S,r,L,?_⟩;unfold ng at Y;cases q:F ds S with
  |ok d M=>rw[q] at Y;exact Y
  |ex c x M=>rw[q] at Y;exact Aq Y
  |bad=>rw[q] at Y;exact Y
 have w:us.length=ps.length:=by rw[<- T.length];exact G.len _ _ _ _ O
 have J:=j s us I.kIn (by rw[Gs];exact w)
 rw[Gs] at J;refine Nl (My (G.run X.A X.stack s H ⟨us,[]⟩ us vs Q _ E I.env0 J T O) λr y U=>?_);cases r with
 |error u =>
  obtain⟨_,_,_,_,_,_,_,_,_,_,_,_,z⟩:=U;exact Aq z
 |ok fl =>
  cases fl with
  |ret u=>exact I.after U
  |next=>exact Aq U
  |brk=>exact Aq U
  |cont=>exact Aq U
theorem dcO (G:rq X.prog X.w X.K X.mg X.base cm k x n F)(A:ay cm k X.A)(v:Gl X x)(g:PA X (e::es) (ko X fa))(Y:(x == ("__debug__" : Ar))=false:=by decide)(w:Bn (e::es) X.env=(false,eval e X.env)::Bn es X.env:=by rfl)(O:(Gm au (Bn es X.env)).any (·.1)=false:=by rfl) :
  PE X (.Call (.Name x p) (e::es) [] au) (tD X (qP n (ng F) fa)):=by
 obtain⟨f,fd,ps,L,q,E,l,a,G⟩:=G;intro b s σ H Q I h;obtain⟨P,α,al,S,r,z,y⟩:=h;refine Jy (uW I v q ?_ Y);refine Ze (h₀:=X.base) I.ok.mod.kin E (bv (y9 g I r z y au) λus i ⟨vs,H1,P1,o,ds,S1,B,t,T,u,j,c,d,U⟩=>⟨B.kIn,?_⟩) w O;obtain⟨M,J⟩:=dE (al:=al) (S:=S) U;exact L3 G A l B T t j M (qX.base c d J)
end
structure QE (X:Cx)(e:Cb)(f:DE):Prop where
 get:PE X e (tD X f)
structure QT (X:Cx)(e:Cb)(t:DT):Prop where
 get:PT X e (ml X t)
structure QW (X:Cx)(e:Cb)(t:DT):Prop where
 get:sm X e t
structure QA (X:Cx)(es:Aa Cb)(f:DA):Prop where
 get:PA X es (ko X f)
structure QO (X:Cx)(e:Al Cb)(f:DO):Prop where
 get:PO X e (wo X f)
structure QG (X:Cx)(t:Cb)(g:DG):Prop where
 get:PG X t (pe X g)
structure yp (X:Cx)(ts:Aa Cb)(g:qu):Prop where
 get:ti X ts (cO X g)
structure QI (X:Cx)(tg it:Cb)(f:DI):Prop where
 get:PI X tg it (so X f)
structure QS (X:Cx)(s:Et)(f:DS):Prop where
 get:PS X s (iq X f)
structure QB (X:Cx)(ss:Aa Et)(f:DS):Prop where
 get:ip X ss (iq X f)
structure js (X:Cx)(f:Ad->Ad->Lb Ad)(g:G2):Prop where
 get:gq X f g
structure O_ (X:Cx)(f:Ad->Lb Ad)(g:D->aq->a_ D):Prop where
 get:zi X f g
structure P_ (X:Cx)(g:G2):Prop where
 get:zk X g
structure fg (X:Cx)(f:Ad)(F:DF):Prop where
 get:xY X f F
structure wz (X:Cx)(id:Er)(g:D->Aa D->aq->a_ D):Prop where
 get:wj X id g
structure wy (X:Cx)(g:G3):Prop where
 get:rH X (rE X g)
structure me (X:Cx):Prop where
 get:Vz (As X.prog X.w) X.A X.env X.xe
section
variable {X:Cx}{a b c e e1 e2 o i:Cb}{es qG:Aa Cb}{fa fb fc fe fo fi:DE}{ta tb:DT}{fA:DA}{f g:DS}{st:Et}{B_:Aa Et}{x:Ar}{p au:Fc}{n k:Ai}{cm:Au}{F:DF}{qg:G2}
theorem V9:QE X (.Constant .none j au) (dC .non):=⟨SL⟩
theorem BQ:QE X (.Constant (.bool v) j au) (dC (.bl v)):=⟨II⟩
theorem CB:QE X (.Constant (.int v) j au) (dC (.int v)):=⟨SI⟩
theorem CG:QE X (.Constant (.str v) j au) (dC (.str v)):=⟨SO⟩
theorem CI (m:Ai)(J:X.N[m]? = Ab x)(hv:ow X.env.scope x)(hd:(x == ("__debug__" : Ar))=false)(Y:(x == ("__classdict__" : Ar))=false):QE X (.Name x au) (qB m):=⟨dv m J hv hd Y⟩
theorem NH (J:Gl X x)(hm:X.mg x=none)(hv:Gr x=Ab (.type nm))(Y:x ≠ "__name__")(hd:(x == ("__debug__" : Ar))=false):QE X (.Name x au) (dC (.ty nm)):=⟨FM J hm hv Y hd⟩
theorem HY (Y:Gl X x)(hm:X.mg x=Ab (.ref C))(J:Ff X.K (.ref C)=true)(hd:(x == ("__debug__" : Ar))=false):QE X (.Name x au) (dC (.obj C)):=⟨SD Y hm J hd⟩
theorem NJ (Y:Gl X x)(hm:∃ t,X.mg x=Ab (.int v t))(hd:(x == ("__debug__" : Ar))=false):QE X (.Name x au) (dC (.int v)):=⟨let ⟨_,h⟩:=hm;aZ (v:=.int v) Y h ⟨_,rfl⟩ (λ_ _=>by simp only[av]) hd⟩
theorem HX:QE X e QN:=⟨SC⟩
theorem qAH {h:D->aq->a_ D}(J:O_ X (Aa9 op) h)(Y:QE X a fa):QE X (.UnaryOp op a au) (d1 h fa):=⟨IP J.1 Y.1⟩
theorem CF (Y:QE X a fa):QE X (.UnaryOp .Not a au) (QP fa):=⟨SM Y.1⟩
theorem qAG (J:js X (Fj op) qg)(Y:QE X a fa)(U:QE X b fb):QE X (.BinOp a op b au) (d2 qg fa fb):=⟨IM J.1 Y.1 U.1⟩
theorem V8 (Y:js X (Cy op) qg)(U:QE X a fa)(J:QE X b fb)(hm:Nk op b=false:=by first|exact gD _|with_unfolding_all rfl):QE X (.Compare a [op] [b] au) (d2 qg fa fb):=⟨SE Y.1 U.1 J.1 hm⟩
theorem G6 (G:js X (Cy op) qg)(J:js X (Cy Y) g')(B:QE X a fa)(O:QE X b fb)(U:QE X c fc)(hm:v4 [op,Y] [b,c]=false:=by with_unfolding_all rfl):QE X (.Compare a [op,Y] [b,c] au) (wG qg g' fa fb fc):=⟨UV G.1 J.1 B.1 O.1 U.1 hm⟩
theorem VA  (h:QE X a fa):QE X (.BoolOp op [a] au) fa:=⟨SN h.1⟩
theorem V6 (Y:QE X a fa)(J:QE X (.BoolOp .And (b::qG) au) fb):QE X (.BoolOp .And (a::b::qG) au) (vX fa fb):=⟨SB Y.1 J.1⟩
theorem qAE (Y:QT X c ta)(J:QE X a fa)(U:QE X b fb):QE X (.IfExp c a b au) (yk ta fa fb):=⟨IK Y.1 J.1 U.1⟩
theorem CH  (h:QA X es fA):QE X (.Tuple es x1 au) (zM fA):=⟨SQ h.1⟩
theorem CD (h:QA X es fA):QE X (.List es au) (xN fA):=⟨SK h.1⟩
theorem NK (h:QA X es fA):QE X (.List es au) (gO fA):=⟨FP h.1⟩
theorem HZ:QE X (.Dict [] [] au) eB:=⟨SG⟩
theorem NI:QE X (.Dict [] [] au) bQ:=⟨FO⟩
theorem qAF (Y:P_ X qg)(J:QE X a fa)(U:QE X b fb)(hs:nF b:=by intro _ _;rfl):QE X (.Subscript a b au) (d2 qg fa fb):=⟨IL Y.1 J.1 U.1 hs⟩
theorem G8 {lo hi:Al Cb}{fl Y:DO}(G:QE X e fe)(hl:QO X lo fl)(U:QO X hi Y):QE X (.Subscript e (.Slice lo hi none J) au) (lz fe fl Y):=⟨UX G.1 hl.1 U.1⟩
theorem NR:QO X none xA:=⟨FZ⟩
theorem NS (Y:QE X e fe):QO X (Ab e) (zS fe):=⟨M0 Y.1⟩
theorem V4:QA X [] qC:=⟨DZ⟩
theorem oE (J:QE X e fa)(Y:QA X es fA)(hs:Bn (e::es) X.env=(false,eval e X.env)::Bn es X.env:=by rfl):QA X (e::es) (qA fa fA):=⟨FL J.1 Y.1 hs⟩
theorem _m (G:rq X.prog X.w X.K X.mg X.base cm k x n F)(U:ay cm k X.A)(L:kf X)(O:Gl X x)(T:QA X (e::es) fA)(Y:(x == ("__debug__" : Ar))=false)(B:Bn (e::es) X.env=(false,eval e X.env)::Bn es X.env:=by rfl)(J:(Gm au (Bn es X.env)).any (·.1)=false:=by rfl):QE X (.Call (.Name x p) (e::es) [] au) (qP n F fA):=⟨dcN G U L O T.1 Y B J⟩
theorem KZ {id:Er}(U:fg X (.builtin id) F)(O:Gl X x)(hm:X.mg x=none)(hv:Gr x=Ab (.builtin id))(L:QA X (e::es) fA)(G:x ≠ "__name__")(Y:(x == ("__debug__" : Ar))=false)(B:Bn (e::es) X.env=(false,eval e X.env)::Bn es X.env:=by rfl)(J:(Gm au (Bn es X.env)).any (·.1)=false:=by rfl):QE X (.Call (.Name x p) (e::es) [] au) (qH F fA):=⟨UU U.1 O hm hv L.1 G Y B J⟩
theorem V7 (U:fg X (.type T) F)(O:Gl X x)(hm:X.mg x=none)(hv:Gr x=Ab (.type T))(L:QA X (e::es) fA)(G:x ≠ "__name__")(Y:(x == ("__debug__" : Ar))=false)(B:Bn (e::es) X.env=(false,eval e X.env)::Bn es X.env:=by rfl)(J:(Gm au (Bn es X.env)).any (·.1)=false:=by rfl):QE X (.Call (.Name x p) (e::es) [] au) (qH F fA):=⟨W7 U.1 O hm hv L.1 G Y B J⟩
theorem rB {T id:Er}{B:Fc}{h:D->Aa D->aq->a_ D}(L:PlainAttrs T)(slot:Slot T name id)(O:typeOf (.builtin id)=pure (.type "method_descriptor"))(hT:T = "list" \/ T = "dict" \/ T = "int" \/ T = "str")(hm:wz X id h)(E:QE X o fo)(I:QA X (e::es) fA)
  (U:Lx o name X.env (eval o X.env)=eval o X.env:=by rfl)
  (G:((Gm au (Bn (e::es) X.env)).all (λx=>!x.1)&&(backToKw au (keywordEach [] X.env)).all (λx=>x.1.isSome)&&decide ((e::es).length+([]:Aa Keyword).length+(if ([] : Aa Keyword).isEmpty then 0 else 1)<30))=true:=by rfl)
  (J:(B.endLine == au.line)=true:=by rfl) (hs:Bn (e::es) X.env=(false,eval e X.env)::Bn es X.env:=by rfl) (Y:(Gm au (Bn es X.env)).any (·.1)=false:=by rfl):QE X (.Call (.Attribute o name B) (e::es) [] au) (qr T h fo fA):=⟨IJ L slot O hT hm.1 E.1 I.1 U G J hs Y⟩
theorem BS (h:QW X e ta):QT X e ta:=⟨sm.pt h.1⟩
theorem oG (Y:QT X a ta):QW X (.BoolOp .And [a] au) ta:=⟨M6 Y.1⟩
theorem tY (Y:QT X a ta):QW X (.BoolOp .Or [a] au) ta:=⟨RB Y.1⟩
theorem VI (Y:QT X a ta)(J:QW X (.BoolOp .And (b::qG) au) tb):QW X (.BoolOp .And (a::b::qG) au) (mU ta tb):=⟨RA Y.1 J.1⟩
theorem rC (Y:QT X a ta)(J:QW X (.BoolOp .Or (b::qG) au) tb):QW X (.BoolOp .Or (a::b::qG) au) (uN ta tb):=⟨IU Y.1 J.1⟩
theorem VG (Y:QT X a ta):QT X (.UnaryOp .Not a au) (wA ta):=⟨R8 Y.1⟩
theorem VF (Y:js X (Cy op) qg)(U:QE X a fa)(J:QE X b fb)(hm:Nk op b=false:=by first|exact gD _|with_unfolding_all rfl):QT X (.Compare a [op] [b] au) (ef (d2 qg fa fb)):=⟨R7 Y.1 U.1 J.1 hm⟩
theorem GC (G:js X (Cy op) qg)(J:js X (Cy Y) g')(B:QE X a fa)(O:QE X b fb)(U:QE X c fc)(hm:v4 [op,Y] [b,c]=false:=by with_unfolding_all rfl):QT X (.Compare a [op,Y] [b,c] au) (ef (wG qg g' fa fb fc)):=⟨J9 G.1 J.1 B.1 O.1 U.1 hm⟩
theorem VH (J:QE X a fa)(U:∀ Y,isTrue a X.env Y=(do let v <- Y;Tc a.pos;holding [v] (truthy v)):=by intro _;rfl):QT X a (ef fa):=⟨R9 J.1 U⟩
theorem NN (U:X.N.Nodup)(hi:X.N[m]? = Ab x)(J:Loc X.env.scope x)(Y:X.fn x=true\/X.env.scope.names.lookup x=Ab .local):QG X (.Name x au) (bx m):=⟨FU U hi J Y⟩
theorem oF:yp X [] wB:=⟨FV⟩
theorem c9 (h1:QG X e h)(h2:yp X es Y)(hs:(Ho (e::es) X.env).map (·.2)=assign e X.env::(Ho es X.env).map (·.2):=by rfl):yp X (e::es) (zE h Y):=⟨UZ h1.1 h2.1 hs⟩
theorem VB (G:X.calm=true)(h:yp X es J)(U:(Ho es X.env).length=n:=by rfl)(Y:(Ho es X.env).findIdx? (·.1)=none:=by rfl):QG X (.Tuple es kk au) (mq n J):=⟨SU G h.1 U Y⟩
theorem CJ (Y:QE X o fo)(hi:QE X i fi)(hs:wy X h)
  (J:∀ v,assign (.Subscript o i au) X.env v=(do
   let ov <- holding [v] (eval o X.env)
   let iv <- holding [v,ov] (eval i X.env)
   Tc au
   holding [v,ov,iv] (setItem ov iv v)
   release [v,ov,iv] []):=by intro _;rfl):QG X (.Subscript o i au) (sv fo fi h):=⟨SS Y.1 hi.1 hs.1 J⟩
theorem CM (Y:QE X e fa):QI X tg e (wU fa):=⟨SV Y.1⟩
theorem G9 (J:Gl X "range")(hm:X.mg "range" = none)(U:QA X (e::es) fA)(hs:Bn (e::es) X.env=(false,eval e X.env)::Bn es X.env:=by rfl)(Y:(Gm au (Bn es X.env)).any (·.1)=false:=by rfl):QI X tg (.Call (.Name "range" p) (e::es) [] au) (wZ fA):=⟨J0 J hm U.1 hs Y⟩
theorem VC (O:Gl X "zip")(hm:X.mg "zip" = none)(B:QA X [e1,e2] fA)(hs:Bn [e1,e2] X.env=(false,eval e1 X.env)::Bn [e2] X.env:=by rfl)(Y:(Gm au (Bn [e2] X.env)).any (·.1)=false:=by rfl):QI X (.Tuple U G J) (.Call (.Name "zip" p) [e1,e2] [] au) (nO fA):=⟨SW O hm B.1 hs Y⟩
theorem V5:QB X [] zP:=⟨SZ⟩
theorem tX (h:QS X st f):QB X [st] f:=⟨R0 h.1⟩
theorem fG (h1:QS X st f)(h2:QB X B_ g):QB X (st::B_) (qS f g):=⟨M1 h1.1 h2.1⟩
theorem NT (Y:QE X e fa)(hs:Pj e none au.line X.env=pure false:=by rfl):QS X (.Expr e au) (wR fa):=⟨M2 Y.1 hs⟩
theorem VE (Y:QE X e fa):QS X (.Return (Ab e) au) (qW fa):=⟨R4 Y.1⟩
theorem BR {as bs:Aa Et}(J:QT X c ta)(U:QB X as f)(Y:QB X bs g):QS X (.If c as bs au) (gk ta f g):=⟨IS J.1 U.1 Y.1⟩
theorem VD (hp:me X)(U:X.calm=true)(hi:QI X tg Y J)(G:QG X tg h)(O:QB X cp f)(hs:∀ x,Gn Y X.env x=pure x:=by intro _;rfl):QS X (.For tg Y cp [] au) (yH J h f):=⟨SY hp.1 U hi.1 G.1 O.1 hs⟩
theorem CP (G:X.N.Nodup)(O:QE X e fa)(hi:X.N[m]? = Ab x)(J:Loc X.env.scope x)(hs:Pj e (Ab (.Name x Y)) au.line X.env=pure false)(U:X.fn x=true\/X.env.scope.names.lookup x=Ab .local):QS X (.Assign [.Name x Y] e au) (qZ fa (bx m)):=⟨R5 G O.1 hi J hs U⟩
theorem CN (J:QE X e fa)(Y:QG X tg h)(hs:Nj [tg] e au.line X.env=pure false:=by rfl)(hw:Ni [tg] e X.env=pure none:=by rfl)(h1:(Ho [tg] X.env).map (·.2)=[assign tg X.env]:=by rfl):QS X (.Assign [tg] e au) (qZ fa h):=⟨SX J.1 Y.1 hs hw h1⟩
theorem CO {l:Ai}{J U G:Fc}{kt k2 pt2}(B:X.calm=true) (I:X.N.Nodup) (E:QA X [a,b] fA) (hi:X.N[m]? = Ab x) (L:X.N[l]? = Ab y) (Y:m≠l) (O:X.env.scope.names.lookup x=Ab .local) (T:X.env.scope.names.lookup y=Ab .local)
  (hw:Ni [.Tuple [.Name x J,.Name y U] kt G] (.Tuple [a,b] k2 pt2) X.env=pure (Ab [x,y]):=by rfl) (hs:Nj [.Tuple [.Name x J,.Name y U] kt G] (.Tuple [a,b] k2 pt2) au.line X.env=pure false:=by rfl) :
  QS X (.Assign [.Tuple [.Name x J,.Name y U] kt G] (.Tuple [a,b] k2 pt2) au) (kO m l fA):=⟨R3 B I E.1 hi L Y O T hw hs⟩
theorem GB {B U:Fc}(O:X.calm=true)(H:kf X)(L:Gl X x)(hm:X.mg x=Ab (.ref C))(G:m8 X.K C T=true)(I:QA X (e::qG) fA)(Y:(x == ("__debug__" : Ar))=false)(E:Bn (e::qG) X.env=(false,eval e X.env)::Bn qG X.env:=by rfl)(J:(Gm U (Bn qG X.env)).any (·.1)=false:=by rfl) :
  QS X (.Raise (Ab (.Call (.Name x B) (e::qG) [] U)) none au) (jK (.ref C) fA):=⟨J8 O H L hm G I.1 Y E J⟩
theorem CQ {J:Et}{Y:Aa Et}{H U:Fc}{I:ai}(j:kf X)(y:∀ E G,me (Cx.tryIn X E G)->QB (Cx.tryIn X E G) cp f)(hs:∀ e,QB (Cx.suite X e) (J::Y) g)(A:Gl X x)(hm:X.mg x=Ab (.ref T))(L:∀ c∈I,La X.K c (.ref T)=Ab true)(z:X.N.Nodup)(hi:X.N[m]? = Ab nm)(B:X.env.scope.names.lookup nm=Ab .local)(O:(x == ("__debug__" : Ar))=false)(M:X.N.length=n) :
  QS X (.Try cp [.ExceptHandler (Ab (.Name x H)) (Ab nm) (J::Y) U] [] [] au) (mL n m I f g):=⟨M▸R6 j (λE G w=>(y E G ⟨w⟩).1) (λe=>(hs e).1) A hm L z hi B O⟩
theorem qAd:js X (Fj .Add) zB:=⟨ER⟩
theorem qAo:js X (Fj .Sub) wM:=⟨EY⟩
theorem qAk:js X (Fj .Mult) wL:=⟨TZ⟩
theorem qAf:js X (Fj .FloorDiv) kI:=⟨ES⟩
theorem qAj:js X (Fj .Mod) uO:=⟨EV⟩
theorem qAm:js X (Fj .Pow) kK:=⟨EW⟩
theorem _n:js X (Cy .Lt) wu:=⟨BO⟩
theorem _o:js X (Cy .LtE) pq:=⟨OV⟩
theorem _q:js X (Cy .Gt) yh:=⟨OT⟩
theorem _r:js X (Cy .GtE) yi:=⟨OS⟩
theorem AS:js X (Cy .Is) ul:=⟨OU⟩
theorem LW:js X (Cy .IsNot) bC:=⟨KN⟩
theorem AR (Y:ay cm k X.A):js X (Cy .Eq) mj:=⟨OR Y.units⟩
theorem AY (Y:ay cm k X.A):js X (Cy .NotEq) ni:=⟨OW Y.units⟩
theorem qAl:O_ X (Aa9 .USub) kJ:=⟨AI⟩
theorem _p:P_ X dj:=⟨_Q⟩
theorem F2:fg X (.builtin "isinstance") zU:=⟨XT⟩
theorem F3:fg X (.builtin "len") xJ:=⟨FC⟩
theorem qAe (Y:X.calm=true):fg X (.builtin "all") (kH false):=⟨DN false Y⟩
theorem qAh:fg X (.type "int") QX:=⟨DP⟩
theorem LY:fg X (.type "tuple") j9:=⟨UN⟩
theorem AV:fg X (.type "list") gS:=⟨FD⟩
theorem PC:wz X "list.append" xQ:=⟨YJ⟩
theorem LU:wz X "list.count" mZ:=⟨K8⟩
theorem LV:wz X "list.index" t7:=⟨K9⟩
theorem qAn (Y:ay cm k X.A):wy X yL:=⟨CZ (we Y)⟩
end
section
variable {P:Bc}{w:Bu}{K:Ah}{mg:ah}{base:Bk}{cm:Au}
theorem oZ:me (ls cm P w K mg base N J am f U A Y s H E):=⟨UR⟩
theorem qA4 {st:Et}{k:Ai}{g:DS}(h:td K mg x st U)(S:ci N U (qM st))(O:zJ st=cp)
  (J:∀ (f:Af) (Y:Ad) (A:Bl) (G:Aa Jk) (s:Ag) (H:Hp) (E:XK),fU K x Y->ay cm k (A.deeper (Hq x (qM st) s.heap.objs.size f Y)) ->
   QB (ls cm P w K mg base N x (qM st) f Y A G s H E) cp g):rq P w K mg base cm (k+1) x U.length (qR N.length g):=
 SR h S λf Y A G s H E L B=>O▸(J f Y A G s H E L B).1
theorem IQ {st:Et}{k:Ai}{g:DS}(h:td K mg x st U)(S:ci N U (qM st))(O:zJ st=cp)
  (J:∀ (f:Af) (Y:Ad) (A:Bl) (G:Aa Jk) (s:Ag) (H:Hp) (E:XK),fU K x Y->ay cm k (A.deeper (Hq x (qM st) s.heap.objs.size f Y)) ->
   QB (ls cm P w K mg base N x (qM st) f Y A G s H E) cp g):rG P w K mg base cm (k+1) x U (qR N.length g):=
 FT h S λf Y A G s H E L B=>O▸(J f Y A G s H E L B).1
theorem FS {st:Et}(h:td K mg x st Y):rq P w K mg base cm 0 x Y.length λ_ _=>.bad:=by
 obtain⟨f,O,U,F,G⟩:=h;exact⟨f,O,Y,rfl,U,F.kp,G,p7 F,⟨λvs H Q E z=>z.1,λA B s H J L vs Q E _ _ _ _ z=>by obtain⟨_,_,_,_,_,_,_,z⟩:=z;exact Aq z⟩⟩
end
structure xf (X:Cx)(ifs:Aa Cb)(t:DT):Prop where
 get:ur X ifs t
section
variable {X:Cx}{e:Cb}{es:Aa Cb}{au p:Fc}{fa:DA}{x:Ar}{cm:Au}{k n:Ai}{F:DF}
theorem NU:xf X [] xS:=⟨M5⟩
theorem _l (G:rq X.prog X.w X.K X.mg X.base cm k x n F)(U:ay cm k X.A)(O:Gl X x)(L:QA X (e::es) fa)(Y:(x == ("__debug__" : Ar))=false)(B:Bn (e::es) X.env=(false,eval e X.env)::Bn es X.env:=by rfl)(J:(Gm au (Bn es X.env)).any (·.1)=false:=by rfl) :
  QE X (.Call (.Name x p) (e::es) [] au) (qP n (ng F) fa):=⟨dcO G U O L.1 Y B J⟩
end
def nz (o:Al (Ai × MO))(S:aq):Prop:=match o with
 |none=>Ov
 |some p=>S[p.1]? = Ab p.2
open Classical in
def X5 (o:Al (Ai × MO))(S:aq):Au:=decide (nz o S)
theorem vB:X5 o S=true↔nz o S:=by simp[X5]
structure mi (K:Ah)(J:It)(P:Hp)(α : Aa Af)(o:Al (Ai × MO))(ds:Aa D):Prop where
 go:∀ i H P1 α1 S,i<ds.length->bf K H P1 α1 S->nz o S->qI P P1->α<+:α1->J.go i H
 yld:∀ i H x H' P1 α1 S,i<ds.length->bf K H P1 α1 S->nz o S->qI P P1->α<+:α1->J.yld i H x H'->∃ P2 d,ds[i]? = Ab d/\bf K H' P2 α1 S/\qI P1 P2/\av K P2 α1 d x
 stop:∀ i H P1 α1 S,ds.length<=i->bf K H P1 α1 S->nz o S->qI P P1->α<+:α1->J.stop i H
theorem tw.two {K:Ah}{P:Hp}(h:tw K J P α ds):mi K J P α none ds:=
 ⟨λi H U Y S a b _ c d=>h.go i H U Y S a b c d,λi H x G U Y S a b _ c d e=>h.yld i H x G U Y S a b c d e,λi H U Y S a b _ c d=>h.stop i H U Y S a b c d⟩
abbrev qm:=qE->aq->a_ (Al (Ai × MO) × Aa D)
inductive pc (X:Cx)(f:qm)(σ : _L.St)(H:Hp)(R:It->Hp->Prop):Prop
 |mk (P:Hp) (α : Aa Af) (env:qE) (S:aq) (r:bf X.K H P α S) (re:zD X.K P α σ env) (af:qO X P α (f env S) (λp S'=>∀ J H' P' α',bf X.K H' P' α' S'->qI P P'->α<+:α'->mi X.K J P' α' p.1 p.2->R J H')):pc X f σ H R
def xU (f:DI):qm:=λal S=>(f al S).bind λds Y=>.ok (none,ds) Y
section
variable {X:Cx}{K:Ah}{tg e:Cb}{fa:DE}
theorem FX (h:PI X tg e (so X f)):PI X tg e (pc X (xU f)):=PI.weak h λσ H R ⟨P,α,al,S,r,G,Y⟩=>by
 refine⟨P,α,al,S,r,G,?_⟩;unfold xU at Y;cases q:f al S with
 |bad=>rw[q] at Y;exact Y
 |ex c x I=>rw[q] at Y;exact Y
 |ok ds A =>
  rw[q] at Y;exact λJ E L U T O B it=>Y J E L U T O B it.two
theorem MZ {P:Hp}{a:Af}{n:Ai}(Y:α[n]? = Ab a):mi K (zn K a) P α (Ab (n,.lst ds)) ds where
 go:=λi H O U S J r st e G=>by
  obtain⟨vs,z,t⟩:=r.at' n a _ (fE G Y) st;exact⟨vs,vs[i]'(by rw[<- t.length];exact J),.of z,by simp⟩
 yld:=λi H x E O U S J r st e G y=>by
  obtain⟨rfl,y⟩:=y;obtain⟨vs,z,t⟩:=r.at' n a _ (fE G Y) st;have L:=y vs (.of z);obtain⟨v,B,T⟩:=t.get (An J);rw[L] at B;cases B;exact⟨O,_,An J,r,qI.refl _,T⟩
 stop:=λi H O U S J r st e G=>by
  obtain⟨vs,z,t⟩:=r.at' n a _ (fE G Y) st;exact⟨vs,.of z,by rw[<- t.length];exact J⟩
noncomputable def itD (d:D)(S:aq):a_ (Al (Ai × MO) × Aa D):=match d with
 |.tup xs=>.ok (none,xs) S
 |.lst xs=>.ok (none,xs) S
 |.loc n=>match S[n]? with
  |some (.lst xs)=>.ok (Ab (n,.lst xs),xs) S
  |_=>.bad
 |_=>.bad
def mr (f:DE):qm:=λal S=>(f al S).bind λd Y=>itD d Y
theorem IR (T:PE X e (tD X fa)):PI X tg e (pc X (mr fa)):=by
 intro k s σ H R I h;obtain⟨P,α,al,S,r,u,l⟩:=h;refine bv (zR T I r u l) λj O ⟨v,g,P1,A,d,w,Y,U⟩=>?_;have L:∀ ds,x8 d=Ab ds->(∀ J E B G,bf X.K E B G w->qI P B->α<+:G->mi X.K J B G none ds->R J E)->db X (Qy j) (vq X k σ tg R) X.xe O:=λds x q =>
  eT Y.inv Y.rel Y.val Y.rep x λJ E B G r' i y it=>q J E B G r' (Y.same.trans i) (Y.pre.trans y) it.two
 cases d with
 |tup xs=>exact L xs rfl U
 |lst xs=>exact L xs rfl U
 |loc n =>
  obtain⟨xs,hS,U⟩:=pE (X:=X) (f:=λxs=>a_.ok (Ab (n,MO.lst xs),xs) w) U;have M:=Y.rep;simp only[av] at M;obtain⟨a,rfl,T⟩:=M;cases (show j=Cc a from Y.val)
  obtain⟨vs,z,t⟩:=Y.rel.at' n a _ T hS;obtain⟨ao,rv,p,hz⟩:=Y.inv.list (ju.of z);refine Go p.isList ?_;refine⟨O.heap.objs.size,[O.heap.objs.size],_,_,g,rfl,Y.inv.kept (t':=O.toks) λb o e=>Aj _ e,sH a _,⟨_,Bf _ rfl,rfl,rfl⟩,λb c=>?_,U _ _ P1 A Y.rel Y.same Y.pre (MZ T)⟩;have e:b=O.heap.objs.size:=by simpa using c
  subst e;exact Y.inv.fpOk (Av _) (Y.inv.hok.fresh (Av _))
 |_=>exact Aq U
end
noncomputable def zf (m:Au)(Y:Cb)(aw:Ad)(al:Jk):Lb Po:=match m with
 |false=>do let _ <- call (.builtin "list.append") [aw,<- eval Y al]
 |true=>do let v <- eval Y al;Tc Y.pos;let _ <- call (.builtin "set.add") [aw,v]
def xP (m:Au)(J:Cb)(U:Aa En)(am:Fq)(G:Fc)(k:Ai)(aw:Ad)(al:Jk):Lb Po:=
 match U[k+1]? with
 |some Y=>do
  let x <- eval Y.iter al
  Tc Y.iter.pos
  let x <- Gn Y.iter al x
  let it <- holding [x] (Qy x)
  let _ <- runOwn (.compStart (w6 m J U am G) (k+1) it aw al) al
 |none=>zf m J aw al
theorem P8 (m:Au)(U Y O:Cb)(B:Aa Cb)(J:Aa En)(am:Fq)(G:Fc)(it aw:Ad)(al:Jk)(k:Ai)(E:J[k]? = Ab ⟨Y,O,B,0⟩)(T:∀ g',J[k+1]? = Ab g'->g'.is_async=0) :
  AaW (w6 m U J am G) k it aw al=(do
   Tc O.pos
   match <- Pe it with
   |none=>pure (.done .next)
   |some v =>
    Lw Y it v
    assign Y al v
    let mut ok:=true
    for c in B do
     if ok then ok <- isTrue c al (eval c al)
    if ok then xP m U J am G k aw al
    again (.compLoop (w6 m U J am G) k it aw al)):=by
 cases m <;>
 .unfold AaW xP w6 zf
  simp only[E];cases q:J[k+1]? with
  |none=>rfl
  |some g' =>
   have L:=T g' q;have I:(g'.is_async != 0)=false:=by rw[L];rfl
   simp only[I,By,Ek,bind_assoc,pure_bind];rfl
abbrev DK:=qE->aq->Aa D->a_ (qE × Aa D)
def jl (o:Al (Ai × MO))(g:DG)(t:DT)(k:DK):Aa D->DK
 |[],al,S,J=>if X5 o S then .ok (al,J) S else .bad
 |d::ds,al,S,J=>if X5 o S then (g d al S).bind λY G=>(t Y G).bind λb U =>
   if b then (k Y U J).bind λp O=>jl o g t k ds p.1 O p.2 else jl o g t k ds Y U J
  else .bad
def zN (fe:DE):DK:=λal S Y=>(fe al S).bind λx J=>if Y.length<bi then .ok (al,Y++[x]) J else .bad
def PQ (B:Acc)(Y:Cx)(aj:aa)(P1:Hp)(J:ag)(aw:Af)(al:qE)(S:aq)(ds:Aa D)(s:Ag):Prop:=
 ∃ σ H P α o,fw B Y aj P1 J [] aw al S ds s σ H P α o
def PK (B:Acc)(Y:Cx)(step:Ad->Lb Po)(k:DK):Prop:=
 ∀ (O:aa) (E:Hp) (J:ag) (U:Af) (al T:qE) (S L:aq) (ds G:Aa D) (s:Ag),(∀ H:Hp,H U=none->xR Y O H U)->PQ B Y O E J U al S ds s->k al S ds=.ok (T,G) L ->
  Ao (As Y.prog Y.w) Y.A (step (.ref U)) (λ_ I=>PQ B Y O E J U T L G I) (λ_ _=>Fp) s
section
variable {B:Acc}{Y:Cx}{cu tg bg:Cb}{dh:Aa Cb}{bj:Aa En}{am:Fq}{au:Fc}{k:Ai}{g:DG}{t:DT}{fe:DE}{it aw:Af}{fp:ag}{J:It}{tn:Ai->Bk->Prop}{items:Aa D}{P1:Hp}{α1:ag}{aj:aa}
theorem WU {X:Cx}{b:Af}(f:xR X aj H b)(T:b ∉ fp):xR X (aj++vS fp h) H b:=by
 obtain⟨O,G,E,A,I,U⟩:=f;refine⟨O,G,E,A,I,λp L=>?_⟩;rcases Bv.mp L with z|z
 .exact U p (Dp _ z)
 .rcases Bv.mp z with z|z
  .exact U p (Cj _ z)
  .rintro rfl
   exact T (dY z).1
theorem a_.bind_inv {β γ:Type}{r:a_ β}{f:β->aq->a_ γ}{x:γ}(h:r.bind f=.ok x S):∃ b S1,r=.ok b S1/\f b S1=.ok x S:=by
 cases r with
 |ok b S1=>exact⟨b,S1,rfl,h⟩
 |_=>cases h
inductive zq (o:Al (Ai × MO))(g:DG)(t:DT)(k:DK)(d:D)(ds acc:Aa D)(env:qE)(S SF:aq)(x:qE × Aa D):Prop
 |no (env1:qE) (S1 S2:aq) (z:nz o S) (q1:g d env S=.ok env1 S1) (q2:t env1 S1=.ok false S2) (r:jl o g t k ds env1 S2 acc=.ok x SF):zq o g t k d ds acc env S SF x
 |yes (env1:qE) (S1 S2:aq) (env5:qE) (ds5:Aa D) (S5:aq) (z:nz o S) (q1:g d env S=.ok env1 S1) (q2:t env1 S1=.ok true S2) (q3:k env1 S2 acc=.ok (env5,ds5) S5) (r:jl o g t k ds env5 S5 ds5=.ok x SF):zq o g t k d ds acc env S SF x
set_option tactic.hygienic true in
theorem JP {k:DK}{d:D}{aw:Aa D}(h:jl o g t k (d::ds) al S aw=.ok x SF):zq o g t k d ds aw al S SF x:=by
 simp only[jl] at h
 split at h
 .rename_i z
  obtain⟨U,I,L,h⟩:=a_.bind_inv h;obtain⟨b,T,E,h⟩:=a_.bind_inv h;cases b with
  |false=>exact .no U I T (vB.mp z) L E h
  |true =>
   obtain⟨⟨G,O⟩,H,A,h⟩:=a_.bind_inv h;exact .yes U I T G O H (vB.mp z) L E A h
 .cases h
set_option tactic.hygienic true in
theorem MS {k:DK}{aw:Aa D}(h:jl o g t k [] al S aw=.ok (gc,sy) SF):nz o S/\al=gc/\aw=sy/\S=SF:=by
 simp only[jl] at h
 split at h
 .rename_i z
  cases h;exact⟨vB.mp z,rfl,rfl,rfl⟩
 .cases h
inductive zj (B:Acc)(Y:Cx)(pins:aa)(P1:Hp)(α1:ag)(fp:ag)(acc:Af)(tn:Ai->Bk->Prop)(G:Aa D->DK)(items:Aa D)(x:qE × Aa D)(SF:aq)(n:Ai)(s:Ag):Prop
 |mk (i:Ai) (σ : _L.St) (H P:Hp) (α : Aa Af) (o:Co) (env:qE) (S:aq) (ds:Aa D) (hn:n=items.length-i) (hi:i<=items.length) (st:fw B Y pins P1 α1 fp acc env S ds s σ H P α o) (st1:tn i s.heap) (run:G (items.drop i) env S ds=.ok x SF):zj B Y pins P1 α1 fp acc tn G items x SF n s
theorem LJ {m:Au}{M:Mf}{A:Bl}{Q:Fin->Ag->Prop}{E:ae}{s:Ag}{it aw:Ad}{U:Jk}(O:bj[k]? = Ab ⟨tg,bg,dh,0⟩)(has:∀ g',bj[k+1]? = Ab g'->g'.is_async=0)
  (L:∀ s,Qa s->Q (.again (.compLoop (w6 m cu bj am au) k it aw U)) s) (hd:∀ s,Qd s->Q (.done .next) s)
  (h:Ao M A (Pe it) (λr G=>(r=none->Qd G)/\∀ v,r=Ab v->Ao M A (Lw tg it v) (λ_ H=>Ao M A (assign tg U v) (λ_ I=>Ao M A (gI dh U) (λb s4=>(b=false->Qa s4)/\(b=true->Ao M A (xP m cu bj am au k aw U) (λ_ T=>Qa T) E s4)) E I) E H) E G) E s) :
  Ao M A (AaW (w6 m cu bj am au) k it aw U) Q E s:=by
 rw[P8 m cu tg bg dh bj am au it aw U k O has];refine Ac (Kq (Ac (bv h λr G ⟨j,u⟩=>?_)));cases r with
 |none=>exact Ak (hd _ (j rfl))
 |some v =>
  refine Ac (bv (u v rfl) λ_ H z=>Ac (bv z λ_ I q=>Ac (bv q λb s4 w=>?_)));cases b with
  |false=>exact Ak (L _ (w.1 rfl))
  |true=>exact Ac (bv (w.2 rfl) λ_ T y=>Ak (L _ y))
theorem MP (U:∀ H:Hp,(∀ b∈fp,H b=none)->∀ b∈fp,xR Y aj H b)(G:aw ∉ fp)(o:Co)(H':Hp)(A:∀ b∈fp,H' b=none):∀ b∈fp,xR Y (aj++[(aw,o)]) H' b:=λb L=>by
 obtain⟨E,T,M,j,w,O⟩:=U H' A b L;refine⟨E,T,M,j,w,λp I=>?_⟩;rcases Bv.mp I with z|z
 .exact O p (Dp _ z)
 .rcases Bv.mp z with z|z
  .exact O p (Cj _ z)
  .rw[Cn.mp z]
   rintro rfl;exact G L
theorem kE {i:Ai}(T:lh Y.prog Y.w Y.K tg J fp it tn)(G:tn (i+1) h)(pl:∀ b∈fp,∃ o,h.get? b=Ab o/\∀ v,o.data≠.cell v){L:Ag}{O:_L.St}{E:Hp}(I:Inv Y (aj++vS fp h) O E L):tn (i+1) L.heap/\(∀ b∈fp,E b=none):=by
 refine⟨T.keep _ _ _ G λb U o' e=>(I.pin (b,o') (Cj _ (Cj _ (uR U e)))).1,λb U=>?_⟩;obtain⟨o',e,H⟩:=pl b U;exact(I.pin (b,o') (Cj _ (Cj _ (uR U e)))).2.1
theorem QM {kk:DK}{E:ae}{s:Ag}{σ:_L.St}{H P:Hp}{o:Co}{i:Ai}(hc:Y.calm=true)(hx:Y.xe=λ_ _=>Fp)
  (T:lh Y.prog Y.w Y.K tg J fp it tn) (f:mi Y.K J P1 α1 o' items) (hg:PG Y tg (pe Y g)) (ht:ur Y dh t) (he:PK B Y (λaw=>xP B.m cu bj am au k aw Y.env) kk) (c:∀ H:Hp,H aw=none->xR Y aj H aw) (z5:∀ H:Hp,(∀ b∈fp,H b=none)->∀ b∈fp,xR Y aj H b) (z1:aw ∉ fp)
  (hi:i<=items.length) (st:fw B Y aj P1 α1 fp aw al S ds s σ H P α o) (zl:tn i s.heap) (run:jl o' g t kk (items.drop i) al S ds=.ok (gc,sy) SF)
  (hA:∀ s' zb H' P' h o1 U S' zs,i<items.length->fw B Y aj P1 α1 fp aw U S' zs s' zb H' P' h o1->tn (i+1) s'.heap->jl o' g t kk (items.drop (i+1)) U S' zs=.ok (gc,sy) SF->Qa s')
  (hD:∀ s' zb H' P' h o',fw B Y aj P1 α1 fp aw gc SF sy s' zb H' P' h o'->Qd s') :
  Ao (As Y.prog Y.w) Y.A (Pe (.ref it)) (λr s1=>(r=none->Qd s1)/\∀ v,r=Ab v->Ao (As Y.prog Y.w) Y.A (Lw tg (.ref it) v) (λ_ s2=>Ao (As Y.prog Y.w) Y.A (assign tg Y.env v) (λ_ s3=>Ao (As Y.prog Y.w) Y.A (gI dh Y.env) (λb s4=>(b=false->Qa s4)/\(b=true->Ao (As Y.prog Y.w) Y.A (xP B.m cu bj am au k (.ref aw) Y.env) (λ_ n=>Qa n) E s4)) E s3) E s2) E s1) E s:=by
 have I1:=_D.Inv.pin1 st.inv (c H st.acn) st.at' (B.cell st.acc);have e:=MP z5 z1 o;by_cases I:i<items.length
 .have z4:items.drop i=items[i]::items.drop (i+1):=Fi I
  rw[z4] at run;have run:=JP run;have zy:nz o' S:=by cases run with|no _ _ _ z=>exact z|yes _ _ _ _ _ _ z=>exact z
  refine mM (T.item Y rfl rfl rfl hc i _ s σ H (λ_ _=>Fp) I1 (e H st.fpn) zl (f.go i H P α S I st.rel zy st.same st.pre)) λr s1 ⟨u,hr,h1⟩=>⟨λz=>(by rw[hr] at z;cases z),λv hv=>?_⟩
  obtain rfl:v=u:=Dg (hv.symm.trans hr);refine mM h1 λ_ s2 ⟨x,H2,I2,rx,y,A,y1⟩=>?_;obtain⟨P2,d,hd,r2,e2,rp⟩:=f.yld i H x H2 P α S I st.rel zy st.same st.pre y;cases (An I).symm.trans hd;have pl:=T.obj _ _ A;have yv:=I2.pinned (e _ y1) pl;have two:∀ U S1 b q,g items[i] al S=.ok U S1->t U S1=.ok b q->(∀ s4 O w P4 L (I4:Inv Y (aj++vS fp s2.heap) O w s4),fw B Y aj P1 α1 fp aw U q ds s4 O w P4 L o->tn (i+1) s4.heap->(b=false->Qa s4)/\(b=true->Ao (As Y.prog Y.w) Y.A (xP B.m cu bj am au k (.ref aw) Y.env) (λ_ n=>Qa n) E s4))->Ao (As Y.prog Y.w) Y.A (assign tg Y.env v) (λ_ s3=>Ao (As Y.prog Y.w) Y.A (gI dh Y.env) (λb s4=>(b=false->Qa s4)/\(b=true->Ao (As Y.prog Y.w) Y.A (xP B.m cu bj am au k (.ref aw) Y.env) (λ_ n=>Qa n) E s4)) E s3) E s2:=by
   intro U S1 b q q1 q2 next;refine mM (hx▸_G hg yv r2 (st.env.mono e2 (Br _)) rx rp q1) λ_ s3 ⟨O,H3,P3,y2,I3,r3,z7,e3,z2⟩=>?_;refine mM (hx▸qAD ht I3 r3 z7 q2) λb' s4 ⟨hb,w,P4,L,I4,r4,z6,e4,zc⟩=>?_;have j:Inv Y (aj++vS fp s2.heap) O w s4:=I4.pins_of λp hp=>I4.pin p (Cj _ ((Bv.mp hp).elim (λz=>Dp _ (Dp _ z)) λz=>Cj _ z));have a4:=I4.pin (aw,o) (Cj _ (Dp _ (Cj _ (Cn.mpr rfl))));rw[hb];exact next s4 O w P4 L j ⟨j.unpinned,r4,z6,((st.same.trans e2).trans e3).trans e4,(st.pre.trans z2).trans zc,(kE T A pl j).2,a4.2.1,a4.1,B.mono ((e2.trans e3).trans e4) (z2.trans zc) st.acc⟩ (kE T A pl j).1
  cases run with
  |no U S1 q _ q1 q2 run=>exact two U S1 false q q1 q2 λs4 O w P4 L I4 G z3=>⟨λ_=>hA s4 O w P4 L o U q ds I G z3 run,λz=>(by cases z)⟩
  |yes U S1 q l zx S5 _ q1 q2 q3 run =>
   refine two U S1 true q q1 q2 λs4 O w P4 L I4 G z3=>⟨λz=>(by cases z),λ_=>?_⟩
   refine mM (he (aj++vS fp s2.heap) P1 α1 aw U l q S5 ds zx s4 (λH hn=>WU (c H hn) z1) ⟨O,w,P4,L,o,I4,G.rel,G.env,G.same,G.pre,λb hb=>(by cases hb),G.acn,G.at',G.acc⟩ q3) λ_ n ⟨y0,H5,P5,z8,o5,M⟩=>?_
   exact hA n y0 H5 P5 z8 o5 l S5 zx I ⟨M.inv.unpinned,M.rel,M.env,M.same,M.pre,(kE T A pl M.inv).2,M.acn,M.at',M.acc⟩ (kE T A pl M.inv).1 run
 .rw[Jp li] at run
  obtain⟨z,rfl,rfl,rfl⟩:=MS run;refine mM (T.done Y rfl rfl rfl hc i _ s σ H (λ_ _=>Fp) I1 (e H st.fpn) zl (f.stop i H P α _ li st.rel z st.same st.pre)) λr s1 ⟨hr,I2⟩=>⟨λ_=>?_,λv hv=>(by rw[hr] at hv;cases hv)⟩
  have a:=_D.Inv.pinned1 I2;exact hD s1 σ H P α o ⟨I2.unpinned,st.rel,st.env,st.same,st.pre,st.fpn,a.2,a.1,st.acc⟩
theorem K4 (P:Bc)(w:Bu)(m:Au)(cu:Cb)(bj:Aa En)(am:Fq)(au:Fc)(k:Ai)(it aw:Ad)(al:Jk):(As P w).den (.compLoop (w6 m cu bj am au) k it aw al)=(AaW (w6 m cu bj am au) k it aw al).onRaise (λx=>do Td x al;theTreesLotGoes x):=by cases m <;> rfl
theorem K5 (A:Bl)(m:Au)(cu:Cb)(bj:Aa En)(am:Fq)(au:Fc)(k:Ai)(it aw:Ad)(al:Jk):A.under (.compLoop (w6 m cu bj am au) k it aw al)=A:=by cases m <;> rfl
theorem QL {kk:DK}{R:Si->Ag->Prop}{s:Ag}{σ:_L.St}{H P:Hp}{U:Aa D}{o:Co}(v:Y.calm=true)(d:Y.xe=λ_ _=>Fp)(c:bj[k]? = Ab ⟨tg,bg,dh,0⟩)(has:∀ g',bj[k+1]? = Ab g'->g'.is_async=0)
  (T:lh Y.prog Y.w Y.K tg J fp it tn) (u:mi Y.K J P1 α1 o' items) (hg:PG Y tg (pe Y g)) (ht:ur Y dh t) (r:PK B Y (λaw=>xP B.m cu bj am au k aw Y.env) kk) (E:∀ H:Hp,H aw=none->xR Y aj H aw) (l:∀ H:Hp,(∀ b∈fp,H b=none)->∀ b∈fp,xR Y aj H b) (w:aw ∉ fp)
  (st:fw B Y aj P1 α1 fp aw al S U s σ H P α o) (M:tn 0 s.heap) (run:jl o' g t kk items al S U=.ok (gc,sy) SF)
  (hR:∀ s' G H' p O o',fw B Y aj P1 α1 fp aw gc SF sy s' G H' p O o'->R (.ok .next) s') :
  Ht (As Y.prog Y.w) Y.A (.compLoop (w6 B.m cu bj am au) k (.ref it) (.ref aw) Y.env) R s:=by
 refine codeAny_loop rfl (zj B Y aj P1 α1 fp aw tn (jl o' g t kk) items (gc,sy) SF) (λn s hI=>?_) items.length ⟨0,σ,H,P,α,o,al,S,U,rfl,Hi _,st,M,run⟩;obtain⟨i,σ,H,P,α,o,al,S,ds,f,x,st,z,run⟩:=hI;subst f;rw[K4,K5];refine wpAny_noted (LJ (m:=B.m) c has (Qa:=λs'=>∃ m,m<items.length-i/\zj B Y aj P1 α1 fp aw tn (jl o' g t kk) items (gc,sy) SF m s') (Qd:=R (.ok .next)) (λ_ h=>⟨rfl,h⟩) (λ_ h=>h) ?_);exact QM v d T u hg ht r E l w x st z run (λs' G H' p O a L e j I q y A=>⟨_,Nat.sub_succ_lt_self _ _ I,i+1,G,H',p,O,a,L,e,j,rfl,I,q,y,A⟩) hR
set_option tactic.hygienic true in
theorem N9 (r:Y.xe=λ_ _=>Fp)(L:bj[k+1]? = none)(i:PE Y cu (tD Y fe)):PK kj Y (λaw=>xP false cu bj am au k aw Y.env) (zN fe):=by
 intro aj P1 α1 aw al bo S a ds zb s O ⟨σ,H,P,α,o,st⟩ run;show Ao _ _ (xP false cu bj am au k (.ref aw) Y.env) _ _ s;unfold xP;rw[L];dsimp only[zf];unfold zN at run;cases w:fe al S with
 |bad=>rw[w] at run;cases run
 |ex c z a=>rw[w] at run;cases run
 |ok d5 S5 =>
  rw[w,a_.bind_ok] at run
  split at run
  .rename_i v
   cases run;have n:=O H st.acn;have x:=_D.Inv.pin1 st.inv n st.at' (kj.cell st.acc);refine Ac (mM (r▸_I i x st.rel st.env w) λM A ⟨v5,d,P5,p,U⟩=>?_);have J:=_D.Inv.pinned1 U.inv;have h:=U.inv.unpinned;obtain⟨j,y⟩:=J;obtain⟨ao,n5,vs,ho,E,I,hz⟩:=st.acc;subst ho;have u:vs.length=ds.length:=I.length.symm;have zc:=E.length;refine Ac (Xx Zc ⟨_,j,rfl⟩ Xy (Xg _ _) (t0 aw ao.toArray n5 M (by rw[Bh];rw[<- xC];lia)) ⟨j,?_⟩)
   have q:=AaE j (·.push M)
   have G:=O d y;have T:∀ b o,b≠aw->A.heap.get? b=Ab o->(A.heap.update aw (Fk (·.push M))).get? b=Ab o:=λb o l e=>(Bt A.heap _ (Dw l)).trans e
   have f:=h.turned (t':=A.toks) T y G.2.1 G.2.2.2.1 G.2.2.2.2.1 G.2.2.2.2.2;refine Ak ⟨σ,d,P5,p,_,f,U.rel,U.env,st.same.trans U.same,st.pre.trans U.pre,λb l=>(by simp at l),y,q,?_⟩
   refine⟨ao++[M],_,vs++[v5],by simp <;> rfl,E.append (.cons U.val .nil),?_,by simp;lia⟩
   exact(qF.mono U.same U.pre _ _ I).append (.cons U.rep .nil)
  .cases run
end
theorem rW {prog:Bc}{w:Bu}{A:Bl}{R:Si->Ag->Prop}{s:Ag}{J:Cb}{Y:Aa En}{am:Fq}{U:Fc}{k:Ai}{it aw:Ad}{al:Jk}{m:Au}(T:Y[k]? = Ab g)(I:g.is_async=0)
  (h0:Ht (As prog w) A (.compLoop (w6 m J Y am U) k it aw al) R s)
  (h:Ao (As prog w) A (Qy it) (λG s'=>Ht (As prog w) A (.compLoop (w6 m J Y am U) k G aw al) R s') (notedBy (As prog w) A al λx s'=>R (.error x) s') s) :
  Ht (As prog w) A (.compStart (w6 m J Y am U) k it aw al) R s:=by
 refine Qt ?_;have H:(As prog w).den (.compStart (w6 m J Y am U) k it aw al)=(compStart (w6 m J Y am U) k it aw al).onRaise (λx=>do Td x al;Tc theWindowsPlace):=by cases m <;> rfl
 have L:A.under (.compStart (w6 m J Y am U) k it aw al)=A:=by cases m <;> rfl
 have B:(AbJ (w6 m J Y am U) k it aw al).quiet=true/\∀ G,(AbJ (w6 m J Y am U) k G aw al).quiet=true:=by cases m <;> exact⟨rfl,λ_=>rfl⟩
 rw[H,L];refine wpAny_notedAt ?_;have O:clausesOf (w6 m J Y am U)=Y:=by cases m <;> rfl
 have E:(g.is_async != 0)=false:=by rw[I];rfl
 unfold compStart;simp only[O,T,Option.elim,E,By,Ek];refine Ac (Lg (wpAny_ite ?_))
 split
 .exact Ak (And.intro B.1 h0)
 .refine Ac (Gw ?_)
  exact Ac (Kq (Ac (Fd h (λG s' h'=>Ak (And.intro (B.2 _) h')) λ_ _ x=>x)))
noncomputable def vm (m:Au)(r:a_ (qE × Aa D)):a_ D:=match r with
 |.ok p Y=>if m then .ok (.loc Y.length) (Y++[.lst p.2]) else .ok (.lst p.2) Y
 |_=>.bad
def zH (m:Au)(cj:Aa (Al Ai))(Y:qm)(g:DG)(t:DT)(k:DK):DE:=λal S=>(Y al S).bind λp J=>vm m (jl p.1 g t k p.2 (xK cj al) J [])
section
variable {X:Cx}{cu tg bg:Cb}{dh:Aa Cb}{am:Fq}{au:Fc}{N':Aa Ar}{cj:Aa (Al Ai)}{fi:qm}{g:DG}{t:DT}{kk:DK}{qG:Aa En}{mm:Au}
theorem YM {P:Hp}{Ok:D->aq->Prop}(h:qO X P α (vm mm r) Ok):∃ gc ds SF,r=.ok (gc,ds) SF/\(if mm then Ok (.loc SF.length) (SF++[.lst ds]) else Ok (.lst ds) SF):=by
 cases r with
 |ok p S =>
  obtain⟨gc,ds⟩:=p;refine⟨gc,ds,S,rfl,?_⟩;cases mm <;> exact h
 |ex c x S=>exact Aq h
 |bad=>exact Aq h
theorem JA {σ:_L.St}{Q:VK}(c:kR X aj σ P1 Y ds SF aw C s)(ok:if mm then jj X P1 Y Q (.loc SF.length) (SF++[.lst ds]) else jj X P1 Y Q (.lst ds) SF):EP X aj σ Q (.ref aw) s:=by
 cases mm with
 |false=>exact M8 c ok
 |true =>
  obtain⟨j,z,E,vs,I,r,G,L,T,B,_⟩:=c;exact⟨.ref aw,_,I,rfl,lF r G B λv H M J U O A w=>ok v H M J U (L.trans O) (T.trans A) w⟩
theorem WG {M:Mf}{A:Bl}{E:ae}{s:Ag}{J:Af}{Y:Aa (Ar × Af)}{O:Ar}{al:Jk}{Q:Jk->Ag->Prop}
  (L:Q (newEnv am s.heap.objs.size J (Io (s.heap.objs.size+1) am.names Y) O none .none (Ab al) Ra) { s with heap:=wS (s.heap.push { cls:=.type "dict",data:=.dict #[] }) am.names }) :
  Ao M A (Wz am J Y [] O none .none (Ab al)) Q E s:=by
 simp only[Wz,Zd,Ef];refine Ac (AaK ?_);refine Ac (wpAny_layCells _ (λB U T=>by cases G:U == Pz <;> simp[G]) _ _ _ _ ?_)
 rw[show ({ s with heap:=s.heap.push { cls:=.type "dict",data:=.dict #[] } } : Ag).heap.objs.size=s.heap.objs.size+1 from Ep ..]
 refine Ac ?_;rw[Rq];exact Ak (Ak L)
theorem fP {B:Acc}{o0:Co}{aj:aa}{σ:_L.St}{q P1:Hp}{α1:ag}{U:Ag}{S1:aq}{items:Aa D}{it:Af}{fp:ag}{tn:Ai->Bk->Prop}{J:It}{E:ae}{RR:Ad->Af->Si->Ag->Prop}
  (hc:X.calm=true) (S:dk X.env.scope X.N am N' cj) (has:∀ g',(⟨tg,bg,dh,0⟩::qG:Aa En)[0+1]? = Ab g'->g'.is_async=0)
  (hg:∀ y C n O G,PG (zA X N' am y C n O G) tg (pe (zA X N' am y C n O G) g))
  (ht:∀ y C n O G,ur (zA X N' am y C n O G) dh t) (he:∀ y C n O G,PK B (zA X N' am y C n O G) (λaw=>xP B.m cu (⟨tg,bg,dh,0⟩::qG) am au 0 aw (zA X N' am y C n O G).env) kk)
  (a:Inv X aj σ q U) (r:bf X.K q P1 α1 S1) (re:zD X.K P1 α1 σ al) (T:lh X.prog X.w X.K tg J fp it tn) (s:tn 0 U.heap) (hf:∀ b∈fp,xR X aj q b) (z2:mi X.K J P1 α1 o' items) (run:jl o' g t kk items (xK cj al) S1 [] = .ok (gc,ds) SF)
  (h0:B.O X.K P1 α1 [] o0) (z5:o0.isFreed=false) (z4:∀ aw C s',U.heap.objs.size<=aw->(∃ m,s'.heap.Ns C m)->U.heap.objs.size<=C->aw≠C->(∃ y zs H' P' zc o',fw B (zA X N' am y C fp U q) [] P1 α1 fp aw gc SF ds s' zs H' P' zc o')->RR (.ref aw) C (.ok .next) s') :
  db X (Wz am X.env.globals (vL X.env.cells am.names []) [] X.env.qual none .none (Ab X.env)) (λl zx =>
   Ht (As X.prog X.w) X.A (.compStart (w6 B.m cu (⟨tg,bg,dh,0⟩::qG) am au) 0 (.ref it) (.ref U.heap.objs.size) { l with scope:=relabel am X.env }) (RR (.ref U.heap.objs.size) l.locals) zx) E { U with heap:=U.heap.push o0 }:=by
 have u:∀ b∈fp,b<U.heap.objs.size:=λb w=>by
  obtain⟨o,e,_⟩:=T.obj 0 _ s b w;exact Az e
 refine WG ?_;dsimp only;generalize i:U.heap.push o0=L;have zb:L.objs.size=U.heap.objs.size+1:=by rw[<- i,Ep]
 have hC:U.heap.objs.size<=L.objs.size:=by rw[zb];exact Nz _
 have z1:U.heap.objs.size≠L.objs.size:=by rw[zb];exact Cw (Nb _)
 have kp:∀ b o,L.get? b=Ab o->(wS (L.push { cls:=.type "dict",data:=.dict #[] }) am.names).get? b=Ab o:=λb o e=>pushCells_keeps _ _ b o (Aj _ e);have A:(wS (L.push { cls:=.type "dict",data:=.dict #[] }) am.names).Ns L.objs.size (λ_=>none):=(Heap.Ns.new L (.type "dict")).keeps (pushCells_keeps _ _);have co:=cellsFrom_ok am.names (L.push { cls:=.type "dict",data:=.dict #[] }) (L.objs.size+1) [] ⟨λ_ _ j=>(nomatch j),Pi⟩ (by rw[Ep];exact Av _)
 rw[Ep] at co;generalize z3:wS (L.push { cls:=.type "dict",data:=.dict #[] }) am.names=I at kp A co ⊢;have M:∀ b o,U.heap.get? b=Ab o->I.get? b=Ab o:=λb o e=>kp b o (i▸Aj _ e);have zy:I.get? U.heap.objs.size=Ab o0:=kp _ _ (i▸Bf _ z5);have I4:∀ f,Inv (zA X N' am (gL X am L.objs.size) L.objs.size fp U q) [] (vT cj σ) q { U with heap:=I,toks:=f }:=λf =>
  UP (s4:={ U with heap:=I,toks:=f }) S a hf u hC A rfl rfl M co
 have d:∀ f,Ht (As X.prog X.w) X.A (.compLoop (w6 B.m cu (⟨tg,bg,dh,0⟩::qG) am au) 0 (.ref it) (.ref U.heap.objs.size) (compEnvC am (gL X am L.objs.size) L.objs.size X.env)) (RR (.ref U.heap.objs.size) L.objs.size) { U with heap:=I,toks:=f }:=λf=>by
  refine QL (B:=B) (kk:=kk) (o':=o') (Y:=zA X N' am (gL X am L.objs.size) L.objs.size fp U q) (aj:=[]) (fp:=fp) (aw:=U.heap.objs.size) (P1:=P1) (α1:=α1) (σ:=vT cj σ) (H:=q) (P:=P1) (α:=α1) (o:=o0) hc rfl rfl has T z2
   (hg _ _ _ _ _) (ht _ _ _ _ _) (he _ _ _ _ _) (λH hn=>?_) (λH hn b w=>?_) (λj=>Ex _ (u _ j)) ⟨I4 f,r,VM re cj,qI.refl _,Br _,λb w=>(hf b w).1,a.hok.fresh (Av _),zy,h0⟩ (T.keep _ _ _ s λb w o e=>M b o e) run λs' zs H' P' zc o' st=>?_
  .refine⟨hn,z1,λj=>?_,.inr (Av _),λx c h z=>?_,λp hp=>absurd (show p∈([]:aa) from hp) a8⟩
   .obtain⟨_,o,ho,_⟩:=a.stack.mem j
    exact Ex _ (Az ho)
   .rcases xM S a.ok h with⟨m,_⟩|⟨m,_⟩
    .exact Ex _ (Oq hC (z▸(co.empty x c m).2))
    .obtain⟨v,ob,zl,_⟩:=a.cell x c m
     rw[z] at zl;exact Ex _ (Az zl)
  .obtain⟨_,h1,h2,h3,h4,h5⟩:=hf b w
   refine⟨hn b w,Cw (Bi (u b w) hC),λj=>?_,.inl w,λx c h=>(by
    rcases xM S a.ok h with⟨m,_⟩|⟨m,_⟩
    .exact Dw (Cw (Ji (Bi (u b w) hC) (co.empty x c m).2))
    .exact h4 x c m),λp hp=>absurd (show p∈([]:aa) from hp) a8⟩
   rcases Ax.mp (a.stkSub b j) with z|z
   .exact h1 z
   .exact h2 z
  .obtain⟨m,j,_⟩:=st.inv.loc
   exact z4 _ _ s' (Av _) ⟨m,j⟩ hC z1 ⟨_,_,_,_,_,_,st⟩
 exact rW (k:=0) rfl rfl (d _) (T.self X.A 0 _ _ _ (T.keep _ _ _ s λb w o e=>M b o e) (d _))
theorem UW (hc:X.calm=true)(S:dk X.env.scope X.N am N' cj)(hi:PI X tg bg (pc X fi))
  (hg:∀ L C ex U Y,PG (zA X N' am L C ex U Y) tg (pe (zA X N' am L C ex U Y) g))
  (ht:∀ L C ex U Y,ur (zA X N' am L C ex U Y) dh t) (has:∀ g',(⟨tg,bg,dh,0⟩::qG:Aa En)[0+1]? = Ab g'->g'.is_async=0) (he:∀ L C ex U Y,PK kj (zA X N' am L C ex U Y) (λaw=>xP false cu (⟨tg,bg,dh,0⟩::qG) am au 0 aw (zA X N' am L C ex U Y).env) kk)
  (hs:∀ x,Gn bg X.env x=pure x:=by intro _;rfl):PE X (.ListComp cu (⟨tg,bg,dh,0⟩::qG) am au) (tD X (zH mm cj fi g t kk)):=by
 intro l s σ H Q I h;obtain⟨P,α,al,S0,r,re,af⟩:=h;rw[eval_ListComp];have O:qO X P α ((fi al S0).bind λp M=>vm mm (jl p.1 g t kk p.2 (xK cj al) M [])) (jj X P α Q):=af;refine Tx (use:=none) rfl hs (aW S I.ok) S.kind S.names ?_;refine bv (hi l s σ H (λJ H1=>∃ (A:Hp) (G:ag) (p:Al (Ai × MO) × Aa _D.D) (M:aq),bf X.K H1 A G M/\qI P A/\α<+:G/\mi X.K J A G p.1 p.2/\qO X P α (vm mm (jl p.1 g t kk p.2 (xK cj al) M [])) (jj X P α Q)) I ⟨P,α,al,S0,r,re,?_⟩) λxv s1 h1=>bv h1 λzc s2 h2=>?_
 .cases q:fi al S0 with
  |bad=>rw[q] at O;exact O
  |ex c x S'=>rw[q] at O;exact O
  |ok p M=>rw[q] at O;exact λJ H1 A G e w z it=>⟨A,G,p,M,e,w,z,it,O⟩
 obtain⟨it,fp,tn,J,H2,rfl,I2,T,b,hf,A,G,p,M,e,w,z,k,n⟩:=h2;obtain⟨gc,ds,SF,run,ok⟩:=YM n;refine Dq (fP (B:=kj) (o0:={ cls:=.type "list",dict:=none,data:=.seq ([] : Aa Ad).toArray }) (RR:=λaw C=>compPost (As X.prog X.w) X.A X.xe none (EP X l σ Q) aw C) hc S has hg ht he I2 e (re.mono w z) T b hf k run ⟨[],0,[],rfl,.nil,.nil,Hi _⟩ rfl ?_);intro aw C s' hA ⟨m,hm⟩ hC zb ⟨L,zl,Hf,Pf,zs,of,a⟩;have y:∀ h',Fb C s'.heap h'->kR X l σ A G ds SF aw C { s' with heap:=h' }:=λh' j=>rX I2 hf rfl hC hA zb a j
 refine⟨m,hm,λh' j=>JA (mm:=mm) (y h' j) ?_⟩;cases mm with
 |false=>exact λv u P3 E i f o d=>ok v u P3 E i (w.trans f) (z.trans o) d
 |true=>exact λv u P3 E i f o d=>ok v u P3 E i (w.trans f) (z.trans o) d
theorem J7 {i:Ai}{y:Ar}{f j:Fc}(hc:X.calm=true)(hN:X.N.Nodup)(S:dk X.env.scope X.N am N' cj)(hi:PI X tg bg (pc X fi))
  (hg:∀ M C ex U Y,PG (zA X N' am M C ex U Y) tg (pe (zA X N' am M C ex U Y) g))
  (ht:∀ M C ex U Y,ur (zA X N' am M C ex U Y) dh t) (has:∀ g',(⟨tg,bg,dh,0⟩::qG:Aa En)[0+1]? = Ab g'->g'.is_async=0) (he:∀ M C ex U Y,PK kj (zA X N' am M C ex U Y) (λaw=>xP false cu (⟨tg,bg,dh,0⟩::qG) am au 0 aw (zA X N' am M C ex U Y).env) kk)
  (hy:X.N[i]? = Ab y:=by rfl) (z7:Loc X.env.scope y:=by first|exact AbC rfl|exact AaG rfl) (hf:X.fn y=true\/X.env.scope.names.lookup y=Ab .local:=by first|exact .inl rfl|exact .inr rfl|assumption)
  (hsw:Pj (.ListComp cu (⟨tg,bg,dh,0⟩::qG) am au) (Ab (.Name y f)) j.line X.env=pure true:=by rfl)
  (hs:∀ x,Gn bg X.env x=pure x:=by intro _;rfl):PS X (.Assign [.Name y f] (.ListComp cu (⟨tg,bg,dh,0⟩::qG) am au) j) (iq X (qZ (zH mm cj fi g t kk) (bx i))):=by
 intro aj s σ H D I h;obtain⟨P,α,al,S0,r,re,af⟩:=h;have z4:=yI af;have O:qO X P α ((fi al S0).bind λp u=>vm mm (jl p.1 g t kk p.2 (xK cj al) u [])) (λd S=>zF X P α (.nx (al.set i (Ab d)) S) D):=z4;rw[exec_Assign_Name_used _ _ _ _ hsw];refine Ac (Kq (Ac ?_));show Ao _ X.A (do let _ <- comprehension (.ListComp cu (⟨tg,bg,dh,0⟩::qG) am au) am X.env _ (newList []) false (eval bg X.env) (Ab (assign (.Name y f) X.env))) _ _ s
 refine Ac (Fd (Tx (use:=Ab (assign (.Name y f) X.env)) (Q:=λ_ A=>SP X aj D .next A) rfl hs (aW S I.ok) S.kind S.names ?_) (λ_ A hq=>Ak (Ak hq)) λ_ _ e=>e);refine bv (hi aj s σ H (λJ H1=>∃ (k:Hp) (G:ag) (p:Al (Ai × MO) × Aa _D.D) (u:aq),bf X.K H1 k G u/\qI P k/\α<+:G/\mi X.K J k G p.1 p.2/\qO X P α (vm mm (jl p.1 g t kk p.2 (xK cj al) u [])) (λd S=>zF X P α (.nx (al.set i (Ab d)) S) D)) I ⟨P,α,al,S0,r,re,?_⟩) λxv s1 h1=>bv h1 λz8 s2 h2=>?_
 .cases q:fi al S0 with
  |bad=>rw[q] at O;exact O
  |ex c x S'=>rw[q] at O;exact O
  |ok p u=>rw[q] at O;exact λJ H1 k G r1 l v it=>⟨k,G,p,u,r1,l,v,it,O⟩
 obtain⟨it,fp,tn,J,H2,rfl,I2,T,z5,zb,k,G,p,u,r1,l,v,zx,z2⟩:=h2;obtain⟨gc,ds,SF,run,ok⟩:=YM z2;refine Dq (fP (B:=kj) (o0:={ cls:=.type "list",dict:=none,data:=.seq ([] : Aa Ad).toArray }) (RR:=λaw C=>compPost (As X.prog X.w) X.A X.xe (Ab (assign (.Name y f) X.env)) (λ_ A=>SP X aj D .next A) aw C) hc S has hg ht he I2 r1 (re.mono l v) T z5 zb zx run ⟨[],0,[],rfl,.nil,.nil,Hi _⟩ rfl ?_);intro aw C A hA ⟨m,hm⟩ hC zc ⟨M,yv,Hf,Pf,y0,of,z6⟩;have zs:∀ h',Fb C A.heap h'->kR X aj σ k G ds SF aw C { A with heap:=h' }:=λh' sb=>rX I2 zb rfl hC hA zc z6 sb
 show Ao _ X.A (assign (.Name y f) X.env (.ref aw)) _ _ A;obtain⟨H3,P3,E,vs,I3,r3,zl,q1,q2,rp,z1⟩:=zs A.heap (Th _ _);obtain⟨r4,e4⟩:=r3.pure (o:=.lst vs) zl;have w:(bw H3 aw (.lst vs)) C=none:=by rw[qJ (Dw zc)];exact z1
 have n:=I2.fpOk hC w;refine Zy (sG I3 hN hy z7 (show qL (V.ref aw) (Cc aw) from rfl) (λs5 I5 ⟨a,sb,ha⟩=>?_) hf)
 have zy:C≠a:=by
  rcases ha with rfl|ha
  .exact n.2.1
  .exact λz=>n.2.2.2.2.1 _ _ ha z.symm
 refine⟨m,hm.sameBut sb zy,λh' z3=>?_⟩;have I6:Inv X aj (σ.set i (Ab (V.ref aw))) (bw H3 aw (.lst vs)) { s5 with heap:=h' }:=I5.turned (t':=s5.toks) (λb o hb e=>(z3.2 b hb).trans e) w n.2.1 n.2.2.2.1 n.2.2.2.2.1 n.2.2.2.2.2
 cases mm with
 |false =>
  refine⟨_,_,I6,ok _ _ (bw P3 aw (.lst vs)) E r4 ?_ ((l.trans q1).trans e4) (v.trans q2)⟩;exact((re.mono l v).mono (q1.trans e4) q2).set i (lL (.inl (.inl qT)) (qF.mono e4 (Br _) _ _ rp))
 |true =>
  have L:E<+:E++[aw]:=Lr _ _;have r5:=r3.new (o:=.lst vs) (m:=.lst ds) zl ⟨vs,qT,qF.mono (qI.refl _) L _ _ rp⟩;refine⟨_,_,I6,ok _ _ P3 (E++[aw]) r5 ?_ (l.trans q1) ((v.trans q2).trans L)⟩;refine((re.mono l v).mono q1 (q2.trans L)).set i ?_;simp only[av];exact⟨aw,rfl,by rw[<- r3.len];simp⟩
end
section
variable {prog:Bc}{w:Bu}{A:Bl}{E:ae}{s:Ag}
theorem WE {e it l:Af}{i:Ai}{x Y:Ad}(n:Wi s.heap e it i Y)(zb:zK tp s.heap it l i)(hl:xZ tp s.heap l xs)(hx:xs[i]? = Ab x)(f:e≠it)
  (hQ:∀ g,IsEnumOut g e it ((i:Am)+1) x s.heap.objs.size->zK tp g it l (i+1)->Kh g s.heap.objs.size (.int i s.toks) x->g.objs.size=s.heap.objs.size+1->(∀ b o,b≠e->b≠it->s.heap.get? b=Ab o->g.get? b=Ab o)->Q (.ref s.heap.objs.size) { s with heap:=g,toks:=s.toks+1 }) :
  Ao (As prog w) A (HT.«enumerate.__next__» ⟨[.ref e],[]⟩) (λfin s'=>∃ v,fin=.done (.ret v)/\Q v s') E s:=by
 obtain⟨U,O,B,J,os⟩:=s;show Ao _ _ (field (.ref e) 2 >>= _) _ _ _;refine Ac (Du n rfl (x:=.ref it) rfl (Ac (pA zb hl hx λL i1 H=>?_)))
 replace H:Fb it U L:=H
 have e1:Wi L e it i Y:=(H.2 e f).trans n;show Ao _ _ (field (.ref e) 3 >>= _) _ _ ⟨L,O,B,J,os⟩;refine Ac (Du e1 rfl (x:=Kv i) rfl ?_);show Ao _ _ (field (.ref e) 4 >>= _) _ _ ⟨L,O,B,J,os⟩;refine Ac (Du e1 rfl (x:=.none) rfl ?_);show Ao _ _ (mkInt i >>= _) _ _ ⟨L,O,B,J,os⟩;refine Ac (wpAny_mkInt ?_);show Ao _ _ (AaT (.ref e) 3 (Kv ((i:Am)+1)) >>= _) _ _ ⟨L,O,B,J+1,os⟩;refine Ac (Fn e1 a8 λk e2 z=>?_)
 replace z:Fb e L k:=z
 replace e2:Wi k e it ((i:Am)+1) Y:=e2
 show Ao _ _ (AaT (.ref e) 4 .none >>= _) _ _ ⟨k,O,B,J+1,os⟩;refine Ac (Fn e2 a8 λI e3 M=>?_)
 replace M:Fb e k I:=M
 replace e3:Wi I e it ((i:Am)+1) Y:=e3
 show Ao _ _ (newTuple [.int i J,x] >>= _) _ _ ⟨I,O,B,J+1,os⟩;refine Ac (Wx ?_);have p:Wi (I.push { cls:=.type "tuple",data:=.seq #[.int i J,x] }) e it ((i:Am)+1) Y:=Aj _ e3;generalize j:I.push { cls:=.type "tuple",data:=.seq #[.int i J,x] } = T at p;have sz:I.objs.size=U.objs.size:=by rw[M.1,z.1,H.1]
 have el:e<U.objs.size:=Az n;have t4:Kh T U.objs.size (.int i J) x:=by rw[<- j,<- sz];exact Bf _ rfl
 have z4:T.objs.size=U.objs.size+1:=by rw[<- j,Ep,sz]
 have k4:∀ b o,b≠e->b≠it->U.get? b=Ab o->T.get? b=Ab o:=λb o G t q=>by
  rw[<- j];exact Aj _ (M.extBut b o G (z.extBut b o G (H.extBut b o t q)))
 have i4:zK tp T it l (i+1):=i1.keep λo q=>by rw[<- j];exact Aj _ (M.extBut _ o f.symm (z.extBut _ o f.symm q))
 show Ao _ _ (Ez (.ref e) >>= _) _ _ ⟨T,O,B,J+1,os⟩;rw[sz];refine Ac ?_;unfold Ez;refine Ac (Du p rfl (x:=.none) rfl (Ak ?_));simp only[Ef];refine Ac (Gw (Ac (Du p rfl (x:=Y) rfl (Ac (Fn p a8 λr e5 d=>?_)))))
 replace d:Fb e T r:=d
 replace e5:Wi r e it ((i:Am)+1) x:=e5
 show Ao _ _ (Hj (.ref e) (.ref U.objs.size) >>= _) _ _ ⟨r,O,B,J+1,os⟩;refine Ac ?_;unfold Hj;refine Ac (Fn e5 a8 λh e6 y=>?_)
 replace y:Fb e r h:=y
 replace e6:IsEnumOut h e it ((i:Am)+1) x U.objs.size:=e6
 refine Fn e6 a8 λu a c=>?_
 replace c:Fb e h u:=c
 replace a:IsEnumOut u e it ((i:Am)+1) x U.objs.size:=a
 have up:∀ b o,b≠e->T.get? b=Ab o->u.get? b=Ab o:=λb o G q=>c.extBut b o G (y.extBut b o G (d.extBut b o G q));exact Ac (Mk (Ak ⟨_,rfl,hQ u a (i4.keep λo q=>up _ o f.symm q) (up _ _ (Hd el) t4) (by rw[c.1,y.1,d.1,z4]) λb o G t q=>up b o G (k4 b o G t q)⟩))
set_option maxHeartbeats 4000000 in
set_option tactic.hygienic true in
theorem JD (tp:Au)(l:Af)(xs:Aw Ad) :
  Meets (HT.«enumerate.__new__» ⟨[.type "enumerate",.ref l],[]⟩) (λ_ R s=>(∃ n U O,s.heap.get? l=Ab { cls:=.type (if tp then "tuple" else "list"),dict:=U,data:=.seq xs n,slots:=O }) /\ R (.ok (.ret (.ref (s.heap.push (uC tp l)).objs.size))) { s with heap:=(s.heap.push (uC tp l)).push { cls:=.type "enumerate",data:=.fields #[.none,.bool false,.ref s.heap.objs.size,Kv 0,.none,.none] } }):=
 .of_wp λprog w A R s h=>by
  obtain⟨G,T,I,L,os⟩:=s;obtain⟨⟨n,U,O,Y⟩,h⟩:=h;have B:=sub_enumerate;cases tp
  .have J:AaI (Qb ⟨G,T,I,L,os⟩) l xs:=⟨_,Y,rfl,n,rfl⟩
   wp_walk using Hk Y
   refine wpAny_stack_any λst=>Ak ?_
   split
   .rename_i c _ _ _ _ _
    cases (c == Hn "enumerate") <;> (wp_walk using Hk Y,Go J;exact⟨_,rfl,h⟩)
   .wp_walk using Hk Y,Go J;exact⟨_,rfl,h⟩
  .have J:Zs (Qb ⟨G,T,I,L,os⟩) l xs:=⟨_,Y,rfl,n,rfl⟩
   wp_walk using Hk Y
   refine wpAny_stack_any λst=>Ak ?_
   split
   .rename_i c _ _ _ _ _
    cases (c == Hn "enumerate") <;> (wp_walk using Hk Y,Hl J;exact⟨_,rfl,h⟩)
   .wp_walk using Hk Y,Hl J;exact⟨_,rfl,h⟩
theorem XR {tp:Au}{l:Af}{xs:Aw Ad}{Q:ae}(hl:∃ n U O,s.heap.get? l=Ab { cls:=.type (if tp then "tuple" else "list"),dict:=U,data:=.seq xs n,slots:=O })
  (h:∀ g,Wi g (s.heap.objs.size+1) s.heap.objs.size 0 .none->zK tp g s.heap.objs.size l 0->(∀ b o,s.heap.get? b=Ab o->g.get? b=Ab o)->Q (.ref (s.heap.objs.size+1)) { s with heap:=g }) :
  Ao (As prog w) A (call (.type "enumerate") [.ref l]) Q E s:=by
 refine callType_new F.called_enumerate da (F.typeCall_enumerate_1 _) (F.newCall_enumerate_1 _) (λY=>F.args_object_init_2 Y _) F.entry_enumerate_new (JD tp l xs) ⟨hl,?_⟩
 have G:(s.heap.push (uC tp l)).objs.size=s.heap.objs.size+1:=Ep ..;show _/\_;have J:((s.heap.push (uC tp l)).push { cls:=.type "enumerate",data:=.fields #[.none,.bool false,.ref s.heap.objs.size,Kv 0,.none,.none] }).get? (s.heap.push (uC tp l)).objs.size=Ab _:=Bf _ rfl;rw[G] at J ⊢;exact⟨⟨_,J,rfl⟩,h _ J (gY (Aj _ (Bf _ rfl))) λb o x=>Aj _ (Aj _ x)⟩
end
def Z_ (tp:Au)(K:Ah)(a:Af):It:=
  ⟨λi H=>∃ xs x,Sq tp K H a xs/\xs[i]? = Ab x,
   λi H v Y=>∃ T x,v=.ref T/\H T=none/\Y=bw H T (.tup [.int i,x])/\∀ xs,Sq tp K H a xs->xs[i]? = Ab x,
   λi H=>∃ xs,Sq tp K H a xs/\xs.length<=i⟩
def XJ (tp:Au)(e it l:Af)(k:Ai)(h:Bk):Prop:=∃ Y,Wi h e it k Y/\zK tp h it l k
theorem VZ {P:Bc}{K:Ah}{e it a:Af}(ne:e≠it):lh P w K (.Tuple jr x1 jo) (Z_ tp K a) [e,it] e (XJ tp e it a) where
 mem:=by simp
 obj:=λk h st c Y=>by
  obtain⟨U,J,O⟩:=st;simp only[Ax,Di,Gk] at Y;rcases Y with rfl|rfl
  .exact⟨_,J,λv y=>by cases y⟩
  .exact O.there
 keep:=λk h h' st A=>by
  obtain⟨U,J,O⟩:=st;exact⟨U,A e a8 _ J,O.keep λo q=>A it a8 o q⟩
 item:=by
  intro X g r p Y k aj s σ H E G j st f;subst g r p;obtain⟨U,J,O⟩:=st;obtain⟨xs,x,M,hx⟩:=f;obtain⟨ia,t,d⟩:=M.at G;obtain⟨u,hu,ru⟩:=t.get hx;have L:s.TypeIs (.ref e) "enumerate":=⟨_,J,rfl⟩;unfold Pe;refine Ac (Iq (Eb (name:=Gh "__next__") L Ml (Eg Ml L Vm
   (WE J O d (by simpa using hu) ne λh' a1 a2 a3 a4 a5=>Ak ?_) (Uu _))))
  refine⟨_,rfl,wpAny_letOwnedTupleGo_enum (s:={ s with heap:=h',toks:=s.toks+1 }) a1 λI b1 b2=>?_⟩
  have up:∀ c o,c≠e->h'.get? c=Ab o->I.get? c=Ab o:=λc o n q=>(b2.2 c n).trans q;have el:e<s.heap.objs.size:=Az J;have T2:Kh I s.heap.objs.size (.int k s.toks) u:=up _ _ (Hd el) a3;have B:XJ tp e it a (k+1) I:=⟨u,b1,a2.keep λo q=>up _ o ne.symm q⟩;refine⟨.ref s.heap.objs.size,bw H s.heap.objs.size (.tup [.int k,x]),?_,rfl,⟨_,x,rfl,G.hok.fresh (Av _),rfl,λzs qz=>by rw[qz.inj G M];exact hx⟩,B,λc Y=>?_⟩
  .have:=Inv.turnLay (fp:=[e,it]) (ao:=[.int k s.toks,u]) (h':=I) (xs:=[.int k,x]) G j (λc o Y q=>by
    simp only[Ax,Di,Gk,Wh] at Y;exact up c o Y.1 (a5 c o Y.1 Y.2 q)) (λc Y=>by
    obtain⟨zb,t1,t2⟩:=B;simp only[Ax,Di,Gk] at Y;rcases Y with rfl|rfl
    .exact⟨_,t1⟩
    .obtain⟨o,q,_⟩:=t2.there;exact⟨o,q⟩) (Av _) (.cons ⟨_,rfl⟩ (.cons ru .nil)) ⟨_,T2,rfl,_,rfl⟩ (by show 2<=sizeLine;decide)
   exact this.tok (s.toks+1)
  .have hn:=(j c Y).1
   rw[qJ ?_]
   .exact hn
   .rintro rfl
    obtain⟨o,q,_⟩:∃ o,s.heap.get? s.heap.objs.size=Ab o/\Ov:=by
     simp only[Ax,Di,Gk] at Y;rcases Y with z|z
     .exact⟨_,z▸J,trivial⟩
     .obtain⟨o,e',_⟩:=O.there;exact⟨o,z▸e',trivial⟩
    exact absurd (Az q) (Ex _)
 done:=by
  intro X g r p Y k aj s σ H E G j st f;subst g r p;obtain⟨U,J,O⟩:=st;obtain⟨xs,M,zc⟩:=f;obtain⟨ia,t,d⟩:=M.at G;have L:s.TypeIs (.ref e) "enumerate":=⟨_,J,rfl⟩;have l1:=t.length;unfold Pe;refine Ac (Iq (Eb (name:=Gh "__next__") L Ml (Eg Ml L Vm ?_ (Uu _))));show Ao _ _ (field (.ref e) 2 >>= _) _ _ _;refine Ac (Du J rfl (x:=.ref it) rfl (Ac (jF (G.ok.hd Y) O d (by simp;fin2) λh' x A i=>?_)))
  obtain⟨o,ho,l⟩:=i;refine Ac (Qc (T:="StopIteration") (b:=true) ⟨o,ho,l⟩ Wy (Ak ⟨rfl,Inv.turnL (fp:=[e,it]) G j λc o Y q=>?_⟩));simp only[Ax,Di,Gk,Wh] at Y;exact A c o Y.2 q
 self:=λ_ _ _ _ _ st h=>by
  obtain⟨U,J,_⟩:=st;exact wT J h
noncomputable def yV (xs:Aa D):Aa D:=xs.mapIdx λi x=>D.tup [.int i,x]
def PZ (ds:Aa D):Al (Aa D):=match ds with
 |[.tup xs]=>Ab (yV xs)
 |[.lst xs]=>Ab (yV xs)
 |_=>none
def sR (f:DA):DI:=λal S=>(f al S).bind λds Y=>v9 (PZ ds) Y
theorem WD (xs:Aa D)(i:Ai):(yV xs)[i]? = (xs[i]?).map λx=>D.tup [.int i,x]:=by
 unfold yV;rw[List.getElem?_mapIdx]
theorem bA (xs:Aa D):(yV xs).length=xs.length:=by simp[yV]
theorem JV {K:Ah}{P:Hp}{a:Af}{xs:Aa D}(U:Sq tp K P a vs)(G:qF K P α xs vs):tw K (Z_ tp K a) P α (yV xs) where
 go:=λi H L J S Y r e _=>by
  rw[bA] at Y;have k:i<vs.length:=by rw[<- G.length];fin2
  exact⟨vs,vs[i],U.mono (e.trans r.sub),by simp⟩
 yld:=λi H x p L J S Y r e E y=>by
  obtain⟨T,u,rfl,A,rfl,z⟩:=y;rw[bA] at Y;obtain⟨j,w,M⟩:=G.get (An Y);have B:=z vs (U.mono (e.trans r.sub));rw[w] at B;cases B;obtain⟨I,O⟩:=r.pure (o:=.tup [.int i,u]) A;refine⟨_,.tup [.int i,xs[i]],?_,I,O,?_⟩
  .rw[WD,An Y];rfl
  .exact lM (.of qT) (.cons (by simp only[av]) (.cons (av.mono (e.trans O) E _ _ M) .nil))
 stop:=λi H L J S Y r e _=>by
  rw[bA] at Y;have q:=G.length;exact⟨vs,U.mono (e.trans r.sub),by fin2⟩
section
variable {X:Cx}{e1:Cb}{jr:Aa Cb}{x1:Ai}{jo:Fc}{f:DA}{p au:Fc}
theorem Sq.obj {σ:_L.St}{a:Af}{xs:Aa V}(I:Inv X aj σ H s)(q:Sq tp X.K H a xs):∃ ao:Aa Ad,qQ xs ao/\∃ n U O,s.heap.get? a=Ab { cls:=.type (if tp then "tuple" else "list"),dict:=U,data:=.seq ao.toArray n,slots:=O }:=by
 obtain⟨ao,L,h⟩:=q.at I;refine⟨ao,L,?_⟩;cases tp with
 |true =>
  obtain⟨o,G,Y,n,J⟩:=h;obtain⟨c,d,B,O⟩:=o;dsimp only at Y J;subst Y;subst J;exact⟨n,_,_,G⟩
 |false =>
  obtain⟨o,G,Y,n,J⟩:=h;obtain⟨c,d,B,O⟩:=o;dsimp only at Y J;subst Y;subst J;exact⟨n,_,_,G⟩
theorem i0 {σ:_L.St}{H P:Hp}{a:Af}{xs:Aa D}(I:Inv X aj σ H s)(r:bf X.K H P α S)(U:Sq tp X.K P a vs)(B:qF X.K P α xs vs)
  (q:vt X P α R (yV xs) S):db X (call (.type "enumerate") [.ref a]) (λv O=>db X (Qy v) (vq X aj σ (.Tuple jr x1 jo) R) X.xe O) X.xe s:=by
 obtain⟨A,M,T⟩:=Sq.obj I (U.mono r.sub);refine XR (tp:=tp) T λh' G E L=>?_;refine wT (s:={ s with heap:=h' }) G ?_
 refine⟨_,[s.heap.objs.size+1,s.heap.objs.size],_,_,H,rfl,I.kept (t':=s.toks) L,VZ (tp:=tp) (a:=a) (by intro z;simp at z),⟨_,G,E⟩,λc Y=>?_,q _ _ P α r (qI.refl _) (Br _) (JV U B)⟩
 have J:s.heap.objs.size<=c:=by
  simp only[Ax,Di,Gk] at Y;rcases Y with rfl|rfl <;> simp
 exact I.fpOk J (I.hok.fresh J)
theorem nJ:Gr "enumerate" = Ab (.type "enumerate"):=by decide +kernel
theorem JC (h:PZ ds=Ab ao):∃ d xs,ds=[d]/\yt d xs/\ao=yV xs:=by
 cases ds with
 |nil=>exact nn h
 |cons d ds =>
  cases ds with
  |cons _ _=>cases d <;> exact nn h
  |nil =>
   cases d with
   |tup xs=>exact⟨_,xs,rfl,.tup rfl,(Dg h).symm⟩
   |lst xs=>exact⟨_,xs,rfl,.lst rfl,(Dg h).symm⟩
   |_=>exact nn h
theorem FW (y:Gl X "enumerate")(hm:X.mg "enumerate" = none)(t:PA X [e1] (ko X f))(hs:Bn [e1] X.env=(false,eval e1 X.env)::Bn [] X.env:=by rfl)(O:(Gm au (Bn [] X.env)).any (·.1)=false:=by rfl) :
  PI X (.Tuple jr x1 jo) (.Call (.Name "enumerate" p) [e1] [] au) (so X (sR f)):=by
 intro e s σ H R I h;obtain⟨P,α,al,S,r,M,w⟩:=h;refine Call_ (vP I y hm nJ (Hw (bv (y9 t I r M w au) λx i ⟨vs,b,P1,j,ds,n,E,o,T,z,g,e1,A,J⟩=>?_) hs O));obtain⟨ao,c,q⟩:=vY J;obtain⟨d,xs,rfl,l,rfl⟩:=JC c;obtain⟨v,u,rfl,rfl,Y,L⟩:=yN g o;cases l with
 |tup B =>
  subst B;simp only[av] at Y;obtain⟨a,k,rfl,G,U⟩:=Y;cases (show u=Cc a from L)
  exact i0 (tp:=true) E T G U (q.base e1 A)
 |lst B =>
  subst B;simp only[av] at Y;obtain⟨a,k,rfl,G,U⟩:=Y;cases (show u=Cc a from L)
  exact i0 (tp:=false) E T G.l U (q.base e1 A)
end
section
variable {X:Cx}
def wX:D->Aa D->aq->a_ D:=λa ds S=>match a,ds with
 |.loc n,[i,x]=>match S[n]? with
  |some (.dct Y)=>match yB i with
   |some k=>match x5 Y k with
    |some d=>.ok d S
    |none=>if Y.length<bi then .ok x (S.set n (.dct (wQ Y k x))) else .bad
   |none=>.bad
  |_=>.bad
 |_,_=>.bad
theorem fL (a b c:Ad):Wj "dict.setdefault" ⟨[a,b,c],[]⟩:=by unfold Wj;kernel_rfl
inductive SdV (a:D)(ds:Aa D)(S:aq):Prop
 |bad (e:wX a ds S=.bad)
 |of (n:Ai) (i x:D) (kvs:Aa (bz × D)) (k:bz) (ea:a=.loc n) (ed:ds=[i,x]) (hS:S[n]? = Ab (.dct kvs)) (hk:yB i=Ab k) (e:wX a ds S=(match x5 kvs k with|some d=>.ok d S|none=>if kvs.length<bi then .ok x (S.set n (.dct (wQ kvs k x))) else .bad))
theorem _k (a:D)(ds:Aa D)(S:aq):SdV a ds S:=by
 cases a with
 |loc n =>
  cases ds with
  |nil=>exact .bad rfl
  |cons i ds =>
   cases ds with
   |nil=>exact .bad rfl
   |cons x ds =>
    cases ds with
    |cons _ _=>exact .bad rfl
    |nil =>
     have z:wX (.loc n) [i,x] S=(match S[n]? with|some (.dct Y)=>(match yB i with|some k=>(match x5 Y k with|some d=>.ok d S|none=>if Y.length<bi then .ok x (S.set n (.dct (wQ Y k x))) else .bad)|none=>.bad)|_=>.bad):=rfl
     cases J:S[n]? with
     |none=>rw[J] at z;exact .bad z
     |some m =>
      rw[J] at z;cases m with
      |dct Y =>
       cases U:yB i with
       |none=>rw[U] at z;exact .bad z
       |some k=>rw[U] at z;exact .of n i x Y k rfl rfl J U z
      |_=>exact .bad z
 |_=>exact .bad rfl
theorem YK:wj X "dict.setdefault" wX:=by
 intro aj σ H s P α S v vv vs us a ds Q I r rv p T j Y;cases _k a ds S with
 |bad e=>rw[e] at Y;exact Aq Y
 |of n i x U k ea ed c hk e =>
  rw[e] at Y;subst ea ed;clear e;obtain⟨vi,E,ui,ux,rfl,rfl,pi,u,qi,o⟩:=uD j T;simp only[av] at p;obtain⟨b,rfl,q⟩:=p;obtain⟨f,z,t⟩:=r.at' n b _ q c;cases tI hk pi;cases (show vv=Cc b from rv)
  obtain⟨hz,y,L,J,g⟩:=QR I.hok z;have A:L.length<=sizeLine:=by rw[<- J.length];exact hz
  obtain⟨k1,k2⟩:=bZ (k:=k) t;have G:=J.val k;refine call_meetsIn Rg g.typeIs PySem.F.entry_dict_setdefault (fL _ _ _) (kt_meets_setdefault (zV X.prog X.w) b (gZ qi) y ux) ⟨L,g,A,λv' B=>?_,λhn h' O hs=>?_⟩
  .cases hv:x5 U k with
   |none =>
    rw[k2 hv,B] at G;exact Aq G
   |some d =>
    obtain⟨h,M,l⟩:=k1 d hv;rw[hv] at Y;rw[M,B] at G;exact⟨h,H,I.tok _,G,xr Y r l⟩
  .cases hv:x5 U k with
   |some d =>
    obtain⟨h,M,l⟩:=k1 d hv;rw[M,hn] at G;exact Aq G
   |none =>
    rw[hv] at Y;obtain⟨hl,Y⟩:=uI (X:=X) Y;have w:(v8 f k E).length<=sizeLine:=by
     have:=kL f k E;have e3:=iO t;rw[<- xC];lia
    have he:∃ q,h'.get? b=Ab q:=let ⟨q,_,_,hq,_⟩:=O;⟨q,hq⟩
    have I':=nP (t':=s.toks+1) I (by rw[z];exact Hz) hs he (W8 w y (J.put k o) O)
    exact⟨E,_,I',o,Y _ _ P α (r.put (m':=.dct (wQ U k x)) q c (by intro z;cases z) ⟨_,qT,iP u t⟩) (qI.refl _) (Br _) u⟩
noncomputable def wC:Aa D->Al (Aa Am)
 |[]=>Ab []
 |.int i::r=>(wC r).map (i::·)
 |_::_=>none
theorem dP (ns:Aa Am):wC (ns.map D.int)=Ab ns:=by
 induction ns with
 |nil=>rfl
 |cons n r Y=>exact congrArg (Option.map (n::·)) Y
theorem jC:∀ {ds:Aa D} {ns:Aa Am},wC ds=Ab ns->ds=ns.map D.int
 |[],ns,h=>by cases h;rfl
 |d::r,ns,h=>by
  cases d with
  |int i =>
   obtain⟨m,Y,rfl⟩:=Em.mp (show (wC r).map (i::·)=Ab ns from h)
   rw[jC Y];rfl
  |_=>exact nn h
theorem vE {K:Ah}{P:Hp}:∀ {ns:Aa Am} {vs:Aa V},qF K P α (ns.map D.int) vs->vs=ns.map V.int
 |[],vs,r=>by rw[r.nil_inv];rfl
 |n::ns,vs,r=>by
  obtain⟨w,Y,rfl,p,t⟩:=r.cons_inv;simp only[av] at p;rw[p,vE t];rfl
def nX:G2:=λa b S=>match a,b with
 |.tup xs,.tup ys=>match wC xs,wC ys with
  |some J,Ab Y=>.ok (.bl (_H.lexLt J Y)) S
  |_,_=>.bad
 |_,_=>wu a b S
end
section
variable {X:Cx}
theorem cP {σ:_L.St}{H P:Hp}{xs:Aa D}(I:Inv X aj σ H s)(r:bf X.K H P α S)(G:qL v J)(p:av X.K P α (.tup xs) v)(h:wC xs=Ab ns) :
  ∃ a ao,J=.ref a/\Rm s.heap a (List.toArray ao)/\Lc ao ns:=by
 have:=jC h;subst this;obtain⟨a,vs,ao,rfl,B,O,Y,U,L,_⟩:=yJ I r p;have:=vE O;subst this;exact⟨a,ao,G,U,by simpa using gW Y⟩
set_option tactic.hygienic true in
theorem EU (j:X.A.units<Ed):gq X (Cy .Lt) nX:=by
 intro E σ H s P α S v u M T a b Q I r B O J G Y;unfold nX at Y
 split at Y
 .rename_i xs ys
  split at Y
  .rename_i q k A L
   obtain⟨a,ao,rfl,y,w⟩:=cP I r B J A;obtain⟨b,U,rfl,z,i2⟩:=cP I r O G L;exact _H.n_ y z (by simpa using w) (by simpa using i2) j ⟨.bl _,H,I,rfl,xr Y r (by simp only[av])⟩
  .exact Aq Y
 .exact BO E σ H s P α S v u M T a b Q I r B O J G Y
end
section
variable {X:Cx}
noncomputable def bT:DF:=λds S=>match ds with
 |[.int a,.int b]=>.ok (.int (if b>a then b else a)) S
 |_=>.bad
def bU:DF:=λds S=>match ds with
 |[.int a,.int b]=>.ok (.int (if b<a then b else a)) S
 |_=>.bad
inductive Two (ds:Aa D):Prop
 |no (h:∀ (g:Am->Am->a_ D),(match ds with|[.int a,.int b]=>g a b|_=>.bad)=.bad)
 |of (a b:Am) (ed:ds=[.int a,.int b])
theorem AF (ds:Aa D):Two ds:=by
 cases ds with
 |nil=>exact .no λ_=>rfl
 |cons d ds =>
  cases d with
  |int a =>
   cases ds with
   |nil=>exact .no λ_=>rfl
   |cons e ds =>
    cases e with
    |int b =>
     cases ds with
     |nil=>exact .of a b rfl
     |cons _ _=>exact .no λ_=>rfl
    |_=>exact .no λ_=>rfl
  |_=>exact .no λ_=>rfl
theorem FE (B:X.calm=true):xY X (.builtin "max") bT:=by
 intro L σ H s P α S vs j ds Q I r z T J;cases AF ds with
 |no h=>exact(mS (X:=X) (r:=bT ds S) (h _) J).elim
 |of a b E =>
  subst E;obtain⟨v,w,u,x,rfl,rfl,p,M,q,A⟩:=uD T z;cases xF p;cases xF M;obtain⟨t,rfl⟩:=q;obtain⟨t',rfl⟩:=A;refine max_two_ints (I.ok.hd B) λh' U O=>?_;have G:Inv X L σ H { s with heap:=h',toks:=U }:=I.kept (t':=U) O
  by_cases Y:b>a
  .rw[Ay Y]
   exact⟨.int b,H,G,⟨t',rfl⟩,xr J r (by simp only[av];rw[Ay Y])⟩
  .rw[AT Y]
   exact⟨.int a,H,G,⟨t,rfl⟩,xr J r (by simp only[av];rw[AT Y])⟩
theorem FF (B:X.calm=true):xY X (.builtin "min") bU:=by
 intro L σ H s P α S vs j ds Q I r z T J;cases AF ds with
 |no h=>exact(mS (X:=X) (r:=bU ds S) (h _) J).elim
 |of a b E =>
  subst E;obtain⟨v,w,u,x,rfl,rfl,p,M,q,A⟩:=uD T z;cases xF p;cases xF M;obtain⟨t,rfl⟩:=q;obtain⟨t',rfl⟩:=A;refine min_two_ints (I.ok.hd B) λh' U O=>?_;have G:Inv X L σ H { s with heap:=h',toks:=U }:=I.kept (t':=U) O
  by_cases Y:b<a
  .rw[Ay Y]
   exact⟨.int b,H,G,⟨t',rfl⟩,xr J r (by simp only[av];rw[Ay Y])⟩
  .rw[AT Y]
   exact⟨.int a,H,G,⟨t,rfl⟩,xr J r (by simp only[av];rw[AT Y])⟩
end
end _D
namespace _D
open _L PySem.SeqAt
section
variable {X:Cx}{aj:aa}{σ: _L.St}{H P:Hp}{α: Aa Af}{S:aq}{s:Ag}
inductive xc (X:Cx)(P:Hp)(α : Aa Af)(d d':D):Prop
 |eq (h:d=d')
 |tt (xs ys:Aa D) (its:ai) (ed:d=.tup xs) (ed':d'=.tup ys) (q:jh X P α xs ys its its)
 |ll (xs ys:Aa D) (its:ai) (ed:d=.lst xs) (ed':d'=.lst ys) (q:jh X P α xs ys its its)
theorem BV (k1:Kd X P α s d u)(k2:Kd X P α s d' u):xc X P α d d':=by
 cases k1 with
 |non=>cases k2;exact .eq rfl
 |bl b=>cases k2;exact .eq rfl
 |int i t=>cases k2;exact .eq rfl
 |str x t=>cases k2;exact .eq rfl
 |tup a L O T B E h q =>
  cases k2 with
  |tup _ G Q N J Y U C =>
   cases l0 h U;exact .tt L G O rfl rfl ⟨T,N,B,E,J,Y⟩
  |lst _ G Q N J Y U C=>exact(Z4 h U).elim
 |lst a L O T B E h q =>
  cases k2 with
  |lst _ G Q N J Y U C =>
   cases iH h U;exact .ll L G O rfl rfl ⟨T,N,B,E,J,Y⟩
  |tup _ G Q N J Y U C=>exact(Z4 U h).elim
theorem dF (I:Inv X aj σ H s)(r:bf X.K H P α S){m:Ai}(z:∀ (d d' e:D) (u:Ad),pl m d=true->pl m d'=true->Kd X P α s d u->Kd X P α s d' u->fz d e=fz d' e){xs ys J:Aa D}{ao:ai}(h1:xs.all (pl m)=true)(h2:ys.all (pl m)=true)(q:jh X P α xs ys ao ao):xB xs J=xB ys J:=by
 obtain⟨o,l,N,B,G,Y⟩:=q;have E:=N.length.trans B.length;have y:=G.length.trans Y.length;rw[yA,yA,E,y]
 congr 1
 have U:∀ j∈Dd (min ao.length J.length),fz (xs.getD j .non) (J.getD j .non)=fz (ys.getD j .non) (J.getD j .non):=λj Q=>by
  have T:=Fe.mp Q;have Q:j<ao.toArray.size:=by rw[Bh];lia
  obtain⟨k,w,M,C⟩:=wN N B Q;obtain⟨p,L,A,O⟩:=wN G Y Q;exact z _ _ _ _ (wD h1 C) (wD h2 O) (yX I r (wD h1 C) w M) (yX I r (wD h2 O) L A)
 rw[Kn,Ca,Ca];exact⟨λh j Q=>(U j Q)▸h j Q,λh j Q=>(U j Q).symm▸h j Q⟩
theorem M9 (I:Inv X aj σ H s)(r:bf X.K H P α S):∀ (n:Ai) (d d' e:D) (u:Ad),pl n d=true->pl n d'=true->Kd X P α s d u->Kd X P α s d' u->fz d e=fz d' e:=by
 intro n
 induction n with
 |zero =>
  intro d d' e u J U N G;cases BV N G with
  |eq h=>rw[h]
  |tt _ _ _ Q=>subst Q;exact Dt J
  |ll _ _ _ Q=>subst Q;exact Dt J
 |succ m O =>
  intro d d' e u J U N G;cases BV N G with
  |eq h=>rw[h]
  |tt B T L Q Y q =>
   subst Q Y;cases e with
   |tup C=>exact dF I r O J U q
   |_=>rfl
  |ll B T L Q Y q =>
   subst Q Y;cases e with
   |lst C=>exact dF I r O J U q
   |_=>rfl
open Classical in
def sx (X:Cx)(P:Hp)(α : Aa Af)(s:Ag)(xs:Aa D)(d:D)(y:Ad):Au:=if h:∃ z,z∈xs/\Kd X P α s z y then fz (Qe h) d else false
theorem WA (I:Inv X aj σ H s)(r:bf X.K H P α S){n:Ai}{xs:Aa D}{vs:Aa V}{ao:ai}{d:D}(h:xs.all (pl n)=true)(J:qF X.K P α xs vs)(G:qQ vs ao){j:Ai}(U:j<ao.length):∃ z,z∈xs/\Kd X P α s z ao[j]/\sx X P α s xs d ao[j]=fz z d/\fz z d=fz (xs.getD j .non) d:=by
 obtain⟨w,y,z,m⟩:=wN J G (j:=j) (by rw[Bh];exact U)
 have k:=yX I r (wD h m) y z;have Y:∃ z,z∈xs/\Kd X P α s z ao[j]:=⟨_,m,k⟩;have Q:=Qf Y;refine⟨Qe Y,Q.1,Q.2,?_,M9 I r n _ _ d _ (wD h Q.1) (wD h m) Q.2 k⟩;unfold sx;rw[dif_pos Y]
theorem M7 (I:Inv X aj σ H s)(r:bf X.K H P α S){n:Ai}{xs:Aa D}{vs:Aa V}{ao:ai}{d:D}(h:xs.all (pl n)=true)(Q:qF X.K P α xs vs)(U:qQ vs ao):ao.map (sx X P α s xs d)=xs.map λx=>fz x d:=by
 have l:=Q.length.trans U.length;refine Nd (by rw[Ap,Ap,l]) λj J Y=>?_
 rw[Ap] at J Y;rw[Ng,Ng];obtain⟨z,_,_,N,G⟩:=WA (d:=d) I r h Q U J;rw[N,G];simp[Jh,Y]
theorem WB (I:Inv X aj σ H s)(r:bf X.K H P α S){n:Ai}{A:Bl}{xs:Aa D}{vs:Aa V}{ao:ai}{d:D}{v:V}{u:Ad}(G:A.units+n<Ed)(h:xs.all (pl n)=true)(hd:pl n d=true)(Y:qF X.K P α xs vs)(O:qQ vs ao)(p:av X.K P α d v)(q:qL v u):∀ y,y∈ao.toArray->EqAt A s y u (sx X P α s xs d y):=λy N=>by
 obtain⟨j,J,rfl⟩:=Cp.mp (show y∈ao by simpa using N)
 obtain⟨z,Q,k,U,_⟩:=WA (d:=d) I r h Y O J;rw[U];exact(eF I r n A z d _ u G (wD h Q) hd k (yX I r hd p q)).eq
def uk (a b:D):Al Au:=match x8 b with
 |some Q=>if Q.all (pl zW)&&pl zW a then Ab (Q.any λx=>fz x a) else none
 |none=>none
def gIn:G2:=λa b S=>match uk a b with
 |some k=>.ok (.bl k) S
 |none=>.bad
def jA:G2:=λa b S=>match uk a b with
 |some k=>.ok (.bl (!k)) S
 |none=>.bad
theorem JS {a b:D}{k:Au}(h:uk a b=Ab k):∃ xs,yt b xs/\xs.all (pl zW)=true/\pl zW a=true/\k=xs.any λx=>fz x a:=by
 unfold uk at h;cases e:x8 b with
 |none=>rw[e] at h;exact nn h
 |some xs =>
  rw[e] at h;obtain⟨c,rfl⟩:=jD h;have Q:=Dc.mp c;exact⟨xs,ye e,Q.1,Q.2,rfl⟩
theorem O6 (m:X.A.units+64<Ed)(I:Inv X aj σ H s)(r:bf X.K H P α S){a b:D}{v u:V}{T G:Ad}{k:Au}(j:qL v T)(z:qL u G)(M:av X.K P α a v)(p:av X.K P α b u)(h:uk a b=Ab k) :
  (∀ {Q:ae} {E:ae},Q (.bool k) s->db X (Cy .In T G) Q E s)/\∀ {Q:ae} {E:ae},Q (.bool (!k)) s->db X (Cy .NotIn T G) Q E s:=by
 obtain⟨U,f,L,y,rfl⟩:=JS h;have C:X.A.in1.units+zW<Ed:=by show X.A.units+1+zW<Ed;unfold zW;lia
 have J:∀ {w:Aa V} {O:ai},qF X.K P α U w->qQ w O->O.toArray.any (sx X P α s U a)=U.any λx=>fz x a:=λc Y=>by
  rw[<- Array.any_toList];have e:=congrArg (λl=>l.any id) (M7 (d:=a) I r L c Y);rw[Zr,Zr] at e;exact e
 cases f with
 |tup A =>
  subst A;obtain⟨l,g,O,rfl,sq,t,Y,B,_,_⟩:=yJ I r p;cases (show G=Cc l from z)
  have N:=WB I r C L y t Y M j;exact⟨λq=>in_tupleAt (sx X P α s U a) B N (by rw[J t Y];exact q),λq=>notIn_tupleAt (sx X P α s U a) B N (by rw[J t Y];exact q)⟩
 |lst A =>
  subst A;obtain⟨l,g,O,n,rfl,sq,t,Y,B,_,_⟩:=yS I r p;cases (show G=Cc l from z)
  have o:s.heap.IsList l O.toArray:=⟨_,B,rfl,n,rfl⟩;have N:=WB I r C L y t Y M j;exact⟨λq=>in_listAt (sx X P α s U a) o N (by rw[J t Y];exact q),λq=>notIn_listAt (sx X P α s U a) o N (by rw[J t Y];exact q)⟩
theorem KO (O:X.A.units+64<Ed):gq X (Cy .NotIn) jA:=by
 intro aj σ H s P α S v u L B a b Q I r C N U G J;have Y:qO X P α (match uk a b with|some k=>a_.ok (D.bl (!k)) S|none=>.bad) (jj X P α Q):=J
 clear J;cases e:uk a b with
 |none=>rw[e] at Y;exact Aq Y
 |some k =>
  rw[e] at Y;exact(O6 O I r C N U G e).2 ⟨.bl _,H,I,rfl,xr Y r (by simp only[av])⟩
end
end _D
namespace _D
open _L
section
variable {K:Ah}{H P:Hp}{α: Aa Af}{S:aq}
theorem bf.still {a:Af}{n:Ai}(r:bf K H P α S)(G:α[n]? = Ab a)(hs:S[n]? = Ab m)(hd:m≠.dead):bf K (bw H a o) (bw P a o) α (S.set n .dead)/\qI P (bw P a o):=by
 have B:=r.sep n a m G hs hd;have N:qI P (bw P a o):=pL B;have Q:=r.put (o:=o) (m':=.dead) G hs hd trivial;have C:n<S.length:=(Bd.mp hs).1;refine⟨⟨Q.tb.keep (λ_ _ q _=>q) λb u q _ p n=>⟨(qJ λ(z:b=a)=>n (by rw[z];exact Bw G)).trans p,n⟩,λb u e=>?_,Q.len,Q.nd,λi b u J Y O=>?_,λi b u J Y=>(Q.at' i b u J Y).mono N (Br _),Q.own⟩,N⟩
 .by_cases U:b=a
  .subst U;rw[qT] at e ⊢;exact e
  .rw[qJ U] at e ⊢;exact r.sub _ _ e
 .have U:b≠a:=by
   rintro rfl;have:=dX r.nd J G;subst this;rw[Dv C] at Y;cases Y;exact O rfl
  rw[qJ U];exact Q.sep i b u J Y O
end
def X_ (a:Af)(o:Co)(vs:Aa V):It:=
 ⟨λi H=>(∃ u,H a=Ab (.frz o u))/\i<vs.length,λi H x Q=>Q=H/\vs[i]? = Ab x,λi H=>(∃ u,H a=Ab (.frz o u))/\vs.length<=i⟩
theorem U0 {P:Bc}{K:Ah}{tg:Cb}{a it:Af}(N:KV vs us)(J:∀ h:Bk,h.get? a=Ab o->h.DictAt (zV P w) a us ep) :
  lh P w K tg (X_ a o (vs.map (·.2))) [it] it (λi h=>h.IsValIter it a i us.length ep) where
 mem:=by simp
 obj:=λi h st b Y=>by
  have e:b=it:=by simpa using Y
  subst e;obtain⟨o,e,c,d⟩:=st;exact⟨o,e,λv z=>by rw[d] at z;cases z⟩
 keep:=λi h G st k=>st.at λo e=>k it a8 o e
 item:=by
  intro X A p B n i x s σ H E I O st q;subst A p B;obtain⟨⟨u0,g⟩,T⟩:=q;have f:s.heap.get? a=Ab o:=(I.hok a _ g).1;have Q:i<vs.length:=by simpa using T
  have get:∀ {vs:Aa (bz × V)} {us:Aa (bz × Ad)},KV vs us->∀ {i:Ai} (h:i<vs.length),∃ k u,us[i]? = Ab (k,u)/\qL (vs[i]).2 u:=by
   intro vs us N
   induction N with
   |nil=>intro i h;simp at h
   |cons z t ih =>
    intro i h;cases i with
    |zero=>exact⟨_,_,rfl,z.2⟩
    |succ i =>
     obtain⟨k,u,M,y⟩:=ih (i:=i) (by simpa using h)
     exact⟨k,u,by simpa using M,by simpa using y⟩
  obtain⟨k,u,M,y⟩:=get N Q;obtain⟨C,j,f2,m,r,l⟩:=O it a8
  refine wpAny_pyNext_values_item st (J _ f) M λG U sb=>?_;have I1:Inv X x σ H { s with heap:=G }:=I.turned (t':=s.toks) (λb o Y e=>(sb.2 b Y).trans e) C j m r l
  obtain⟨oi,ei,c,d⟩:=id U;exact⟨u,rfl,sW (s:={ s with heap:=G }) ei c d da ⟨(vs[i]).2,H,I1,y,⟨rfl,by simp[Q]⟩,U,λb Y=>(O b Y).1⟩⟩
 done:=by
  intro X A p B n i x s σ H E I O st q;subst A p B;obtain⟨⟨u0,g⟩,L⟩:=q;have f:s.heap.get? a=Ab o:=(I.hok a _ g).1;obtain⟨C,j,f2,m,r,l⟩:=O it a8
  have hl:=N.length;have zb:us.length<=i:=by rw[<- hl];simpa using L
  exact wpAny_pyNext_values_end (I.ok.hd n) st (J _ f) (by simp;fin2) λG eb=>⟨rfl,I.turned (t':=s.toks) (λb o Y e=>eb b o Y e) C j m r l⟩
 self:=λ_ _ _ _ _ st h=>wpAny_pyIter_valiter st h
def jX (f:DE):DI:=λJ S=>(f J S).bind λd Y=>match d with
 |.loc n=>match Y[n]? with
  |some (.dct Q)=>.ok (Q.map (·.2)) (Y.set n .dead)
  |_=>.bad
 |_=>.bad
theorem iQ {K:Ah}{P:Hp}{α:ag}:∀ {kvs:Aa (bz × D)} {vs:Aa (bz × V)},nk K P α kvs vs->qF K P α (kvs.map (·.2)) (vs.map (·.2))
 |_,_,.nil=>.nil
 |_,_,.cons z t=>.cons z.2 (iQ t)
theorem JX {K:Ah}{P:Hp}{α:ag}{a:Af}(q:P a=Ab (.frz o u))(t:qF K P α ds vs):tw K (X_ a o vs) P α ds where
 go:=λi H J Y S Q r e _=>⟨⟨u,r.sub _ _ (e _ _ q)⟩,by rw[<- t.length];exact Q⟩
 yld:=λi H x C J Y S Q r e O y=>by
  obtain⟨rfl,G⟩:=y;obtain⟨v,U,N⟩:=t.get (An Q);rw[G] at U;cases U;exact⟨J,_,An Q,r,qI.refl _,av.mono e O _ _ N⟩
 stop:=λi H J Y S Q r e _=>⟨⟨u,r.sub _ _ (e _ _ q)⟩,by rw[<- t.length];exact Q⟩
section
variable {X:Cx}{tg o:Cb}{fo:DE}{ki cq:Fc}
theorem U3 {S:aq}{n:Ai}(h:S[n]? = Ab (.dct kvs)):mf (.loc n) S=Ab "dict":=by
 show (match S[n]? with|some (.lst _)=>Ab "list" | some (.dct _)=>Ab "dict" | _=>none)=_
 rw[h]
set_option tactic.hygienic true in
theorem FY (ho:PE X o (tD X fo))(G:Lx o "values" X.env (eval o X.env)=eval o X.env:=by rfl)(U:(ki.endLine == cq.line)=true:=by rfl):PI X tg (.Call (.Attribute o "values" ki) [] [] cq) (so X (jX fo)):=by
 intro aj s σ H R I h;obtain⟨P,α,al,S,r,re,af⟩:=h;refine wpAny_Call_method0_late G U (bv (zR ho I r re af) λvv Q ⟨v,H1,P1,w,d,S1,N,Y⟩=>?_);cases d with
 |loc n =>
  simp only at Y
  split at Y
  .rename_i kvs y
   have A:=N.rep;have M:=N.inv;have E:=N.rel;have ht:mf (.loc n) S1=Ab "dict":=U3 y;obtain⟨h1,m⟩:=U1 M N.val (U2 E A ht a8)
   simp only[av] at A;obtain⟨a,rfl,g⟩:=A;cases (show vv=Cc a from N.val)
   obtain⟨j,z,t⟩:=E.at' n a _ g y;obtain⟨hz,p,B,L,T⟩:=QR M.hok z;refine⟨"dict","dict.values",Pa,Tz,PySem.F.type_dict_values,h1,m,Vj rfl (PySem.evalArgs_none ?_)⟩;refine call_meetsIn Tz T.typeIs PySem.F.entry_dict_values (PySem.F.args_dict_values_1 _) (meets_dict_values (zV X.prog X.w) a p) ⟨⟨B,T⟩,?_⟩;obtain⟨ep,O,es,J,qG⟩:=T.dictAt;have C:∀ h:Bk,h.get? a=Ab O->h.DictAt (zV X.prog X.w) a B ep:=λh e=>⟨O,es,e,qG⟩;have zb:Q.heap.objs.size≠a:=Hd (Az J);obtain⟨i,c⟩:=E.still (o:=.frz O (.dK j)) g y (by intro q;cases q)
   have I2:Inv X aj σ (bw H1 a (.frz O (.dK j))) { Q with heap:=Q.heap,toks:=Q.toks }:=M.write (x:=a) (e:=a) (by rw[z];exact Hz) (.inl rfl) (λb q l e=>e) ⟨O,J⟩ ⟨J,hz,p,B,L,T⟩
   have k:=I2.kept (t':=Q.toks) (h':=Q.heap.push { cls:=.type "dict_values",data:=.fields #[.ref a] }) λb u e=>Aj _ e;refine wpAny_pyIter_values (s:={ Q with heap:=Q.heap.push { cls:=.type "dict_values",data:=.fields #[.ref a] } }) (knd:=zV X.prog X.w) (d:=a) (kvs:=B) (ep:=ep) ⟨_,Bf _ rfl,rfl,rfl⟩ (C _ (Aj _ J)) ?_
   have f:=k.kept (t':=Q.toks) (h':=(Q.heap.push { cls:=.type "dict_values",data:=.fields #[.ref a] }).push { cls:=.type "dict_valueiterator",data:=.fields #[.ref a,.int 0 0,.int B.length 0,.int ep 0] }) λb u e=>Aj _ e;refine⟨_,[_],_,_,_,rfl,f,U0 L C,⟨_,Bf _ rfl,rfl,rfl⟩,λb l=>?_,Y _ _ _ w i (N.same.trans c) N.pre (JX (u:=.dK j) qT (qF.mono c (Br _) _ _ (iQ t)))⟩;have e:b=(Q.heap.push { cls:=.type "dict_values",data:=.fields #[.ref a] }).objs.size:=by simpa using l
   subst e;exact k.fpOk (Av _) (k.hok.fresh (Av _))
  .exact Aq Y
 |_=>exact Aq Y
end
section
theorem UI:Gr "set" = Ab (.type "set"):=by decide +kernel
end
structure wg (X:Cx)(tg it:Cb)(f:qm):Prop where
 get:PI X tg it (pc X f)
structure QK (B:Acc)(Y:Cx)(step:Ad->Lb Po)(k:DK):Prop where
 get:PK B Y step k
section
variable {X Y:Cx}{tg it e o cu bg:Cb}{dh:Aa Cb}{fa fo fe:DE}{fA:DA}{fI:DI}{f2:qm}{g:DG}{t:DT}{kk:DK}{p au:Fc}{k:Ai}{x:Ar}{cm:Au}{bj ff:Aa En}{am:Fq}{N':Aa Ar}{cj:Aa (Al Ai)}{mm:Au}
theorem CL (h:QI X tg it fI):wg X tg it (xU fI):=⟨FX h.1⟩
theorem CK (h:QE X e fa):wg X tg e (mr fa):=⟨IR h.1⟩
theorem NO {e1:Cb}{J:Aa Cb}{N:Ai}{G:Fc}(U:Gl X "enumerate")(hm:X.mg "enumerate" = none)(O:QA X [e1] fA)(hs:Bn [e1] X.env=(false,eval e1 X.env)::Bn [] X.env:=by rfl)(Q:(Gm au (Bn [] X.env)).any (·.1)=false:=by rfl) :
  QI X (.Tuple J N G) (.Call (.Name "enumerate" p) [e1] [] au) (sR fA):=⟨FW U hm O.1 hs Q⟩
theorem NP {U:Fc}(G:QE X o fo)(Q:Lx o "values" X.env (eval o X.env)=eval o X.env:=by rfl)(J:(U.endLine == au.line)=true:=by rfl):QI X tg (.Call (.Attribute o "values" U) [] [] au) (jX fo):=⟨FY G.1 Q J⟩
theorem NQ (J:Y.xe=λ_ _=>Fp)(Q:bj[k+1]? = none)(U:QE Y cu fe):QK kj Y (λaw=>xP false cu bj am au k aw Y.env) (zN fe):=⟨N9 J Q U.1⟩
theorem G7 (N:X.calm=true)(S:dk X.env.scope X.N am N' cj)(hi:wg X tg bg f2)(O:∀ U C G J Q,QG (zA X N' am U C G J Q) tg g)(T:∀ U C G J Q,xf (zA X N' am U C G J Q) dh t)
  (has:∀ g',(⟨tg,bg,dh,0⟩::ff:Aa En)[0+1]? = Ab g'->g'.is_async=0)
  (L:∀ U C G J Q,QK kj (zA X N' am U C G J Q) (λaw=>xP false cu (⟨tg,bg,dh,0⟩::ff) am au 0 aw (zA X N' am U C G J Q).env) kk) (hs:∀ x,Gn bg X.env x=pure x) :
  QE X (.ListComp cu (⟨tg,bg,dh,0⟩::ff) am au) (zH mm cj f2 g t kk):=
 ⟨UW N S hi.1 (λU C G s H=>(O U C G s H).1) (λU C G s H=>(T U C G s H).1) has (λU C G s H=>(L U C G s H).1) hs⟩
theorem GA {m:Ai}{y:Ar}{L N:Fc}(T:X.calm=true)(I:X.N.Nodup)(S:dk X.env.scope X.N am N' cj)(hi:wg X tg bg f2)(A:∀ U C G J Q,QG (zA X N' am U C G J Q) tg g)(z:∀ U C G J Q,xf (zA X N' am U C G J Q) dh t)
  (has:∀ g',(⟨tg,bg,dh,0⟩::ff:Aa En)[0+1]? = Ab g'->g'.is_async=0)
  (E:∀ U C G J Q,QK kj (zA X N' am U C G J Q) (λaw=>xP false cu (⟨tg,bg,dh,0⟩::ff) am au 0 aw (zA X N' am U C G J Q).env) kk) (M:X.N[m]? = Ab y) (O:Loc X.env.scope y) (w:X.fn y=true\/X.env.scope.names.lookup y=Ab .local)
  (hsw:Pj (.ListComp cu (⟨tg,bg,dh,0⟩::ff) am au) (Ab (.Name y L)) N.line X.env=pure true) (hs:∀ x,Gn bg X.env x=pure x):QS X (.Assign [.Name y L] (.ListComp cu (⟨tg,bg,dh,0⟩::ff) am au) N) (qZ (zH mm cj f2 g t kk) (bx m)):=
 ⟨J7 T I S hi.1 (λU C G s H=>(A U C G s H).1) (λU C G s H=>(z U C G s H).1) has (λU C G s H=>(E U C G s H).1) M O w hsw hs⟩
theorem PD:wz X "dict.setdefault" wX:=⟨YK⟩
theorem qAi (Q:ay cm k X.A):js X (Cy .Lt) nX:=⟨EU (by have:=we Q;fin2)⟩
end
def kQ (H:Hp):Aa (Af × HO)->Hp
 |[]=>H
 |p::Q=>kQ (bw H p.1 p.2) Q
theorem lU {b:Af}:∀ {L:Aa (Af × HO)} {H:Hp},b ∉ L.map (·.1)->kQ H L b=H b
 |[],_,_=>rfl
 |p::Q,H,h=>by
  simp only[Ds,Ax,Wh] at h;show kQ (bw H p.1 p.2) Q b=H b;rw[lU h.2,qJ h.1]
theorem cS {b:Af}:∀ {L:Aa (Af × HO)} {H:Hp},kQ H L b=Ab u->(b,u)∈L\/H b=Ab u
 |[],_,h=>.inr h
 |p::Y,H,h=>by
  rcases cS (L:=Y) (H:=bw H p.1 p.2) h with h|h
  .exact .inl (Cd _ h)
  .by_cases Q:b=p.1
   .subst Q
    rw[qT] at h;cases h;exact .inl (Dm ..)
   .rw[qJ Q] at h
    exact .inr h
section
variable {X:Cx}{aj:aa}{σ: _L.St}{H:Hp}{s:Ag}
theorem Inv.laidL {L:Aa (Af × HO)}{h':Bk}{t':Ai}(I:Inv X aj σ H s)(k:∀ b u,s.heap.get? b=Ab u->h'.get? b=Ab u)(hp:∀ p∈L,s.heap.objs.size<=p.1)(J:∀ p∈L,zC X.prog X.w (kQ H L) h' p.1 p.2) :
  Inv X aj σ (kQ H L) { s with heap:=h',toks:=t' }:=by
 have Q:∀ b u,H b=Ab u->kQ H L b=Ab u:=λb u e=>by
  rw[lU (L:=L)]
  .exact e
  .intro hb
   obtain⟨p,Y,rfl⟩:=Ci.mp hb;rw[I.hok.fresh (hp p Y)] at e;cases e
 have G:∀ b,b<s.heap.objs.size->kQ H L b=H b:=λb hb=>lU λU=>by
  obtain⟨p,Y,rfl⟩:=Ci.mp U;exact absurd (Bi hb (hp p Y)) (Ex _)
 refine I.un ⟨λb u q _ _ _=>k b u q,λb u q _ _ _=>⟨u.slots,k b u q⟩,λb u q n _=>by rw[G b (Az q)];exact n,λb u q _=>⟨u,k b u q⟩,λb N q=>Q b _ q,λb o N q=>Q b _ q,λb O q=>⟨#[],by rw[Q b _ q];simp⟩⟩ λb u e=>?_
 rcases cS e with U|hb
 .exact J (b,u) U
 .exact(I.hok b u hb).stay (λc v _ q=>k c v q) (λc q=>Q c _ q) λc N q=>Q c _ q
end
section
variable {X:Cx}{cm:Au}{k:Ai}
theorem AW (Q:X.calm=true):fg X (.builtin "max") bT:=⟨FE Q⟩
theorem AX (Q:X.calm=true):fg X (.builtin "min") bU:=⟨FF Q⟩
theorem LX (Q:ay cm k X.A):js X (Cy .NotIn) jA:=⟨KO Q.units⟩
end
end _D
namespace _S
variable {mask:Ai}{xs:Aw Ai}
def Rs (xs:Aw Ai):Prop:=xs.toList.Pairwise (· < ·)
theorem Rs.lt (h:Rs xs){a b:Ai}{x y:Ai}(Q:a<b)(N:xs[a]? = Ab x)(U:xs[b]? = Ab y):x<y:=by
 obtain⟨G,O⟩:=Dh.mp N;obtain⟨J,Y⟩:=Dh.mp U;have:=Ks.mp h a b (by simpa using G) (by simpa using J) Q
 rw[<- O,<- Y];simpa using this
theorem pj {i x d:Ai}(h:xs[i]? = Ab x):xs.getD i d=x:=by
 obtain⟨Q,Y⟩:=Dh.mp h;simp[Hc,Q,Y]
structure _c (xs:Aw Ai)(j p:Ai):Prop where
 le:p<=xs.size
 lo:∀ i x,i<p->xs[i]? = Ab x->x<j
 hi:∀ i x,p<=i->xs[i]? = Ab x->j<=x
set_option tactic.hygienic true in
theorem fY (h:Rs xs)(j:Ai):∀ (fuel lo hi:Ai),hi-lo<=fuel->lo<=hi->hi<=xs.size ->
  (∀ i x,i<lo->xs[i]? = Ab x->x<j)->(∀ i x,hi<=i->xs[i]? = Ab x->j<=x)->_c xs j (xL xs j fuel lo hi)
 |0,lo,hi,L,C,U,G,J=>by
  have:lo=hi:=by lia
  subst this;exact⟨U,G,J⟩
 |fuel+1,lo,hi,L,C,U,G,J=>by
  unfold xL;by_cases Y:lo<hi
  .rw[Ay Y]
   have B:(lo+hi)/2<xs.size:=by lia
   have e:xs[(lo+hi)/2]? = Ab xs[(lo+hi)/2]:=Ei B;simp only[pj e]
   split
   .rename_i N
    refine fY h j fuel _ hi ak ak U (λi x O Q=>?_) J
    by_cases q:i=(lo+hi)/2
    .subst q;rw[e] at Q;cases Q;exact N
    .exact Ji (h.lt ak Q e) N
   .rename_i N
    refine fY h j fuel lo _ ak ak ak G (λi x O Q=>?_)
    by_cases q:i=(lo+hi)/2
    .subst q;rw[e] at Q;cases Q;lia
    .have:=h.lt (show (lo+hi)/2<i by lia) e Q
     lia
  .rw[AT Y]
   have:lo=hi:=by lia
   subst this;exact⟨U,G,J⟩
theorem j7 (h:Rs xs)(j:Ai):_c xs j (Cq xs j):=
 fY h j _ _ _ ak ak (Av _) (λi x Q=>by lia) λi x Q Y=>by
  have:=(Dh.mp Y).1
  lia
theorem fX (h:Rs xs){i j:Ai}(e:xs[i]? = Ab j):Cq xs j=i:=by
 have b:=j7 h j;have U:=(Dh.mp e).1;by_cases J:Cq xs j<i
 .have Q:xs[Cq xs j]? = Ab xs[Cq xs j]:=Ei ak
  have:=h.lt J Q e;have:=b.hi _ _ (Av _) Q
  lia
 .by_cases Y:i<Cq xs j
  .have:=b.lo _ _ Y e
   lia
  .lia
theorem QC (h:Rs xs){i j:Ai}(e:xs[i]? = Ab j):Cq xs (j+1)=i+1:=by
 have b:=j7 h (j+1);have U:=(Dh.mp e).1;have G:i<Cq xs (j+1):=by
  apply Ge;intro q;have:=b.hi _ _ ak e
  lia
 by_cases Y:i+1<Cq xs (j+1)
 .have J:i+1<xs.size:=by have:=b.le;lia
  have Q:xs[i+1]? = Ab xs[i+1]:=Ei J;have:=b.lo _ _ Y Q;have:=h.lt (Nb i) e Q
  lia
 .lia
theorem QD (h:Rs xs):Cq xs 0=0:=by
 have b:=j7 h 0;apply Ge;intro q;have Y:0<xs.size:=by have:=b.le;lia
 have Q:xs[0]? = Ab xs[0]:=Ei Y;have:=b.lo _ _ ak Q
 lia
structure Tb (t:Gb):Prop where
 rs:Rs t.place
 dm:t.dummies=#[]
theorem iC (j:Ai):Zt #[] j=false:=by simp[Zt]
theorem sD {t:Gb}(T:Tb t){i j:Ai}(e:t.place[i]? = Ab j):t.slot j=.live i:=by
 unfold AbK;simp only[fX T.rs e,e];simp
theorem X0 {t:Gb}(T:Tb t)(j:Ai):(∃ i,t.slot j=.live i/\t.place[i]? = Ab j)\/(t.slot j=.empty/\j ∉ t.place.toList):=by
 by_cases h:j∈t.place.toList
 .obtain⟨i,Y,e⟩:=Cp.mp h
  have Q:t.place[i]? = Ab j:=by rw[<- Bq,An Y,e]
  exact .inl ⟨i,sD T Q,Q⟩
 .refine .inr ⟨?_,h⟩
  unfold AbK;simp only[T.dm,iC];rw[AT,AT a8]
  intro q;apply h;have:t.place[Cq t.place j]? = Ab j:=by simpa using q
  obtain⟨U,J⟩:=Dh.mp this;rw[<- J];simp
theorem VS (h:Rs xs){j:Ai}(O:j ∉ xs.toList):Rs (Ch xs (Cq xs j) j):=by
 have b:=j7 h j;unfold Rs;rw[T0];have Y:∀ (i:Ai) (x:Ai),xs.toList[i]? = Ab x->(i<Cq xs j->x<j)/\(Cq xs j<=i->j<x):=λi x e=>by
  have G:xs[i]? = Ab x:=by rw[<- Bq];exact e
  refine⟨λq=>b.lo _ _ q G,λq=>?_⟩;have C:=b.hi _ _ q G;have:x≠j:=by
   rintro rfl;exact O (Bw e)
  lia
 have U:∀ x∈xs.toList.take (Cq xs j),x<j:=λx Q=>by
  obtain⟨i,J,e⟩:=Cp.mp Q;rw[Dx] at J;rw[Ti] at e;exact(Y i x (by rw[An ak,e])).1 ak
 have N:∀ x∈xs.toList.drop (Cq xs j),j<x:=λx Q=>by
  obtain⟨i,J,e⟩:=Cp.mp Q;rw[Gg] at J;rw[Tj] at e;exact(Y (Cq xs j+i) x (by rw[An ak,e])).2 ak
 rw[Dz,Ea];refine⟨List.Pairwise.take h,⟨N,List.Pairwise.drop h⟩,λx Q y hy=>?_⟩;rcases Ax.mp hy with rfl|hy
 .exact U x Q
 .exact Ji (U x Q) (N y hy)
theorem tB {α:Type}(xs:Aw α){p:Ai}(hp:p<=xs.size)(x:α)(i:Ai):(Ch xs p x)[i]? = if i<p then xs[i]? else if i=p then Ab x else xs[i-1]?:=by
 rw[<- Bq,T0];have U:(xs.toList.take p).length=p:=by simp;lia
 by_cases Q:i<p
 .rw[Ay Q,Bo ak,Ol Q,Bq]
 .rw[AT Q,Dk ak,U]
  by_cases Y:i=p
  .subst Y;simp
  .rw[AT Y]
   obtain⟨k,J⟩:∃ k,i-p=k+1:=⟨i-p-1,by lia⟩
   rw[J,Pb,Zg,Bq]
   congr 1;lia
theorem uA {α:Type}(xs:Aw α)(p:Ai)(x:α):(Ch xs p x).size=xs.size+1:=by
 have:=(Jr xs p x).length_eq;simpa using this
theorem HV {t:Gb}(T:Tb t){j:Ai}(Q:j ∉ t.place.toList):Tb (t.put j).1:=by
 refine⟨VS T.rs Q,?_⟩;show (if Zt t.dummies j then _ else t.dummies)=#[]
 rw[T.dm,iC];rfl
open PySem.SetTable (Probe leap runEnd turns bits)
noncomputable def ou (mask:Ai)(p:Pk):Pk:=if p.more>0 then { p with j:=p.j+1,more:=p.more-1 } else { p with j:=(leap mask p.i p.perturb).1,more:=Ig mask (leap mask p.i p.perturb).1-(leap mask p.i p.perturb).1,i:=(leap mask p.i p.perturb).1,perturb:=(leap mask p.i p.perturb).2 }
theorem D9 (t:Gb)(p:Pk):t.advance p=ou t.mask p:=rfl
def it (mask:Ai):Ai->Pk->Pk
 |0,p=>p
 |n+1,p=>it mask n (ou mask p)
theorem bX (mask:Ai):∀ (n:Ai) (p:Pk),it mask (n+1) p=ou mask (it mask n p)
 |0,p=>rfl
 |n+1,p=>bX mask n (ou mask p)
theorem tG (mask:Ai):∀ (m n:Ai) (p:Pk),it mask (m+n) p=it mask n (it mask m p)
 |0,n,p=>by rw[Ik];rfl
 |m+1,n,p=>by rw[Se];exact tG mask m n (ou mask p)
noncomputable def rs (mask i Q:Ai):Pk:={ j:=i,more:=Ig mask i-i,i,perturb:=Q,dummy:=none }
def st (mask:Ai)(h:Am):Pk:=rs mask (bits h % (mask+1)) (bits h)
theorem qAT (t:Gb)(h:Am):t.probeStart h=st t.mask h:=rfl
theorem bE (mask i Q:Ai):∀ k,k<=Ig mask i-i->it mask k (rs mask i Q)={ j:=i+k,more:=Ig mask i-i-k,i,perturb:=Q,dummy:=none }
 |0,_=>rfl
 |k+1,Y=>by
  rw[bX,bE mask i Q k ak]
  unfold ou;rw[Ay (by show Ig mask i-i-k>0;lia)]
  simp only[Probe.mk.injEq,and_true,true_and]
  lia
theorem iL (mask i Q:Ai):it mask (Ig mask i-i+1) (rs mask i Q)=rs mask (leap mask i Q).1 (leap mask i Q).2:=by
 rw[bX,bE mask i Q _ (Av _)];unfold ou;rw[AT (by show ¬ (Ig mask i-i-(Ig mask i-i)>0);lia)]
 rfl
theorem CV (mask i:Ai):Ig mask i-i+1<=10:=by
 unfold Ig
 split <;> lia
def lp (mask:Ai):Ai->Ai × Ai->Ai × Ai
 |0,q=>q
 |n+1,q=>lp mask n (leap mask q.1 q.2)
theorem YE (mask:Ai):∀ (m n:Ai) (q:Ai × Ai),lp mask (m+n) q=lp mask n (lp mask m q)
 |0,n,p=>by rw[Ik];rfl
 |m+1,n,p=>by rw[Se];exact YE mask m n _
theorem BC (mask:Ai):∀ (n i Q:Ai),∃ k,k<=10*n/\it mask k (rs mask i Q)=rs mask (lp mask n (i,Q)).1 (lp mask n (i,Q)).2
 |0,i,Q=>⟨0,by lia,rfl⟩
 |n+1,i,Q=>by
  obtain⟨k,Y,e⟩:=BC mask n (leap mask i Q).1 (leap mask i Q).2;refine⟨(Ig mask i-i+1)+k,by have:=CV mask i;lia,?_⟩
  rw[tG,iL,e];rfl
theorem iV (mask:Ai):∀ (n i Q:Ai),(lp mask n (i,Q)).2=Q/32 ^ n
 |0,i,Q=>by simp[lp]
 |n+1,i,Q=>by
  show (lp mask n ((leap mask i Q).1,Q/32)).2=_;rw[iV mask n _ (Q/32),Nat.div_div_eq_div_mul,<- Nat.pow_succ']
theorem l6 (mask i Q:Ai):(leap mask i Q).1<=mask:=Mm (Rh _ (Pc _))
theorem BG (mask:Ai):∀ (n i Q:Ai),i<=mask->(lp mask n (i,Q)).1<=mask
 |0,i,Q,h=>h
 |n+1,i,Q,h=>BG mask n _ _ (l6 mask i Q)
theorem aR (h:Am):bits h<2 ^ 64:=by
 unfold bits;have Q:(0:Am)<=h % 2 ^ 64:=NE _ da
 have Y:h % 2 ^ 64<(2 ^ 64:Am):=Lu _ da
 lia
def sj (mask:Ai):Ai->Ai->Ai
 |0,i=>i
 |n+1,i=>sj mask n ((i*5+1) % (mask+1))
theorem bP (mask:Ai):∀ (m n i:Ai),sj mask (m+n) i=sj mask n (sj mask m i)
 |0,n,p=>by rw[Ik];rfl
 |m+1,n,p=>by rw[Se];exact bP mask m n _
theorem YF (mask:Ai):∀ (n i:Ai),(lp mask n (i,0)).1=sj mask n i
 |0,i=>rfl
 |n+1,i=>by
  show (lp mask n (leap mask i 0)).1=_;have:leap mask i 0=((i*5+1) % (mask+1),0):=by simp[leap]
  rw[this,YF mask n];rfl
def qt (mask:Ai):Prop:=mask=7\/mask=31\/mask=127\/mask=511\/mask=2047
noncomputable def wp (mask:Ai):Ai->Ai->Ai->Ai
 |0,_,Q=>Q
 |n+1,i,Q=>wp mask n ((i*5+1) % (mask+1)) (Q ||| 1 <<< i)
def W1 (mask:Ai):Au:=wp mask (mask+1) 0 0 == 2 ^ (mask+1)-1&&sj mask (mask+1) 0 == 0
theorem W2 (h:qt mask):W1 mask=true:=by
 rcases h with rfl|rfl|rfl|rfl|rfl <;> decide +kernel
theorem oA (mask e:Ai):∀ (n i aw:Ai),(wp mask n i aw).testBit e=true->aw.testBit e=true\/∃ m,m<n/\sj mask m i=e
 |0,i,aw,h=>.inl h
 |n+1,i,aw,h=>by
  rcases oA mask e n _ _ h with q|⟨m,Q,q⟩
  .rw[Nat.testBit_or,Ny] at q
   rcases q with q|q
   .exact .inl q
   .rw[Nat.one_shiftLeft,Nat.testBit_two_pow,Ce] at q
    exact .inr ⟨0,by lia,q⟩
  .exact .inr ⟨m+1,by lia,q⟩
theorem UT (h:qt mask){i e:Ai}(hi:i<=mask)(Y:e<=mask):∃ n,n<=mask/\sj mask n i=e:=by
 have a:=W2 h;unfold W1 at a;rw[Bj] at a;obtain⟨Q,N⟩:=a;have Q:wp mask (mask+1) 0 0=2 ^ (mask+1)-1:=by simpa using Q
 have g:∀ e,e<=mask->∃ n,n<=mask/\sj mask n 0=e:=λe Y=>by
  have q:(wp mask (mask+1) 0 0).testBit e=true:=by rw[Q,Nat.testBit_two_pow_sub_one];simp;lia
  rcases oA mask e _ _ _ q with q|⟨n,U,q⟩
  .simp at q
  .exact⟨n,by lia,q⟩
 have G:sj mask (mask+1) 0=0:=by simpa using N
 obtain⟨m,O,em⟩:=g i hi;obtain⟨n,U,J⟩:=g e Y;by_cases q:m<=n
 .refine⟨n-m,by lia,?_⟩
  rw[<- em,<- bP,show m+(n-m)=n by lia]
  exact J
 .refine⟨n+(mask+1)-m,by lia,?_⟩
  rw[<- em,<- bP,show m+(n+(mask+1)-m)=(mask+1)+n by lia,bP,G]
  exact J
theorem eX (h:qt mask){i Q e:Ai}(hi:i<=mask)(hp:Q<2 ^ 64)(J:e<=mask):∃ n,n<=mask+13/\(lp mask n (i,Q)).1=e:=by
 have Y:(lp mask 13 (i,Q)).2=0:=by
  rw[iV];apply Nat.div_eq_of_lt;exact Ji hp da
 obtain⟨n,U,q⟩:=UT h (BG mask 13 i Q hi) J;refine⟨13+n,by lia,?_⟩
 rw[YE];have:lp mask 13 (i,Q)=((lp mask 13 (i,Q)).1,0):=by rw[<- Y]
 rw[this,YF];exact q
theorem eS (h:qt mask)(hs:Am){e:Ai}(Q:e<=mask):∃ n,n<10*turns mask/\(it mask n (st mask hs)).j=e:=by
 obtain⟨n,U,q⟩:=eX h (i:=bits hs % (mask+1)) (Mm (Rh _ (Pc _))) (aR hs) Q;obtain⟨k,J,Y⟩:=BC mask n (bits hs % (mask+1)) (bits hs);refine⟨k,by unfold turns;lia,?_⟩
 show (it mask k (rs mask _ _)).j=e;rw[Y];exact q
theorem mG (mask:Ai):∀ (n:Ai) (p:Pk),(it mask n p).dummy=p.dummy
 |0,p=>rfl
 |n+1,p=>by
  show (it mask n (ou mask p)).dummy=_;rw[mG mask n];unfold ou
  split <;> rfl
def p_ (t:Gb)(p:Pk)(n:Ai):Prop:=∀ m,m<n->(it t.mask m p).j∈t.place.toList
inductive Meets (t:Gb)(hashAt:Ai->Am)(h:Am)(p:Pk)(fuel:Ai):Al SetTable.Met->Prop
 |emp (n:Ai) (hn:n<fuel) (w:p_ t p n) (e:(it t.mask n p).j ∉ t.place.toList) (q:∀ m i,m<n->t.place[i]? = Ab (it t.mask m p).j->hashAt i≠h):Meets t hashAt h p fuel (Ab (.empty (it t.mask n p).j none))
 |cand (n i:Ai) (hn:n<fuel) (w:p_ t p n) (e:t.place[i]? = Ab (it t.mask n p).j) (hh:hashAt i=h) (q:∀ m i,m<n->t.place[i]? = Ab (it t.mask m p).j->hashAt i≠h):Meets t hashAt h p fuel (Ab (.candidate (it t.mask n p).j i (it t.mask (n+1) p)))
theorem VR (h:Rs xs){a b x:Ai}(Y:xs[a]? = Ab x)(Q:xs[b]? = Ab x):a=b:=by rw[<- fX h Y,fX h Q]
set_option tactic.hygienic true in
theorem gU {t:Gb}(T:Tb t)(hashAt:Ai->Am)(h:Am):∀ (fuel:Ai) (p:Pk),p.dummy=none->(∃ n,n<fuel/\(it t.mask n p).j ∉ t.place.toList)->Meets t hashAt h p fuel (Mn t hashAt h fuel p)
 |0,p,_,⟨n,u,_⟩=>by lia
 |fuel+1,p,H,⟨n,u,Y⟩=>by
  unfold Mn;rcases X0 T p.j with⟨i,e,G⟩|⟨e,q⟩
  .rw[e]
   simp only
   split
   .rename_i E
    exact Meets.cand 0 i ak (λm Q=>by lia) G (by simpa using E) λm i Q=>by lia
   .rename_i E
    have I:hashAt i≠h:=by simpa using E
    have z:n≠0:=by
     rintro rfl;exact Y (Bw (by rw[Bq];exact G))
    obtain⟨O,rfl⟩:∃ O,n=O+1:=⟨n-1,by lia⟩
    have M:=gU T hashAt h fuel (ou t.mask p) (by rw[<- H];exact mG t.mask 1 p) ⟨O,by lia,Y⟩
    rw[D9];have J:p.j∈t.place.toList:=Bw (by rw[Bq];exact G)
    have up:∀ {k:Ai},p_ t (ou t.mask p) k->p_ t p (k+1):=λ{k} w m Q=>by
     cases m with
     |zero=>exact J
     |succ m=>exact w m ak
    have U:∀ {k:Ai},(∀ m i,m<k->t.place[i]? = Ab (it t.mask m (ou t.mask p)).j->hashAt i≠h)->∀ m i,m<k+1->t.place[i]? = Ab (it t.mask m p).j->hashAt i≠h:=λ{k} q m C Q A=>by
     cases m with
     |zero=>rw[VR T.rs A G];exact I
     |succ m=>exact q m C ak A
    generalize o:Mn t hashAt h fuel (ou t.mask p)=r at M;cases M with
    |emp k y w B N=>exact Meets.emp (p:=p) (k+1) ak (up w) B (U N)
    |cand k C y w B L N=>exact Meets.cand (p:=p) (k+1) C ak (up w) B L (U N)
  .rw[e]
   simp only[H];exact Meets.emp (p:=p) 0 ak (λm Q=>by lia) q λm i Q=>by lia
end _S
namespace _S
open PySem.SetTable (Probe leap runEnd turns bits)
variable {us:Aa Ai}{mask:Ai}{owner:Aw (Al Ai)}
structure tj (mask:Ai)(owner:Aw (Al Ai))(us:Aa Ai):Prop where
 size:owner.size=mask+1
 nd:us.Nodup
 le:∀ u∈us,u<=mask
 at':∀ j k,j<=mask->(owner.getD j (Ab 0)=Ab k↔us[k]? = Ab j)
theorem lP {i:Ai}(hi:i<=mask):Ig mask i<=mask:=by
 unfold Ig
 split <;> lia
theorem lQ (mask i:Ai):i<=Ig mask i:=by
 unfold Ig
 split <;> lia
theorem tj.none (O:tj mask owner us){j:Ai}(Q:j<=mask):(owner.getD j (Ab 0)).isNone=true↔j ∉ us:=by
 constructor
 .intro h J
  obtain⟨k,Y,e⟩:=Cp.mp J;have:=(O.at' j k Q).mpr (by rw[An Y,e])
  rw[this] at h;cases h
 .intro h
  cases q:owner.getD j (Ab 0) with
  |none=>rfl
  |some k=>exact absurd (Bw ((O.at' j k Q).mp q)) h
theorem dN (O:tj mask owner us):∀ (fuel i Q:Ai),i<=mask->(∃ L,L<fuel/\(lp mask L (i,Q)).1 ∉ us) ->
  ∃ n,Js mask owner fuel i Q=Ab (it mask n (rs mask i Q)).j/\(it mask n (rs mask i Q)).j<=mask/\(it mask n (rs mask i Q)).j ∉ us/\∀ m,m<n->(it mask m (rs mask i Q)).j∈us
 |0,i,Q,B,⟨L,y,_⟩=>by lia
 |fuel+1,i,Q,B,⟨L,y,J⟩=>by
  unfold Js;have z:=lP B;have A:=lQ mask i;cases E:(Dd (Ig mask i+1-i)).find? λk=>(owner.getD (i+k) (Ab 0)).isNone with
  |some k =>
   obtain⟨u,I,l⟩:=List.find?_range_eq_some.mp E;have C:k<Ig mask i+1-i:=Fe.mp I;have G:(it mask k (rs mask i Q)).j=i+k:=by rw[bE mask i Q k ak]
   refine⟨k,?_,?_,?_,λm T=>?_⟩
   .rw[G]
   .rw[G];lia
   .rw[G];exact(O.none ak).mp u
   .rw[bE mask i Q m ak]
    have:=l m T;apply Ge;intro q;rw[(O.none (show i+m<=mask by lia)).mpr q] at this
    cases this
  |none =>
   have Y:∀ k,k<Ig mask i+1-i->i+k∈us:=λk C=>by
    have:=Jz.mp E k (Fe.mpr C);apply Ge;intro q;exact this ((O.none (show i+k<=mask by lia)).mpr q)
   have w:L≠0:=by
    rintro rfl;exact J (Y 0 ak)
   obtain⟨N,rfl⟩:∃ N,L=N+1:=⟨L-1,by lia⟩
   obtain⟨n,M,p,g,H⟩:=dN O fuel (leap mask i Q).1 (leap mask i Q).2 (l6 mask i Q) ⟨N,by lia,J⟩
   have e:∀ m,it mask (Ig mask i-i+1+m) (rs mask i Q)=it mask m (rs mask (leap mask i Q).1 (leap mask i Q).2):=λm=>by rw[tG,iL]
   refine⟨Ig mask i-i+1+n,?_,?_,?_,λm T=>?_⟩
   .rw[e];exact M
   .rw[e];exact p
   .rw[e];exact g
   .by_cases o:m<Ig mask i-i+1
    .rw[bE mask i Q m ak]
     exact Y m ak
    .obtain⟨U,rfl⟩:∃ U,m=Ig mask i-i+1+U:=⟨m-(Ig mask i-i+1),by lia⟩
     rw[e];exact H U ak
theorem gap (h:us.length<=mask):∃ e,e<=mask/\e ∉ us:=by
 apply Ge;intro q;have:Dd (mask+1) ⊆ us:=λe Q=>by
  apply Ge;intro r;exact q ⟨e,by have:=Fe.mp Q;lia,r⟩
 have:=List.Nodup.length_le_of_subset AaL this;rw[Ev] at this
 lia
theorem N4 (mask:Ai):tj mask (Array.replicate (mask+1) none) []:=by
 refine⟨by simp,Pg,λu Q=>by simp at Q,λj k Y=>?_⟩
 have:j<mask+1:=by lia
 simp[Hc,this]
theorem KS (O:tj mask owner us){j:Ai}(H:j<=mask)(N:j ∉ us):tj mask (owner.setIfInBounds j (Ab us.length)) (us++[j]):=by
 refine⟨by simp[O.size],?_,λu I=>?_,λi k T=>?_⟩
 .rw[Kr]
  refine⟨O.nd,by simp,λa E b C=>?_⟩
  simp at C;rintro rfl;subst C;exact N E
 .rcases Bv.mp I with h|h
  .exact O.le u h
  .simp at h;lia
 .have L:=O.size
  have Y:i<owner.size:=by lia
  have B:∀ {k},us[k]? = Ab i->k<us.length:=λq=>(Bd.mp q).1;by_cases Q:j=i
  .subst Q
   have G:(owner.setIfInBounds j (Ab us.length)).getD j (Ab 0)=Ab us.length:=by simp[Hc,Y]
   rw[G];constructor
   .intro q;cases q;simp
   .intro q
    by_cases U:k<us.length
    .rw[Bo U] at q
     exact absurd (Bw q) N
    .rw[Dk ak] at q
     have:k-us.length=0:=by
      cases J:k-us.length with
      |zero=>rfl
      |succ z=>rw[J] at q;simp at q
     congr 1;lia
  .have G:(owner.setIfInBounds j (Ab us.length)).getD i (Ab 0)=owner.getD i (Ab 0):=by
    simp[Hc,Y,Array.getElem_setIfInBounds,Q]
   rw[G,O.at' i k T];constructor
   .intro q;rw[Bo (B q)];exact q
   .intro q
    by_cases U:k<us.length
    .rw[Bo U] at q;exact q
    .rw[Dk ak] at q
     cases J:k-us.length with
     |zero=>rw[J] at q;simp at q;exact absurd q Q
     |succ z=>rw[J] at q;simp at q
def Q3 (mask:Ai)(us:Aa Ai)(hs:Aa Am):Prop:=∀ (k:Ai) (h:Am),hs[k]? = Ab h->∃ n,us[k]? = Ab (it mask n (st mask h)).j/\∀ m,m<n->(it mask m (st mask h)).j∈us
theorem dM (A:qt mask):∀ (hs done:Aa Am) (owner:Aw (Al Ai)) (us:Aa Ai),tj mask owner us->us.length=done.length->done.length+hs.length<=mask->Q3 mask us done ->
  ∃ Q Y,hs.foldl (λaw h=>do
   let (owner,k) <- aw
   let j <- Js mask owner (turns mask) (bits h % (mask+1)) (bits h)
   pure (owner.setIfInBounds j (Ab k),k+1)) (Ab (owner,us.length))=Ab (Q,Y.length)/\tj mask Q Y/\Y.length=done.length+hs.length/\Q3 mask Y (done++hs)
 |[],done,owner,us,O,G,_,I=>⟨owner,us,rfl,O,by simpa using G,by simpa using I⟩
 |h::hs,done,owner,us,O,G,U,I=>by
  rw[Ba] at U;obtain⟨e,u,E⟩:=gap (mask:=mask) (us:=us) ak
  obtain⟨L,d,C⟩:=eX A (i:=bits h % (mask+1)) (Mm (Rh _ (Pc _))) (aR h) u;obtain⟨n,o,v,t,q⟩:=dN O (turns mask) (bits h % (mask+1)) (bits h) (Mm (Rh _ (Pc _))) ⟨L,by unfold turns;lia,by rw[C];exact E⟩
  have s:=KS O v t;have B:Q3 mask (us++[(it mask n (rs mask (bits h % (mask+1)) (bits h))).j]) (done++[h]):=λk l J=>by
   by_cases M:k<done.length
   .rw[Bo M] at J
    obtain⟨p,y,g⟩:=I k l J;exact⟨p,by rw[Bo ak];exact y,λm T=>Dp _ (g m T)⟩
   .rw[Dk ak] at J
    cases N:k-done.length with
    |succ z=>rw[N] at J;simp at J
    |zero =>
     rw[N] at J;simp at J;subst J;refine⟨n,?_,λm T=>Dp _ (q m T)⟩;rw[Dk ak,G,N]
     rfl
  obtain⟨Q,Y,H,w,r,c⟩:=dM A hs (done++[h]) _ _ s (by simp[G]) (by simp;lia) B
  refine⟨Q,Y,?_,w,by simpa [Nn,Qz 1] using r,by simpa using c⟩
  rw[Oa];rw[Bb] at H;have f:(do
   let (owner,k) <- Ab (owner,us.length)
   let j <- Js mask owner (turns mask) (bits h % (mask+1)) (bits h)
   pure (owner.setIfInBounds j (Ab k),k+1))=Ab (owner.setIfInBounds (it mask n (rs mask (bits h % (mask+1)) (bits h))).j (Ab us.length),us.length+1):=by
   show (Js mask owner (turns mask) (bits h % (mask+1)) (bits h)).bind _=_;rw[o];rfl
  rw[f];exact H
theorem sJ (C:qt mask)(hs:Aw Am)(Y:hs.size<=mask):∃ owner us,Aa0 mask hs=Ab owner/\tj mask owner us/\us.length=hs.size/\Q3 mask us hs.toList:=by
 obtain⟨Q,J,U,N,G,O⟩:=dM C hs.toList [] _ [] (N4 mask) rfl (by simpa using Y) (λk h e=>by simp at e)
 refine⟨Q,J,?_,N,by simpa using G,by simpa using O⟩
 unfold Aa0;rw[<- Array.foldl_toList];have:(([]:Aa Ai).length)=0:=rfl;rw[this] at U
 erw [U]
 rfl
structure Laid (mask:Ai)(hs:Aw Am)(t:Gb)(qV:Aw Ai):Prop where
 msk:t.mask=mask
 tb:Tb t
 size:t.place.size=hs.size
 le:∀ x∈t.place.toList,x<=mask
 perm:qV.toList.Perm (Dd hs.size)
 way:∀ (i k:Ai) (h:Am),qV[i]? = Ab k->hs[k]? = Ab h->∃ n,t.place[i]? = Ab (it mask n (st mask h)).j/\p_ t (st mask h) n
theorem YA (hM:qt mask)(hs:Aw Am)(B:hs.size<=mask)(finger moves:Ai)(led plain:Au) :
  ∃ t qV,Yf mask finger moves led plain hs=Ab (t,qV)/\t.led=led/\t.plain=plain/\Laid mask hs t qV:=by
 obtain⟨owner,us,e,O,d,hL⟩:=sJ hM hs B;have u:∀ j,j<=mask->owner.getD j none=owner.getD j (Ab 0):=λj M=>by
  have:j<owner.size:=by rw[O.size];lia
  simp[Hc,this]
 generalize G:((Dd (mask+1)).filterMap λj=>(owner.getD j none).map (j,·))=live
 have mem:∀ (j k:Ai),(j,k)∈live↔us[k]? = Ab j:=λj k=>by
  rw[<- G,Lp];constructor
  .rintro⟨L,T,q⟩
   have U:L<=mask:=by have:=Fe.mp T;lia
   rw[u L U] at q;cases Y:owner.getD L (Ab 0) with
   |none=>rw[Y] at q;cases q
   |some o =>
    rw[Y] at q;simp at q;obtain⟨rfl,rfl⟩:=q;exact(O.at' _ _ U).mp Y
  .intro q
   have M:j<=mask:=O.le j (Bw q);refine⟨j,Fe.mpr ak,?_⟩
   rw[u j M,(O.at' j k M).mpr q];rfl
 have C:live.map (·.1)=(Dd (mask+1)).filter λj=>(owner.getD j none).isSome:=by
  rw[<- G,List.map_filterMap];generalize owner.getD=f
  induction Dd (mask+1) with
  |nil=>rfl
  |cons a l p =>
   rw[Gy,Px];cases Y:f a none with
   |none=>simpa using p
   |some k=>simpa using p
 have y:(live.map (·.1)).Pairwise (· < ·):=by
  rw[C];exact List.Pairwise.filter _ List.pairwise_lt_range
 have A:(live.map (·.2)).Nodup:=by
  unfold Ab1;rw[Gp];have N:=Gp.mp y;refine TD (λ{a b} ha hb zb=>?_) N;intro q;have c:=(mem a.1 a.2).mp ha;have g:=(mem b.1 b.2).mp hb;rw[<- q,c] at g;simp at g
  lia
 have z:(live.map (·.2)).Perm (Dd hs.size):=by
  rw[List.perm_ext_iff_of_nodup A AaL];intro k;rw[Ci,Fe,<- d];constructor
  .rintro⟨⟨j,o⟩,N,rfl⟩
   exact(Bd.mp ((mem j o).mp N)).1
  .intro I
   exact⟨(us[k],k),(mem _ _).mpr (An I),rfl⟩
 have J:∀ j,j∈live.map (·.1)↔j∈us:=λj=>by
  rw[Ci];constructor
  .rintro⟨⟨L,k⟩,N,rfl⟩
   exact Bw ((mem _ _).mp N)
  .intro N
   obtain⟨k,I,e⟩:=Cp.mp N;exact⟨(j,k),(mem _ _).mpr (by rw[An I,e]),rfl⟩
 refine⟨{ mask,place:=(live.map (·.1)).toArray,dummies:=#[],finger,led,moves,plain },(live.map (·.2)).toArray,?_,rfl,rfl,rfl,⟨?_,rfl⟩,?_,λx hx=>?_,?_,λi k h r e2=>?_⟩
 .unfold Yf
  rw[e,<- G];rfl
 .exact y
 .have:=z.length_eq
  simp at this ⊢;exact this
 .exact O.le x ((J x).mp hx)
 .exact z
 .have Q:(live.map (·.2))[i]? = Ab k:=by simpa using r
  rw[Ee] at Q;cases Y:live[i]? with
  |none=>rw[Y] at Q;cases Q
  |some w =>
   rw[Y] at Q;simp at Q;have E:=Bw Y;have s:=(mem w.1 w.2).mp E;obtain⟨n,H,w2⟩:=hL k h (by rw[Bq];exact e2)
   rw[<- Q] at H;rw[s] at H;refine⟨n,?_,λm v=>?_⟩
   .rw[<- H]
    simp[Y]
   .have:=(J _).mpr (w2 m v)
    simpa using this
theorem LB {t:Gb}:SetTable.relaid t hs w=Yf (Fo w-1) t.finger (t.movedTo (Fo w-1)) t.led t.plain hs:=rfl
end _S
namespace _S
open PySem.SetTable (Probe leap runEnd turns bits)
structure f_ {K:Type}(is:K->Ad->Prop)(hash:K->Am)(es:Aw (Am × Ad))(seen:Aa K):Prop where
 good:∀ e∈es.toList,∃ k,e.1=hash k/\is k e.2
 nd:es.toList.Pairwise λa b=>∀ k,is k a.2->¬ is k b.2
 mem:∀ k,k∈seen↔∃ e∈es.toList,is k e.2
section
variable {K:Type}{is:K->Ad->Prop}{az:K->Am}{es ly:Aw (Am × Ad)}{seen:Aa K}
theorem f_.perm (Z:f_ is az es seen)(p:ly.toList.Perm es.toList):f_ is az ly seen:=
 ⟨λe Q=>Z.good e (p.mem_iff.mp Q),(p.pairwise_iff λ{x y} h k J Y=>h k Y J).mpr Z.nd,λk=>(Z.mem k).trans ⟨λ⟨e,Q,q⟩=>⟨e,p.mem_iff.mpr Q,q⟩,λ⟨e,Q,q⟩=>⟨e,p.mem_iff.mp Q,q⟩⟩⟩
theorem f_.nil:f_ is az #[] []:=⟨λe Q=>by simp at Q,by simp,λk=>by simp⟩
theorem f_.push (Z:f_ is az es seen)(Q:∀ {k Y:K} {v:Ad},is k v->is Y v->k=Y){k:K}{x:Ad}(J:is k x)(N:k ∉ seen)(p:ly.toList.Perm (es.toList++[(az k,x)])):f_ is az ly (k::seen):=by
 refine f_.perm (es:=es.push (az k,x)) ⟨λe he=>?_,?_,λY=>?_⟩ (by simpa using p)
 .rw[Eo] at he
  rcases Bv.mp he with he|he
  .exact Z.good e he
  .simp at he;subst he;exact⟨k,rfl,J⟩
 .rw[Eo,Dz]
  refine⟨Z.nd,by simp,λa C b U Y O G=>?_⟩
  simp at U;subst U;have:=Q J G;subst this;exact N ((Z.mem k).mpr ⟨a,C,O⟩)
 .rw[Ax,Z.mem,Eo]
  constructor
  .rintro (rfl|⟨e,he,q⟩)
   .exact⟨(az Y,x),by simp,J⟩
   .exact⟨e,Dp _ he,q⟩
  .rintro⟨e,he,q⟩
   rcases Bv.mp he with he|he
   .exact .inr ⟨e,he,q⟩
   .simp at he;subst he;exact .inl (Q q J)
theorem f_.again (Z:f_ is az es seen){k:K}(Q:k∈seen):f_ is az es (k::seen):=
 ⟨Z.good,Z.nd,λY=>by rw[Ax,Z.mem];exact⟨λh=>h.elim (λe=>by subst e;exact(Z.mem _).mp Q) id,.inr⟩⟩
end
section
open Classical in
theorem mI {K:Type}{is:K->Ad->Prop}:∀ (L:Aa (Am × Ad)) (U:Aa K),L.Pairwise (λa b=>∀ k,is k a.2->¬ is k b.2)->(∀ e∈L,∃ k∈U,is k e.2)->L.length<=U.length
 |[],U,_,_=>Hi _
 |e::L,U,G,h=>by
  rw[Ea] at G;obtain⟨J,Y,C⟩:=h e a8
  have B:=mI L (U.erase J) G.2 λN Q=>by
   obtain⟨k,O,q⟩:=h N (by simp[Q])
   have:k≠J:=λz=>G.1 N Q J C (z▸q);exact⟨k,(Xi this).mpr O,q⟩
  rw[TW Y] at B;have:0<U.length:=Vn Y;rw[Ba]
  lia
open Classical in
theorem f_.few {K:Type}{is:K->Ad->Prop}{C:K->Am}{seen U:Aa K}{k:K}(Z:f_ is C es seen)(B:∀ Q∈seen,Q∈U)(J:k∈U)(O:k ∉ seen):es.size<U.length:=by
 have:=mI es.toList (U.erase k) Z.nd λe G=>by
  obtain⟨Q,_,q⟩:=Z.good e G;have N:=(Z.mem Q).mpr ⟨e,G,q⟩;have Y:Q≠k:=λz=>O (z▸N);exact⟨Q,(Xi Y).mpr (B Q N),q⟩
 rw[TW J,Bp] at this;have:0<U.length:=Vn J
 lia
end
structure je (t:Gb)(es:Aw (Am × Ad)):Prop where
 tb:Tb t
 msk:qt t.mask
 size:t.place.size=es.size
 le:∀ x∈t.place.toList,x<=t.mask
 few:es.size*5<t.mask*3
 way:∀ (i:Ai) (e:Am × Ad),es[i]? = Ab e->∃ n,t.place[i]? = Ab (it t.mask n (st t.mask e.1)).j/\p_ t (st t.mask e.1) n
 plain:t.plain=true
theorem je.fits {t:Gb}(T:je t es):t.fits es.size=true:=by
 have Q:=T.size;have J:=T.few;have Y:t.fill=es.size:=by unfold No;rw[T.tb.dm,Q];rfl
 unfold Yg;rw[Y,Q];rcases T.msk with h|h|h|h|h <;> rw[h] at J ⊢ <;> simp <;> lia
theorem je.gap {t:Gb}(T:je t es):∃ e,e<=t.mask/\e ∉ t.place.toList:=by
 apply _S.gap;rw[Bp,T.size];have Q:=T.few;rcases T.msk with h|h|h|h|h <;> rw[h] at Q ⊢ <;> lia
theorem je.odd {t:Gb}(T:je t es):t.gaveWay=false:=by
 unfold SetTable.gaveWay;rcases T.msk with h|h|h|h|h <;> rw[h] <;> rfl
theorem je.put {t:Gb}(T:je t es){h:Am}{x:Ad}{n:Ai}(w:p_ t (st t.mask h) n)(L:(it t.mask n (st t.mask h)).j ∉ t.place.toList)(U:(it t.mask n (st t.mask h)).j<=t.mask) :
  let ly:=Ch es (t.put (it t.mask n (st t.mask h)).j).2 (h,x)
  Tb (t.put (it t.mask n (st t.mask h)).j).1/\(t.put (it t.mask n (st t.mask h)).j).1.place.size=ly.size/\(∀ y∈(t.put (it t.mask n (st t.mask h)).j).1.place.toList,y<=t.mask) /\
  (∀ (i:Ai) (e:Am × Ad),ly[i]? = Ab e->∃ m,(t.put (it t.mask n (st t.mask h)).j).1.place[i]? = Ab (it t.mask m (st t.mask e.1)).j/\p_ (t.put (it t.mask n (st t.mask h)).j).1 (st t.mask e.1) m):=by
 generalize H:(it t.mask n (st t.mask h)).j=j at *;have O:∀ y,y∈(t.put j).1.place.toList↔y=j\/y∈t.place.toList:=λy=>by
  show y∈(Ch t.place (Cq t.place j) j).toList↔_;rw[(Jr _ _ _).mem_iff];simp[or_comm]
 have C:Cq t.place j<=t.place.size:=(j7 T.tb.rs j).le;have Y:∀ {p:Pk} {m:Ai},p_ t p m->p_ (t.put j).1 p m:=λ{p m} w q I=>(O _).mpr (.inr (w q I));refine⟨HV T.tb L,?_,λy hy=>?_,λi e E=>?_⟩
 .show (Ch t.place _ j).size=(Ch es _ (h,x)).size
  rw[uA,uA,T.size]
 .rcases (O y).mp hy with rfl|hy
  .exact U
  .exact T.le y hy
 .have Q:(if i<Cq t.place j then es[i]? else if i=Cq t.place j then Ab (h,x) else es[i-1]?)=Ab e:=by
   rw[<- tB es (by rw[<- T.size];exact C)]
   exact E
  have pl:(t.put j).1.place[i]? = if i<Cq t.place j then t.place[i]? else if i=Cq t.place j then Ab j else t.place[i-1]?:=tB t.place C j i
  rw[pl];by_cases B:i<Cq t.place j
  .rw[Ay B] at Q ⊢
   obtain⟨m,J,G⟩:=T.way i e Q;exact⟨m,J,Y G⟩
  .rw[AT B] at Q ⊢
   by_cases N:i=Cq t.place j
   .rw[Ay N] at Q ⊢
    cases Q;exact⟨n,by rw[H],Y w⟩
   .rw[AT N] at Q ⊢
    obtain⟨m,J,G⟩:=T.way _ e Q;exact⟨m,J,Y G⟩
theorem BB {mask:Ai}(p:Pk)(hp:p.j+p.more<=mask):∀ n,(it mask n p).j+(it mask n p).more<=mask
 |0=>hp
 |n+1=>by
  rw[bX];have Y:=BB p hp n;unfold ou
  split
  .show (it mask n p).j+1+((it mask n p).more-1)<=mask
   lia
  .show (leap mask _ _).1+(Ig mask (leap mask _ _).1-(leap mask _ _).1)<=mask
   have J:=lP (l6 mask (it mask n p).i (it mask n p).perturb);have Q:=lQ mask (leap mask (it mask n p).i (it mask n p).perturb).1
   lia
theorem BY (mask:Ai)(h:Am)(n:Ai):(it mask n (st mask h)).j<=mask:=by
 have Q:bits h % (mask+1)<=mask:=Mm (Rh _ (Pc _));have:=BB (mask:=mask) (st mask h) (by
  show bits h % (mask+1)+(Ig mask (bits h % (mask+1))-bits h % (mask+1))<=mask;have J:=lP Q;have Y:=lQ mask (bits h % (mask+1))
  lia) n
 lia
theorem fR {t:Gb}{es:Aw (Am × Ad)}(v:qt t.mask)(hp:t.plain=true)(h1:t.place.size=es.size)(h2:es.size<=1001)(A:t.tooFull=true)(hd:t.dummies=#[])(h3:(es.size-1)*5<t.mask*3)(m:0<es.size) :
  Fo (Hx es.size)<=2048/\∃ t' qV,t.relaid (es.map (·.1)) (Hx es.size)=Ab (t',qV)/\t'.led=t.led/\(qV.filterMap (es[·]?)).toList.Perm es.toList/\je t' (qV.filterMap (es[·]?))/\qV.toList.Perm (Dd es.size):=by
 have N:t.fill=es.size:=by unfold No;rw[hd,h1];rfl
 have E:t.mask*3<=es.size*5:=by
  unfold Uh at A;rw[N] at A;simpa using A
 have Q:(es.size=5/\Fo (Hx es.size)=32)\/(es.size=19/\Fo (Hx es.size)=128)\/(es.size=77/\Fo (Hx es.size)=512)\/(es.size=307/\Fo (Hx es.size)=2048):=by
  rcases v with h|h|h|h|h <;> rw[h] at E h3
  .have:es.size=5:=by lia
   exact .inl ⟨this,by rw[this];decide⟩
  .have:es.size=19:=by lia
   exact .inr (.inl ⟨this,by rw[this];decide⟩)
  .have:es.size=77:=by lia
   exact .inr (.inr (.inl ⟨this,by rw[this];decide⟩))
  .have:es.size=307:=by lia
   exact .inr (.inr (.inr ⟨this,by rw[this];decide⟩))
  .lia
 have C:qt (Fo (Hx es.size)-1):=by
  rcases Q with⟨_,h⟩|⟨_,h⟩|⟨_,h⟩|⟨_,h⟩ <;> rw[h]
  .exact .inr (.inl rfl)
  .exact .inr (.inr (.inl rfl))
  .exact .inr (.inr (.inr (.inl rfl)))
  .exact .inr (.inr (.inr (.inr rfl)))
 have H:(es.map (·.1)).size<=Fo (Hx es.size)-1:=by
  rw[WF];rcases Q with⟨J,h⟩|⟨J,h⟩|⟨J,h⟩|⟨J,h⟩ <;> rw[h,J] <;> lia
 obtain⟨t',qV,e,o,c,L⟩:=YA C (es.map (·.1)) H t.finger (t.movedTo (Fo (Hx es.size)-1)) t.led t.plain
 have z:qV.size=es.size:=by
  have:=L.perm.length_eq;simpa using this
 have G:∀ i k,qV[i]? = Ab k->k<es.size:=λi k q=>by
  have:k∈Dd (es.map (·.1)).size:=L.perm.mem_iff.mp (Bw (by rw[Bq];exact q))
  simpa using this
 have T:(qV.filterMap (es[·]?)).toList=qV.toList.map λk=>es.toList.getD k (0,.none):=by
  rw[Array.toList_filterMap];have:∀ l:Aa Ai,(∀ k∈l,k<es.size)->l.filterMap (es[·]?)=l.map λk=>es.toList.getD k (0,.none):=by
   intro l
   induction l with
   |nil=>intro _;rfl
   |cons a l d =>
    intro M;have w:=M a a8
    rw[Gy,Ds,d λk O=>M k (by simp[O])]
    rw[Ei w];simp[w]
  refine this _ λk O=>?_;obtain⟨i,u,q⟩:=Cp.mp O;exact G i k (by rw[<- Bq,An u,q])
 have Y:(qV.filterMap (es[·]?)).toList.Perm es.toList:=by
  rw[T];have y:=L.perm.map λk=>es.toList.getD k (0,Dj);refine y.trans ?_;have p:(Dd (es.map (·.1)).size).map (λk=>es.toList.getD k (0,Dj))=es.toList:=by
   apply Nd
   .simp
   .intro i r f
    have g:i<es.size:=by simpa using f
    simp[g]
  rw[p]
 have B:(qV.filterMap (es[·]?)).size=es.size:=by rw[<- Bp,Y.length_eq,Bp]
 have U:∀ i,(qV.filterMap (es[·]?))[i]? = (qV[i]?).map λk=>es.toList.getD k (0,.none):=λi=>by
  rw[<- Bq,T,Ee,Bq]
 refine⟨by rcases Q with⟨_,h⟩|⟨_,h⟩|⟨_,h⟩|⟨_,h⟩ <;> rw[h] <;> decide,t',qV,by rw[LB];exact e,o,Y,⟨L.tb,by rw[L.msk];exact C,by rw[L.size,B,WF],by rw[L.msk];exact L.le,?_,λi j q=>?_,by rw[c];exact hp⟩,by have:=L.perm;rwa [WF] at this⟩
 .rw[B,L.msk]
  rcases Q with⟨J,h⟩|⟨J,h⟩|⟨J,h⟩|⟨J,h⟩ <;> rw[h,J] <;> lia
 .rw[U] at q
  cases I:qV[i]? with
  |none=>rw[I] at q;cases q
  |some k =>
   rw[I] at q;simp only[Ko,Option.some.injEq] at q;have O:=G i k I;have:(es.map (·.1))[k]? = Ab j.1:=by
    rw[Array.getElem?_map,Ei O];rw[<- q];simp[O]
   rw[L.msk];exact L.way i k j.1 I this
end _S
namespace _S
open PySem.SetTable (Probe leap runEnd turns bits)
variable {Q:Au->Ag->Prop}
def jn (h0 h:Bk):Prop:=∀ b o,h0.get? b=Ab o->h.get? b=Ab o
def gu (prog:Bc)(w:Bu)(h0:Bk)(ks:Aa Am)(v:Ad):Prop:=∃ a,v=.ref a/\Ri (Df prog w) h0 ks a
section
variable {prog:Bc}{w:Bu}{h0:Bk}
theorem gu.inj (Y:gu prog w h0 x v)(G:gu prog w h0 y v):x=y:=by
 obtain⟨a,rfl,U⟩:=Y;obtain⟨b,e,J⟩:=G;cases e;exact U.inj J
theorem uK {a:Af}(U:jn h0 h)(J:Ri (Df prog w) h0 ks a):Ri (Df prog w) h ks a:=by
 obtain⟨o,Y,n,G,r⟩:=J;exact⟨o,Y,n,U _ _ G,r⟩
variable {A:Bl}{E:ae}{s:Ag}
theorem QZ {k:Aa Am}{Q:Am->Ag->Prop}(U:A.units<Ed)(J:jn h0 s.heap)(Y:gu prog w h0 k v)(h:Q (Uv (Df prog w) k) { s with toks:=s.toks+(k.length+1) }) : Ao (As prog w) A (pyHash v) Q E s:=by
 obtain⟨a,rfl,Y⟩:=Y;exact wpAny_pyHash_tuple U (uK J Y) h
theorem eqT {k U:Aa Am}(O:A.units<Ed)(G:jn h0 s.heap)(Y:gu prog w h0 k v)(J:gu prog w h0 U N)(h:Q (decide (k=U)) s):Ao (As prog w) A (eqBool v N) Q E s:=by
 obtain⟨a,rfl,Y⟩:=Y;obtain⟨b,rfl,J⟩:=J;exact wpAny_eqBool_tuple O (uK G Y) (uK G J) h
theorem tH:∀ {ks:Aa Am} {vs:ai},ItemsAre (Df prog w) ks vs->∀ v∈vs,∃ i t,v=.int i t:=by
 intro ks vs h
 induction h with
 |nil=>intro v hv;simp at hv
 |@cons k U ks vs Y _ J =>
  intro v hv;rcases Ax.mp hv with rfl|hv
  .cases v <;> first|exact⟨_,_,rfl⟩|exact absurd Y (by rintro⟨⟩)
  .exact J v hv
theorem _W {k:Aa Am}(T:jn h0 s.heap)(U:gu prog w h0 k v)(h:Q true s):Ao (As prog w) A (Qg 8 v) Q E s:=by
 obtain⟨a,rfl,U⟩:=U;have U:=uK T U;have C:=U.typeIs;obtain⟨o,J,n,I,_,B,L⟩:=U;unfold Qg;refine Ac (Nw C F.slot_tuple_hash.lookup ?_);show Ao _ _ (seqItems? (.ref a) >>= _) Q E s;refine Ac (Fh I B ?_);refine Ac ?_;show Ao _ _ (forIn J _ _) _ _ s;rw[<- Os];refine Jo _ (λqG r N=>r.1=none/\N=s/\∀ v∈qG,∃ i t,v=.int i t) _ ?_ ?_ _ _ ⟨rfl,rfl,tH L⟩
 .rintro v qG r N ⟨G,rfl,Y⟩
  obtain⟨i,t,rfl⟩:=Y v Dm;show Ao _ _ (Qg 7 (.int i t) >>= _) _ _ _;rw[show Qg 7 (.int i t)=pure true from rfl]
  refine Ac (Ak ?_);simp only[Kt,By,Ek];exact Ak ⟨rfl,rfl,λu O=>Y u (Cd _ O)⟩
 .rintro⟨H,M⟩ N ⟨G,rfl,_⟩
  simp only at G;subst G;exact Ak h
theorem DV {k:Aa Am}(T:jn h0 s.heap)(U:gu prog w h0 k v)(h:Q false s):Ao (As prog w) A (Hy 8 v) Q E s:=by
 obtain⟨a,rfl,U⟩:=U;have U:=uK T U;have C:=U.typeIs;obtain⟨o,J,n,I,_,B,L⟩:=U;unfold Hy;refine Ac (Kk C ?_);dsimp only;refine Ac (Ak ?_);simp only[Kt,By,Ek];refine Ac (Fh I B ?_);refine Ac ?_;show Ao _ _ (forIn J _ _) _ _ s;rw[<- Os];refine Jo _ (λqG r N=>r.1=none/\N=s/\∀ v∈qG,∃ i t,v=.int i t) _ ?_ ?_ _ _ ⟨rfl,rfl,tH L⟩
 .rintro v qG r N ⟨G,rfl,Y⟩
  obtain⟨i,t,rfl⟩:=Y v Dm;show Ao _ _ (Hy 7 (.int i t) >>= _) _ _ _;rw[show Hy 7 (.int i t)=pure false from rfl]
  refine Ac (Ak ?_);simp only[By,Ek];exact Ak ⟨rfl,rfl,λu O=>Y u (Cd _ O)⟩
 .rintro⟨H,M⟩ N ⟨G,rfl,_⟩
  simp only at G;subst G;exact Ak h
theorem CS {k:Aa Am}(J:jn h0 s.heap)(Y:gu prog w h0 k v)(h:Q true s):Ao (As prog w) A (eqIsQuiet 8 v) Q E s:=by
 obtain⟨a,rfl,Y⟩:=Y;exact wpAny_eqIsQuiet_tuple (uK J Y) h
theorem Z7 {α:Type}{c:Prop}[Jd c]{M:Mf}{t u:Lb α}{Q:α->Ag->Prop}(h1:c->Ao M A t Q E s)(h2:¬ c->Ao M A u Q E s):Ao M A (if c then t else u) Q E s:=by
 by_cases h:c
 .rw[Ay h];exact h1 h
 .rw[AT h];exact h2 h
structure xj (prog:Bc)(w:Bu){K:Type}[Sg K](is:K->Ad->Prop)(hash:K->Am)(h0:Bk):Prop where
 inj:∀ {k k':K} {v:Ad},is k v->is k' v->k=k'
 ref:∀ {k:K} {v:Ad},is k v->∃ a,v=.ref a
 hsh:∀ {A:Bl} {E:ae} {s:Ag} {k:K} {v:Ad} {Q:Am->Ag->Prop},A.units+8<Ed->jn h0 s.heap->is k v->(∀ tk,s.toks<=tk->Q (hash k) { s with toks:=tk }) -> Ao (As prog w) A (pyHash v) Q E s
 eq:∀ {A:Bl} {E:ae} {s:Ag} {k k':K} {v v':Ad} {Q:Au->Ag->Prop},A.units+8<Ed->jn h0 s.heap->is k v->is k' v'->Q (decide (k=k')) s->Ao (As prog w) A (eqBool v v') Q E s
 byV:∀ {A:Bl} {E:ae} {s:Ag} {k:K} {v:Ad} {Q:Au->Ag->Prop},jn h0 s.heap->is k v->Q true s->Ao (As prog w) A (Qg 8 v) Q E s
 cls:∀ {A:Bl} {E:ae} {s:Ag} {k:K} {v:Ad} {Q:Au->Ag->Prop},jn h0 s.heap->is k v->Q false s->Ao (As prog w) A (Hy 8 v) Q E s
 quiet:∀ {A:Bl} {E:ae} {s:Ag} {k:K} {v:Ad} {Q:Au->Ag->Prop},jn h0 s.heap->is k v->Q true s->Ao (As prog w) A (eqIsQuiet 8 v) Q E s
theorem _N:xj prog w (gu prog w h0) (Uv (Df prog w)) h0:=⟨gu.inj,λ⟨a,e,_⟩=>⟨a,e⟩,λU Y J h=>QZ om Y J (h _ (Hs _ _)),λU Y J G h=>eqT om Y J G h,_W,DV,CS⟩
variable {K:Type}[Sg K]{is:K->Ad->Prop}{az:K->Am}
theorem qAP (M:xj prog w is az h0){k:K}{x:Ad}{ys:ai}{Q:Au->Ag->Prop}(G:jn h0 s.heap)(B:is k x)(L:∀ y∈ys,∃ U,is U y)(h:Q false s):Ao (As prog w) A (searchCouldBeSeen x ys) Q E s:=by
 unfold searchCouldBeSeen;refine Ac ?_;refine Jo _ (λqG r N=>r.1=none/\N=s/\∀ v∈qG,∃ U,is U v) _ ?_ ?_ _ _ ⟨rfl,rfl,L⟩
 .rintro v qG r N ⟨O,rfl,J⟩
  obtain⟨U,hv⟩:=J v Dm;have Y:∀ u∈qG,∃ U,is U u:=λu C=>J u (Cd _ C);dsimp only;refine Z7 (λ_=>Ak ⟨rfl,rfl,Y⟩) λ_=>?_
  .refine Ac (M.quiet G B ?_)
   simp only[Kt,By,Ek];refine Ac (M.quiet G hv ?_);simp only[Kt,By,Ek];refine Ac (M.cls G B ?_);simp only[By,Ek];refine Ac (M.cls G hv ?_);simp only[By,Ek];exact Ak ⟨rfl,rfl,Y⟩
 .rintro⟨T,I⟩ N ⟨O,rfl,_⟩
  simp only at O;subst O;exact Ak h
theorem qAN (M:xj prog w is az h0){k:K}{v:Ad}{Q:Au->Ag->Prop}(Y:is k v)(h:Q true s):Ao (As prog w) A (isSame v v) Q E s:=by
 obtain⟨a,rfl⟩:=M.ref Y;unfold isSame;simp only[Fg,Ef];exact Ak h
theorem B5 (M:xj prog w is az h0){k:K}{x:Ad}{S:Af}{o:Co}{es:Aw (Am × Ad)}{ep:Ai}{t:Gb}{seen:Aa K}(hu:A.units+8<Ed)(hS:jn h0 s.heap)(ho:s.heap.get? S=Ab o)(hd:o.data=.set es ep t)
  (T:je t es) (Z:f_ is az es seen) (hx:is k x) (N:Ai) (f:p_ t (st t.mask (az k)) N)
  (U:(it t.mask N (st t.mask (az k))).j ∉ t.place.toList) (zc:N<10*turns t.mask) {Q:SetFound->Ag->Prop}
  (h1:k∈seen->Q (.there none) s) (h2:k ∉ seen->Q (.free (it t.mask N (st t.mask (az k))).j false) s) :
  ∀ (fuel n:Ai) (J:Al Pk),J.getD (t.probeStart (az k))=it t.mask n (st t.mask (az k))->n<=N->N-n<fuel ->
   (∀ (m i:Ai) (e:Am × Ad),m<n->t.place[i]? = Ab (it t.mask m (st t.mask (az k))).j->es[i]? = Ab e->¬ is k e.2) ->
   Ao (As prog w) A (Tk S x (az k) true fuel J) Q E s
 |0,n,J,_,_,hf,_=>by lia
 |fuel+1,n,J,zl,hn,hf,hq=>by
  unfold Tk;refine Ac (Gq ho hd T.fits ?_);dsimp only;rw[T.odd];simp only[By,Ek];rw[zl];generalize hg:t.probe _ (az k) (it t.mask n (st t.mask (az k)))=r;obtain⟨H,hH,hg⟩:∃ H:Ai->Am,(∀ i,H i=(es[i]?.map (·.1)).getD 0)/\t.probe H (az k) (it t.mask n (st t.mask (az k)))=r:=⟨_,λi=>rfl,hg⟩
  have Y:∀ m,it t.mask m (it t.mask n (st t.mask (az k)))=it t.mask (n+m) (st t.mask (az k)):=λm=>(tG _ _ _ _).symm;have gm:Meets t H (az k) (it t.mask n (st t.mask (az k))) (10*turns t.mask) r:=by
   rw[<- hg];refine gU T.tb H _ _ _ (by rw[mG];rfl) ⟨N-n,by lia,?_⟩
   rw[Y,show n+(N-n)=N by lia]
   exact U
  have B:∀ j:Ai,(∀ m i:Ai,m<j->t.place[i]? = Ab (it t.mask m (it t.mask n (st t.mask (az k)))).j->H i≠az k) ->
    ∀ (m i:Ai) (e:Am × Ad),m<n+j->t.place[i]? = Ab (it t.mask m (st t.mask (az k))).j->es[i]? = Ab e->¬ is k e.2:=λj qj m i e hm L I u=>by
   by_cases zb:m<n
   .exact hq m i e zb L I u
   .refine qj (m-n) i ak (by rw[Y,show n+(m-n)=m by lia];exact L) ?_
    rw[hH,I];obtain⟨b,e1,e2⟩:=Z.good e (Bw (by rw[Bq];exact I))
    rw[M.inj u e2];simpa using e1
  cases gm with
  |emp j hj w' O q =>
   rw[Y] at O;have v:n+j=N:=by
    rcases Pl (n+j) N with h|h|h
    .exact absurd (f _ h) O
    .exact h
    .have:=w' (N-n) ak
     rw[Y,show n+(N-n)=N by lia] at this
     exact absurd this U
   dsimp only;rw[Y,v];refine Ak (h2 λu=>?_);obtain⟨e,a,d⟩:=(Z.mem k).mp u;obtain⟨i,hi,L⟩:=Cp.mp a;have G:es[i]? = Ab e:=by rw[<- Bq,An hi,L]
   obtain⟨m,w1,w2⟩:=T.way i e G;obtain⟨b,g1,p⟩:=Z.good e a;have:=M.inj d p;subst this;rw[g1] at w1 w2;have c:m<N:=by
    apply Ge;intro hc;by_cases c:m=N
    .subst c
     exact U (Bw (by rw[Bq];exact w1))
    .exact U (w2 N ak)
   exact B j q m i e ak w1 G d
  |cand j i hj w' O hh q =>
   rw[Y] at O;have hi:i<es.size:=by
    rw[<- T.size];exact(Dh.mp O).1
   have L:es[i]? = Ab es[i]:=Ei hi;have v:n+j<N:=by
    rcases Pl (n+j) N with h|h|h
    .exact h
    .rw[h] at O
     exact absurd (Bw (by rw[Bq];exact O)) U
    .have:=w' (N-n) ak
     rw[Y,show n+(N-n)=N by lia] at this
     exact absurd this U
   obtain⟨b,g1,p⟩:=Z.good es[i] a8
   dsimp only;have C:Ao (As prog w) A (do
     let Ab (_,y):=es[i]?|unsupported "internal:set-entry"
     let equal <- holding [y] (eqBool y x)
     let (ly,_,t') <- Yu S
     if true&&equal then return .there none
     let Ab same:=t'.sameMemory t.moves t.mask|unsupported "set.changed-during-lookup:is-the-new-block-at-the-old-address"
     let still <- match (if same then t'.slot (it t.mask j (it t.mask n (st t.mask (az k)))).j else .empty) with
      |.live l=>match ly[l]? with
       |some (_,y')=>do pure (if <- isSame y' y then Ab l else none)
       |none=>pure none
      |_=>pure none
     match still with
     |none=>rule "set.search.anew";Tk S x (az k) true fuel none
     |some l=>if equal then return .there (Ab l) else Tk S x (az k) true fuel (Ab (it t.mask (j+1) (it t.mask n (st t.mask (az k)))))) Q E s:=by
    rw[L];dsimp only;refine Ac (Dn (M.eq hu hS p hx ?_));refine Ac (Gq ho hd T.fits ?_);by_cases z:b=k
    .subst z
     simp only[Lh,Yh,Ef];exact Ak (h1 ((Z.mem b).mpr ⟨es[i],by simp,p⟩))
    .simp only[z,Ll,Jx,By,Ek]
     have hm:t.sameMemory t.moves t.mask=Ab true:=by simp[SetTable.sameMemory]
     rw[hm];dsimp only;rw[Y,sD T.tb O];simp only[Ef,L];refine Ac (qAN M p ?_);simp only[Ef];refine Ac (Ak ?_);dsimp only;refine B5 M hu hS ho hd T Z hx N f U zc h1 h2 fuel (n+j+1) _ ?_ ak ak λm l e hm G I u=>?_
     .rw[Uf,Y]
      rfl
     .by_cases zs:m<n+j
      .exact B j q m l e zs G I u
      .have:m=n+j:=by lia
       subst this;have:=VR T.tb.rs G O;subst this;rw[L] at I;cases I;exact z (M.inj p u)
   refine Z7 (λ_=>?_) λ_=>?_
   .refine Ac (qAP M hS hx (λy hy=>?_) ?_)
    .obtain⟨e,a,rfl⟩:=Ci.mp hy
     have:e∈es.toList:=by
      have:=(Ql.mp a);exact Ql.mpr (Array.mem_filter.mp this).1
     obtain⟨k2,_,g⟩:=Z.good e this;exact⟨k2,g⟩
    .simp only[By,Ek]
     exact C
   .exact C
end
end _S
namespace _S
open PySem.SetTable (Probe leap runEnd turns bits)
@[reducible] noncomputable def kh (es:Aw (Am × Ad))(ep:Ai)(t:Gb):Co:={ cls:=.type "set",dict:=none,data:=.set es ep t }
theorem fF {h:Bk}{S:Af}{t t':Gb}(Q:h.get? S=Ab (kh es ep t)):(h.update S (Ab2 ly t')).get? S=Ab (kh ly (ep+1) t'):=DL _ Q rfl
structure jg {K:Type}(is:K->Ad->Prop)(hash:K->Am)(S:Af)(led:Au)(V:ai)(seen:Aa K)(h:Bk):Prop where
 ex:∃ es ep t,h.get? S=Ab (kh es ep t)/\f_ is hash es seen/\je t es/\t.led=led/\∀ e∈es.toList,e.2∈V
section
variable {prog:Bc}{w:Bu}{h0:Bk}{A:Bl}{E:ae}{s:Ag}{S:Af}{led:Au}{V:ai}
theorem GO (a:Af)(Q:Ai):setRelay a Q=(do
  let (es,_,t) <- Yu a
  if Fo Q>sizeLine then unsupported "set:memory"
  let (es,t) <- (do
   let Ab (t,qV):=t.relaid (es.map (·.1)) Q|unsupported "internal:set-table-without-room"
   let ly:=qV.filterMap (es[·]?)
   if ly.size != es.size then unsupported "internal:set-table-lost-an-element"
   pure (ly,t))
  storeSet a es t):=rfl
theorem _Z {K:Type}[Sg K]{is:K->Ad->Prop}{J:K->Am}(M:xj prog w is J h0){seen:Aa K}{k:K}{x:Ad}{Q:Au->Ag->Prop}(hu:A.units+8<Ed)(hS:jn h0 s.heap)(Z:jg is J S led V seen s.heap)(c:is k x)(hV:x∈V){U:Aa K}(hU:U.length<=1000)(zs:∀ k'∈seen,k'∈U)(zb:k∈U)
  (h:∀ (b:Au) (h':Bk) (C:Ai),s.toks<=C->Fb S s.heap h'->jg is J S led V (k::seen) h'->Q b { s with heap:=h',toks:=C }) : Ao (As prog w) A (AaM S x) Q E s:=by
 obtain⟨G,ep,t,y,Z,T,hl,hm⟩:=Z;unfold AaM;refine Dn (Ac (M.hsh hu hS c λC I=>?_));unfold setAddHashed setAddHashedIn;refine Dn (Ac (Gq (s:={ s with toks:=C }) y rfl T.fits ?_))
 dsimp only;have zl:byScan x G=false:=by
  obtain⟨a,rfl⟩:=M.ref c;rfl
 rw[zl];simp only[By,Ek];obtain⟨e,d,z1⟩:=T.gap;have first:∃ N,p_ t (st t.mask (J k)) N/\(it t.mask N (st t.mask (J k))).j ∉ t.place.toList/\N<10*turns t.mask:=by
  obtain⟨N,hN,eN⟩:=eS T.msk (J k) d;have gm:=gU T.tb (λ_=>J k+1) (J k) (10*turns t.mask) (st t.mask (J k)) rfl ⟨N,hN,by rw[eN];exact z1⟩
  generalize Mn t _ _ _ _=r at gm;cases gm with
  |emp j hj w' e' q=>exact⟨j,w',e',hj⟩
  |cand j i hj w' e' hh q=>exact absurd hh ak
 obtain⟨N,n,l,zc⟩:=first
 have z3:N<100000:=by
  have:turns t.mask<=2200:=by
   unfold turns;rcases T.msk with h|h|h|h|h <;> rw[h] <;> lia
  lia
 refine Ac (B5 M (s:={ s with toks:=C }) hu hS y rfl T Z c N n l zc (λhk=>?_) (λhk=>?_) 100000 0 none rfl ak ak λm i e hm=>by lia)
 .exact Ak (h _ s.heap _ I (Th _ _) ⟨G,ep,t,y,Z.again hk,T,hl,hm⟩)
 .have z2:G.size<1000:=Bi (Z.few zs zb hk) hU
  dsimp only;refine Ac (Gq (s:={ s with toks:=C }) y rfl T.fits ?_)
  obtain⟨u,z,p3,p4⟩:=T.put (h:=J k) (x:=x) n l (BY _ _ _);generalize hj:(it t.mask N (st t.mask (J k))).j=j at *;have H:(t.put j).1.mask=t.mask:=rfl;have m2:(t.put j).1.plain=true:=T.plain;have m3:(t.put j).1.led=led:=hl;generalize hp:t.put j=tp at *;obtain⟨L,p⟩:=tp;dsimp only at u z p3 p4 H m2 m3 ⊢;rw[m2];simp only[Ef];refine Ac (M.byV (s:={ s with toks:=C }) hS c ?_)
  simp only[Ef,WP,Tl];have Y:(Ch G p (J k,x)).size=G.size+1:=uA _ _ _;have O:G.size+1<=sizeLine:=by rw[Es];lia
  refine Ac (Pm (s:={ s with toks:=C }) y rfl ?_ (by rw[Y];exact O))
  have Z1:f_ is J (Ch G p (J k,x)) (k::seen):=by
   refine Z.push (λa b=>M.inj a b) c hk ?_;have:=Jr G p (J k,x);rw[Eo] at this;exact this
  have f:∀ e∈(Ch G p (J k,x)).toList,e.2∈V:=λe d=>by
   have:=(Jr G p (J k,x)).mem_iff.mp d;rw[Eo] at this;rcases Bv.mp this with h1|h1
   .exact hm e h1
   .simp at h1;subst h1;exact hV
  have B:=fF (ly:=Ch G p (J k,x)) (t':=L) y;have v:=Ib s.heap S (Ab2 (Ch G p (J k,x)) L);have g:L.fits (Ch G p (J k,x)).size=true:=by
   have h3:L.fill=G.size+1:=by unfold No;rw[u.dm,z,Y];rfl
   have h2:=T.few;unfold Yg;rw[h3,z,Y,H];rcases T.msk with h|h|h|h|h <;> rw[h] at h2 ⊢ <;> simp <;> lia
  refine Z7 (λhf=>?_) λhf=>?_
  .have zy:qt L.mask:=by rw[H];exact T.msk
   have h3:((Ch G p (J k,x)).size-1)*5<L.mask*3:=by rw[Y,H];exact T.few
   obtain⟨q1,t2,qV,q2,q3,q4,q5,_⟩:=fR zy m2 z (by rw[Y];lia) (by simpa using hf) u.dm h3 (by rw[Y];lia)
   rw[Y] at q1 q2;rw[GO];refine Ac ?_;refine Ac (Gq (s:={ s with heap:=_,toks:=C }) B rfl g ?_)
   dsimp only;rw[AT (by rw[Es];lia)]
   refine Ac ?_;rw[q2];dsimp only;have o:(qV.filterMap λzx=>(Ch G p (J k,x))[zx]?).size=G.size+1:=by rw[<- Bp,q4.length_eq,Bp,Y]
   rw[AT (by rw[o,Y];simp)]
   refine Ak ?_;refine Pm (s:={ s with heap:=_,toks:=C }) B rfl ?_ (by rw[o];exact O)
   refine Ak (h _ _ _ I (v.trans (Ib _ S _)) ⟨_,_,t2,fF B,Z1.perm q4,q5,by rw[q3];exact m3,λe d=>f e (q4.mem_iff.mp d)⟩)
  .refine Ak (h _ _ _ I v ⟨_,_,L,B,Z1,⟨u,by rw[H];exact T.msk,z,by rw[H];exact p3,?_,by rw[H];exact p4,m2⟩,m3,f⟩)
   have h3:L.fill=G.size+1:=by unfold No;rw[u.dm,z,Y];rfl
   unfold Uh at hf;rw[h3] at hf;rw[Y];simpa using hf
end
end _S
namespace _S
open PySem.SetTable (Probe leap runEnd turns bits)
variable {seen:Aa Am}
def lx (prog:Bc)(w:Bu)(k:Am)(v:Ad):Prop:=(Df prog w).is k v=true
section
variable {prog:Bc}{w:Bu}{A:Bl}{E:ae}{s:Ag}{S:Af}{led:Au}{V:ai}
set_option tactic.hygienic true in
theorem wY {k:Am}(h:lx prog w k v):∃ t,v=.int k t:=by
 cases v <;> first|(exact absurd h (by rintro⟨⟩)) | skip
 rename_i i t;refine⟨t,?_⟩;have:i=k:=(Df prog w).inj (.int i t) i k (Yi _ _ _ _) h;rw[this]
theorem eE (Z:f_ (lx prog w) (Df prog w).hash es seen):ElemsOf (Df prog w) es.toList:=λe Y=>by
 obtain⟨k,J,Q⟩:=Z.good e Y;refine⟨⟨k,Q,J⟩,?_⟩;obtain⟨t,q⟩:=wY Q;rw[q];rfl
theorem qAv {k:Am}{Q:Au->Ag->Prop}(Z:jg (lx prog w) (Df prog w).hash S led V seen s.heap)(c:lx prog w k x)(hV:x∈V){U:Aa Am}(hU:U.length<=1000)(n:∀ k'∈seen,k'∈U)(zl:k∈U)
  (h:∀ (b:Au) (h':Bk) (m:Ai),s.toks<=m->Fb S s.heap h'->jg (lx prog w) (Df prog w).hash S led V (k::seen) h'->Q b { s with heap:=h',toks:=m }) : Ao (As prog w) A (AaM S x) Q E s:=by
 obtain⟨Y,ep,t,g,Z,T,hl,hm⟩:=Z;have o:x.scannable=true:=by
  obtain⟨m,q⟩:=wY c;rw[q];rfl
 have C:=T.fits;have hb:Y.size<scanBound:=by
  have h1:=T.few;have:scanBound=4096:=rfl;rcases T.msk with h|h|h|h|h <;> rw[h] at h1 <;> lia
 unfold AaM;refine Dn (Ac ((Df prog w).pyHash (k:=k) c ?_));unfold setAddHashed setAddHashedIn;refine Dn (Ac (Gq (s:={ s with toks:=s.toks+1 }) g rfl C ?_))
 dsimp only;rw[byScan_of o hb (eE Z)];simp only[Ef];unfold setAddByScan;refine Ac (Ac (Gw (Ac (wpAny_setScan_of (s:={ s with toks:=s.toks+1 }) c g rfl C (eE Z) ?_))))
 cases hr:Y.toList.findIdx? (λe=>(Df prog w).is k e.2) with
 |some j =>
  dsimp only;obtain⟨f,zy,_⟩:=List.findIdx?_eq_some_iff_getElem.mp hr;have z:k∈seen:=(Z.mem k).mpr ⟨Y.toList[j],Jq f,zy⟩;exact Ak (Ak (h _ s.heap _ (Hs _ _) (Th _ _) ⟨Y,ep,t,g,Z.again z,T,hl,hm⟩))
 |none =>
  dsimp only;have z:k ∉ seen:=λz=>by
   obtain⟨e,H,q⟩:=(Z.mem k).mp z;have:=List.findIdx?_eq_none_iff.mp hr e H;rw[show (Df prog w).is k e.2=true from q] at this
   cases this
  have z5:Y.size<1000:=Bi (Z.few n zl z) hU;obtain⟨e,H,z2⟩:=T.gap;have first:∃ N,p_ t (st t.mask ((Df prog w).hash k)) N/\(it t.mask N (st t.mask ((Df prog w).hash k))).j ∉ t.place.toList/\t.freeSlot ((Df prog w).hash k)=Ab ((it t.mask N (st t.mask ((Df prog w).hash k))).j,false):=by
   obtain⟨N,hN,eN⟩:=eS T.msk ((Df prog w).hash k) H;have gm:=gU T.tb (λ_=>(Df prog w).hash k+1) ((Df prog w).hash k) (10*turns t.mask) (st t.mask ((Df prog w).hash k)) rfl ⟨N,hN,by rw[eN];exact z2⟩
   unfold SetTable.freeSlot SetTable.probe;rw[qAT];generalize Mn t _ _ _ _=r at gm;cases gm with
   |emp j f w' e' q=>exact⟨j,w',e',rfl⟩
   |cand j i f w' e' hh q=>exact absurd hh ak
  obtain⟨N,zc,zx,z4⟩:=first
  obtain⟨y,M,p3,p4⟩:=T.put (h:=(Df prog w).hash k) (x:=x) zc zx (BY _ _ _);generalize f:(it t.mask N (st t.mask ((Df prog w).hash k))).j=j at *;have L:(t.put j).1.mask=t.mask:=rfl;have m2:(t.put j).1.plain=true:=T.plain;have m3:(t.put j).1.led=led:=hl;generalize hp:t.put j=tp at *;obtain⟨O,p⟩:=tp;dsimp only at y M p3 p4 L m2 m3 ⊢;have J:(Ch Y p ((Df prog w).hash k,x)).size=Y.size+1:=uA _ _ _;have u:O.fits (Ch Y p ((Df prog w).hash k,x)).size=true:=by
   have l:O.fill=Y.size+1:=by unfold No;rw[y.dm,M,J];rfl
   have h2:=T.few;unfold Yg;rw[l,M,J,L];rcases T.msk with h|h|h|h|h <;> rw[h] at h2 ⊢ <;> simp <;> lia
  have z3:layNew t Y ((Df prog w).hash k) x=(Ch Y p ((Df prog w).hash k,x),O,false,false):=by
   unfold layNew;rw[z4];dsimp only;rw[hp];dsimp only;unfold SetTable.orStandIn;rw[u];rfl
  rw[z3];dsimp only;refine Ac (Ak (a:=()) ?_);have zb:Qg 8 x=pure true:=by
   rw[hashByValue_scannable 8 o];obtain⟨m,q⟩:=wY c;subst q;rfl
  rw[zb,ite_self];refine Ac (Ak ?_);simp only[Ef];have G:Y.size+1<=sizeLine:=by rw[Es];lia
  refine Ac (Pm (s:={ s with toks:=s.toks+1 }) g rfl ?_ (by rw[J];exact G))
  have pm:(Ch Y p ((Df prog w).hash k,x)).toList.Perm (Y.toList++[((Df prog w).hash k,x)]):=by
   have:=Jr Y p ((Df prog w).hash k,x);rw[Eo] at this;exact this
  have Z1:f_ (lx prog w) (Df prog w).hash (Ch Y p ((Df prog w).hash k,x)) (k::seen):=Z.push (λa b=>(Df prog w).inj _ _ _ a b) c z pm;have v:∀ e∈(Ch Y p ((Df prog w).hash k,x)).toList,e.2∈V:=λe H=>by
   rcases Bv.mp (pm.mem_iff.mp H) with h1|h1
   .exact hm e h1
   .simp at h1;subst h1;exact hV
  have B:=fF (ly:=Ch Y p ((Df prog w).hash k,x)) (t':=O) g;have d:=Ib s.heap S (Ab2 (Ch Y p ((Df prog w).hash k,x)) O);refine Z7 (λC=>?_) λC=>?_
  .have z1:qt O.mask:=by rw[L];exact T.msk
   have l:((Ch Y p ((Df prog w).hash k,x)).size-1)*5<O.mask*3:=by rw[J,L];exact T.few
   obtain⟨q1,t2,qV,q2,q3,q4,q5,q6⟩:=fR z1 m2 M (by rw[J];lia) (by simpa using C) y.dm l (by rw[J];lia)
   have zs:(qV.filterMap λI=>(Ch Y p ((Df prog w).hash k,x))[I]?).size=Y.size+1:=by rw[<- Bp,q4.length_eq,Bp,J]
   have rl:relayAll O (Ch Y p ((Df prog w).hash k,x)) (Hx (Ch Y p ((Df prog w).hash k,x)).size)=(qV.filterMap λI=>(Ch Y p ((Df prog w).hash k,x))[I]?,t2,false):=by
    unfold relayAll;rw[q2];dsimp only;have c1:coversAll qV (Ch Y p ((Df prog w).hash k,x)).size=true:=by
     unfold coversAll;exact List.isPerm_iff.mpr q6
    rw[c1,q5.fits];rfl
   rw[rl];dsimp only;refine Ac (Ak (a:=()) ?_);refine Ac (Pm (s:={ s with heap:=_,toks:=s.toks+1 }) B rfl ?_ (by rw[zs];exact G))
   exact Ak (Ak (h _ _ _ (Hs _ _) (d.trans (Ib _ S _)) ⟨_,_,t2,fF B,Z1.perm q4,q5,by rw[q3];exact m3,λe H=>v e (q4.mem_iff.mp H)⟩))
  .refine Ak (Ak (h _ _ _ (Hs _ _) d ⟨_,_,O,B,Z1,⟨y,by rw[L];exact T.msk,M,by rw[L];exact p3,?_,by rw[L];exact p4,m2⟩,m3,v⟩))
   have l:O.fill=Y.size+1:=by unfold No;rw[y.dm,M,J];rfl
   unfold Uh at C;rw[l] at C;rw[J];simpa using C
end
end _S
namespace _S
variable {Q:ae}{i:Ai}
structure sd (prog:Bc)(w:Bu){K:Type}(is:K->Ad->Prop)(hash:K->Am)(h0:Bk):Prop where
 add:∀ {A:Bl} {E:ae} {s:Ag} {S:Af} {led:Au} {V:ai} {seen U:Aa K} {k:K} {x:Ad} {Q:Au->Ag->Prop},A.units+8<Ed->jn h0 s.heap->jg is hash S led V seen s.heap->is k x->x∈V->U.length<=1000->(∀ k'∈seen,k'∈U)->k∈U ->
  (∀ (b:Au) (h':Bk) (tk:Ai),s.toks<=tk->Fb S s.heap h'->jg is hash S led V (k::seen) h'->Q b { s with heap:=h',toks:=tk }) -> Ao (As prog w) A (AaM S x) Q E s
theorem D6 (h0:Bk):sd prog w (gu prog w h0) (Uv (Df prog w)) h0:=⟨λN Y Z J C O U G h=>_Z _N N Y Z J C O U G h⟩
theorem D5 (h0:Bk):sd prog w (lx prog w) (Df prog w).hash h0:=⟨λ_ _ Z Y N G J U h=>qAv Z Y N G J U h⟩
noncomputable def u9 {K:Type}(Y:Ai->K):Ai->Aa K
 |0=>[]
 |i+1=>Y i::u9 Y i
theorem jZ {K:Type}{Y:Ai->K}{k:K}:∀ {n:Ai},k∈u9 Y n↔∃ i,i<n/\Y i=k
 |0=>by simp[u9]
 |n+1=>by
  rw[u9,Ax,jZ];constructor
  .rintro (rfl|⟨i,h,e⟩)
   .exact⟨n,by lia,rfl⟩
   .exact⟨i,by lia,e⟩
  .rintro⟨i,h,e⟩
   by_cases J:i=n
   .subst J;exact .inl e.symm
   .exact .inr ⟨i,by lia,e⟩
section
variable {prog:Bc}{w:Bu}{A:Bl}{R:Si->Ag->Prop}{I:Af}{fp wr:ag}{G:Aw Yr->Aw Yr->Prop}{n:Ai}{P:Ai->Ad->Prop}{St:Ai->Ag->Prop}
variable {K:Type}{is:K->Ad->Prop}{az:K->Am}{h0:Bk}{led:Au}{V:ai}{U:Aa K}
theorem jg.sup {S:Af}{seen:Aa K}{h h':Bk}(Z:jg is az S led V seen h)(e:∀ o,h.get? S=Ab o->h'.get? S=Ab o):jg is az S led V seen h':=by
 obtain⟨Y,J,t,N,r⟩:=Z;exact⟨Y,J,t,e _ N,r⟩
theorem LA (a:sd prog w is az h0)(W:WalksS prog w A.in1 I fp wr G n P St)(S:Af)(E:S ∉ fp)(hu:A.in1.units+8<Ed)(Y:Ai->K)(T:∀ i v,P i v->is (Y i) v/\v∈V)(hU:U.length<=1000)(M:∀ i,i<n->Y i∈U)
  (d:h0.get? S=none) (p:∀ b∈wr,h0.get? b=none):∀ (k i:Ai) (s:Ag),n-i=k->i<=n->St i s->jn h0 s.heap->jg is az S led V (u9 Y i) s.heap ->
   (∀ s',Moved (S::wr) G s s'->jg is az S led V (u9 Y n) s'.heap->R (.ok (.ret .none)) s')->Ht (As prog w) A (.builtin "set.update.loop" ⟨[.ref S,.ref I],[]⟩) R s:=by
 have H:S ∉ wr:=λh=>E (W.sub _ h);have J:∀ b∈wr,b∈S::wr:=λb C=>Cd _ C;intro k
 induction k with
 |zero =>
  intro i s hk hi N t Z g;have c:i=n:=by lia
  subst c;refine Gu Ob ?_;rw[Gc Jt _];show Ao _ A.in1 (Pe (.ref I) >>= _) _ _ s;refine Ac (W.done s _ _ N λs' L=>?_);exact Ak (g s' (L.mono J) (Z.sup λo e=>L.heap S _ H e))
 |succ k ih =>
  intro i s hk hi N t Z g;have B:i<n:=by lia
  refine Gu Ob ?_;rw[Gc Jt _];show Ao _ A.in1 (Pe (.ref I) >>= _) _ _ s;refine Ac (W.item i s _ _ B N λv s' x q L=>?_);obtain⟨m,q2⟩:=T i v x;have y:jn h0 s'.heap:=λb o e=>L.heap b o (λC=>by rw[p b C] at e;cases e) (t b o e)
  show Ao _ A.in1 (holding [v] (AaM S v) >>= _) _ _ s';refine Ac (Dn (a.add hu y (Z.sup λo e=>L.heap S _ H e) m q2 hU (λk' f=>?_) (M i B) λb h' tk z O Z'=>?_))
  .obtain⟨j,hj,e⟩:=jZ.mp f
   exact e▸M j ak
  .refine Ak ⟨Jl Jt _,ih (i+1) _ ak B (W.frame _ s' _ _ q z λb C o e=>?_) (λb o e=>?_) Z' λr u l=>?_⟩
   .rw[O.2 b (λh:b=S=>E (by rw[<- h];exact C))];exact e
   .rw[O.2 b (λh:b=S=>by rw[h,d] at e;cases e)];exact y b o e
   .refine g r (Moved.trans W.gtrans ((L.mono J).then_heap z λb o C e=>?_) u) l
    rw[O.2 b (λh:b=S=>C (by rw[h];exact Dm))];exact e
end
section
variable {prog:Bc}{w:Bu}{A:Bl}{E:ae}{s:Ag}
noncomputable def vQ (w:Bu):Au:=!w.params.followText "set-order"
@[reducible] def lu (w:Bu):Co:=kh #[] 0 (.fresh 0 0 (vQ w))
theorem aG (a:Ad){Q₁:ae}(h:Q₁ (.ref s.heap.objs.size) { s with heap:=s.heap.push (lu w) }) : Ht (As prog w) A (.call (.builtin "set.__new__") ⟨[.type "set",a],[]⟩) (wants Q₁ E) s:=by
 refine Qt ?_;show Ao _ A.in1 (do Ue "set.__new__" ⟨[.type "set",a],[]⟩;again (.builtin "set.__new__" ⟨[.type "set",a],[]⟩)) _ _ s
 refine Ac (Lf (PySem.F.newCall_set_1 a) (Ak ⟨Jl Wk _,Gu PySem.F.entry_set_new ?_⟩));rw[Gc Wk _];unfold HT.«set.__new__» AbE;have Y:=PySem.sub_set_self;obtain⟨U,g,d,J,os⟩:=s;dsimp only
 wp_walk
 refine Lg (Ak ?_);dsimp only;simp only[newObj];exact Ac (AaK (Ak (Ak h)))
theorem VX (w:Bu):je (.fresh 0 0 (vQ w)) #[]:=⟨⟨by unfold Rs;exact Pi,rfl⟩,.inl rfl,rfl,λx Y=>(by cases Y),(show 0*5<7*3 by decide),λi e h=>(by simp at h),rfl⟩
variable {K:Type}{is:K->Ad->Prop}{az:K->Am}{U:Aa K}
theorem QH (a:sd prog w is az s.heap){l:Af}{items:Aw Ad}{Q:ae}(hh:A.handled=none)(hu:A.units+16<Ed)(hl:s.heap.IsList l items\/s.heap.IsTuple l items)(J:Ai->K)(y:∀ i v,items[i]? = Ab v->is (J i) v)(hU:U.length<=1000)(zc:∀ i,i<items.size->J i∈U)
  (h:∀ (h':Bk) (m:Ai),jg is az s.heap.objs.size (vQ w) items.toList (u9 J items.size) h'->(∀ b o,s.heap.get? b=Ab o->h'.get? b=Ab o)->Q (.ref s.heap.objs.size) { s with heap:=h',toks:=m }) :
  Ao (As prog w) A (call (.type "set") [.ref l]) Q E s:=by
 obtain⟨c,tl,z2⟩:=Hm.mro;have zb:=Hm.made;have z3:=Hm.sub;refine Nl (Qt ?_);show Ao _ _ (callAny (.type "set") _) _ _ _;refine Ak ⟨Op _ (by decide +kernel),Gu PySem.F.entry_type_call ?_⟩
 rw[Around.under_plain (weight_type_call_type "set" [.ref l] []) rfl];have h1:=Hm.notType;have h2:=Hm.canCreate;have z6:=PySem.F.typeCall_set_1 (.ref l)
 repeat (any_goals (first|assumption|wp_step))
 refine My (aG (.ref l) (E:=E) (Q₁:=λk C=>k=.ref s.heap.objs.size/\C={ s with heap:=s.heap.push (lu w) }) ⟨rfl,rfl⟩) λr C n=>?_
 cases r with
 |error e=>exact n
 |ok fl =>
  cases fl with
  |ret k =>
   obtain⟨rfl,rfl⟩:=n;have hS:(s.heap.push (lu w)).get? s.heap.objs.size=Ab (lu w):=Bf _ rfl;have hT:Yj { s with heap:=s.heap.push (lu w) } (.ref s.heap.objs.size) "set":=⟨_,hS,rfl⟩
   have z5:=Hm.init.lookup;have z4:=Hm.init.bind (.ref s.heap.objs.size)
   repeat (any_goals (first|assumption|wp_step))
   refine My (Kw (R:=wants (λr O=>r=.none/\∃ h' m,O={ s with heap:=h',toks:=m } /\ jg is az s.heap.objs.size (vQ w) items.toList (u9 J items.size) h'/\∀ b o,s.heap.get? b=Ab o->h'.get? b=Ab o) E) Hm.init.plain PySem.F.entry_set_init (check_set_init_1 hT ?_)) λp O Y=>?_
   .have d:l<s.heap.objs.size:=by rcases hl with⟨_,e,_⟩|⟨_,e,_⟩ <;> exact Az e
    have L:l≠(s.heap.push (lu w)).objs.size:=by
     rw[Ep];exact Cw (Tn d)
    have nS:s.heap.get? s.heap.objs.size=none:=Jb (Av _);have nI:s.heap.get? (s.heap.push (lu w)).objs.size=none:=Jb (by rw[Ep];exact Nz _)
    rcases hl with⟨⟨f,T,I,N⟩,u,M,x,j⟩|⟨⟨f,T,I,N⟩,u,M,x,j⟩
    all_goals
     simp only at M j;subst M;subst j;have B:=Aj (lu w) u
    case' inl =>
     have q:=PySem.F.sub_list_set;have g:=PySem.F.sub_list_frozenset;have zy:(Hn "list" == Hn "dict")=false:=by decide
     have G:(s.heap.push (lu w)).IsList l items:=⟨_,B,rfl,x,rfl⟩
    case' inr =>
     have q:=PySem.F.sub_tuple_set;have g:=PySem.F.sub_tuple_frozenset;have zy:(Hn "tuple" == Hn "dict")=false:=by decide
     have G:(s.heap.push (lu w)).IsTuple l items:=⟨_,B,rfl,x,rfl⟩
    all_goals
     unfold HT.«set.__init__» noKeywords Ab3;generalize zl:Qy=PI
     wp_walk
     subst zl
     first
      |(refine Go G ?_;have W:=(Ab0 (prog:=prog) (w:=w) (A:=A.in1.in1.in1) (by simp[hh]) _ l L items).toS)
      |(refine Hl G ?_;have W:=(Walks.tuple (prog:=prog) (w:=w) (A:=A.in1.in1.in1) (by simp[hh]) _ l L items).toS)
     refine Ac (wpAny_runValue ?_);refine LA (led:=vQ w) (V:=items.toList) a W s.heap.objs.size ?_ (by show A.units+3+8<Ed;lia) J (λi v hv=>⟨y i v hv,?_⟩) hU zc nS (λb hb=>?_) (items.size-0) 0 _ ak (Hi _)
      ⟨⟨_,Bf _ rfl,rfl,rfl⟩,G.push _⟩ (λb o e=>Aj _ (Aj _ e)) ?_ λs' t z=>?_
     .rw[Ep];simp only[Ax,Cn,Di,Gk,Wh]
      exact⟨Cw (Nb _),Hd d⟩
     .exact Bw (by rw[Bq];exact hv)
     .rw[Cn.mp hb];exact nI
     .exact⟨#[],0,_,Aj _ hS,f_.nil,VX w,rfl,λe he=>by simp at he⟩
     .obtain⟨h',g',d',zs,z1⟩:=s'
      have eg:g'=s.gens:=t.gens;have ed:d'=s.drawn:=t.drawn;have eo:z1=s.os:=t.os;subst eg;subst ed;subst eo;refine Ak (Ak ⟨rfl,h',zs,rfl,z,λb o e=>?_⟩);refine t.heap b o (λhb=>?_) (Aj _ (Aj _ e));rcases Ax.mp hb with rfl|hb
      .rw[nS] at e;cases e
      .rw[Cn.mp hb,nI] at e;cases e
   .cases p with
    |error e=>exact Y
    |ok H =>
     cases H with
     |ret r =>
      obtain⟨rfl,h',m,rfl,z,zx⟩:=Y
      repeat (any_goals (first|assumption|wp_step))
      exact h _ _ z zx
     |_=>exact Y.elim
  |_=>exact n.elim
end
theorem mY {α:Type}:∀ {l:Aa α} {i:Ai} (h:i<l.length),(l[i]::l.eraseIdx i).Perm l
 |a::l,0,h=>by simp
 |a::l,i+1,h=>by
  rw[List.eraseIdx_cons_succ,List.getElem_cons_succ];exact(List.Perm.swap _ _ _).trans ((mY (l:=l) (i:=i) (by simpa using h)).cons a)
theorem dZ {α:Type}(next:Ai->Ai):∀ (fuel k:Ai) (left:Aa α) (Y:Aw α),left.length=fuel->(Zu next fuel k left Y).toList.Perm (Y.toList++left)
 |0,k,left,Y,h=>by
  have:left=[]:=Qu h;subst this;unfold Zu;simp
 |fuel+1,k,left,Y,h=>by
  unfold Zu;have J:next k % left.length<left.length:=Rh _ om
  rw[An J];dsimp only;refine(dZ next fuel (k+1) _ _ (by rw[List.length_eraseIdx,Ay J];fin2)).trans ?_
  rw[Eo,Cg];refine Ki _ ?_;exact mY J
theorem lK {α:Type}(next:Ai->Ai)(xs:Aw α) : (Qv next xs).toList.Perm xs.toList:=by
 have:=dZ next xs.size 0 xs.toList #[] a8
 simpa [Qv] using this
theorem vF:Slot "set_iterator" "__next__" "set_iterator.__next__":=
 .of (owner:="set_iterator") (n:="__next__") (by rw[typeLookup_type,Wl];kernel_rfl) (by decide +kernel) (by decide +kernel) (by decide +kernel) (.inl (by decide +kernel)) (by rw[Xa];kernel_rfl)
theorem mX:entryFor table "set_iterator.__next__" = Ab HT.«set_iterator.__next__»:=entryFor_of_fast (by kernel_rfl)
theorem lX (a:Ad):Wj "set_iterator.__next__" ⟨[a],[]⟩:=by unfold Wj;kernel_rfl
theorem sE:Slot "set_iterator" "__iter__" "set_iterator.__iter__":=
 .of (owner:="set_iterator") (n:="__iter__") (by rw[typeLookup_type,Wl];kernel_rfl) (by decide +kernel) (by decide +kernel) (by decide +kernel) (.inl (by decide +kernel)) (by rw[Xa];kernel_rfl)
theorem QV:entryFor table "set_iterator.__iter__" = Ab HT.«dict_keyiterator.__iter__»:=entryFor_alias (id':="dict_keyiterator.__iter__") (by kernel_rfl) rfl (by decide +kernel) (by kernel_rfl)
theorem XM (a:Ad):Wj "set_iterator.__iter__" ⟨[a],[]⟩:=by unfold Wj;kernel_rfl
theorem QU:entryFor table "set.__iter__" = Ab HT.«frozenset.__iter__»:=entryFor_alias (id':="frozenset.__iter__") (by kernel_rfl) rfl (by decide +kernel) (by kernel_rfl)
theorem TR (a:Af)(slot given Y:Ai):setNext a slot given Y=(do
  let (es,epoch,t) <- Yu a
  if <- setsByText then
   if epoch != Y then unsupported "set_iterator.__next__:elements-changed"
   return ((<- setWalk a)[given]?).map λe=>(e.2,slot)
  if !t.plain&&es.size>1 then unsupported "set_iterator.__next__:the-table-is-plain-no-more"
  (do if !t.led&&!es.isEmpty then unsupported "set:maker-not-led")
  return match es[Cq t.place slot]?,t.place[Cq t.place slot]? with
   |some (_,x),Ab j=>Ab (x,j+1)
   |_,_=>none):=rfl
theorem LO (a:Af):setWalk a=(do
  let (es,epoch,t) <- Yu a
  if <- setsByText then return Qv ((<- ask).params.setOrder a epoch) es
  if !t.plain&&es.size>1 then return (<- drawOrder es.size es.toList).toArray
  (do if !t.led&&es.size>1 then unsupported "set:maker-not-led")
  return es):=rfl
theorem J3 (a:Af):setDrawn a=(do
  let (es,_,t) <- Yu a
  let byText <- setsByText
  return !byText&&(!t.plain&&es.size>1)):=rfl
structure lj (w:Bu)(S:Af)(es:Aw (Am × Ad))(ep:Ai)(t:Gb):Prop where
 tab:je t es
 led:t.led=vQ w
def qV (w:Bu)(S:Af)(ep:Ai)(es:Aw (Am × Ad)):Aw (Am × Ad):=if w.params.followText "set-order" = true then Qv (w.params.setOrder S ep) es else es
theorem tU (w:Bu)(S:Af)(ep:Ai)(es:Aw (Am × Ad)):(qV w S ep es).toList.Perm es.toList:=by
 unfold qV
 split
 .exact lK _ _
 .exact Mx _
theorem uU (w:Bu)(S:Af)(ep:Ai)(es:Aw (Am × Ad)):(qV w S ep es).size=es.size:=by
 rw[<- Bp,(tU w S ep es).length_eq,Bp]
noncomputable def uj (slot i:Ai)(S:Af)(n ep:Ai):Co:={ cls:=.type "set_iterator",data:=.fields #[.int slot 0,.int i 0,.ref S,.int n 0,.int ep 0] }
def At (w:Bu)(I S:Af)(es:Aw (Am × Ad))(ep:Ai)(t:Gb)(i:Ai)(h:Bk):Prop:=
 ∃ slot,h.get? I=Ab (uj slot i S es.size ep)/\h.get? S=Ab (kh es ep t)/\(w.params.followText "set-order" = true\/Cq t.place slot=i)
section
variable {prog:Bc}{w:Bu}{A:Bl}{E:ae}{s:Ag}{S I:Af}{es:Aw (Am × Ad)}{ep:Ai}{t:Gb}
theorem ZZ {slot:Ai}{Q:Al (Ad × Ai)->Ag->Prop}(Z:lj w S es ep t)(C:s.heap.get? S=Ab (kh es ep t))(hs:w.params.followText "set-order" = true\/Cq t.place slot=i)
  (h1:∀ e Y,(qV w S ep es)[i]? = Ab e->(w.params.followText "set-order" = true\/Cq t.place Y=i+1)->Q (Ab (e.2,Y)) s) (h2:(qV w S ep es)[i]? = none->Q none s):Ao (As prog w) A (setNext S slot i ep) Q E s:=by
 rw[TR];refine Ac (Gq C rfl Z.tab.fits ?_);dsimp only;refine Ac (Ac (Lg (Ak ?_)));cases J:w.params.followText "set-order" with
 |true =>
  show Ao _ _ (if (w.params.followText "set-order")=true then _ else _) _ _ _
  rw[Ay J];have N:(ep != ep)=false:=by simp
  rw[N];simp only[By,Ek];refine Ac ?_;rw[LO];refine Ac (Gq C rfl Z.tab.fits ?_);dsimp only;refine Ac (Ac (Lg (Ak ?_)));show Ao _ _ (if (w.params.followText "set-order")=true then _ else _) _ _ _
  rw[Ay J];refine Ac (Lg (Ak (Ak ?_)));show Q (((Qv (w.params.setOrder S ep) es)[i]?).map λe=>(e.2,slot)) s;have U:qV w S ep es=Qv (w.params.setOrder S ep) es:=by unfold qV;rw[Ay J]
  rw[U] at h1 h2;cases G:(Qv (w.params.setOrder S ep) es)[i]? with
  |none=>exact h2 G
  |some e=>exact h1 e slot G (.inl J)
 |false =>
  show Ao _ _ (if (w.params.followText "set-order")=true then _ else _) _ _ _
  rw[AT (by rw[J];decide),Z.tab.plain,Z.led]
  unfold vQ;rw[J];simp only[Kt,He,By,Ek,WP];have N:Cq t.place slot=i:=by
   rcases hs with h|h
   .rw[J] at h;cases h
   .exact h
  rw[N];have U:qV w S ep es=es:=by unfold qV;rw[AT (by rw[J];decide)]
  rw[U] at h1 h2;refine Ak ?_;cases G:es[i]? with
  |none=>exact h2 G
  |some e =>
   have B:i<t.place.size:=by rw[Z.tab.size];exact(Dh.mp G).1
   have O:t.place[i]? = Ab t.place[i]:=Ei B;rw[O];exact h1 e _ G (.inr (QC Z.tab.tb.rs O))
theorem At.type (h:At w I S es ep t i s.heap):s.TypeIs (.ref I) "set_iterator":=by
 obtain⟨slot,h,_⟩:=h;exact⟨_,h,rfl⟩
theorem dW (Z:lj w S es ep t)(L:At w I S es ep t i s.heap)
  (h1:∀ e Y slot,(qV w S ep es)[i]? = Ab e->s.heap.get? I=Ab (uj slot i S es.size ep)->s.heap.get? S=Ab (kh es ep t)->(w.params.followText "set-order" = true\/Cq t.place Y=i+1) ->
   Q e.2 { s with heap:=(s.heap.update I (Ma (·.setIfInBounds 0 (Kv Y)))).update I (Ma (·.setIfInBounds 1 (Kv ((i:Am)+1)))) })
  (h2:(qV w S ep es)[i]? = none->Ao (As prog w) A (do AaT (.ref I) 2 .none;raiseNew (<- newExc (.type "StopIteration") [])) (λ(fin:PySem.Fin) s'=>∃ r,fin=.done (.ret r)/\Q r s') E s) :
  Ao (As prog w) A (HT.«set_iterator.__next__» ⟨[.ref I],[]⟩) (λfin s'=>∃ r,fin=.done (.ret r)/\Q r s') E s:=by
 obtain⟨slot,J,C,B⟩:=L;show Ao _ _ (fieldsOf (.ref I) >>= _) _ _ s;refine Ac (wpAny_fieldsOf J rfl ?_);show Ao _ _ (setEntries S >>= _) _ _ s;refine Ac (Yk C rfl Z.tab.fits ?_);have N:(((es.size:Ai):Am) != ((es.size:Ai):Am))=false:=by simp
 rw[N];simp only[By,Ek];show Ao _ _ (setNext S (slot:Am).toNat (i:Am).toNat (ep:Am).toNat >>= _) _ _ s;rw[Fy,Fy,Fy];refine Ac (ZZ Z C B (λe Y G U=>?_) λG=>?_)
 .dsimp only
  refine Ac (Jw J rfl (by show 0<5;decide) ?_)
  have O:=DL (Ma (·.setIfInBounds 0 (Kv Y))) J rfl
  refine Ac (Jw O rfl (by show 1<5;decide) ?_)
  exact Ak ⟨_,rfl,h1 e Y slot G J C U⟩
 .exact h2 G
theorem LN (M:A.handled=none)(G:S≠I)(Z:lj w S es ep t):Walks prog w A I [I,S] [I] es.size (λi v=>∃ e,(qV w S ep es)[i]? = Ab e/\e.2=v) (λi h=>At w I S es ep t i h) where
 sub:=λb Y=>by simp at Y;simp[Y]
 frame:=λi h k ⟨slot,H,L,j⟩ B=>⟨slot,B I a8 _ H,B S a8 _ L,j⟩
 item:=λi s Q E y st N=>by
  unfold Pe;refine Ac (Iq (Eb (name:=Gh "__next__") st.type vF (Eg vF st.type mX (dW Z st (λe J slot U O C Y=>?_) λU=>?_) (lX _))))
  .refine Ak (N e.2 _ s.toks ⟨e,U,rfl⟩ ⟨J,?_,?_,Y⟩ λb o Y e=>?_)
   .exact DL _ (DL _ O rfl) rfl
   .rw[Bt _ _ G.symm,Bt _ _ G.symm];exact C
   .have Y:I≠b:=λz=>Y (by simp[z])
    rw[Bt _ _ Y,Bt _ _ Y];exact e
  .have:=Array.getElem?_eq_none_iff.mp U
   rw[uU] at this;fin2
 done:=λs Q E st N=>by
  unfold Pe;refine Ac (Iq (Eb (name:=Gh "__next__") st.type vF (Eg vF st.type mX (dW Z st (λe J slot U O C Y=>?_) λU=>?_) (lX _))))
  .have:=(Dh.mp U).1
   rw[uU] at this;fin2
  .obtain⟨slot,O,C,Y⟩:=st
   refine Ac (Jw O rfl (by show 2<5;decide) ?_)
   refine Ac ?_;simp only[newExc,newTuple];refine Ac (Dq ?_ (by size_fits))
   refine Ac (m:=Ru _ _) (Lf (a:=Dj) (by first|rfl|(simp only[Ru];rfl)) ?_)
   refine Dq ?_ (by size_fits)
   simp only[raiseNew];refine Ac (wpAny_handled ?_);rw[show A.in1.handled=none from M]
   refine Ac (Ak (wpAny_throw ?_));refine Ac (Qc (T:="StopIteration") (b:=true) ⟨_,Bf _ rfl,rfl⟩ Wy ?_);refine Ak (N _ s.toks λb o Y e=>?_);exact(((Ib ..).extBut.push _).push _) b o (λz=>Y (by simp[z])) e
 self:=λi s Q E st N=>by
  refine wpAny_pyIter_slot st.type sE (Eg sE st.type QV ?_ (XM _));show Ao _ _ (ret (.ref I)) _ _ s;exact Ak ⟨_,rfl,"set_iterator",_,st.type,vF.lookup,N⟩
theorem JY (Z:lj w S es ep t)(Y:s.heap.get? S=Ab (kh es ep t))(h:Q (.ref s.heap.objs.size) { s with heap:=s.heap.push (uj 0 0 S es.size ep) }) : Ao (As prog w) A (Qy (.ref S)) Q E s:=by
 have J:s.TypeIs (.ref S) "set":=⟨_,Y,rfl⟩;refine wpAny_pyIter_slot J Wm (Eg Wm J QU ?_ (PySem.F.args_set_iter_1 _));show Ao _ _ (Ua S >>= _) _ _ s;unfold Ua;refine Ac (Ac (Yk Y rfl Z.tab.fits (Ak ?_)));refine Ac ?_;rw[J3];refine Ac (Gq Y rfl Z.tab.fits ?_);dsimp only;refine Ac (Ac (Lg (Ak (Ak ?_))));rw[Z.tab.plain];simp only[Kt,He,Jx,By,Ek];refine Ac (Ak ?_);unfold setEpoch;refine Ac (Ac (Gq Y rfl Z.tab.fits (Ak ?_)));refine Ac (Dq (Ak ⟨_,rfl,"set_iterator",_,⟨_,Bf _ rfl,rfl⟩,vF.lookup,h⟩))
theorem F6 (Z:lj w S es ep t)(Y:s.heap.get? S=Ab (kh es ep t)):At w s.heap.objs.size S es ep t 0 (s.heap.push (uj 0 0 S es.size ep)):=
 ⟨0,Bf _ rfl,Aj _ Y,.inr (QD Z.tab.tb.rs)⟩
end
end _S
namespace _S
open PySem.W
variable {vs:ai}{n lo:Ai}{arr m:Aw Bm}
structure Ord {K:Type}(lt:K->K->Au):Prop where
 irr:∀ a,lt a a=false
 tr:∀ {a b c},lt a b=true->lt b c=true->lt a c=true
 tri:∀ {a b},lt a b=false->a=b\/lt b a=true
def q_ (a b:Am):Au:=decide (a<b)
theorem _J:Ord q_:=⟨λa=>by simp[q_],λ{a b c} Y Q=>by simp only[q_,Ce] at *;fin2,λ{a b} h=>by simp only[q_,Ce,Jj] at *;fin2⟩
theorem iT:∀ a:Aa Am,_H.lexLt a a=false
 |[]=>rfl
 |x::Q=>by rw[_H.bb,Ay rfl];exact iT Q
theorem YC:∀ {a b c:Aa Am},_H.lexLt a b=true->_H.lexLt b c=true->_H.lexLt a c=true
 |_,[],[],_,h=>by cases h
 |_,_::_,[],_,h=>by cases h
 |[],_,_::_,_,_=>rfl
 |_::_,[],_::_,h,_=>by cases h
 |x::O,y::N,z::G,Y,Q=>by
  rw[_H.bb] at Y Q ⊢;by_cases U:x=y
  .subst U
   rw[Ay rfl] at Y;by_cases J:x=z
   .rw[Ay J] at Q ⊢;exact YC Y Q
   .rw[AT J] at Q ⊢;exact Q
  .rw[AT U] at Y
   have Y:=Cf Y;by_cases J:y=z
   .subst J;rw[AT U];exact Cz Y
   .rw[AT J] at Q
    have Q:=Cf Q;rw[AT om]
    exact Cz om
theorem iU:∀ {a b:Aa Am},_H.lexLt a b=false->a=b\/_H.lexLt b a=true
 |[],[],_=>.inl rfl
 |[],_::_,h=>by cases h
 |_::_,[],_=>.inr rfl
 |x::Y,y::Q,h=>by
  rw[_H.bb] at h ⊢;by_cases e:x=y
  .subst e
   rw[Ay rfl] at h ⊢;rcases iU h with h|h
   .exact .inl (by rw[h])
   .exact .inr h
  .rw[AT e] at h
   have h:=of_decide_eq_false h;rw[AT (Dw e)];exact .inr (Cz om)
theorem yG:Ord _H.lexLt:=⟨iT,YC,iU⟩
theorem dD {α:Type}{p q:α->Au}:∀ {l:Aa α},(∀ x∈l,p x=true->q x=true)->(∃ x∈l,q x=true/\p x=false)->l.countP p<l.countP q
 |[],_,⟨x,h,_⟩=>by simp at h
 |a::l,h,⟨x,hx,J,Y⟩=>by
  have G:l.countP p<=l.countP q:=Wn λy Q=>h y (by simp[Q])
  rw[AaN,AaN];rcases Ax.mp hx with rfl|hx
  .rw[AT (by rw[Y];decide),Ay J];fin2
  .have N:=dD (l:=l) (λy Q=>h y (by simp[Q])) ⟨x,hx,J,Y⟩
   have:=h a a8
   cases U:p a with
   |false=>rw[AT da];split <;> fin2
   |true=>rw[Ay rfl,Ay (this U)];fin2
section
variable {K:Type}{lt':K->K->Au}
def pI (lt':K->K->Au)(ks:Aa K)(x:K):Am:=(ks.countP (λk=>lt' k x):Ai)
theorem cE (O:Ord lt'){ks:Aa K}{x y:K}(Y:x∈ks):lt' x y=decide (pI lt' ks x<pI lt' ks y):=by
 unfold pI;cases h:lt' x y with
 |true =>
  refine(Cz ?_).symm;have:=dD (l:=ks) (p:=λk=>lt' k x) (q:=λk=>lt' k y) (λz _ Q=>O.tr Q h) ⟨x,Y,h,O.irr x⟩;fin2
 |false =>
  refine(Dr ?_).symm;have:ks.countP (λk=>lt' k y)<=ks.countP (λk=>lt' k x):=by
   rcases O.tri h with e|h'
   .rw[e];exact Av _
   .exact Wn λz _ Q=>O.tr Q h'
  fin2
noncomputable def rM (lt':K->K->Au)(ks:Aa K)(d:K)(i j:Ai):Au:=lt' (ks.getD i d) (ks.getD j d)
def Nf (lt':K->K->Au)(l:Aa K):Prop:=l.Pairwise λa b=>lt' b a=false
theorem iY (O:Ord lt'):∀ {a b:Aa K},Nf lt' a->Nf lt' b->a.Perm b->a=b
 |[],b,_,_,p=>(List.nil_perm.mp p).symm
 |x::a,b,Y,Q,p=>by
  cases b with
  |nil=>exact absurd p.symm a8
  |cons y b =>
   unfold Nf at Y Q;rw[Ea] at Y Q;have e:x=y:=by
    rcases Ax.mp (p.mem_iff.mp (.head _)) with e|e
    .exact e
    .rcases Ax.mp (p.mem_iff.mpr (.head _)) with e'|e'
     .exact e'.symm
     .have J:=Y.1 y e'
      have U:=Q.1 x e;rcases O.tri J with e|h
      .exact e.symm
      .rw[U] at h;cases h
   subst e;rw[iY O Y.2 Q.2 (List.Perm.cons_inv p)]
theorem YR (O:Ord lt'){l:Aa K}(h:Nf lt' l)(nd:l.Nodup):l.Pairwise λa b=>lt' a b=true:=by
 refine List.Pairwise.imp₂ (λ{a b} Q Y=>?_) h nd;exact(O.tri Q).elim (λe=>absurd e.symm Y) id
noncomputable def vZ (lt':K->K->Au)(l:Aa K):Aa K:=l.mergeSort λa b=>!lt' b a
theorem bK (l:Aa K):(vZ lt' l).Perm l:=List.mergeSort_perm _ _
theorem oR (O:Ord lt')(l:Aa K):Nf lt' (vZ lt' l):=by
 have:=List.pairwise_mergeSort (le:=λa b=>!lt' b a) (λa b c Y Q=>?_) (λa b=>?_) l
 .exact this.imp λh=>by simpa using h
 .have Y:lt' b a=false:=by simpa using Y
  have Q:lt' c b=false:=by simpa using Q
  cases J:lt' c a with
  |false=>rfl
  |true =>
   rcases O.tri Y with e|h
   .rw[<- e] at J;rw[J] at Q;cases Q
   .have:=O.tr J h;rw[Q] at this;cases this
 .cases h:lt' b a with
  |false=>rfl
  |true =>
   cases U:lt' a b with
   |false=>rfl
   |true=>have:=O.tr h U;rw[O.irr] at this;cases this
noncomputable def jB (lt':K->K->Au)(x:K):Aa K->Aa K
 |[]=>[x]
 |y::l=>if lt' x y then x::y::l else if lt' y x then y::jB lt' x l else y::l
def jp (lt':K->K->Au):Aa K->Aa K
 |[]=>[]
 |x::Q=>jB lt' x (jp lt' Q)
set_option tactic.hygienic true in
theorem mF (O:Ord lt')(x y:K):∀ l:Aa K,y∈jB lt' x l↔y=x\/y∈l
 |[]=>by simp[jB]
 |z::l=>by
  unfold jB
  split
  .simp
  .rename_i Y
   split
   .rw[Ax,mF O x y l,Ax]
    exact⟨λh=>by rcases h with h|h|h <;> simp[h],λh=>by rcases h with h|h|h <;> simp[h]⟩
   .rename_i Q
    have:x=z:=(O.tri (by simpa using Y)).elim id λh=>absurd h Q
    subst this;simp
set_option tactic.hygienic true in
theorem iG (O:Ord lt')(x:K):∀ l:Aa K,l.Pairwise (λa b=>lt' a b=true)->(jB lt' x l).Pairwise (λa b=>lt' a b=true)
 |[],_=>by simp[jB]
 |z::l,h=>by
  rw[Ea] at h;unfold jB
  split
  .rename_i Q
   refine Ea.mpr ⟨λy hy=>?_,Ea.mpr h⟩;rcases Ax.mp hy with rfl|hy
   .exact Q
   .exact O.tr Q (h.1 y hy)
  .split
   .rename_i Y
    refine Ea.mpr ⟨λy hy=>?_,iG O x l h.2⟩;rcases (mF O x y l).mp hy with rfl|hy
    .exact Y
    .exact h.1 y hy
   .exact Ea.mpr h
theorem vG (O:Ord lt')(y:K):∀ l:Aa K,y∈jp lt' l↔y∈l
 |[]=>by simp[jp]
 |x::l=>by rw[jp,mF O,vG O y l,Ax]
theorem gH (O:Ord lt'):∀ l:Aa K,(jp lt' l).Pairwise (λa b=>lt' a b=true)
 |[]=>by simp[jp]
 |x::l=>iG O x _ (gH O l)
theorem fJ (O:Ord lt'):∀ {a b:Aa K},a.Pairwise (λa b=>lt' a b=true)->b.Pairwise (λa b=>lt' a b=true)->(∀ x,x∈a↔x∈b)->a=b
 |[],[],_,_,_=>rfl
 |[],y::b,_,_,h=>by have:=(h y).mpr a8;simp at this
 |x::a,[],_,_,h=>by have:=(h x).mp a8;simp at this
 |x::a,y::b,U,J,h=>by
  rw[Ea] at U J;have Y:∀ {u v},lt' u v=true->lt' v u=true->Fp:=λp q=>by have:=O.tr p q;rw[O.irr] at this;cases this
  have e:x=y:=by
   rcases Ax.mp ((h x).mp a8) with e|e
   .exact e
   .rcases Ax.mp ((h y).mpr a8) with e'|e'
    .exact e'.symm
    .exact(Y (J.1 x e) (U.1 y e')).elim
  subst e;have G:∀ {z:K} {l:Aa K},(∀ y∈l,lt' x y=true)->z∈l->z≠x:=λh Q e=>by subst e;have:=h _ Q;rw[O.irr] at this;cases this
  rw[fJ O U.2 J.2 λz=>⟨λQ=>?_,λQ=>?_⟩]
  .exact(Ax.mp ((h z).mp (by simp[Q]))).elim (λe=>absurd e (G U.1 Q)) id
  .exact(Ax.mp ((h z).mpr (by simp[Q]))).elim (λe=>absurd e (G J.1 Q)) id
theorem EC (O:Ord lt'){l xs:Aa K}(h:Nf lt' l)(nd:l.Nodup)(m:∀ x,x∈l↔x∈xs):l=jp lt' xs:=
 fJ O (YR O h nd) (gH O xs) λx=>by rw[m,vG O]
end
theorem TL:Xv (.type "set") "__len__" = pure (Ab (.builtin "set.__len__")):=PySem.F.slot_set_len.lookup
section
variable {prog:Bc}{w:Bu}{A:Bl}{E:ae}{s:Ag}{S:Af}{es:Aw (Am × Ad)}{ep:Ai}{t:Gb}
theorem JR (hT:s.TypeIs (.ref r) "set"){Q:Au->Ag->Prop}(h:Q false s):Ao (As prog w) A (Rw (.ref r)) Q E s:=by
 unfold Rw;refine Ac (Nw hT TL ?_);generalize J:("set.__len__" : Er)=id0
 wp_delta
 rw[show splitId id0=Ab ("set","__len__") from by subst J;decide +kernel]
 subst J;refine Ac (Qc (T:="set") (b:=true) hT (by rw[Xa];kernel_rfl) ?_)
 refine Vo (λY=>absurd Y da) (λ_=>?_)
 refine Vo (λ_=>?_) (λY=>absurd (by decide +kernel) Y)
 exact Ac (Kk hT (Ak h))
theorem cX {Q:Aa Ad->Ag->Prop}(r:A.handled=none)(Z:lj w S es ep t)(v:s.heap.get? S=Ab (kh es ep t))(hn:es.size<=1000)
  (h:∀ h' tk,(∀ b o,s.heap.get? b=Ab o->h'.get? b=Ab o)->s.heap.objs.size<h'.objs.size->Q ((qV w S ep es).toList.map (·.2)) { s with heap:=h',toks:=tk }) : Ao (As prog w) A (collect (.ref S)) Q E s:=by
 have H:S<s.heap.objs.size:=Az v;unfold collect;refine Ac (wpAny_runValue (Gu PySem.F.entry_proto_collect ?_));rw[Gc PySem.F.plain_proto_collect _];show Ao _ A.in1 (newList [] >>= λl=>again (.builtin "list.__iadd__" ⟨[l,.ref S],[]⟩)) _ _ s;refine Ac (Dq (Ak ⟨Jl Uw _,Gu PySem.F.entry_list_iadd ?_⟩));rw[Gc Uw _];have hD:(s.heap.push { cls:=.type "list",data:=.seq ([] : Aa Ad).toArray }).get? s.heap.objs.size=Ab { cls:=.type "list",data:=.seq #[] }:=Bf _ rfl;have J:(s.heap.push { cls:=.type "list",data:=.seq ([] : Aa Ad).toArray }).get? S=Ab (kh es ep t):=Aj _ v;show Ao _ A.in1 (Rx (.ref s.heap.objs.size) (.ref S) (.ref s.heap.objs.size)) _ _ _;unfold Rx;have z:Yj { s with heap:=s.heap.push { cls:=.type "list",data:=.seq ([] : Aa Ad).toArray } } (.ref S) "set":=⟨_,J,rfl⟩
 refine Ac (Kk z ?_);have h1:Ub (.ref s.heap.objs.size) (.ref S)=false:=by simp[Ub];exact Hd H
 rw[AT (by rw[h1];decide)]
 refine Ac (JY (s:={ s with heap:=s.heap.push { cls:=.type "list",data:=.seq ([] : Aa Ad).toArray } }) Z J ?_)
 have N:=Aj (uj 0 0 S es.size ep) hD;have j:Yj { s with heap:=(s.heap.push { cls:=.type "list",data:=.seq ([] : Aa Ad).toArray }).push (uj 0 0 S es.size ep) } (.ref S) "set":=⟨_,Aj _ J,rfl⟩
 refine Ac (Dn (JR j ?_));refine Vo (λ_=>?_) (λk=>absurd da k)
 refine Ac (Gw (Ac ?_));show Ao _ _ (updateSeq s.heap.objs.size (·.push .none) >>= λ_=>updateSeq s.heap.objs.size (·.pop)) _ _ _
 refine Ac (Oc N rfl ?_);have O:=DL (Fk (·.push Dj)) N rfl
 refine Oc (hz:=by seq_fits) O rfl ?_
 have g:=DL (Fk (·.pop)) O rfl
 have M:(s.heap.push { cls:=.type "list",data:=.seq ([] : Aa Ad).toArray }).objs.size=s.heap.objs.size+1:=Ep ..;have U:∀ {b:Af} {o:Co},b≠s.heap.objs.size->((s.heap.push { cls:=.type "list",data:=.seq ([] : Aa Ad).toArray }).push (uj 0 0 S es.size ep)).get? b=Ab o ->
   ((((s.heap.push { cls:=.type "list",data:=.seq ([] : Aa Ad).toArray }).push (uj 0 0 S es.size ep)).update s.heap.objs.size (Fk (·.push Dj))).update s.heap.objs.size (Fk (·.pop))).get? b=Ab o:=
  λG e=>(Bt _ _ (Dw G)).trans ((Bt _ _ (Dw G)).trans e)
 have u:=F6 (w:=w) (s:={ s with heap:=s.heap.push { cls:=.type "list",data:=.seq ([] : Aa Ad).toArray } }) Z J
 refine Ak ⟨Jl PySem.F.plain_extend_loop _,?_⟩;refine codeAny_extend_loopS ((LN (prog:=prog) (A:=A.in1) (I:=(s.heap.push { cls:=.type "list",data:=.seq ([] : Aa Ad).toArray }).objs.size) r (by rw[M];exact Cw (Tn H)) Z).toS) (by rw[Es];lia) s.heap.objs.size ?_ _ es.size 0 _ #[] _ rfl (Hi _) ?_ g (ItemsOf.nil _) λd T c L B Y=>?_
 .rw[M]
  simp only[Ax,Di,Gk,Wh];exact⟨Cw (Nb _),Hd H⟩
 .obtain⟨slot,a,a2,x⟩:=u
  exact⟨slot,U (by rw[M];exact Hd (Nb _)) a,U (Cw H) a2,x⟩
 .show Ao _ A (load s.heap.objs.size >>= _) _ _ d
  refine Ac (wpAny_load B ?_);obtain⟨h',g',d',y,p⟩:=d;have f:g'=s.gens:=L.gens;have ed:d'=s.drawn:=L.drawn;have eo:p=s.os:=L.os;subst f;subst ed;subst eo;have e:T.toList=(qV w S ep es).toList.map (·.2):=by
   refine Aa1 λi=>?_;rw[Bq,Ee,Bq];by_cases hi:i<es.size
   .have C:i<T.size:=by rw[Y.1];exact hi
    obtain⟨e,he,q⟩:=Y.2 i T[i] (Ei C);rw[Ei C,he,Ko,q]
   .rw[Vp (by rw[Y.1];lia),Vp (by rw[uU];lia)]
    rfl
  refine Ak ?_;show Q T.toList _;rw[e];refine h h' y (λb o q=>?_) (Az B);have G:b<s.heap.objs.size:=Az q;refine L.heap b o (λhx=>?_) (U (Cw G) (Aj _ (Aj _ q)));simp only[Ax,Di,Gk] at hx;rcases hx with hx|hx
  .exact absurd G (by rw[hx];exact Ex _)
  .exact absurd G (by rw[hx,M];exact Me.mpr (Nz _))
end
def nY:Au->Bm->Aw Bm->Ai->Ai->Ai->Nh Fw Lb (Al Ai):=sortPriv% PySem.Builtin.gallop
def KB:Aw Bm->Aw Bm->Nh Fw Lb (Aw Bm):=sortPriv% PySem.Builtin.mergeLo
def KA:Aw Bm->Aw Bm->Nh Fw Lb (Aw Bm):=sortPriv% PySem.Builtin.mergeHi
def nv:Bm:=(Dj,Dj)
section
variable {M:Mf}{A:Bl}{E:ae}{s:Ag}{κ: Od}{U:Bm->Prop}{r:Bm->Am}
structure Cm (M:Mf)(A:Bl)(s:Ag)(κ : Od)(U:Bm->Prop)(r:Bm->Am):Prop where
 lt:∀ {x y:Bm},U x->U y->∀ {E:ae} {Q:Al Au->Fw->Prop} {st:Fw},kindOf st=κ->Q (Ab (decide (r x<r y))) st->wpS M A E s (lt' x y) Q st
theorem zG {i:Ai}{Q:Bm->Fw->Prop}{st:Fw}(h:i<arr.size)(q:Q (arr.getD i nv) st):wpS M A E s (elem' arr i) Q st:=by
 rw[elem'_eq,getElem?_pos arr i h];have e:arr.getD i nv=arr[i]:=by simp[Hc,h]
 rw[e] at q;exact Bs q
theorem XI (C:Cm M A s κ U r){left:Au}{Y:Bm}{arr:Aw Bm}{i:Ai}{Q:Al Au->Fw->Prop}{st:Fw}(G:kindOf st=κ)(hi:i<arr.size)(N:U (arr.getD i nv))(J:U Y)
  (q:Q (Ab (if left then decide (r (arr.getD i nv)<r Y) else !decide (r Y<r (arr.getD i nv)))) st) :
  wpS M A E s (do let x <- elem' arr i;if left then lt' x Y else (do let a <- lt' Y x;pure (a.map (λb=>!b)))) Q st:=by
 refine Be (zG hi ?_);cases left with
 |true=>exact C.lt N J G q
 |false=>exact Be (C.lt J N G (Bs q))
theorem nD (C:Cm M A s κ U r){left:Au}{N:Bm}{arr:Aw Bm}{base n Y G:Ai}{Q:Al Ai->Fw->Prop}{st:Fw}(y:kindOf st=κ)(e:Y<n)(hb:base+n<=arr.size)(v:∀ i,i<n->U (arr.getD (base+i) nv))(w:U N)(hc:G<=n)
  (p:∀ i,i<n->(if left then decide (r (arr.getD (base+i) nv)<r N) else !decide (r N<r (arr.getD (base+i) nv)))=decide (i<G)) (h:Q (Ab G) st):wpS M A E s (nY left N arr base n Y) Q st:=by
 have B:∀ {i:Ai} {E:ae} {Q:Al Au->Fw->Prop},i<n->Q (Ab (decide (i<G))) st->wpS M A E s (do let x <- elem' arr (base+i);if left then lt' x N else (do let a <- lt' N x;pure (a.map (λb=>!b)))) Q st:=by
  intro i E Q hi q;exact XI C y ak (v i hi) w (by rw[p i hi];exact q)
 have zg:∀ {lo hi:Ai} {f:Ai->Al (Al Ai) × Ai × Ai->Nh Fw Lb (ForInStep (Al (Al Ai) × Ai × Ai))},lo<=G->G<=hi->hi<=n ->
   (∀ x a b,f x (none,a,b)=if a>=b then pure (.done (none,a,b)) else ((do let x <- elem' arr (base+(a+(b-a)/2));if left then lt' x N else (do let a <- lt' N x;pure (a.map (λb=>!b)))) >>= λo=>match o with
    |some t=>if t then pure (.yield (none,a+(b-a)/2+1,b)) else pure (.yield (none,a,a+(b-a)/2))
    |_=>pure (.done (Ab none,a,b))))->wpS M A E s (forIn [0:n] (none,lo,hi) f) (λc J=>J=st/\∃ a,c=(none,a,G)) st:=by
  intro lo hi f d k h3 hf;refine Fz (I:=λx c J=>J=st/\∃ a b,c=(none,a,b)/\a<=G/\G<=b/\b<=n/\b+x<=n+a) ?_ ?_ ⟨rfl,lo,hi,rfl,d,k,h3,by lia⟩
  .rintro x c J _ j ⟨rfl,a,b,rfl,O,L,T,u⟩
   rw[hf];by_cases g:a>=b
   .rw[Ay g];exact Bs ⟨rfl,a,by rw[show b=G by lia]⟩
   .rw[AT g]
    have l:a<=a+(b-a)/2/\a+(b-a)/2<b:=by lia
    generalize a+(b-a)/2=m at l;refine Be (B ak ?_)
    by_cases z:m<G
    .simp only[z,Lh,Ef]
     exact Bs ⟨rfl,_,_,rfl,by lia,L,T,by lia⟩
    .simp only[z,Ll,By,Ek]
     exact Bs ⟨rfl,_,_,rfl,O,by lia,by lia,by lia⟩
  .rintro c J ⟨rfl,a,b,rfl,O,L,T,u⟩
   exact⟨rfl,a,by rw[show b=G by lia]⟩
 refine Be (B e ?_);dsimp only;by_cases H:Y<G
 .simp only[H,Lh,Ef]
  refine Be (Ic (Fz (I:=λx c J=>J=st/\∃ a b,c=(none,a,b)/\Y+a<G/\a<b/\x<b)
   (Q:=λc J=>J=st/\∃ a b,c=(none,a,b)/\Y+a<G/\G<=Y+min b (n-Y)) ?_ ?_ ⟨rfl,0,1,rfl,H,by lia,by lia⟩) ?_)
  .rintro x c J _ j ⟨rfl,a,b,rfl,O,L,T⟩
   dsimp only;by_cases g:b>=n-Y
   .rw[Ay g];exact Bs ⟨rfl,a,b,rfl,O,by lia⟩
   .rw[AT g]
    refine Be (B ak ?_)
    by_cases z:Y+b<G
    .simp only[z,Lh,Kt,By,Ek]
     exact Bs ⟨rfl,_,_,rfl,z,by lia,by lia⟩
    .simp only[z,Ll,WP,Ef]
     exact Bs ⟨rfl,a,b,rfl,O,by lia⟩
  .rintro c J ⟨rfl,a,b,rfl,O,L,T⟩
   exact⟨rfl,a,b,rfl,O,by lia⟩
  .rintro c J ⟨rfl,a,b,rfl,O,L⟩
   dsimp only;refine Be (Ic (zg (lo:=Y+a+1) (hi:=Y+min b (n-Y)) ak L ak λ_ _ _=>rfl) ?_)
   rintro c J ⟨rfl,a',rfl⟩;exact Bs h
 .simp only[H,Ll,By,Ek]
  refine Be (Ic (Fz (I:=λx c J=>J=st/\∃ a b,c=(none,a,b)/\G+a<=Y/\a<b/\x<b)
   (Q:=λc J=>J=st/\∃ a b,c=(none,a,b)/\G+a<=Y/\Y+1<=G+min b (Y+1)) ?_ ?_ ⟨rfl,0,1,rfl,by lia,by lia,by lia⟩) ?_)
  .rintro x c J _ j ⟨rfl,a,b,rfl,O,L,T⟩
   dsimp only;by_cases g:b>=Y+1
   .rw[Ay g];exact Bs ⟨rfl,a,b,rfl,O,by lia⟩
   .rw[AT g]
    refine Be (B ak ?_)
    by_cases z:Y-b<G
    .simp only[z,Lh,Ef]
     exact Bs ⟨rfl,a,b,rfl,O,by lia⟩
    .simp only[z,Ll,By,Ek]
     exact Bs ⟨rfl,_,_,rfl,by lia,by lia,by lia⟩
  .rintro c J ⟨rfl,a,b,rfl,O,L,T⟩
   exact⟨rfl,a,b,rfl,O,by lia⟩
  .rintro c J ⟨rfl,a,b,rfl,O,L⟩
   dsimp only;refine Be (Ic (zg (lo:=Y+1-min b (Y+1)) (hi:=Y-a) ak ak ak λ_ _ _=>rfl) ?_)
   rintro c J ⟨rfl,a',rfl⟩;exact Bs h
end
def Le (r:Bm->Am)(x y:Bm):Prop:=r x<=r y
structure Mg (r:Bm->Am)(o A B T:Aa Bm):Prop where
 p1:(o++A).Pairwise (Le r)
 p2:(o++B).Pairwise (Le r)
 pm:(o++A++B).Perm T
structure Mh (r:Bm->Am)(A B o T:Aa Bm):Prop where
 p1:(A++o).Pairwise (Le r)
 p2:(B++o).Pairwise (Le r)
 pm:(A++B++o).Perm T
section
variable {r:Bm->Am}{o A B A1 A2 B1 B2 T:Aa Bm}
theorem Mg.b (h:Mg r o A (B1++B2) T)(l:∀ x∈B1,∀ y∈A,Le r x y):Mg r (o++B1) A B2 T:=by
 obtain⟨Q,Y,U⟩:=h;refine⟨?_,by rw[Cg];exact Y,?_⟩
 .rw[Cg]
  rw[Dz] at Q Y ⊢;refine⟨Q.1,?_,λx J y hy=>?_⟩
  .rw[Dz]
   exact⟨(Dz.mp Y.2.1).1,Q.2.1,l⟩
  .rcases Bv.mp hy with hy|hy
   .exact Y.2.2 x J y (Dp _ hy)
   .exact Q.2.2 x J y hy
 .refine Qw ?_ U
  simp only[Cg];refine Ki _ ?_;simp only[<- Cg];exact Ju _ Kj
theorem Mg.a (h:Mg r o (A1++A2) B T)(l:∀ x∈A1,∀ y∈B,Le r x y):Mg r (o++A1) A2 B T:=by
 obtain⟨Q,Y,U⟩:=h;refine⟨by rw[Cg];exact Q,?_,by simpa only [Cg] using U⟩
 rw[Cg];rw[Dz] at Q Y ⊢;refine⟨Y.1,?_,λx J y hy=>?_⟩
 .rw[Dz]
  exact⟨(Dz.mp Q.2.1).1,Y.2.1,l⟩
 .rcases Bv.mp hy with hy|hy
  .exact Q.2.2 x J y (Dp _ hy)
  .exact Y.2.2 x J y hy
theorem Mh.a (h:Mh r (A1++A2) B o T)(l:∀ x∈B,∀ y∈A2,Le r x y):Mh r A1 B (A2++o) T:=by
 obtain⟨Q,Y,U⟩:=h;refine⟨by rw[<- Cg];exact Q,?_,?_⟩
 .rw[Cg] at Q
  rw[Dz] at Q Y ⊢;refine⟨Y.1,Q.2.1,λx J y hy=>?_⟩;rcases Bv.mp hy with hy|hy
  .exact l x J y hy
  .exact Y.2.2 x J y hy
 .refine Qw ?_ U
  simp only[Cg];refine Ki _ ?_;simp only[<- Cg];exact Ju _ Kj
theorem Mh.b (h:Mh r A (B1++B2) o T)(l:∀ x∈A,∀ y∈B2,Le r x y):Mh r A B1 (B2++o) T:=by
 obtain⟨Y,Q,U⟩:=h;refine⟨?_,by rw[<- Cg];exact Q,by simpa only [Cg] using U⟩
 rw[Cg] at Q;rw[Dz] at Y Q ⊢;refine⟨Y.1,Q.2.1,λx J y hy=>?_⟩;rcases Bv.mp hy with hy|hy
 .exact l x J y hy
 .exact Y.2.2 x J y hy
end
structure Mo (r:Bm->Am)(T:Aa Bm)(m:Aw Bm):Prop where
 pm:m.toList.Perm T
 up:m.toList.Pairwise (Le r)
abbrev cK (st:Fw)(g:Ai):Fw:=Dl (kindOf st) (arrOf st) (pendingOf st) g (failedOf st)
theorem nU {a:Aw Bm}{i:Ai}(h:i<a.size):a.toList.drop i=a.getD i nv::a.toList.drop (i+1):=by
 rw[Fi (by simpa using h)]
 congr 1
 simp[Hc,h]
theorem zT {a:Aw Bm}{i:Ai}(h:i<a.size):a.getD i nv∈a.toList:=by
 have e:a.getD i nv=a[i]:=by simp[Hc,h]
 rw[e];exact Array.getElem_mem_toList h
theorem yK {r:Bm->Am}{a:Aw Bm}(s:a.toList.Pairwise (Le r)){i j:Ai}(h:i<=j)(Q:j<a.size):r (a.getD i nv)<=r (a.getD j nv):=by
 rcases Mz i j with l|l
 .have e:=Ks.mp s i j (by simpa using Ji l Q) (by simpa using Q) l
  have Y:i<a.size:=Ji l Q;simpa [Hc,Y,Q,Le] using e
 .rw[Vq h l];exact Qh _
theorem p8 {a:Aw Bm}{x:Bm}(h:x∈a.toList.drop i):∃ j,i<=j/\j<a.size/\x=a.getD j nv:=by
 obtain⟨k,Y,e⟩:=Cp.mp h;rw[Tj] at e;have Q:k<a.size-i:=by simpa using Y
 refine⟨i+k,by lia,by lia,?_⟩
 have:i+k<a.size:=by lia
 simp[Hc,this,<- e]
theorem p9 {a:Aw Bm}{x:Bm}(h:x∈a.toList.take n):∃ j,j<n/\j<a.size/\x=a.getD j nv:=by
 obtain⟨k,Y,e⟩:=Cp.mp h;rw[Ti] at e;have Q:k<n/\k<a.size:=by rw[Dx,Bp] at Y;lia
 refine⟨k,Q.1,Q.2,?_⟩;simp[Hc,Q.2,<- e]
theorem mC {a:Aw Bm}{i k:Ai}:(a.extract i (i+k)).toList++a.toList.drop (i+k)=a.toList.drop i:=by
 rw[Kx,Iu,Gv,<- List.drop_drop];exact Qi _ _
theorem bS {a:Aw Bm}:(a.extract i a.size).toList=a.toList.drop i:=by
 rw[Kx,Iu];exact Fl a8
theorem gB {a:Aw Bm}{i k:Ai}{x:Bm}(h:x∈(a.extract i (i+k)).toList):∃ j,i<=j/\j<i+k/\j<a.size/\x=a.getD j nv:=by
 rw[Kx,Iu,Gv] at h;obtain⟨m,Y,e⟩:=Cp.mp h;rw[Ti,Tj] at e;have Q:m<k/\i+m<a.size:=by rw[Dx,Gg,Bp] at Y;lia
 refine⟨i+m,by lia,by lia,Q.2,?_⟩
 simp[Hc,Q.2,<- e]
def GL (r:Bm->Am)(a b o:Aw Bm)(i j:Ai):Prop:=Mg r o.toList (a.toList.drop i) (b.toList.drop j) (a.toList++b.toList)
section
variable {r:Bm->Am}{a b o:Aw Bm}{i j k:Ai}
theorem GL.pb (O:a.toList.Pairwise (Le r))(h:GL r a b o i j)(U:j<b.size)(l:i<a.size->r (b.getD j nv)<=r (a.getD i nv)):GL r a b (o.push (b.getD j nv)) i (j+1):=by
 have G:Mg r o.toList (a.toList.drop i) ([b.getD j nv]++b.toList.drop (j+1)) (a.toList++b.toList):=by rw[Wp,<- nU U];exact h
 have:=G.b λx Y y N=>by
  cases Cn.mp Y;obtain⟨m,Q,J,rfl⟩:=p8 N;exact Gi (l ak) (yK O Q J)
 unfold GL;rw[Eo];exact this
theorem GL.pa (G:b.toList.Pairwise (Le r))(h:GL r a b o i j)(hi:i<a.size)(l:j<b.size->r (a.getD i nv)<=r (b.getD j nv)):GL r a b (o.push (a.getD i nv)) (i+1) j:=by
 have J:Mg r o.toList ([a.getD i nv]++a.toList.drop (i+1)) (b.toList.drop j) (a.toList++b.toList):=by rw[Wp,<- nU hi];exact h
 have:=J.a λx Q y U=>by
  cases Cn.mp Q;obtain⟨m,N,Y,rfl⟩:=p8 U;exact Gi (l ak) (yK G N Y)
 unfold GL;rw[Eo];exact this
theorem GL.ea (U:b.toList.Pairwise (Le r))(h:GL r a b o i j)(B:j<b.size)(l:∀ m,m<k->r (a.getD (i+m) nv)<=r (b.getD j nv)):GL r a b (o++a.extract i (i+k)) (i+k) j:=by
 have Y:Mg r o.toList ((a.extract i (i+k)).toList++a.toList.drop (i+k)) (b.toList.drop j) (a.toList++b.toList):=by rw[mC];exact h
 have:=Y.a λx Q y J=>by
  obtain⟨m,T,O,C,rfl⟩:=gB Q;obtain⟨L,N,G,rfl⟩:=p8 J;have:=l (m-i) ak
  rw[show i+(m-i)=m by lia] at this
  exact Gi this (yK U N G)
 unfold GL;rw[El];exact this
theorem GL.eb (G:a.toList.Pairwise (Le r))(h:GL r a b o i j)(hi:i<a.size)(l:∀ m,m<k->r (b.getD (j+m) nv)<=r (a.getD i nv)):GL r a b (o++b.extract j (j+k)) i (j+k):=by
 have Y:Mg r o.toList (a.toList.drop i) ((b.extract j (j+k)).toList++b.toList.drop (j+k)) (a.toList++b.toList):=by rw[mC];exact h
 have:=Y.b λx Q y J=>by
  obtain⟨m,O,C,B,rfl⟩:=gB Q;obtain⟨L,N,U,rfl⟩:=p8 J;have:=l (m-j) ak
  rw[show j+(m-j)=m by lia] at this
  exact Gi this (yK G N U)
 unfold GL;rw[El];exact this
theorem GL.fin (h:GL r a b o i j)(e:i=a.size\/j=b.size):Mo r (a.toList++b.toList) (o++a.extract i a.size++b.extract j b.size):=by
 refine⟨?_,?_⟩ <;> rw[El,El,bS,bS]
 .exact h.pm
 .rcases e with rfl|rfl
  .rw[Mb a8,Gs];exact h.p2
  .rw[Mb (l:=b.toList) a8,Gs];exact h.p1
theorem GL.last (h:GL r a b o i j)(e:i+1=a.size)(l:∀ x∈b.toList,Le r x (a.getD (a.size-1) nv)):Mo r (a.toList++b.toList) (o++b.extract j b.size++a.extract i a.size):=by
 have J:i<a.size:=by lia
 have U:a.toList.drop i=[a.getD i nv]:=by rw[nU J,Mb (by simp;lia)]
 refine⟨?_,?_⟩ <;> rw[El,El,bS,bS]
 .refine Qw ?_ h.pm
  rw[Cg,Cg];exact Ki _ Kj
 .have Q:=h.p1
  rw[U] at Q ⊢;rw[Dz] at Q ⊢;refine⟨h.p2,Ln _ _,λx hx y Y=>?_⟩;rcases Bv.mp hx with hx|hx
  .exact Q.2.2 x hx y Y
  .cases Cn.mp Y
   have:=l x (Ky hx);rw[show a.size-1=i by lia] at this
   exact this
end
theorem rZ {p:Ai->Au}:∀ (n:Ai),(∀ i j,i<=j->j<n->p j=true->p i=true)->∃ c,c<=n/\∀ i,i<n->p i=decide (i<c)
 |0,_=>⟨0,Av _,λi h=>by lia⟩
 |n+1,h=>by
  obtain⟨c,Y,e⟩:=rZ n λi j a b=>h i j a ak
  by_cases q:p n=true
  .refine⟨n+1,Av _,λi Q=>?_⟩
   rw[h i n ak ak q]
   simp[Q]
  .refine⟨c,by lia,λi Q=>?_⟩
   rcases Mz i n with l|l
   .exact e i l
   .have:i=n:=by lia
    subst this;have:¬ i<c:=by lia
    simp[this,q]
section
variable {M:Mf}{A:Bl}{E:ae}{s:Ag}{κ: Od}{U:Bm->Prop}{r:Bm->Am}
theorem qU {σ α:Type}{c:Prop}[Jd c]{x y:Nh σ Lb α}{Q:α->σ->Prop}{st:σ}(h1:c->wpS M A E s x Q st)(h2:¬ c->wpS M A E s y Q st):wpS M A E s (if c then x else y) Q st:=by
 by_cases h:c
 .rw[Ay h];exact h1 h
 .rw[AT h];exact h2 h
theorem JN (C:Cm M A s κ U r){Y:Bm}{arr:Aw Bm}{base n J:Ai}{Q:Al Ai->Fw->Prop}{st:Fw}(B:kindOf st=κ)(w:J<n)(T:base+n<=arr.size)(H:∀ i,i<n->U (arr.getD (base+i) nv))(N:U Y)
  (I:∀ i j,i<=j->j<n->r (arr.getD (base+i) nv)<=r (arr.getD (base+j) nv)) (h:∀ c,c<=n->(∀ i,i<c->r (arr.getD (base+i) nv)<=r Y)->(∀ i,c<=i->i<n->r Y<r (arr.getD (base+i) nv))->Q (Ab c) st):wpS M A E s (nY false Y arr base n J) Q st:=by
 obtain⟨c,O,e⟩:=rZ (p:=λi=>!decide (r Y<r (arr.getD (base+i) nv))) n λi j a b q=>by
  have:=I i j a b;simp only[Jg,Jj] at q ⊢
  lia
 refine nD C B w T H N O (λi G=>by simpa using e i G) (h c O (λi G=>?_) λi G L=>?_)
 .have:=e i ak
  simp only[G,Lh,Jg,Jj] at this
  lia
 .have:=e i L
  simp only[show ¬ i<c by lia,Ll,Bool.not_eq_false',Ce] at this
  exact this
theorem JO (C:Cm M A s κ U r){Y:Bm}{arr:Aw Bm}{base n J:Ai}{Q:Al Ai->Fw->Prop}{st:Fw}(B:kindOf st=κ)(w:J<n)(T:base+n<=arr.size)(H:∀ i,i<n->U (arr.getD (base+i) nv))(N:U Y)
  (I:∀ i j,i<=j->j<n->r (arr.getD (base+i) nv)<=r (arr.getD (base+j) nv)) (h:∀ c,c<=n->(∀ i,i<c->r (arr.getD (base+i) nv)<r Y)->(∀ i,c<=i->i<n->r Y<=r (arr.getD (base+i) nv))->Q (Ab c) st):wpS M A E s (nY true Y arr base n J) Q st:=by
 obtain⟨c,O,e⟩:=rZ (p:=λi=>decide (r (arr.getD (base+i) nv)<r Y)) n λi j a b q=>by
  have:=I i j a b;simp only[Ce] at q ⊢
  lia
 refine nD C B w T H N O (λi G=>by simpa using e i G) (h c O (λi G=>?_) λi G L=>?_)
 .have:=e i ak
  simp only[G,Lh,Ce] at this;exact this
 .have:=e i L
  simp only[show ¬ i<c by lia,Ll,Jj] at this
  lia
end
section
variable {M:Mf}{A:Bl}{E:ae}{s:Ag}{σ α γ δ:Type}{Q:α->σ->Prop}{st:σ}{c c' c2:Prop}[Jd c][Jd c'][Jd c2]
theorem oX {K:γ->Nh σ Lb α}(h:∀ z,wpS M A E s (K z) Q st):wpS M A E s (if c then K x else K y) Q st:=qU (λ_=>h x) λ_=>h y
theorem U6 {K:γ->δ->Nh σ Lb α}(P:γ->δ->Prop)(hK:∀ z w,P z w->wpS M A E s (K z w) Q st)(h1:c->c'->wpS M A E s u Q st)(h2:c->¬ c'->P x w)(h3:¬ c->P y v):wpS M A E s (if c then (if c' then u else K x w) else K y v) Q st:=qU (λe=>qU (h1 e) λY=>hK _ _ (h2 e Y)) λe=>hK _ _ (h3 e)
theorem U7 {K:γ->δ->Nh σ Lb α}(P:γ->δ->Prop)(hK:∀ z w,P z w->wpS M A E s (K z w) Q st)(h1:c->c'->wpS M A E s u Q st)(h1':c->¬ c'->c2->wpS M A E s J Q st)(h2:c->¬ c'->¬ c2->P x w)(h3:¬ c->P y v):wpS M A E s (if c then (if c' then u else if c2 then J else K x w) else K y v) Q st:=qU (λe=>qU (h1 e) λY=>qU (h1' e Y) λU=>hK _ _ (h2 e Y U)) λe=>hK _ _ (h3 e)
end
inductive MI {ρ γ:Type}(f:Aw Bm->Ai->Ai->ρ->γ)(P:Aw Bm->Ai->Ai->Prop)(st:Fw)(c:Al (Aw Bm) × γ)(st':Fw):Prop
 |mk (g:Ai) (o:Aw Bm) (i j:Ai) (q:ρ) (hs:st'=cK st g) (hc:c=(none,f o i j q)) (h:P o i j):MI f P st c st'
inductive MQ {ρ γ:Type}(f:Aw Bm->Ai->Ai->ρ->γ)(F:Aw Bm->Prop)(P:Aw Bm->Ai->Ai->Prop)(st:Fw)(c:Al (Aw Bm) × γ)(st':Fw):Prop
 |fin (g:Ai) (m:Aw Bm) (hs:st'=cK st g) (hc:c.1=Ab m) (hm:F m):MQ f F P st c st'
 |on (g:Ai) (o:Aw Bm) (i j:Ai) (q:ρ) (hs:st'=cK st g) (hc:c=(none,f o i j q)) (h:P o i j):MQ f F P st c st'
structure ML (r:Bm->Am)(a b:Aw Bm)(Z:Ai->Ai->Prop)(o:Aw Bm)(i j:Ai):Prop where
 G:GL r a b o i j
 hi:i+1<a.size
 hj:j<b.size
 z:Z i j
section
variable {prog:Bc}{w:Bu}{A:Bl}{E:ae}{s:Ag}{κ: Od}{U:Bm->Prop}{r:Bm->Am}
theorem aM (C:Cm (As prog w) A s κ U r){a b:Aw Bm}{Q:Aw Bm->Fw->Prop}{st:Fw}(hk:kindOf st=κ)(ua:∀ x∈a.toList,U x)(ub:∀ x∈b.toList,U x)(sa:a.toList.Pairwise (Le r))(sb:b.toList.Pairwise (Le r))
  (h:∀ m g,Mo r (a.toList++b.toList) m->Q m (cK st g)) (ha:0<a.size) (hb:0<b.size) (h0:r (b.getD 0 nv)<=r (a.getD 0 nv)) (h1:∀ x∈b.toList,Le r x (a.getD (a.size-1) nv)):wpS (As prog w) A E s (KB a b) Q st:=by
 have G0:GL r a b #[] 0 0:=⟨by simpa using sa,by simpa using sb,by simp⟩
 have G1:=G0.pb sa hb λ_=>h0;refine Be (So (Gw ⟨rfl,?_⟩));refine Be (zG hb ?_);dsimp only;refine qU (λe=>Bs (h _ (Vr st) (G1.fin (.inr (by simpa using e))))) λe1=>?_
 refine qU (λe=>Bs (h _ (Vr st) (G1.last (by simpa using e) h1))) λe2=>?_
 have e1:1<b.size:=by
  have:¬ 1=b.size:=by simpa using e1
  lia
 have e2:0+1<a.size:=by
  have:¬ 0+1=a.size:=by simpa using e2
  lia
 refine Be (Pd ?_);refine Be (Ic (Fz (I:=λx=>MI (λo i j q=>(o,i,j,q)) (ML r a b λi j=>x<i+j) st)
  (Q:=MQ (λo i j q=>(o,i,j,q)) (Mo r (a.toList++b.toList)) (λ_ _ _=>Fp) st) ?_ ?_ ⟨Vr st,_,0,1,_,rfl,rfl,G1,e2,e1,by lia⟩) ?_)
 .rintro x c B _ hx ⟨g,o,i,j,mg,rfl,rfl,G,N,Y,hp⟩
  dsimp only;refine Be (Ic (Fz (I:=λy=>MI (λo i j q=>(o,i,j,q)) (ML r a b λJ O=>i+j+y<=J+O) st)
   (Q:=MQ (λo i j q=>(o,i,j,q)) (Mo r (a.toList++b.toList)) (ML r a b λJ O=>x+1<J+O) st) ?_ ?_ ⟨g,o,i,j,(0,0),rfl,rfl,G,N,Y,by lia⟩) ?_)
  .rintro y c B _ hy ⟨g,o,J,O,⟨p,q⟩,rfl,rfl,G,N,Y,H⟩
   dsimp only;refine Be (zG Y (Be (zG (i:=J) ak (Be (C.lt (ub _ (zT Y)) (ua _ (zT (i:=J) ak)) hk ?_)))))
   dsimp only;refine qU (λl=>?_) λl=>?_
   .have l:r (b.getD O nv)<r (a.getD J nv):=by simpa using l
    have G2:=G.pb sa Y λ_=>Hu l;refine Be (zG Y ?_);refine qU (λe=>?_) λe=>?_
    .exact Bs (.fin _ _ rfl rfl (G2.fin (.inr (by simpa using e))))
    .have e:¬ O+1=b.size:=by simpa using e
     refine qU (λ_=>?_) λ_=>?_
     .exact Bs (.on _ _ _ _ (_,_) rfl rfl ⟨G2,N,by lia,by lia⟩)
     .exact Bs ⟨_,_,_,_,(_,_),rfl,rfl,G2,N,by lia,by lia⟩
   .have l:¬ r (b.getD O nv)<r (a.getD J nv):=by simpa using l
    have G2:=G.pa sb ak λ_=>Ab4.mp l
    refine Be (zG (i:=J) ak ?_)
    refine qU (λe=>?_) λe=>?_
    .exact Bs (.fin _ _ rfl rfl (G2.last (by simpa using e) h1))
    .have e:¬ J+1+1=a.size:=by simpa using e
     refine qU (λ_=>?_) λ_=>?_
     .exact Bs (.on _ _ _ _ (_,_) rfl rfl ⟨G2,by lia,Y,by lia⟩)
     .exact Bs ⟨_,_,_,_,(_,_),rfl,rfl,G2,by lia,Y,by lia⟩
  .rintro c B ⟨g,o,J,O,q,rfl,rfl,G,N,Y,H⟩
   exact .on g _ _ _ _ rfl rfl ⟨G,N,Y,by lia⟩
  .rintro c B (⟨g,m,rfl,d,hm⟩|⟨g,o,J,O,⟨p,q⟩,rfl,rfl,G,N,Y,H⟩)
   .obtain⟨c0,c1⟩:=c
    cases d;exact Bs (.fin _ m rfl rfl hm)
   dsimp only;refine Be (So (Gw ⟨rfl,?_⟩));refine Be (Ic (Fz (I:=λy=>MI (λo i j q=>(o,i,j,q)) (ML r a b λJ O=>x+1<J+O) st)
    (Q:=MQ (λo i j q=>(o,i,j,q)) (Mo r (a.toList++b.toList)) (ML r a b λJ O=>x+1<J+O) st) ?_ ?_ ⟨g,o,J,O,(_,_,_),rfl,rfl,G,N,Y,H⟩) ?_)
   .rintro y c B _ hy ⟨g,o,i,j,⟨p,q,t⟩,rfl,rfl,G,N,Y,H⟩
    dsimp only;generalize p-1=p1;apply oX (x:=p1) (y:=p);intro mg;have u:i<a.size:=To N;refine Be (Km ?_);refine Be (zG Y ?_);refine Be (JN C hk (Tp u) (Zv (Yl (Fx u))) (λJ zl=>ua _ (zT (Mp zl))) (ub _ (zT Y)) (λJ O h1 h2=>yK sa (Jm h1 _) (Mp h2)) λk k1 k2 k3=>?_);dsimp only;have G2:=G.ea sb Y k2;have k4:i+k<=a.size:=Wq (Fx u) k1;have k5:i+k<a.size->r (b.getD j nv)<r (a.getD (i+k) nv):=λh=>k3 k (Av _) (Xj (by rw[Qz];exact h))
    have k6:x+1<i+k+j:=Bi H (Xk (Hs _ _) _);have k7:k=0->i=i+k:=λh=>by rw[h];rfl
    generalize i+k=i1 at G2 k4 k5 k6 k7 ⊢;generalize o++a.extract i i1=o1 at G2 ⊢;apply U7 (x:=o1) (w:=i1) (y:=o) (v:=i) (P:=λL T=>GL r a b L T j/\T+1<a.size/\x+1<T+j/\r (b.getD j nv)<r (a.getD T nv))
    case h1=>exact λ_ e=>Bs (.fin _ _ rfl rfl (G2.last (by simpa using e) h1))
    case h1'=>exact λ_ _ e=>Bs (.fin _ _ rfl rfl (G2.fin (.inl (by simpa using e))))
    case h2 =>
     intro _ e3 e4;have e3:¬ i1+1=a.size:=by simpa using e3
     have e4:¬ i1=a.size:=by simpa using e4
     have e5:i1<a.size:=Iy k4 e4;exact⟨G2,Iy e5 e3,k6,k5 e5⟩
    case h3 =>
     intro e;have e:=k7 (Mc e);exact⟨G,N,H,by rw[e];exact k5 (by rw[<- e];exact u)⟩
    case hK =>
     rintro L T ⟨G2,hl,H,d⟩;have M:T<a.size:=To hl;refine Be (zG Y ?_);have G3:=G2.pb sa Y λ_=>Hu d;refine qU (λe=>Bs (.fin _ _ rfl rfl (G3.fin (.inr (by simpa using e))))) λe5=>?_
     have e5:¬ j+1=b.size:=by simpa using e5
     have f:j+1<b.size:=Iy Y e5;refine Be (zG M ?_);refine Be (JO C hk (Tp f) (Zv (Yl Y)) (λi N=>ub _ (zT (Mp N))) (ua _ (zT M)) (λi j h1 h2=>yK sb (Jm h1 _) (Mp h2)) λm m1 m2 m3=>?_);dsimp only;have G4:=G3.eb sa M λi N=>Hu (m2 i N);have m4:j+1+m<=b.size:=Wq Y m1;have m5:j+1+m<b.size->r (a.getD T nv)<=r (b.getD (j+1+m) nv):=λh=>m3 m (Av _) (Xj (by rw[Qz];exact h))
     have m6:j+1<=j+1+m:=Hs _ _;have m7:m=0->j+1=j+1+m:=λh=>by rw[h]
     generalize j+1+m=j1 at G4 m4 m5 m6 m7 ⊢;generalize L.push (b.getD j nv)++b.extract (j+1) j1=o2 at G4 ⊢;apply U6 (x:=o2) (w:=j1) (y:=L.push (b.getD j nv)) (v:=j+1) (P:=λL ib=>GL r a b L T ib/\ib<b.size/\j+1<=ib/\r (a.getD T nv)<=r (b.getD ib nv))
     case h1=>exact λ_ e=>Bs (.fin _ _ rfl rfl (G4.fin (.inr (by simpa using e))))
     case h2 =>
      intro _ e6;have e6:¬ j1=b.size:=by simpa using e6
      have e7:=Iy m4 e6;exact⟨G4,e7,m6,m5 e7⟩
     case h3 =>
      intro e;have e:=m7 (Mc e);exact⟨G3,f,Av _,by rw[e];exact m5 (by rw[<- e];exact f)⟩
     case hK =>
      rintro L ib ⟨G4,zb,zs,zc⟩;refine Be (zG M ?_);have G5:=G4.pa sb M λ_=>zc;refine qU (λe=>Bs (.fin _ _ rfl rfl (G5.last (by simpa using e) h1))) λe7=>?_
      have e7:¬ T+1+1=a.size:=by simpa using e7
      have e8:T+1+1<a.size:=Iy hl e7;have e9:x+1<T+1+ib:=Bi H (Ab6 (Nz _) (Nat.le_of_succ_le zs));exact qU (λ_=>Bs (.on _ _ _ _ (_,_,_) rfl rfl ⟨G5,e8,zb,e9⟩)) λ_=>Bs ⟨_,_,_,_,(_,_,_),rfl,rfl,G5,e8,zb,e9⟩
   .rintro c B ⟨g,o,J,O,q,rfl,rfl,G,N,Y,H⟩
    exact .on g _ _ _ _ rfl rfl ⟨G,N,Y,by lia⟩
   .rintro c B (⟨g,m,rfl,d,hm⟩|⟨g,o,J,O,⟨p,q,t⟩,rfl,rfl,G,N,Y,H⟩)
    .obtain⟨c0,c1⟩:=c
     cases d;exact Bs (.fin _ m rfl rfl hm)
    dsimp only;refine Be (Km ?_);exact Bs ⟨_,_,_,_,_,rfl,rfl,G,N,Y,by lia⟩
 .rintro c B ⟨g,o,J,O,p,rfl,rfl,G,N,Y,H⟩
  exfalso
  lia
 .rintro c B (⟨g,m,rfl,d,hm⟩|⟨_,_,_,_,_,_,_,z⟩);rotate_left;exact z.elim
  obtain⟨c0,c1⟩:=c;cases d;exact Bs (h m g hm)
end
theorem lT {a:Aw Bm}(h:0<n)(Y:n<=a.size):a.toList.take n=a.toList.take (n-1)++[a.getD (n-1) nv]:=by
 obtain⟨m,rfl⟩:∃ m,n=m+1:=⟨n-1,by lia⟩
 rw[Ot,List.take_add_one];have Q:m<a.size:=by lia
 simp[Hc,Q]
theorem eJ {a:Aw Bm}{i:Ai}(h:i<=n):a.toList.take i++(a.extract i n).toList=a.toList.take n:=by
 rw[Kx,Iu]
 conv=>rhs;rw[show n=i+(n-i) by lia,List.take_add]
theorem gR {a:Aw Bm}:(a.extract 0 n).toList=a.toList.take n:=by
 rw[Kx,Iu];simp
theorem eY {a:Aw Bm}{i:Ai}{x:Bm}(Q:i<=n)(h:x∈(a.extract i n).toList):∃ j,i<=j/\j<n/\j<a.size/\x=a.getD j nv:=by
 obtain⟨k,rfl⟩:∃ k,n=i+k:=⟨n-i,by lia⟩
 exact gB h
def GH (r:Bm->Am)(a b o:Aw Bm)(i j:Ai):Prop:=Mh r (a.toList.take i) (b.toList.take j) o.toList.reverse (a.toList++b.toList)
section
variable {r:Bm->Am}{a b o:Aw Bm}{i j k:Ai}
theorem GH.pa (Y:b.toList.Pairwise (Le r))(h:GH r a b o i j)(h1:0<i)(h2:i<=a.size)(O:j<=b.size)(l:0<j->r (b.getD (j-1) nv)<=r (a.getD (i-1) nv)):GH r a b (o.push (a.getD (i-1) nv)) (i-1) j:=by
 have J:Mh r (a.toList.take (i-1)++[a.getD (i-1) nv]) (b.toList.take j) o.toList.reverse (a.toList++b.toList):=by rw[<- lT h1 h2];exact h
 have:=J.a λx Q y U=>by
  cases Cn.mp U;obtain⟨m,G,N,rfl⟩:=p9 Q;exact Gi (yK Y ak ak) (l ak)
 unfold GH;rw[Eo,Np];exact this
theorem GH.pb (U:a.toList.Pairwise (Le r))(h:GH r a b o i j)(h1:0<j)(h2:j<=b.size)(hi:i<=a.size)(l:0<i->r (a.getD (i-1) nv)<=r (b.getD (j-1) nv)):GH r a b (o.push (b.getD (j-1) nv)) i (j-1):=by
 have Y:Mh r (a.toList.take i) (b.toList.take (j-1)++[b.getD (j-1) nv]) o.toList.reverse (a.toList++b.toList):=by rw[<- lT h1 h2];exact h
 have:=Y.b λx Q y J=>by
  cases Cn.mp J;obtain⟨m,G,N,rfl⟩:=p9 Q;exact Gi (yK U ak ak) (l ak)
 unfold GH;rw[Eo,Np];exact this
theorem GH.ea (G:b.toList.Pairwise (Le r))(h:GH r a b o i j)(Q:k<=i)(E:j<=b.size)(l:0<j->∀ m,k<=m->m<i->m<a.size->r (b.getD (j-1) nv)<=r (a.getD m nv)):GH r a b (o++(a.extract k i).reverse) k j:=by
 have N:Mh r (a.toList.take k++(a.extract k i).toList) (b.toList.take j) o.toList.reverse (a.toList++b.toList):=by rw[eJ Q];exact h
 have:=N.a λx J y O=>by
  obtain⟨m,L,T,rfl⟩:=p9 J;obtain⟨B,C,U,Y,rfl⟩:=eY Q O;exact Gi (yK G ak ak) (l ak B C U Y)
 unfold GH;rw[El,Na,Np,Xl];exact this
theorem GH.eb (B:a.toList.Pairwise (Le r))(h:GH r a b o i j)(Q:k<=j)(hi:i<=a.size)(l:0<i->∀ m,k<=m->m<j->m<b.size->r (a.getD (i-1) nv)<=r (b.getD m nv)):GH r a b (o++(b.extract k j).reverse) i k:=by
 have G:Mh r (a.toList.take i) (b.toList.take k++(b.extract k j).toList) o.toList.reverse (a.toList++b.toList):=by rw[eJ Q];exact h
 have:=G.b λx J y N=>by
  obtain⟨m,L,T,rfl⟩:=p9 J;obtain⟨C,O,U,Y,rfl⟩:=eY Q N;exact Gi (yK B ak ak) (l ak C O U Y)
 unfold GH;rw[El,Na,Np,Xl];exact this
theorem GH.fin (h:GH r a b o i j)(e:i=0\/j=0):Mo r (a.toList++b.toList) (a.extract 0 i++b.extract 0 j++o.reverse):=by
 refine⟨?_,?_⟩ <;> rw[El,El,gR,gR,Na]
 .exact h.pm
 .rcases e with rfl|rfl
  .rw[Ab7,Ie];exact h.p2
  .rw[Ab7,Gs];exact h.p1
theorem GH.first (h:GH r a b o i j)(e:j=1)(U:0<b.size)(l:∀ x∈a.toList,Le r (b.getD 0 nv) x):Mo r (a.toList++b.toList) (b.extract 0 j++a.extract 0 i++o.reverse):=by
 subst e;have J:b.toList.take 1=[b.getD 0 nv]:=by rw[lT ak ak];rfl
 refine⟨?_,?_⟩ <;> rw[El,El,gR,gR,Na]
 .refine Qw ?_ h.pm
  exact Ju _ Kj
 .have Q:=h.p2
  rw[J] at Q ⊢;rw[Cg];rw[Dz] at Q ⊢;refine⟨Q.1,h.p1,λx Y y hy=>?_⟩;rcases Bv.mp hy with hy|hy
  .cases Cn.mp Y
   exact l y (Jc hy)
  .exact Q.2.2 x Y y hy
end
structure MH (r:Bm->Am)(a b:Aw Bm)(Z:Ai->Ai->Prop)(o:Aw Bm)(i j:Ai):Prop where
 G:GH r a b o i j
 hi:0<i
 hi2:i<=a.size
 hj:1<j
 hj2:j<=b.size
 z:Z i j
section
variable {prog:Bc}{w:Bu}{A:Bl}{E:ae}{s:Ag}{κ: Od}{U:Bm->Prop}{r:Bm->Am}
theorem aL (C:Cm (As prog w) A s κ U r){a b:Aw Bm}{Q:Aw Bm->Fw->Prop}{st:Fw}(hk:kindOf st=κ)(ua:∀ x∈a.toList,U x)(ub:∀ x∈b.toList,U x)(sa:a.toList.Pairwise (Le r))(sb:b.toList.Pairwise (Le r))
  (h:∀ m g,Mo r (a.toList++b.toList) m->Q m (cK st g)) (ha:0<a.size) (hb:0<b.size) (h0:∀ x∈a.toList,Le r (b.getD 0 nv) x) (h1:r (b.getD (b.size-1) nv)<=r (a.getD (a.size-1) nv)):wpS (As prog w) A E s (KA a b) Q st:=by
 have G0:GH r a b #[] a.size b.size:=by
  unfold GH;rw[Fl a8,Fl a8]
  exact⟨by simpa using sa,by simpa using sb,by simp⟩
 have G1:=G0.pa sb ha (Av _) (Av _) λ_=>h1;refine Be (So (Gw ⟨rfl,?_⟩));refine Be (zG (i:=a.size-1) ak ?_)
 dsimp only;refine qU (λe=>Bs (h _ (Vr st) (G1.fin (.inl (by simpa using e))))) λe1=>?_
 refine qU (λe=>Bs (h _ (Vr st) (G1.first (by simpa using e) hb h0))) λe2=>?_
 have e1:¬ a.size-1=0:=by simpa using e1
 have e2:¬ b.size=1:=by simpa using e2
 refine Be (Pd ?_);refine Be (Ic (Fz (I:=λx=>MI (λo i j q=>(i,j,o,q)) (MH r a b λi j=>x+i+j<a.size+b.size) st)
  (Q:=MQ (λo i j q=>(i,j,o,q)) (Mo r (a.toList++b.toList)) (λ_ _ _=>Fp) st) ?_ ?_ ⟨Vr st,_,a.size-1,b.size,_,rfl,rfl,G1,by lia,by lia,by lia,by lia,by lia⟩) ?_)
 .rintro x c L _ hx ⟨g,o,i,j,mg,rfl,rfl,G,B,Y,T,J,hp⟩
  dsimp only;refine Be (Ic (Fz (I:=λy=>MI (λo i j q=>(i,j,o,q)) (MH r a b λN O=>N+O+y<=i+j) st)
   (Q:=MQ (λo i j q=>(i,j,o,q)) (Mo r (a.toList++b.toList)) (MH r a b λN O=>x+1+N+O<a.size+b.size) st) ?_ ?_ ⟨g,o,i,j,(0,0),rfl,rfl,G,B,Y,T,J,by lia⟩) ?_)
  .rintro y c L _ hy ⟨g,o,N,O,⟨p,q⟩,rfl,rfl,G,B,Y,T,J,d⟩
   dsimp only;refine Be (zG (i:=O-1) ak (Be (zG (i:=N-1) ak (Be (C.lt (ub _ (zT (i:=O-1) ak)) (ua _ (zT (i:=N-1) ak)) hk ?_)))))
   dsimp only;refine qU (λl=>?_) λl=>?_
   .have l:r (b.getD (O-1) nv)<r (a.getD (N-1) nv):=by simpa using l
    have G2:=G.pa sb B Y J λ_=>Hu l;refine Be (zG (i:=N-1) ak ?_)
    refine qU (λe=>Bs (.fin _ _ rfl rfl (G2.fin (.inl (by simpa using e))))) λe=>?_
    have e:¬ N-1=0:=by simpa using e
    exact qU (λ_=>Bs (.on _ _ _ _ (_,_) rfl rfl ⟨G2,by lia,by lia,T,J,by lia⟩)) λ_=>Bs ⟨_,_,_,_,(_,_),rfl,rfl,G2,by lia,by lia,T,J,by lia⟩
   .have l:¬ r (b.getD (O-1) nv)<r (a.getD (N-1) nv):=by simpa using l
    have G2:=G.pb sa ak J Y λ_=>Ab4.mp l
    refine Be (zG (i:=O-1) ak ?_)
    refine qU (λe=>Bs (.fin _ _ rfl rfl (G2.first (by simpa using e) hb h0))) λe=>?_
    have e:¬ O-1=1:=by simpa using e
    exact qU (λ_=>Bs (.on _ _ _ _ (_,_) rfl rfl ⟨G2,B,Y,by lia,by lia,by lia⟩)) λ_=>Bs ⟨_,_,_,_,(_,_),rfl,rfl,G2,B,Y,by lia,by lia,by lia⟩
  .rintro c L ⟨g,o,N,O,q,rfl,rfl,G,B,Y,T,J,d⟩
   exact .on g _ _ _ _ rfl rfl ⟨G,B,Y,T,J,by lia⟩
  .rintro c L (⟨g,m,rfl,hc,hm⟩|⟨g,o,N,O,⟨p,q⟩,rfl,rfl,G,B,Y,T,J,d⟩)
   .obtain⟨c0,c1⟩:=c
    cases hc;exact Bs (.fin _ m rfl rfl hm)
   dsimp only;refine Be (So (Gw ⟨rfl,?_⟩));refine Be (Ic (Fz (I:=λy=>MI (λo i j q=>(i,j,o,q)) (MH r a b λN O=>x+1+N+O<a.size+b.size) st)
    (Q:=MQ (λo i j q=>(i,j,o,q)) (Mo r (a.toList++b.toList)) (MH r a b λN O=>x+1+N+O<a.size+b.size) st) ?_ ?_ ⟨g,o,N,O,(_,_,_),rfl,rfl,G,B,Y,T,J,d⟩) ?_)
   .rintro y c L _ hy ⟨g,o,i,j,⟨p,q,t⟩,rfl,rfl,G,B,Y,T,J,d⟩
    dsimp only;generalize p-1=p1;apply oX (x:=p1) (y:=p);intro mg;refine Be (Km ?_);have j0:0<j:=To T;have jb:j-1<b.size:=Bi (Nq j0 Mq) J;refine Be (zG jb ?_);refine Be (JN C hk (Nq B Mq) (by rw[Ik];exact Y) (λN zs=>ua _ (zT (by rw[Ik];exact Bi zs Y))) (ub _ (zT jb)) (λN O h1 h2=>yK sa (Jm h1 0) (by rw[Ik];exact Bi h2 Y)) λk k1 k2 k3=>?_)
    simp only[Ik] at k2 k3;dsimp only;have G2:=G.ea sb k1 J λ_ m q1 q2 _=>Hu (k3 m q1 q2);have kc:i-k=0->k=i:=λh=>Vq k1 (Wr h);generalize i-k=ac at kc ⊢;generalize o++(a.extract k i).reverse=o1 at G2 ⊢;apply U6 (x:=k) (w:=o1) (y:=i) (v:=o) (P:=λu H=>GH r a b H u j/\0<u/\u<=a.size/\x+1+u+j<a.size+b.size/\r (a.getD (u-1) nv)<=r (b.getD (j-1) nv))
    case h1=>exact λ_ e=>Bs (.fin _ _ rfl rfl (G2.fin (.inl (by simpa using e))))
    case hK =>
     rintro u H ⟨G2,hl,zb,d,hc⟩;have M:u-1<a.size:=Bi (Nq hl Mq) zb;refine Be (zG jb ?_);have G3:=G2.pb sa j0 J zb λ_=>hc;refine qU (λe=>Bs (.fin _ _ rfl rfl (G3.first (by simpa using e) hb h0))) λe5=>?_
     have e5:¬ j-1=1:=by simpa using e5
     have j1:0<j-1:=Tp T;refine Be (zG M ?_);refine Be (JO C hk (Nq j1 Mq) (by rw[Ik];exact Fx jb) (λi B=>ub _ (zT (by rw[Ik];exact Ji B jb))) (ua _ (zT M)) (λi j h1 h2=>yK sb (Jm h1 0) (by rw[Ik];exact Ji h2 jb)) λm m1 m2 m3=>?_)
     simp only[Ik] at m2 m3;dsimp only;have G4:=G3.eb sa m1 zb λ_ m q1 q2 _=>m3 m q1 q2;have mc:j-1-m=0->m=j-1:=λh=>Vq m1 (Wr h);generalize j-1-m=bc at mc ⊢;generalize H.push (b.getD (j-1) nv)++(b.extract m (j-1)).reverse=o2 at G4 ⊢;apply U7 (x:=m) (w:=o2) (y:=j-1) (v:=H.push (b.getD (j-1) nv)) (P:=λnb H=>GH r a b H u nb/\1<nb/\nb<=j-1/\r (b.getD (nb-1) nv)<=r (a.getD (u-1) nv))
     case h1=>exact λ_ e=>Bs (.fin _ _ rfl rfl (G4.first (by simpa using e) hb h0))
     case h1'=>exact λ_ _ e=>Bs (.fin _ _ rfl rfl (G4.fin (.inr (by simpa using e))))
     case hK =>
      rintro nb H ⟨G4,h4,h5,zl⟩;have h6:nb<=b.size:=Cs h5 (Fx jb);have zc:x+1+(u-1)+nb<a.size+b.size:=Oq (Ab6 (Jm (Nat.sub_le _ _) _) (Cs h5 (Nat.sub_le _ _))) d;refine Be (zG M ?_);have G5:=G4.pa sb hl zb h6 λ_=>zl;refine qU (λe=>Bs (.fin _ _ rfl rfl (G5.fin (.inl (by simpa using e))))) λf=>?_
      have f:0<u-1:=Ka (by simpa using f)
      exact qU (λ_=>Bs (.on _ _ _ _ (_,_,_) rfl rfl ⟨G5,f,Fx M,h4,h6,zc⟩)) λ_=>Bs ⟨_,_,_,_,(_,_,_),rfl,rfl,G5,f,Fx M,h4,h6,zc⟩
     case h2 =>
      intro _ e6 f;have e6:¬ m=1:=by simpa using e6
      have f:¬ m=0:=by simpa using f
      exact⟨G4,Iy (Ka f) (Dw e6),m1,Hu (m2 (m-1) (Nq (Ka f) Mq))⟩
     case h3 =>
      intro e;cases mc (Mc e);exact⟨G3,Iy j1 (Dw e5),Av _,Hu (m2 (j-1-1) (Nq j1 Mq))⟩
    case h2 =>
     intro _ e;have e3:0<k:=Ka (by simpa using e)
     exact⟨G2,e3,Cs k1 Y,Oq (Xk (Jm k1 _) _) d,k2 (k-1) (Nq e3 Mq)⟩
    case h3 =>
     intro e;have e:=kc (Mc e);exact⟨G,B,Y,d,k2 (i-1) (by rw[e];exact Nq B Mq)⟩
   .rintro c L ⟨g,o,N,O,q,rfl,rfl,G,B,Y,T,J,d⟩
    exact .on g _ _ _ _ rfl rfl ⟨G,B,Y,T,J,by lia⟩
   .rintro c L (⟨g,m,rfl,hc,hm⟩|⟨g,o,N,O,⟨p,q,t⟩,rfl,rfl,G,B,Y,T,J,d⟩)
    .obtain⟨c0,c1⟩:=c
     cases hc;exact Bs (.fin _ m rfl rfl hm)
    dsimp only;refine Be (Km ?_);exact Bs ⟨_,_,_,_,_,rfl,rfl,G,B,Y,T,J,by lia⟩
 .rintro c L ⟨g,o,N,O,p,rfl,rfl,G,B,Y,T,J,d⟩
  exfalso
  lia
 .rintro c L (⟨g,m,rfl,hc,hm⟩|⟨_,_,_,_,_,_,_,z⟩);rotate_left;exact z.elim
  obtain⟨c0,c1⟩:=c;cases hc;exact Bs (h m g hm)
end
theorem XG:∀ (l:Aa Bm) (arr:Aw Bm) (o d:Ai),o+d+l.length<=arr.size->∀ k,((l.zipIdx d).foldl (λa p=>a.setIfInBounds (o+p.2) p.1) arr)[k]? = if o+d<=k/\k<o+d+l.length then l[k-(o+d)]? else arr[k]?
 |[],arr,o,d,h,k=>by
  rw[AT (by simp only[Cu];lia)];rfl
 |x::l,arr,o,d,h,k=>by
  rw[Ba] at h;rw[Ug,Oa,XG l _ o (d+1) (by rw[Array.size_setIfInBounds];lia) k,Ba]
  by_cases Y:k=o+d
  .subst Y
   rw[AT ak,Ay ak,Zw,Array.getElem?_setIfInBounds_self_of_lt ak]
   rfl
  .by_cases Q:o+(d+1)<=k/\k<o+(d+1)+l.length
   .rw[Ay Q,Ay ak,show k-(o+d)=(k-(o+(d+1)))+1 by lia,Pb]
   .rw[AT Q,AT ak,Array.getElem?_setIfInBounds_ne ak]
def wb (arr:Aw Bm)(o:Ai)(m:Aw Bm):Aw Bm:=m.toList.zipIdx.foldl (λa p=>a.setIfInBounds (o+p.2) p.1) arr
theorem oW {o:Ai}(h:o+m.size<=arr.size)(k:Ai):(wb arr o m).getD k nv=if o<=k/\k<o+m.size then m.getD (k-o) nv else arr.getD k nv:=by
 have e:=XG m.toList arr o 0 (by simpa using h) k
 simp only[Nat.add_zero,Bp,Bq] at e;rw[Fu,Fu,Fu];unfold wb;rw[e]
 split <;> rfl
theorem XH {o d:Ai}(h:o+m.size<=arr.size)(hd:d<m.size):(wb arr o m).getD (o+d) nv=m.getD d nv:=by
 rw[oW h,Ay ⟨Hs _ _,Nat.add_lt_add_left hd _⟩,Gv]
theorem jP {o k:Ai}(h:o+m.size<=arr.size)(Q:k<o\/o+m.size<=k):(wb arr o m).getD k nv=arr.getD k nv:=by
 rw[oW h,AT ak]
theorem B4 {a:Aw Bm}{i:Ai}(h:i+n<=a.size):(a.extract i (i+n)).size=n:=by rw[Lv];lia
theorem LQ {o:Ai}(h:o+m.size<=arr.size):(wb arr o m).toList=arr.toList.take o++(m.toList++arr.toList.drop (o+m.size)):=by
 apply Aa1;intro k;have e:=XG m.toList arr o 0 (by simpa using h) k
 simp only[Nat.add_zero,Bp,Bq] at e;unfold wb;rw[Bq,e];have Y:(arr.toList.take o).length=o:=by rw[Dx,Bp];lia
 by_cases Q:k<o
 .rw[AT ak,Bo ak,Ol Q,Bq]
 .rw[Dk ak,Y]
  by_cases J:k<o+m.size
  .rw[Ay ak,Bo (by rw[Bp];lia),Bq]
  .rw[AT ak,Dk (by rw[Bp];lia),Zg,Bp,Bq]
   congr 1
   lia
theorem LR {o:Ai}(h:o+n<=arr.size)(p:m.toList.Perm (arr.extract o (o+n)).toList):(wb arr o m).toList.Perm arr.toList:=by
 have Q:m.size=n:=by
  have:=p.length_eq;rw[Bp,Bp,Lv] at this
  lia
 rw[LQ ak,Q]
 have e:arr.toList=arr.toList.take o++((arr.extract o (o+n)).toList++arr.toList.drop (o+n)):=by rw[mC,Qi]
 conv=>rhs;rw[e]
 exact Ki _ (Ju _ p)
def Seg (r:Bm->Am)(a:Aw Bm)(lo n:Ai):Prop:=∀ i j,lo<=i->i<=j->j<lo+n->r (a.getD i nv)<=r (a.getD j nv)
theorem oM {r:Bm->Am}{a:Aw Bm}(h:Seg r a lo n){i k:Ai}(h1:lo<=i)(h2:i+k<=lo+n)(h3:i+k<=a.size):(a.extract i (i+k)).toList.Pairwise (Le r):=by
 rw[Ks];intro x y Y N l;have Q:x<k:=by rw[Bp,Lv] at Y;lia
 have U:y<k:=by rw[Bp,Lv] at N;lia
 have e:=h (i+x) (i+y) ak ak ak
 have J:i+x<a.size:=by lia
 have G:i+y<a.size:=by lia
 simpa [Hc,J,G,Le] using e
theorem eI {a:Aw Bm}{i k m:Ai}(h:m<k)(h3:i+k<=a.size):(a.extract i (i+k)).getD m nv=a.getD (i+m) nv:=by
 have Q:i+m<a.size:=by lia
 have J:m<(a.extract i (i+k)).size:=by rw[Lv];lia
 have Y:m<min (i+k) a.size-i:=by lia
 simp[Hc,Q,Y]
theorem JH {a:Aw Bm}{i j k:Ai}(h1:i<=j)(h2:j<=k):(a.extract i j).toList++(a.extract j k).toList=(a.extract i k).toList:=by
 rw[<- El,Array.extract_append_extract]
 congr 2 <;> lia
section
variable {prog:Bc}{w:Bu}{A:Bl}{E:ae}{s:Ag}{κ: Od}{U:Bm->Prop}{r:Bm->Am}
theorem LS {σ:Type}{Q:PUnit->σ->Prop}{st Y:σ}(h:Q ⟨⟩ Y):wpS M A E s (set Y:Nh σ Lb PUnit) Q st:=by
 unfold wpS;rw[StateT.run_set];exact Ak ⟨rfl,h⟩
theorem aK (C:Cm (As prog w) A s κ U r){i Y B pw L pz:Ai}{Q:Au->Fw->Prop}{arr:Aw Bm}{pd:Aw (Ai × Ai × Ai)}{g:Ai}(ua:∀ x∈arr.toList,U x)(e1:pd[i]? = Ab (Y,B,pw))(e2:pd[i+1]? = Ab (Y+B,L,pz))(p1:0<B)(p2:0<L)(hz:Y+B+L<=arr.size)
  (I:Seg r arr Y B) (l:Seg r arr (Y+B) L)
  (h:∀ N g,N.toList.Perm arr.toList->(∀ k,k<Y\/Y+B+L<=k->N.getD k nv=arr.getD k nv)->Seg r N Y (B+L)->Q true (Dl κ N ((pd.setIfInBounds i (Y,B+L,pw)).eraseIdxIfInBounds (i+1)) g none)) :
  wpS (As prog w) A E s (mergeAt' i) Q (Dl κ arr pd g none):=by
 refine Be (Pd ?_);dsimp only;rw[e1,e2];dsimp only;refine Be (LS ?_);refine Be (zG (i:=Y+B) ak ?_)
 refine Be (JN C rfl ak ak (λi hi=>ua _ (zT ak)) (ua _ (zT ak)) (λi j a b=>I _ _ ak ak ak) λk k1 k2 k3=>?_)
 obtain⟨t,rfl⟩:=Ga k1;clear k1 p1 e1 e2;simp only[Gv,<- Nn] at *;refine qU (λe=>Bs (h arr g (Mx _) (λ_ _=>rfl) λi j a b c=>?_)) λe=>?_
 .have e:t=0:=by simpa using e
  subst e;by_cases q1:j<Y+k
  .exact I i j a b q1
  .by_cases q2:Y+k<=i
   .exact l i j q2 b ak
   .have:=k2 (i-Y) ak
    rw[show Y+(i-Y)=i by lia] at this
    exact Gi this (l _ _ (Av _) ak ak)
 have e:t≠0:=by simpa using e
 obtain⟨u,rfl⟩:∃ u,t=u+1:=⟨t-1,by lia⟩
 clear e;rw[show Y+k+(u+1)-1=Y+k+u from rfl]
 refine Be (zG (i:=Y+k+u) ak ?_)
 refine Be (JO C rfl ak ak (λi hi=>ua _ (zT ak)) (ua _ (zT ak)) (λi j a b=>l _ _ ak ak ak) λm m1 m2 m3=>?_)
 dsimp only;have hk:=k3 k (Av _) ak
 have hq:=I (Y+k) (Y+k+u) ak ak ak
 refine qU (λe=>?_) λe=>?_
 .have e:m=0:=by simpa using e
  subst e;exact absurd (Sf hk (Gi hq (m3 0 (Av _) p2))) (Int.lt_irrefl _)
 have e:m≠0:=by simpa using e
 have zx:=B4 (a:=arr) (i:=Y+k) (n:=u+1) ak
 have zy:=B4 (a:=arr) (i:=Y+k+(u+1)) (n:=m) ak
 have px:=oM I (i:=Y+k) (k:=u+1) ak ak ak
 have py:=oM l (Av _) (k:=m) ak ak
 have o:∀ x∈(arr.extract (Y+k) (Y+k+(u+1))).toList,U x/\r (arr.getD (Y+k+(u+1)) nv)<=r x/\r x<=r (arr.getD (Y+k+u) nv):=λx O=>by
  obtain⟨j,q1,q2,q3,rfl⟩:=gB O;exact⟨ua _ (zT q3),Hu (Sf hk (I (Y+k) j ak q1 ak)),I j _ ak ak ak⟩
 have f:∀ x∈(arr.extract (Y+k+(u+1)) (Y+k+(u+1)+m)).toList,U x/\r (arr.getD (Y+k+(u+1)) nv)<=r x/\r x<=r (arr.getD (Y+k+u) nv):=λx O=>by
  obtain⟨j,q1,q2,q3,rfl⟩:=gB O;obtain⟨d,rfl⟩:=Ga q1;exact⟨ua _ (zT q3),l _ _ (Av _) q1 ak,Hu (m2 d ak)⟩
 have zb:∀ G p,Mo r ((arr.extract (Y+k) (Y+k+(u+1))).toList++(arr.extract (Y+k+(u+1)) (Y+k+(u+1)+m)).toList) G->Q true (Dl κ (wb arr (Y+k) G) ((pd.setIfInBounds i (Y,k+(u+1)+L,pw)).eraseIdxIfInBounds (i+1)) p none):=by
  intro G p M;have hm:G.size=u+1+m:=by
   have:=M.pm.length_eq;rw[Bb,Bp,Bp,Bp,zx,zy] at this;exact this
  have J:Y+k+G.size<=arr.size:=by lia
  have bd:∀ d,d<G.size->r (arr.getD (Y+k+(u+1)) nv)<=r (G.getD d nv)/\r (G.getD d nv)<=r (arr.getD (Y+k+u) nv):=λd hd=>(Bv.mp (M.pm.mem_iff.mp (zT hd))).elim (λq=>(o _ q).2) λq=>(f _ q).2;refine h _ p (LR (n:=u+1+m) ak ?_) (λj hj=>jP J ak) λi j a b c=>?_
  .rw[<- Nn (Y+k),<- JH (j:=Y+k+(u+1)) ak ak]
   exact M.pm
  rcases Mz i (Y+k) with i1|i1
  .obtain⟨x,rfl⟩:=Ga a
   have v:=k2 x ak
   rw[jP J (.inl i1)];rcases Mz j (Y+k) with j1|j1
   .rw[jP J (.inl j1)];exact I _ j a b ak
   obtain⟨y,rfl⟩:=Ga j1;refine Gi v ?_;rcases Mz y G.size with j2|j2
   .rw[XH J j2];exact(bd y j2).1
   .rw[jP J (.inr ak)];exact l _ _ (Av _) ak ak
  obtain⟨x,rfl⟩:=Ga i1;obtain⟨y,rfl⟩:=Ga (Cs i1 b);rcases Mz x G.size with i2|i2
  .rw[XH J i2]
   rcases Mz y G.size with j2|j2
   .rw[XH J j2];exact yK M.up ak j2
   .rw[jP J (.inr ak)]
    obtain⟨z,rfl⟩:∃ z,y=u+1+z:=⟨y-(u+1),by lia⟩
    have v:=m3 z ak ak
    rw[Nn (Y+k)] at v;exact Gi (bd x i2).2 v
  .rw[jP J (.inr ak),jP J (.inr ak)]
   exact l _ _ ak b ak
 have y0:(arr.extract (Y+k+(u+1)) (Y+k+(u+1)+m)).getD 0 nv=arr.getD (Y+k+(u+1)) nv:=eI ak ak
 have xl:(arr.extract (Y+k) (Y+k+(u+1))).getD ((arr.extract (Y+k) (Y+k+(u+1))).size-1) nv=arr.getD (Y+k+u) nv:=by rw[zx];exact eI ak ak
 have ux:=λx O=>(o x O).1;have uy:=λx O=>(f x O).1;have nx:0<(arr.extract (Y+k) (Y+k+(u+1))).size:=by lia
 have ny:0<(arr.extract (Y+k+(u+1)) (Y+k+(u+1)+m)).size:=by lia
 have H:∀ x∈(arr.extract (Y+k) (Y+k+(u+1))).toList,r (arr.getD (Y+k+(u+1)) nv)<=r x:=λx O=>(o x O).2.1;have T:∀ x∈(arr.extract (Y+k+(u+1)) (Y+k+(u+1)+m)).toList,r x<=r (arr.getD (Y+k+u) nv):=λx O=>(f x O).2.2;rw[<- y0] at H;rw[<- xl] at T;refine qU (λ_=>Be (aM C rfl ux uy px py (λG p M=>Be (Km (Be (Pd (Bs (zb G p M)))))) nx ny (H _ (zT nx)) T)) λ_=>Be (aL C rfl ux uy px py (λG p M=>Be (Km (Be (Pd (Bs (zb G p M)))))) nx ny H (T _ (zT ak)))
end
def mir (a:Aw Bm)(i j:Ai):Aw Bm:=mirror a i j ((j-i)/2)
theorem yE {a:Aw Bm}{i j:Ai}(Q:j<=a.size)(k:Ai):(mir a i j).getD k nv=if i<=k/\k<j then a.getD (i+j-1-k) nv else a.getD k nv:=by
 rw[Fu,Fu,Fu];unfold mir;rw[getElem?_mirror_all Q]
 split <;> rfl
structure Cr (a b:Aw Bm)(lo n:Ai):Prop where
 pm:b.toList.Perm a.toList
 out:∀ k,k<lo\/lo+n<=k->b.getD k nv=a.getD k nv
theorem Cr.z {a b:Aw Bm}(h:Cr a b lo n):b.size=a.size:=by
 have:=h.pm.length_eq;simpa using this
theorem Cr.rfl' {a:Aw Bm}:Cr a a lo n:=⟨Mx _,λ_ _=>rfl⟩
theorem Cr.mir {a b:Aw Bm}{i j:Ai}(h:Cr a b lo n)(h1:lo<=i)(h2:j<=lo+n)(h3:j<=a.size):Cr a (mir b i j) lo n:=
 ⟨(Sl.mp (mirror_perm _ _ _ _)).trans h.pm,λk Q=>by rw[yE (by rw[h.z];exact h3),AT ak];exact h.out k Q⟩
def u_ (r:Bm->Am)(a:Aw Bm)(lo n:Ai):Prop:=∀ i j,lo<=i->i<=j->j<lo+n->r (a.getD j nv)<=r (a.getD i nv)
theorem GR {r:Bm->Am}{a:Aw Bm}(h:Seg r a lo n)(h1:1<=n)(l:r (a.getD (lo+n-1) nv)<=r (a.getD (lo+n) nv)):Seg r a lo (n+1):=λi j Q J U=>by
 by_cases q:j<lo+n
 .exact h i j Q J q
 .have:j=lo+n:=by lia
  subst this;by_cases Y:i=lo+n
  .subst Y;exact Qh _
  .exact Gi (h i (lo+n-1) Q ak ak) l
theorem gP {r:Bm->Am}{a:Aw Bm}(h:u_ r a lo n)(h1:1<=n)(l:r (a.getD (lo+n) nv)<=r (a.getD (lo+n-1) nv)):u_ r a lo (n+1):=λi j Q J U=>by
 by_cases q:j<lo+n
 .exact h i j Q J q
 .have:j=lo+n:=by lia
  subst this;by_cases Y:i=lo+n
  .subst Y;exact Qh _
  .exact Gi l (h i (lo+n-1) Q ak ak)
theorem oN {r:Bm->Am}{a:Aw Bm}:Seg r a lo 1:=λi j Y Q J=>by
 have:i=j:=by lia
 subst this;exact Qh _
theorem M4 {r:Bm->Am}{a:Aw Bm}:u_ r a lo 1:=λi j Y Q J=>by
 have:i=j:=by lia
 subst this;exact Qh _
def Q2 (r:Bm->Am)(a:Aw Bm)(lo n q:Ai):Prop:=q+1<=n/\∀ k,lo+n-(q+1)<=k->k<lo+n->r (a.getD k nv)=r (a.getD (lo+n-1) nv)
set_option tactic.hygienic true in
theorem gQ {r:Bm->Am}{a:Aw Bm}(Q:lo+n<=a.size)(h:Q2 r a lo n q)(k:Ai):r ((mir a (lo+n-(q+1)) (lo+n)).getD k nv)=r (a.getD k nv):=by
 rw[yE Q];have:=h.1
 split
 .rename_i c
  rw[h.2 k ak c.2,h.2 _ ak ak]
 .rfl
theorem M3 {r:Bm->Am}{a:Aw Bm}(Q:lo+n<=a.size)(h:u_ r a lo n):Seg r (mir a lo (lo+n)) lo n:=λi j J Y U=>by
 rw[yE Q,yE Q,Ay ak,Ay ak]
 exact h _ _ ak ak ak
section
variable {prog:Bc}{w:Bu}{A:Bl}{E:ae}{s:Ag}{κ: Od}{U:Bm->Prop}{r:Bm->Am}
theorem gJ (C:Cm (As prog w) A s κ U r){i j:Ai}{arr:Aw Bm}{J:Aw (Ai × Ai × Ai)}{g:Ai}{Q:Al Au->Fw->Prop}(Y:∀ x∈arr.toList,U x)(hi:i<arr.size)(G:j<arr.size)
  (q:Q (Ab (decide (r (arr.getD i nv)<r (arr.getD j nv)))) (Dl κ arr J g none)):wpS (As prog w) A E s (ltAt' i j) Q (Dl κ arr J g none):=by
 refine Be (Pd ?_);exact Be (zG hi (Be (zG G (C.lt (Y _ (zT hi)) (Y _ (zT G)) rfl q))))
theorem fK {Q:PUnit->Fw->Prop}(q:Q ⟨⟩ (Dl κ (mir arr i j) Y g none)):wpS (As prog w) A E s (reverseSlice' i j) Q (Dl κ arr Y g none):=Km q
theorem AO {σ α:Type}{c:Prop}[Jd c]{Q:α->σ->Prop}{st:σ}{y:Ai}{K:Ai->Nh σ Lb α}{u:Nh σ Lb α}(P:Ai->σ->Prop)(hK:∀ z st,P z st->wpS (As prog w) A E s (K z) Q st)(h1:c->(∀ z st,P z st->wpS (As prog w) A E s (K z) Q st)->wpS (As prog w) A E s u Q st)(h2:¬ c->P y st):wpS (As prog w) A E s (if c then u else K y) Q st:=qU (λe=>h1 e hK) λe=>hK _ _ (h2 e)
theorem U8 {σ α:Type}{c:Prop}[Jd c]{Q:α->σ->Prop}{st:σ}{K u:Nh σ Lb α}(P:σ->Prop)(hK:∀ st,P st->wpS (As prog w) A E s K Q st)(h1:c->(∀ st,P st->wpS (As prog w) A E s K Q st)->wpS (As prog w) A E s u Q st)(h2:¬ c->P st):wpS (As prog w) A E s (if c then u else K) Q st:=qU (λe=>h1 e hK) λe=>hK _ (h2 e)
theorem sN (C:Cm (As prog w) A s κ U r){lo N:Ai}{arr:Aw Bm}{L:Aw (Ai × Ai × Ai)}{g:Ai}{Q:Al Ai->Fw->Prop}(ua:∀ x∈arr.toList,U x)(h1:1<=N)(hz:lo+N<=arr.size)
  (h:∀ n b,1<=n->n<=N->Cr arr b lo N->Seg r b lo n->Q (Ab n) (Dl κ b L g none)):wpS (As prog w) A E s (countRun' lo N) Q (Dl κ arr L g none):=by
 have y:∀ {b:Aw Bm},Cr arr b lo N->∀ x∈b.toList,U x:=λh x v=>ua x (h.pm.mem_iff.mp v);have H:∀ {b:Aw Bm} {n:Ai} {f:Ai->Al (Al Ai) × Ai->Nh Fw Lb (ForInStep (Al (Al Ai) × Ai))},Cr arr b lo N->1<=n->n<=N->Seg r b lo n ->
   (∀ x m,f x (none,m)=(ltAt' (lo+m) (lo+m-1) >>= λo=>match o with
    |some z=>if z then pure (.done (none,m)) else pure (.yield (none,m+1))
    |_=>pure (.done (Ab none,m))))->wpS (As prog w) A E s (forIn [n:N] (none,n) f) (λc Y=>Y=Dl κ b L g none/\∃ m,c=(none,m)/\n<=m/\m<=N/\Seg r b lo m/\(m=N\/r (b.getD (lo+m) nv)<r (b.getD (lo+m-1) nv))) (Dl κ b L g none):=by
  intro b n f J hn hN B hf;have zb:=J.z;refine Fz (I:=λx c Y=>Y=Dl κ b L g none/\c=(none,x)/\n<=x/\Seg r b lo x) ?_ ?_ ⟨rfl,rfl,Av _,B⟩
  .rintro x c Y T v ⟨rfl,rfl,p,B⟩
   rw[hf];refine Be (gJ C (y J) ak ak ?_)
   by_cases l:r (b.getD (lo+x) nv)<r (b.getD (lo+x-1) nv)
   .simp only[l,Lh,Ef]
    exact Bs ⟨rfl,x,rfl,T,by lia,B,.inr l⟩
   .simp only[l,Ll,By,Ek]
    exact Bs ⟨rfl,rfl,by lia,GR B ak ak⟩
  .rintro c Y ⟨rfl,rfl,p,B⟩
   rw[show max n N=N by lia] at B ⊢
   exact⟨rfl,N,rfl,hN,Av _,B,.inl rfl⟩
 refine Be (Ic (H Cr.rfl' (Av 1) h1 oN λ_ _=>rfl) ?_);rintro c Y ⟨rfl,n,rfl,M,n2,B,nd⟩;dsimp only;refine qU (λe=>Bs (h n arr M n2 Cr.rfl' B)) λe=>?_;have e:¬ n=N:=by simpa using e
 have nd:r (arr.getD (lo+n) nv)<r (arr.getD (lo+n-1) nv):=by lia
 refine U8 (λst=>∃ b,st=Dl κ b L g none/\Cr arr b lo N/\u_ r b lo (n+1)) ?_ (λnp t=>?_) λnp=>⟨arr,rfl,Cr.rfl',?_⟩
 .rintro _ ⟨b,rfl,J,G⟩
  refine Be (So (Gw ⟨rfl,?_⟩));refine Be (Ic (Fz (I:=λx c Y=>∃ b q,Y=Dl κ b L g none/\c=(none,x,q)/\Cr arr b lo N/\u_ r b lo x/\Q2 r b lo x q)
   (Q:=λc Y=>∃ b m q,Y=Dl κ b L g none/\c=(none,m,q)/\1<=m/\m<=N/\Cr arr b lo N/\u_ r b lo m/\Q2 r b lo m q) ?_ ?_ ⟨_,0,rfl,rfl,J,G,by lia,λk a b=>by rw[show k=lo+(n+1)-1 by lia]⟩) ?_)
  .rintro x c Y T v ⟨b,q,rfl,rfl,J,G,O⟩
   dsimp only;have zb:=J.z;refine Be (gJ C (y J) ak ak ?_)
   dsimp only;refine qU (λl=>?_) λl=>?_
   .have l:r (b.getD (lo+x) nv)<r (b.getD (lo+x-1) nv):=by simpa using l
    have d2:=gP G ak (Hu l)
    have e2:∀ b:Aw Bm,Q2 r b lo (x+1) 0:=λb=>⟨by lia,λk a b=>by rw[show k=lo+(x+1)-1 by lia]⟩
    refine qU (λqp=>Be (fK (Bs ⟨_,0,rfl,rfl,J.mir (by have:=O.1;lia) ak ak,λi j a c d=>?_,e2 _⟩))) λqp=>Bs ⟨_,0,rfl,rfl,J,d2,e2 _⟩
    rw[gQ ak O,gQ ak O]
    exact d2 i j a c d
   .have l:¬ r (b.getD (lo+x) nv)<r (b.getD (lo+x-1) nv):=by simpa using l
    refine Be (gJ C (y J) ak ak ?_)
    dsimp only;refine qU (λu=>Bs ⟨b,x,q,rfl,rfl,by lia,by lia,J,G,O⟩) λu=>?_
    have u:¬ r (b.getD (lo+x-1) nv)<r (b.getD (lo+x) nv):=by simpa using u
    have ee:r (b.getD (lo+x) nv)=r (b.getD (lo+x-1) nv):=by lia
    refine Bs ⟨b,q+1,rfl,rfl,J,gP G ak ak,by have:=O.1;lia,λk a c=>?_⟩
    rw[show lo+(x+1)-1=lo+x by lia]
    by_cases kx:k=lo+x
    .rw[kx]
    .rw[ee];exact O.2 k ak ak
  .rintro c Y ⟨b,q,rfl,rfl,J,G,O⟩
   rw[show max (n+1) N=N by lia] at G O ⊢
   exact⟨b,N,q,rfl,rfl,h1,Av _,J,G,O⟩
  .rintro c Y ⟨b,m,q,rfl,rfl,m1,m2,J,G,O⟩
   dsimp only;have zb:=J.z;refine U8 (λst=>∃ b,st=Dl κ b L g none/\Cr arr b lo N/\u_ r b lo m) ?_ (λqp t=>?_) λqp=>⟨b,rfl,J,G⟩
   .rintro _ ⟨b,rfl,J,G⟩
    have z2:=J.z;refine Be (fK ?_);refine Be (Ic (H (J.mir (Av _) ak ak) m1 m2 (M3 ak G) λ_ _=>rfl) ?_)
    rintro c Y ⟨rfl,n',rfl,q1,q2,q3,_⟩;exact Bs (h n' _ ak q2 (J.mir (Av _) ak ak) q3)
   .refine Be (fK (t _ ⟨_,rfl,J.mir (by have:=O.1;lia) ak ak,λi j a c d=>?_⟩))
    rw[gQ ak O,gQ ak O]
    exact G i j a c d
 .refine Be (gJ C ua ak ak ?_)
  dsimp only;refine qU (λe=>Bs (h n arr M n2 Cr.rfl' B)) λl=>?_;have l:¬ r (arr.getD lo nv)<r (arr.getD (lo+n-1) nv):=by simpa using l
  refine Be (fK (t _ ⟨_,rfl,Cr.rfl'.mir (Av _) ak ak,gP (λi j a b c=>?_) M ?_⟩))
  .rw[yE ak,yE ak,Ay ak,Ay ak]
   exact B _ _ ak ak ak
  .rw[yE ak,yE ak,AT ak,Ay ak,show lo+(lo+n)-1-(lo+n-1)=lo by lia]
   lia
 .have:n=1:=by lia
  subst this;exact gP M4 (Av _) (Hu nd)
end
theorem fZ {a:Aw Bm}{Q d:Ai}(hs:Q<a.size)(hd:d<=Q)(k:Ai):(bubble a Q d).getD k nv=if k=Q-d then a.getD Q nv else if Q-d<k/\k<=Q then a.getD (k-1) nv else a.getD k nv:=by
 simp only[Fu];rw[getElem?_bubble hs d hd]
 repeat' split
 all_goals rfl
theorem rO {a:Aw Bm}{s d k:Ai}(hs:s+d<a.size)(h:k<s\/s+d<k):(bubble a (s+d) d).getD k nv=a.getD k nv:=by
 rw[fZ hs (Vs _ _),Ot,AT ak,AT ak]
theorem rN {a:Aw Bm}{s d:Ai}(hs:s+d<a.size):(bubble a (s+d) d).getD s nv=a.getD (s+d) nv:=by
 rw[fZ hs (Vs _ _),Ot,Ay rfl]
theorem mT {a:Aw Bm}{s d z:Ai}(hs:s+d<a.size)(h:s<=z)(h2:z<s+d):(bubble a (s+d) d).getD (z+1) nv=a.getD z nv:=by
 rw[fZ hs (Vs _ _),Ot,AT ak,Ay ⟨by lia,h2⟩]
 rfl
section
variable {prog:Bc}{w:Bu}{A:Bl}{E:ae}{s:Ag}{κ: Od}{U:Bm->Prop}{r:Bm->Am}
theorem cW (C:Cm (As prog w) A s κ U r){lo n ok:Ai}{arr:Aw Bm}{L:Aw (Ai × Ai × Ai)}{g:Ai}{Q:Au->Fw->Prop}(ua:∀ x∈arr.toList,U x)(h1:ok<=n)(hz:lo+n<=arr.size)(J:Seg r arr lo ok)
  (h:∀ b,Cr arr b lo n->Seg r b lo n->Q true (Dl κ b L g none)):wpS (As prog w) A E s (binarySort' lo n ok) Q (Dl κ arr L g none):=by
 have y:∀ {b:Aw Bm},Cr arr b lo n->∀ x∈b.toList,U x:=λh x M=>ua x (h.pm.mem_iff.mp M);have H:Seg r arr lo (max ok 1):=by
  by_cases q:ok=0
  .rw[q];exact oN
  .rw[show max ok 1=ok by lia];exact J
 refine Be (Ic (Fz (I:=λk c Y=>c=(none,())/\∃ b,Y=Dl κ b L g none/\Cr arr b lo n/\Seg r b lo k)
  (Q:=λc Y=>c=(none,())/\∃ b,Y=Dl κ b L g none/\Cr arr b lo n/\Seg r b lo n) ?_ ?_ ⟨rfl,arr,rfl,Cr.rfl',H⟩) ?_)
 .rintro k c Y v o ⟨rfl,b,rfl,N,J⟩
  have zb:=N.z;dsimp only;refine Be (Ic (Fz (I:=λx c Y=>Y=Dl κ b L g none/\∃ l u,c=(none,l,u)/\l<=u/\u<=k/\u+x<=k+l/\(∀ i,i<l->r (b.getD (lo+i) nv)<=r (b.getD (lo+k) nv))/\∀ i,u<=i->i<k->r (b.getD (lo+k) nv)<r (b.getD (lo+i) nv))
   (Q:=λc Y=>Y=Dl κ b L g none/\∃ l u,c=(none,l,u)/\l<=k/\(∀ i,i<l->r (b.getD (lo+i) nv)<=r (b.getD (lo+k) nv))/\∀ i,l<=i->i<k->r (b.getD (lo+k) nv)<r (b.getD (lo+i) nv)) ?_ ?_
   ⟨rfl,0,k,rfl,Hi _,Av _,Av _,λi f=>absurd f (AaU _),λi a b=>absurd a (Nat.not_le.mpr b)⟩) ?_)
  .rintro x c Y _ M ⟨rfl,l,u,rfl,T,p,q3,O,B⟩
   dsimp only;refine qU (λe=>Bs ⟨rfl,l,u,rfl,by lia,O,λi a b=>B i ak b⟩) λe=>?_
   refine Be (gJ C (y N) ak ak ?_)
   dsimp only;refine qU (λz=>?_) λz=>?_
   .have z:r (b.getD (lo+k) nv)<r (b.getD (lo+(l+u)/2) nv):=by simpa using z
    exact Bs ⟨rfl,_,_,rfl,by lia,by lia,by lia,O,λi a c=>Sf z (J _ _ ak ak ak)⟩
   .have z:¬ r (b.getD (lo+k) nv)<r (b.getD (lo+(l+u)/2) nv):=by simpa using z
    exact Bs ⟨rfl,_,_,rfl,by lia,by lia,by lia,λi a=>Gi (J _ _ ak ak ak) (Ab4.mp z),B⟩
  .rintro c Y ⟨rfl,l,u,rfl,T,p,q3,O,B⟩
   exact⟨rfl,l,u,rfl,by lia,O,λi a b=>B i ak b⟩
  .rintro c Y ⟨rfl,l,u,rfl,T,O,B⟩
   obtain⟨m,rfl⟩:=Ga T;clear T v;dsimp only;simp only[<- Nn] at O B ⊢;have G:lo+l+m<b.size:=by lia
   have em:lo+l+m-(lo+l)=m:=Gv ..;refine Be (Km (Bs ⟨rfl,_,rfl,⟨(Sl.mp (bubble_perm _ _ _)).trans N.pm,λj t=>?_⟩,?_⟩))
   .show (bubble b (lo+l+m) (lo+l+m-(lo+l))).getD j nv=_
    rw[em,rO G ak]
    exact N.out j t
   .intro i j a c d
    show r ((bubble b (lo+l+m) (lo+l+m-(lo+l))).getD i nv)<=r ((bubble b (lo+l+m) (lo+l+m-(lo+l))).getD j nv);rw[em];rcases Pl i (lo+l) with i1|rfl|i1
    .rw[rO G (.inl i1)]
     rcases Pl j (lo+l) with j1|rfl|j1
     .rw[rO G (.inl j1)];exact J _ j a c ak
     .obtain⟨x,rfl⟩:=Ga a
      rw[rN G];exact O x ak
     .obtain⟨z,rfl⟩:∃ z,j=z+1:=⟨j-1,by lia⟩
      rw[mT G ak ak];exact J _ _ a ak ak
    .rw[rN G]
     rcases Nat.eq_or_lt_of_le c with rfl|j1
     .rw[rN G];exact Qh _
     .obtain⟨z,rfl⟩:∃ z,j=lo+z+1:=⟨j-1-lo,by lia⟩
      rw[mT G ak ak];exact Hu (B z ak ak)
    .obtain⟨x,rfl⟩:∃ x,i=x+1:=⟨i-1,by lia⟩
     obtain⟨z,rfl⟩:∃ z,j=z+1:=⟨j-1,by lia⟩
     rw[mT G ak ak,mT G ak ak];exact J _ _ ak ak ak
 .rintro c Y ⟨rfl,b,rfl,N,J⟩
  refine⟨rfl,b,rfl,N,?_⟩;intro i j a c d;exact J i j a c ak
 .rintro c Y ⟨rfl,b,rfl,N,J⟩
  exact Bs (h b N J)
end
def Rn (r:Bm->Am)(a:Aw Bm):Aa (Ai × Ai × Ai)->Ai->Ai->Prop
 |[],x,y=>x=y
 |(s,n,_)::t,x,y=>s=x/\0<n/\Seg r a s n/\Rn r a t (x+n) y
section
variable {r:Bm->Am}{a b:Aw Bm}
theorem Rn.app:∀ {O Q:Aa (Ai × Ai × Ai)} {x y:Ai},Rn r a (O++Q) x y↔∃ m,Rn r a O x m/\Rn r a Q m y
 |[],Q,x,y=>⟨λh=>⟨x,rfl,h⟩,λ⟨m,J,Y⟩=>by cases J;exact Y⟩
 |(s,n,p)::t,Q,x,y=>by
  show s=x/\0<n/\Seg r a s n/\Rn r a (t++Q) (x+n) y↔∃ m,(s=x/\0<n/\Seg r a s n/\Rn r a t (x+n) m)/\Rn r a Q m y;rw[Rn.app];exact⟨λ⟨J,Y,U,m,N,G⟩=>⟨m,⟨J,Y,U,N⟩,G⟩,λ⟨m,⟨J,Y,U,N⟩,G⟩=>⟨J,Y,U,m,N,G⟩⟩
theorem Rn.le:∀ {L:Aa (Ai × Ai × Ai)} {x y:Ai},Rn r a L x y->x+L.length<=y
 |[],x,y,h=>by cases h;simp
 |(s,n,p)::t,x,y,h=>by have:=Rn.le h.2.2.2;have:=h.2.1;simp only[Ba];lia
theorem Rn.congr:∀ {L:Aa (Ai × Ai × Ai)} {x y:Ai},Rn r a L x y->(∀ k,x<=k->k<y->b.getD k nv=a.getD k nv)->Rn r b L x y
 |[],x,y,h,_=>h
 |(s,n,p)::t,x,y,h,e=>by
  obtain⟨rfl,Q,J,Y⟩:=h;have l:=Rn.le Y;refine⟨rfl,Q,λi j a c d=>?_,Rn.congr Y λk U Q=>e k ak Q⟩
  rw[e i ak ak,e j ak ak]
  exact J i j a c d
theorem Rn.mod {f:Ai × Ai × Ai->Ai × Ai × Ai}(Y:∀ u v p,∃ Q,f (u,v,p)=(u,v,Q)):∀ {L:Aa (Ai × Ai × Ai)} {i x y:Ai},Rn r a L x y->Rn r a (L.modify i f) x y
 |[],i,x,y,h=>by simpa using h
 |(s,n,p)::t,0,x,y,h=>by
  obtain⟨Q,e⟩:=Y s n p;rw[List.modify_zero_cons,e];exact h
 |(s,n,p)::t,i+1,x,y,h=>by
  rw[List.modify_succ_cons];exact⟨h.1,h.2.1,h.2.2.1,Rn.mod Y h.2.2.2⟩
end
theorem AG {α:Type}{l:Aa α}{i:Ai}(h:i+1<l.length):∃ Q x y Y,l=Q++x::y::Y/\Q.length=i:=by
 refine⟨l.take i,l[i],l[i+1],l.drop (i+2),?_,by rw[Dx];lia⟩
 rw[<- Fi h,<- Fi ak,Qi]
section
variable {prog:Bc}{w:Bu}{A:Bl}{E:ae}{s:Ag}{κ: Od}{U:Bm->Prop}{r:Bm->Am}
theorem tN (C:Cm (As prog w) A s κ U r){i e:Ai}{Q:Au->Fw->Prop}{arr:Aw Bm}{Y:Aw (Ai × Ai × Ai)}{g:Ai}(v:∀ x∈arr.toList,U x)(hi:i+1<Y.size)(R:Rn r arr Y.toList 0 e)(he:e<=arr.size)
  (h:∀ b J g,b.toList.Perm arr.toList->(∀ k,e<=k->b.getD k nv=arr.getD k nv)->Rn r b J.toList 0 e->J.size+1=Y.size->Q true (Dl κ b J g none)):wpS (As prog w) A E s (mergeAt' i) Q (Dl κ arr Y g none):=by
 obtain⟨d,⟨N,B,L⟩,⟨sb,I,t⟩,u,O,T⟩:=AG (l:=Y.toList) (i:=i) (by simpa using hi)
 rw[O] at R;obtain⟨m,c,rfl,z,p,rfl,o,s2,R2⟩:=Rn.app.mp R;have l2:=Rn.le R2;have y:Y[i]? = Ab (N,B,L):=by
  rw[<- Bq,O,<- T,Dk (Av _),Zw];rfl
 have f:Y[i+1]? = Ab (N+B,I,t):=by
  rw[<- Bq,O,<- T,Dk ak,Gv];rfl
 refine aK C v y f z o ak p s2 λb g j G a=>?_
 have H:((Y.setIfInBounds i (N,B+I,L)).eraseIdxIfInBounds (i+1)).toList=d++(N,B+I,L)::u:=by
  rw[Array.toList_eraseIdxIfInBounds,Array.toList_setIfInBounds,O,<- T,List.set_append_right _ _ (Av _),Zw,List.set_cons_zero,List.eraseIdx_append_of_length_le ak,Gv]
  rfl
 refine h b _ g j (λk M=>G k ak) ?_ ?_
 .rw[H]
  refine Rn.app.mpr ⟨N,c.congr λk _ M=>G k ak,rfl,by lia,a,?_⟩
  rw[<- Nn];exact R2.congr λk M _=>G k ak
 .have:=congrArg Hv H
  have q:=congrArg Hv O;simp only[Bp,Bb,Ba] at this q
  lia
theorem sO (C:Cm (As prog w) A s κ U r){Q:Po->Fw->Prop}{arr:Aw Bm}{g:Ai}(ua:∀ x∈arr.toList,U x)(h2:0<arr.size)
  (h:∀ b Y g,b.toList.Perm arr.toList->b.toList.Pairwise (Le r)->Q () (Dl κ b Y g none)):wpS (As prog w) A E s sortRuns' Q (Dl κ arr #[] g none):=by
 have p:∀ {b:Aw Bm},b.toList.Perm arr.toList->∀ x∈b.toList,U x:=λh x hx=>ua x (h.mem_iff.mp hx);have H:∀ {b:Aw Bm},b.toList.Perm arr.toList->b.size=arr.size:=λh=>by simpa using h.length_eq
 refine Be (Pd ?_);dsimp only;refine Be (Ic (Fz (I:=λx c J=>∃ b Y g lo,J=Dl κ b Y g none/\c=(none,lo)/\b.toList.Perm arr.toList/\lo<=arr.size/\min x arr.size<=lo/\Rn r b Y.toList 0 lo)
  (Q:=λc J=>∃ b Y g,J=Dl κ b Y g none/\c=(none,arr.size)/\b.toList.Perm arr.toList/\Rn r b Y.toList 0 arr.size) ?_ ?_ ⟨arr,#[],g,0,rfl,rfl,Mx _,by lia,by lia,rfl⟩) ?_)
 .rintro x c J _ hx ⟨b,Y,g,lo,rfl,rfl,G,lo1,zx,R⟩
  have zb:=H G;dsimp only;refine qU (λe=>Bs ⟨b,Y,g,rfl,by rw[show lo=arr.size by lia],G,by rw[show arr.size=lo by lia];exact R⟩) λe=>?_
  refine Be (sN C (p G) ak ak λn b2 n1 n2 cr N=>?_)
  have R2:Rn r b2 Y.toList 0 lo:=R.congr λk _ M=>cr.out k (.inl M);have O:=cr.pm.trans G;have z2:=H O;dsimp only;apply AO (y:=n) (P:=λn st=>∃ b,st=Dl κ b Y g none/\b.toList.Perm arr.toList/\Rn r b Y.toList 0 lo/\Seg r b lo n/\lo+n<=arr.size/\0<n/\min (x+1) arr.size<=lo+n)
  .rintro n _ ⟨b,rfl,G,R,N,n3,n4,n5⟩
   refine Be (Pd ?_);dsimp only;rcases hb:Y.back? with _|⟨s1,l1,p1⟩
   .dsimp only
    refine Be (Km (Bs ⟨_,_,_,_,rfl,rfl,G,n3,n5,?_⟩));show Rn r _ (Y.push _).toList 0 _;rw[Eo];exact Rn.app.mpr ⟨lo,R,rfl,n4,N,rfl⟩
   .dsimp only
    refine Be (Ic (Fz (I:=λ_ c J=>c=(none,())/\∃ b Y g,J=Dl κ b Y g none/\b.toList.Perm arr.toList/\Rn r b Y.toList 0 lo/\Seg r b lo n)
     (Q:=λc J=>c=(none,())/\∃ b Y g,J=Dl κ b Y g none/\b.toList.Perm arr.toList/\Rn r b Y.toList 0 lo/\Seg r b lo n) ?_ (λ_ _ z=>z) ⟨rfl,_,Y,g,rfl,G,R,N⟩) ?_)
    .rintro y c J _ hy ⟨rfl,b,Y,g,rfl,G,R,N⟩
     have zb:=H G;refine Be (Pd ?_);dsimp only;by_cases hp:Y.size>1
     .rw[Ay hp]
      rcases hq:Y[Y.size-2]? with _|⟨u,v,zy⟩
      .exact Bs ⟨rfl,b,Y,g,rfl,G,R,N⟩
      .dsimp only
       refine qU (λ_=>Bs ⟨rfl,b,Y,g,rfl,G,R,N⟩) λ_=>?_;refine Be (tN C (p G) ak R ak λb' B g' p' T R' _=>?_)
       refine qU (λe=>by simp at e) λ_=>Bs ⟨rfl,b',B,g',rfl,p'.trans G,R',λi j a c d=>?_⟩
       rw[T i a,T j ak]
       exact N i j a c d
     .rw[AT hp]
      exact Bs ⟨rfl,b,Y,g,rfl,G,R,N⟩
    .rintro c J ⟨rfl,b,Y,g,rfl,G,R,N⟩
     dsimp only;refine Be (Km (Be (Km (Bs ⟨_,_,_,_,rfl,rfl,G,n3,n5,?_⟩))));show Rn r b ((Y.modify (Y.size-1) _).push _).toList 0 _;rw[Eo,Array.toList_modify];exact Rn.app.mpr ⟨lo,Rn.mod (λ_ _ _=>⟨_,rfl⟩) R,rfl,n4,N,rfl⟩
  .intro lt M
   refine Be (So (Gw ⟨rfl,?_⟩));refine Be (cW C (p O) ak ak N λb3 o f=>?_)
   exact qU (λe=>by simp at e) λ_=>M _ _ ⟨b3,rfl,o.pm.trans O,R2.congr λk _ M=>o.out k (.inl M),f,by lia,by lia,by lia⟩
  .exact λlt=>⟨b2,rfl,O,R2,N,by lia,n1,by lia⟩
 .rintro c J ⟨b,Y,g,lo,rfl,rfl,G,lo1,zx,R⟩
  have:lo=arr.size:=by lia
  subst this;exact⟨b,Y,g,rfl,rfl,G,R⟩
 .rintro c J ⟨b,Y,g,rfl,rfl,G,R⟩
  dsimp only;have hl:=R.le;rw[Bp] at hl;refine Be (Ic (Fz (I:=λx c J=>c=(none,())/\∃ b Y g,J=Dl κ b Y g none/\b.toList.Perm arr.toList/\Rn r b Y.toList 0 arr.size/\(Y.size<=1\/Y.size+x<=arr.size))
   (Q:=λc J=>c=(none,())/\∃ b Y g,J=Dl κ b Y g none/\b.toList.Perm arr.toList/\Rn r b Y.toList 0 arr.size/\Y.size<=1) ?_ ?_ ⟨rfl,b,Y,g,rfl,G,R,by lia⟩) ?_)
  .rintro x c J _ hx ⟨rfl,b,Y,g,rfl,G,R,L⟩
   have zb:=H G;refine Be (Pd ?_);dsimp only;refine qU (λe=>Bs ⟨rfl,b,Y,g,rfl,G,R,e⟩) λe=>?_;refine Be (tN C (p G) ?_ R ak λb' B g' p' T R' z'=>?_)
   .have e:¬ Y.size<=1:=e
    have q:∀ (c:Prop) [Jd c],(if c then Y.size-2-1 else Y.size-2)+1<Y.size:=λc _=>by split <;> lia
    exact q _
   exact qU (λe=>by simp at e) λ_=>Bs ⟨rfl,b',B,g',rfl,p'.trans G,R',by lia⟩
  .rintro c J ⟨rfl,b,Y,g,rfl,G,R,L⟩
   exact⟨rfl,b,Y,g,rfl,G,R,by lia⟩
  .rintro c J ⟨rfl,b,Y,g,rfl,G,R,L⟩
   have zb:=H G;refine Bs (h b Y g G ?_);have L:Y.toList.length<=1:=by simpa using L
   revert R L
   cases Y.toList with
   |nil=>intro R;have:0=arr.size:=R;lia
   |cons q t =>
    obtain⟨s0,n0,p0⟩:=q;intro R L;have:t=[]:=by cases t with|nil=>rfl|cons _ _=>simp at L
    subst this;obtain⟨rfl,_,N,e⟩:=R;have e:n0=arr.size:=by have:0+n0=arr.size:=e;lia
    subst e;rw[Ks];intro i j hi hj l;have zs:i<b.size:=by simpa using hi
    have zl:j<b.size:=by simpa using hj
    have:=N i j ak ak ak
    simpa [Hc,zs,zl,Le] using this
end
structure ud (prog:Bc)(w:Bu)(h0:Bk)(vs:ai)(f:Ai->Ai->Au):Prop where
 ex:∃ κ,∀ (A:Bl),A.units+8<Ed->∀ (s:Ag),jn h0 s.heap->(∀ (Q:Od->Ag->Prop) (E:ae),Q κ s->Ao (As prog w) A (keyKind' vs.toArray) Q E s)/\∀ i j (C:Au->Ag->Prop),i<vs.length->j<vs.length->C (f i j) s->kas_ask prog w A κ vs i j C s
open Classical in
def kV {K:Type}(is:K->Ad->Prop)(d:K)(v:Ad):K:=if h:∃ k,is k v then choose h else d
open Classical in
theorem gZ {K:Type}{is:K->Ad->Prop}{d:K}(h:∃ k,is k v):is (kV is d v) v:=by
 unfold kV;rw[dif_pos h];exact choose_spec h
section
variable {prog:Bc}{w:Bu}{A:Bl}{E:ae}{s:Ag}
theorem BH {K:Type}{is:K->Ad->Prop}{lt':K->K->Au}{d:K}(O:Ord lt')(zc:∀ {k k':K} {v:Ad},is k v->is k' v->k=k'){a:Af}{vs:ai}{ks:Aa K}{n:Ai}{h0:Bk}{P:PySem.Fin->Ag->Prop}(J:vs.length=ks.length)(zl:∀ i v,vs[i]? = Ab v->is (ks.getD i d) v)(t:s.heap.get? a=Ab (Ew "list" vs.toArray n))(hu:A.units+8<Ed)(hz:vs.length<=100000)(c:2<=vs.length->ud prog w h0 vs (rM lt' ks d))(hS:jn h0 s.heap)(ha:h0.get? a=none)
  (h:∀ G:Aa (K × Ad),G.Perm (ks.zip vs)->Nf lt' (G.map (·.1))->P (.done (.ret .none)) { s with heap:=sortedHeap s.heap a vs (G.map (·.2)).toArray }) : Ao (As prog w) A (HT.«list.sort» ⟨[.ref a],[]⟩) P E s:=by
 rw[list_sort_plain];have hb:a<s.heap.objs.size:=Az t;have zb:vs.toArray.size=vs.length:=by simp
 refine Ac (listItems_at t rfl (Ac (listUpdate_at t rfl ?_ (by rw[zb,Es];lia) (Hi _))))
 obtain⟨u,H⟩:∃ u,(s.heap.update a (Fk λ_=>#[])).get? a=Ab (Ew "list" #[] u):=⟨_,Oe t (λ_=>#[])⟩;refine Ac (seqEpoch_at H rfl (Ac (Wx (Ac (Ym (Dn ?_) (Hi _))) (by show vs.length<=_;rw[Es];lia))))
 have M:(((s.heap.update a (Fk λ_=>#[])).push (Ew "tuple" vs.toArray 0)).push (Ew "list" #[] 0)).get? a=Ab (Ew "list" #[] u):=
  Aj _ (Aj _ H)
 have S6:jn h0 (((s.heap.update a (Fk λ_=>#[])).push (Ew "tuple" vs.toArray 0)).push (Ew "list" #[] 0)):=λb o e =>
  Aj _ (Aj _ ((Bt _ _ (λz:a=b=>by rw[<- z,ha] at e;cases e)).trans (hS b o e)))
 show Ao (As prog w) A _ P E { s with heap:=((s.heap.update a (Fk λ_=>#[])).push (Ew "tuple" vs.toArray 0)).push (Ew "list" #[] 0) }
 dsimp only;have I:∀ (Y:Fw) (G:Aa (K × Ad)),(arrOf Y).map (·.2)=(G.map (·.2)).toArray->failedOf Y=none->G.Perm (ks.zip vs)->Nf lt' (G.map (·.1))->Ao (As prog w) A (do
   let B:=(<- seqEpoch a) != u
   Builtin.List.listUpdate (.ref a) λ_=>(arrOf Y).map (·.2)
   if let Ab e:=failedOf Y then rule "list.sort.comparison-raised";throw e
   if B then rule "list.sort.modified";raiseError "ValueError" "list modified during sort"
   ret .none) P E { s with heap:=((s.heap.update a (Fk λ_=>#[])).push (Ew "tuple" vs.toArray 0)).push (Ew "list" #[] 0) }:=by
  intro Y G h1 U r h4;have hl:(G.map (·.2)).length=vs.length:=by rw[Ap,r.length_eq,Vt,J,Ur]
  refine Ac (seqEpoch_at M rfl ?_);rw[h1];refine Ac (listUpdate_at M rfl ?_ (Hi _) (by show (G.map (·.2)).toArray.size<=_;rw[Bh,hl,Es];lia))
  rw[U];simp only[bne_self_eq_false,By,Ek];exact Ak (h G r h4)
 by_cases U:vs.toArray.size<2
 .rw[Ay U,Ay U]
  refine Ac (Ak ?_);rw[StateT.run_pure];refine Ac (Ak ?_);refine I (Dl general' (vs.toArray.zip vs.toArray) #[] 7 none) (ks.zip vs) ?_ rfl (Mx _) ?_
  .show (vs.toArray.zip vs.toArray).map (·.2)=_
   apply AaO.mp;simp[List.map_snd_zip,J]
  .rw[Ui ak]
   match ks,J with
   |[],_=>exact Pi
   |[_],_=>exact Ln _ _
   |_::_::_,e=>simp at e U;lia
 .rw[AT U,AT U]
  have zs:2<=vs.length:=by lia
  obtain⟨κ,C⟩:=c zs;obtain⟨k1,k2⟩:=C A hu { s with heap:=((s.heap.update a (Fk λ_=>#[])).push (Ew "tuple" vs.toArray 0)).push (Ew "list" #[] 0) } S6
  have f:∀ i,i<vs.length->kV is d (vs.getD i Dj)=ks.getD i d:=λi N=>by
   have q:=zl i (vs.getD i Dj) (by rw[Ih,An N];rfl)
   exact zc (gZ ⟨_,q⟩) q
  have km:∀ i,i<vs.length->ks.getD i d∈ks:=λi N=>by
   have:i<ks.length:=by lia
   simp[Jh,this]
  have cm:Cm (As prog w) A { s with heap:=((s.heap.update a (Fk λ_=>#[])).push (Ew "tuple" vs.toArray 0)).push (Ew "list" #[] 0) } κ (λx=>∃ i,i<vs.length/\x=(vs.getD i Dj,vs.getD i Dj)) (λx=>pI lt' ks (kV is d x.1)):=by
   refine⟨?_⟩;rintro x y ⟨i,N,rfl⟩ ⟨j,T,rfl⟩ E Q st hk q;rw[lt'_eq];refine Be (Pd ?_);rw[hk];rw[f i N,f j T,<- cE O (km i N)] at q;refine Be (So (Iq (Fd (k2 i j (λb s'=>s'=_/\b=rM lt' ks d i j) N T ⟨rfl,rfl⟩) ?_ λ_ _ e=>e.elim)));rintro b s' ⟨rfl,rfl⟩;exact⟨rfl,Bs q⟩
  have pl:(vs.toArray.zip vs.toArray).toList=(Dd vs.length).map λi=>(vs.getD i Dj,vs.getD i Dj):=by
   apply Nd
   .simp
   .intro i h1 U
    have:i<vs.length:=by simpa using U
    simp[this]
  refine Ac (k1 _ _ ?_);refine Ac (Fd (sO (E:=E) (Q:=λ_ Y=>∃ b l g,Y=Dl κ b l g none/\b.toList.Perm (vs.toArray.zip vs.toArray).toList/\b.toList.Pairwise (Le λx=>pI lt' ks (kV is d x.1))) cm (arr:=vs.toArray.zip vs.toArray) (g:=7) ?_ ?_ λb l g p q=>⟨b,l,g,rfl,p,q⟩) ?_ λ_ _ e=>e)
  .intro x L
   rw[pl] at L;obtain⟨i,N,rfl⟩:=Ci.mp L;exact⟨i,Fe.mp N,rfl⟩
  .simp;lia
  .rintro⟨⟨⟩,Y⟩ s' ⟨rfl,b,l,g,rfl,pm,up⟩
   refine I _ (b.toList.map λx=>(kV is d x.1,x.2)) ?_ rfl ?_ ?_
   .show b.map (·.2)=_
    apply AaO.mp;simp
   .refine(pm.map _).trans ?_
    rw[pl,Il];have:ks.zip vs=(Dd vs.length).map λi=>(ks.getD i d,vs.getD i Dj):=by
     apply Nd
     .simp[J]
     .intro i h1 U
      have r:i<vs.length:=by simpa using U
      have h4:i<ks.length:=by lia
      simp[r,h4]
    rw[this];refine List.Perm.of_eq (Rj λi N=>?_);show (kV is d (vs.getD i Dj),_)=_;rw[f i (Fe.mp N)]
   .unfold Nf
    rw[Il,Gp];refine up.imp_of_mem λ{x y} L hy h=>?_;have L:=pm.mem_iff.mp L;have hy:=pm.mem_iff.mp hy;rw[pl] at L hy;obtain⟨i,N,rfl⟩:=Ci.mp L;obtain⟨j,T,rfl⟩:=Ci.mp hy;have h:pI lt' ks (kV is d (vs.getD i Dj))<=pI lt' ks (kV is d (vs.getD j Dj)):=h;show lt' (kV is d (vs.getD j Dj)) (kV is d (vs.getD i Dj))=false;have T:=Fe.mp T;rw[cE O (ks:=ks) (by rw[f j T];exact km j T)]
    exact Dr ak
end
section
variable {prog:Bc}{w:Bu}{h0:Bk}
theorem TM {b:Au}{Q:Au->Ag->Prop}:∀ {xs ys:Aa Am} {us vs:ai} {i:Ai} {N M:Ai},ItemsAre (Df prog w) xs us->ItemsAre (Df prog w) ys vs->N+ys.length=M+xs.length->Q (_H.lexLt xs ys) s->KatLex prog w A b (decide (N<M)) Q (us.zip vs) i s:=by
 intro xs ys us vs i N M U
 induction U generalizing ys vs i with
 |nil =>
  intro J Y h;cases J with
  |nil =>
   have:decide (N<M)=false:=Dr (by simp at Y;lia)
   rw[this];exact h
  |@cons k v ys vs q r =>
   have:decide (N<M)=true:=Cz (by simp at Y;lia)
   rw[this];exact h
 |@cons x u xs us B T C =>
  intro J Y h;cases J with
  |nil =>
   have:decide (N<M)=false:=Dr (by simp at Y;lia)
   rw[this];exact h
  |@cons y v ys vs O G =>
   obtain⟨t,rfl⟩:=wY (prog:=prog) (w:=w) B;obtain⟨L,rfl⟩:=wY (prog:=prog) (w:=w) O;rw[Ix];refine kat_cons (wpAny_eqBool_int ?_);rw[_H.bb] at h;refine kat_go (λe=>kat_yes ?_) λe=>kat_no ?_
   .rw[Ay (by simpa using e)] at h
    exact C G (by simp at Y;lia) h
   .rw[AT (by simpa using e)] at h
    cases b&&i == 0 with
    |true=>exact oneLt_int h
    |false=>exact kat_one _ _ (Rb h)
theorem oU:∀ {vs:ai} {ks:Aa (Aa Am)},vs.length=ks.length->(∀ i v,vs[i]? = Ab v->gu prog w h (ks.getD i []) v)->(∀ k∈ks,k≠[])->∃ fs,KatTups h vs fs/\fs.length=vs.length/\∀ f∈fs,∃ n t,f=Qo n t
 |[],[],_,_,_=>⟨[],trivial,rfl,λf hf=>by simp at hf⟩
 |v::vs,k::ks,C,hv,J=>by
  obtain⟨fs,L,H,T⟩:=oU (vs:=vs) (ks:=ks) (by simpa using C) (λi u E=>by simpa using hv (i+1) u (by simpa using E)) λk U=>J k (by simp[U])
  obtain⟨a,rfl,o,Q,n,I,N,O,B⟩:=hv 0 v rfl;have U:k≠[]:=J k a8
  have Y:ItemsAre (Df prog w) k Q.toList:=B;cases G:Q.toList with
  |nil=>rw[G] at Y;cases Y;exact absurd rfl U
  |cons f qG =>
   rw[G] at Y;cases Y with
   |cons q _ =>
    obtain⟨t,rfl⟩:=wY (prog:=prog) (w:=w) q;refine⟨_::fs,KatTups.cons I N O (by rw[<- Bq,G];rfl) L,by simp[H],λf hf=>?_⟩
    rcases Ax.mp hf with rfl|hf
    .exact⟨_,_,rfl⟩
    .exact T f hf
theorem DY {ks:Aa (Aa Am)}(hl:vs.length=ks.length)(hv:∀ i v,vs[i]? = Ab v->gu prog w h0 (ks.getD i []) v)(U:∀ k∈ks,k≠[])(h2:2<=vs.length):ud prog w h0 vs (rM _H.lexLt ks []):=by
 refine⟨tuples' (Hn "int" != Hn "tuple"),λA hu s O=>⟨λQ E h=>?_,λi j C I H h=>?_⟩⟩
 .obtain⟨c,u,a2,l⟩:=oU (h:=s.heap) hl (λi v Y=>by obtain⟨a,e,q⟩:=hv i v Y;exact⟨a,e,uK O q⟩) U
  refine kat_kind u ak (λv Y=>?_) da h
  obtain⟨n,t,rfl⟩:=l v Y;exact Looks.of_pure rfl
 .have g:∀ k (J:k<vs.length),∃ a,vs.getD k Dj=.ref a/\Ri (Df prog w) s.heap (ks.getD k []) a:=λk J=>by
   obtain⟨a,e,q⟩:=hv k vs[k] (An J);exact⟨a,by rw[<- e];simp[Jh,J],uK O q⟩
  obtain⟨a,B,f,d,r,z,_,p,N⟩:=g i I;obtain⟨b,T,ob,x,nb,M,_,o,G⟩:=g j H;unfold kas_ask;rw[B,T];refine kat_lt z p M o (TM N G ?_ h);have y:=N.length;have L:=G.length;simp only[Bp] at y L
  lia
theorem DX {ks:Aa Am}(hl:vs.length=ks.length)(hv:∀ i v,vs[i]? = Ab v->lx prog w (ks.getD i 0) v)(h2:2<=vs.length):ud prog w h0 vs (rM q_ ks 0):=by
 have J:∀ v∈vs,∃ n t,v=Qo n t:=λv O=>by
  obtain⟨i,J,e⟩:=Cp.mp O;obtain⟨t,q⟩:=wY (hv i v (by rw[An J,e]))
  exact⟨_,t,q⟩
 refine⟨oneType',λA T s L=>⟨λQ E h=>?_,λi j C J N h=>?_⟩⟩
 .obtain⟨v₁,Y,qG,rfl⟩:∃ v₁ Y qG,vs=v₁::Y::qG:=by
   match vs,h2 with
   |v₁::Y::qG,_=>exact⟨v₁,Y,qG,rfl⟩
  rw[keyKind_ints (intsAre_map _ J)];exact Ak h
 .have g:∀ k (U:k<vs.length),∃ t,vs.getD k Dj=.int (ks.getD k 0) t:=λk U=>by
   obtain⟨t,q⟩:=wY (hv k vs[k] (An U));exact⟨t,by rw[<- q];simp[Jh,U]⟩
  obtain⟨t,B⟩:=g i J;obtain⟨u,G⟩:=g j N;unfold kas_ask;rw[B,G];exact kat_lt_int h
end
section
variable {K:Type}
theorem UA {α:Type}{ks:Aa K}{vs:Aa α}(hl:vs.length=ks.length){p:K × α}(h:p∈ks.zip vs):∃ i,vs[i]? = Ab p.2/\ks.getD i d=p.1:=by
 obtain⟨i,Y,e⟩:=Cp.mp h;have J:i<ks.length:=by rw[Vt] at Y;lia
 have Q:i<vs.length:=by lia
 rw[List.getElem_zip] at e;subst e;exact⟨i,An Q,by simp[J]⟩
end
structure Kind (prog:Bc)(w:Bu){K:Type}(is:K->Ad->Prop)(hash:K->Am)(lt':K->K->Au)(d:K)(Fit:K->Prop)(h0:Bk):Prop where
 ord:Ord lt'
 inj:∀ {k k':K} {v:Ad},is k v->is k' v->k=k'
 cmps:∀ {vs:ai} {ks:Aa K},vs.length=ks.length->(∀ i v,vs[i]? = Ab v->is (ks.getD i d) v)->(∀ k∈ks,Fit k)->2<=vs.length->ud prog w h0 vs (rM lt' ks d)
theorem BE (prog:Bc)(w:Bu)(h0:Bk):Kind prog w (gu prog w h0) (Uv (Df prog w)) _H.lexLt [] (·≠[]) h0:=⟨yG,gu.inj,λJ Y Q U=>DY J Y Q U⟩
theorem BD (prog:Bc)(w:Bu)(h0:Bk):Kind prog w (lx prog w) (Df prog w).hash q_ 0 (λ_=>Ov) h0:=⟨_J,λa b=>(Df prog w).inj _ _ _ a b,λQ Y _ J=>DX Q Y J⟩
section
variable {prog:Bc}{w:Bu}{A:Bl}{E:ae}{s:Ag}{K:Type}{is:K->Ad->Prop}{az:K->Am}{lt':K->K->Au}{d:K}{qh:K->Prop}{h0:Bk}{S:Af}{V:ai}{seen:Aa K}
open Classical in
def si (is:K->Ad->Prop)(d:K)(e:Am × Ad):K:=if h:∃ k,is k e.2 then choose h else d
open Classical in
theorem RX {e:Am × Ad}(h:∃ k,is k e.2):is (si is d e) e.2:=by
 unfold si;rw[dif_pos h];exact choose_spec h
theorem X3 {Q:ae}(kd:Kind prog w is az lt' d qh h0)(hh:A.handled=none)(hu:A.units+16<Ed)(hS:jn h0 s.heap)(Z:jg is az S (vQ w) V seen s.heap)(hf:∀ k∈seen,qh k){U:Aa K}(hU:U.length<=1000)(zc:∀ k∈seen,k∈U)
  (h:∀ h' tk D c (C:Aa (K × Ad)),(∀ b o,s.heap.get? b=Ab o->h'.get? b=Ab o)->s.heap.objs.size<=D->h'.get? D=Ab (Ew "list" (C.map (·.2)).toArray c)->C.map (·.1)=jp lt' seen->(∀ p∈C,is p.1 p.2/\p.2∈V)->C.length<=1000->Q (.ref D) { s with heap:=h',toks:=tk }) :
  Ao (As prog w) A (call (.builtin "sorted") [.ref S]) Q E s:=by
 obtain⟨O,I,t,ho,H,T,hl,hV⟩:=Z;have st:lj w S O I t:=⟨T,hl⟩;have hn:O.size<=1000:=by
  have:=mI O.toList U H.nd λe N=>by
   obtain⟨k',_,q⟩:=H.good e N;exact⟨k',zc k' ((H.mem k').mpr ⟨e,N,q⟩),q⟩
  rw[Bp] at this
  lia
 have j:=tU w S I O;have z2:=uU w S I O;have Y:∀ e∈(qV w S I O).toList,is (si is d e) e.2/\e.2∈V:=λe N=>by
  have l:=j.mem_iff.mp N;obtain⟨k,_,q⟩:=H.good e l;exact⟨RX ⟨k,q⟩,hV e l⟩
 have zb:(qV w S I O).toList.Pairwise λa b=>∀ k,is k a.2->¬ is k b.2:=(j.pairwise_iff λ{x y} h k hy hx=>h k hx hy).mpr H.nd;generalize zs:(qV w S I O).toList=oe at *;have z1:oe.length<=1000:=by rw[j.length_eq,Bp];exact hn
 have B:∀ i v,(oe.map (·.2))[i]? = Ab v->is ((oe.map (si is d)).getD i d) v/\v∈V:=λi v hv=>by
  rw[Ee] at hv;cases hi:oe[i]? with
  |none=>rw[hi] at hv;cases hv
  |some e =>
   rw[hi] at hv;cases hv;have g:=Y e (Bw hi);have:(oe.map (si is d)).getD i d=si is d e:=by rw[Ih,Ee,hi];rfl
   rw[this];exact g
 have nd:(oe.map (si is d)).Nodup:=by
  unfold Ab1;rw[Gp];refine TD (λ{a b} ha M h e=>?_) zb;exact h _ (Y a ha).1 (e▸(Y b M).1)
 have mem:∀ x,x∈oe.map (si is d)↔x∈seen:=λx=>by
  rw[H.mem,Ci];constructor
  .rintro⟨e,N,rfl⟩
   exact⟨e,j.mem_iff.mp N,(Y e N).1⟩
  .rintro⟨e,N,q⟩
   exact⟨e,j.mem_iff.mpr N,kd.inj (Y e (j.mem_iff.mpr N)).1 q⟩
 have G:(oe.map (·.2)).length=(oe.map (si is d)).length:=by simp
 refine Tq kind_sorted plain_sorted entry_sorted (args_sorted1 _) ?_;unfold HT.«sorted»;refine Ac (m:=checkCount "sorted" 1 1 _) (Ak ?_);refine Ac (cX hh st ho ak λJ f u L=>?_)
 rw[zs];refine Ac (Ym ?_ (by rw[Es,Ap];lia))
 have hD:(J.push (Ew "list" (oe.map (·.2)).toArray 0)).get? J.objs.size=Ab (Ew "list" (oe.map (·.2)).toArray 0):=Bf _ rfl
 have n0:h0.get? J.objs.size=none:=by
  cases q:h0.get? J.objs.size with
  |none=>rfl
  |some o=>exact absurd (Az (hS _ _ q)) (Me.mpr (Fx L))
 show Ao _ _ _ _ _ { s with heap:=J.push (Ew "list" (oe.map (·.2)).toArray 0),toks:=f }
 refine Ac (Dn (Eg slot_list_sort ⟨_,hD,rfl⟩ entry_list_sort (BH (h0:=h0) (is:=is) kd.ord kd.inj (d:=d) (vs:=oe.map (·.2)) G (λi v hv=>(B i v hv).1) hD (by show A.units+2+8<Ed;lia) (by rw[Ap];lia) (λh2=>kd.cmps G (λi v hv=>(B i v hv).1) (λk hk=>hf k ((mem k).mp hk)) h2) (λb o e=>Aj _ (u b o (hS b o e))) n0 λC pm nf=>⟨_,rfl,?_⟩) (args_list_sort _)))
 refine Ak ⟨_,rfl,?_⟩;have hz:(J.push (Ew "list" (oe.map (·.2)).toArray 0)).objs.size=J.objs.size+1:=size_push' ..
 have zl:∀ b o,b≠J.objs.size->(J.push (Ew "list" (oe.map (·.2)).toArray 0)).get? b=Ab o->((((J.push (Ew "list" (oe.map (·.2)).toArray 0)).update J.objs.size (Fk λ_=>#[])).push (Ew "tuple" (oe.map (·.2)).toArray 0)).push (Ew "list" #[] 0)).get? b=Ab o:=λb o M e =>
  Aj _ (Aj _ ((Bt _ _ (Dw M)).trans e))
 obtain⟨r,zx⟩:∃ r,((J.push (Ew "list" (oe.map (·.2)).toArray 0)).update J.objs.size (Fk λ_=>#[])).get? J.objs.size=Ab (Ew "list" #[] r):=⟨_,Oe hD (λ_=>#[])⟩
 have zy:=Oe (Aj (Ew "list" #[] 0) (Aj (Ew "tuple" (oe.map (·.2)).toArray 0) zx)) (λ_=>(C.map (·.2)).toArray)
 have pk:(C.map (·.1)).Perm (oe.map (si is d)):=by
  have:=pm.map (·.1)
  rwa [Ui ak] at this
 refine h _ f J.objs.size _ C (λb o e=>?_) (Fx L) zy (EC kd.ord nf (pk.nodup_iff.mpr nd) λx=>by rw[pk.mem_iff,mem]) (λp hp=>?_) (by have:=pk.length_eq;rw[Ap,Ap] at this;lia)
 .have M:b≠J.objs.size:=λz=>by
   subst z;exact absurd (Az e) (Me.mpr (Fx L))
  exact(Bt _ _ (Dw M)).trans (zl b o M (Aj _ (u b o e)))
 .obtain⟨i,r,e2⟩:=UA (d:=d) G (pm.mem_iff.mp hp)
  exact e2▸B i _ r
end
end _S
namespace _D
open _L
variable {aj:aa}{α:ag}{σ:_L.St}
noncomputable def wF:Aa D->Al (Aa (Aa Am))
 |[]=>Ab []
 |.tup Q::r=>(wC Q).bind λk=>(wF r).map (k::·)
 |_::_=>none
def kg (k:Aa Am):D:=.tup (k.map D.int)
theorem mO:∀ {ds:Aa D} {ks:Aa (Aa Am)},wF ds=Ab ks->ds=ks.map kg
 |[],ks,h=>by cases h;rfl
 |d::r,ks,h=>by
  cases d with
  |tup J =>
   obtain⟨k,U,Y⟩:=Ec.mp (show (wC J).bind (λk=>(wF r).map (k::·))=Ab ks from h)
   obtain⟨m,Q,rfl⟩:=Em.mp Y;rw[mO Q,jC U];rfl
  |_=>cases h
theorem uL (ks:Aa (Aa Am)):wF (ks.map kg)=Ab ks:=by
 induction ks with
 |nil=>rfl
 |cons k ks Q =>
  show (wC (k.map D.int)).bind (λk=>(wF (ks.map kg)).map (k::·))=_
  rw[dP,Q];rfl
def jM (xs:Aa D):Al (Aa D):=match wC xs with
 |some Y=>if (_S.jp _S.q_ Y).length<=1000 then Ab ((_S.jp _S.q_ Y).map D.int) else none
 |none=>match wF xs with
  |some Q=>if ((_S.jp _H.lexLt Q).length<=1000&&Q.all λk=>!k.isEmpty) then Ab ((_S.jp _H.lexLt Q).map kg) else none
  |none=>none
def GS:D->Al (Aa D)
 |.lst Q=>Ab Q
 |.tup Q=>Ab Q
 |_=>none
theorem GZ {K:Type}{lt':K->K->Au}(O:_S.Ord lt')(ks:Aa K)(d:K):_S.jp lt' (_S.u9 (λi=>ks.getD i d) ks.length)=_S.jp lt' ks:=
 _S.fJ O (_S.gH O _) (_S.gH O _) λx=>by
  rw[_S.vG O,_S.vG O,_S.jZ];constructor
  .rintro⟨i,Q,rfl⟩
   simp[Jh,Q]
  .intro Y
   obtain⟨i,Q,e⟩:=Cp.mp Y;exact⟨i,Q,by simp[Jh,Q,e]⟩
section
variable {X:Cx}{e:Cb}
theorem XQ:Gr "sorted" = Ab (.builtin "sorted"):=by decide +kernel
theorem l5:∀ {k:Aa Am} {us:ai},qQ (k.map V.int) us->ItemsAre (Df prog w) k us
 |[],us,h=>by cases h;exact .nil
 |i::k,us,h=>by
  cases h with
  |cons q t =>
   obtain⟨Q,rfl⟩:=q;exact .cons (Yi _ _ _ _) (l5 t)
theorem cJ {H P:Hp}{S:aq}(I:Inv X aj σ H s)(r:bf X.K H P α S)(p:av X.K P α d v)(q:qL v Y)(h:GS d=Ab xs) :
  ∃ a vs ao,Y=.ref a/\qF X.K P α xs vs/\qQ vs ao/\(s.heap.IsList a ao.toArray\/s.heap.IsTuple a ao.toArray)/\xs.length=ao.length:=by
 cases d with
 |lst G =>
  cases h;obtain⟨a,vs,ao,n,rfl,_,t,Q,e,l,_⟩:=yS I r p;exact⟨a,vs,ao,q,t,Q,.inl ⟨_,e,rfl,n,rfl⟩,l⟩
 |tup G =>
  cases h;obtain⟨a,vs,ao,rfl,_,t,Q,⟨o,e,J,n,U⟩,l,_⟩:=yJ I r p;exact⟨a,vs,ao,q,t,Q,.inr ⟨o,e,J,n,U⟩,l⟩
 |_=>cases h
end
section
variable {X:Cx}
noncomputable def lstM (d:D)(S:aq):Al (Aa D):=match d with
 |.lst Q=>Ab Q
 |.loc i=>match S[i]? with
  |some (.lst Q)=>Ab Q
  |_=>none
 |_=>none
def bW:G2:=λa b S=>match lstM a S,lstM b S with
 |some Y,Ab Q=>if Y.length+Q.length<=bi then .ok (.lst (Y++Q)) S else .bad
 |_,_=>.bad
theorem iW {H P:Hp}{S:aq}(I:Inv X aj σ H s)(r:bf X.K H P α S)(h:lstM d S=Ab xs)(p:av X.K P α d v) :
  ∃ a vs ao n,v=.ref a/\qF X.K P α xs vs/\qQ vs ao/\s.heap.get? a=Ab { cls:=.type "list",data:=.seq ao.toArray n } /\ xs.length=ao.length:=by
 cases d with
 |lst G =>
  cases h;obtain⟨a,vs,ao,n,e,_,t,Q,J,U,_⟩:=yS I r p;exact⟨a,vs,ao,n,e,t,Q,J,U⟩
 |loc i =>
  simp only[lstM] at h;cases Y:S[i]? with
  |none=>rw[Y] at h;cases h
  |some m =>
   rw[Y] at h;cases m with
   |lst G =>
    cases h;simp only[av] at p;obtain⟨a,rfl,q⟩:=p;obtain⟨vs,z,t⟩:=r.at' i a _ q Y;obtain⟨_,ao,n,Q,e⟩:=I.hok a _ z;exact⟨a,vs,ao,n,rfl,t,Q,e,by rw[t.length,Q.length]⟩
   |_=>cases h
 |_=>cases h
theorem TX:gq X (Fj .Add) bW:=by
 intro aj σ H s P α S v u l k a b Q I r j w B M Y;unfold bW at Y;cases J:lstM a S with
 |none=>rw[J] at Y;exact Aq Y
 |some o =>
  cases U:lstM b S with
  |none=>rw[J,U] at Y;exact Aq Y
  |some c =>
   rw[J,U] at Y;obtain⟨C,Y⟩:=uI (X:=X) Y;obtain⟨a,p,g,n,rfl,y,N,T,L⟩:=iW I r J B;obtain⟨b,d,O,q,rfl,A,G,E,z⟩:=iW I r U M;cases j;cases w;refine AaH T E ?_ (by rw[Bh,Bh,<- L,<- z,<- xC];exact C)
   rw[Ye];exact eV I r (y.append A) (N.append G) (by rw[Bb];exact C) Y
end
section
variable {X:Cx}
theorem AQ:js X (Fj .Add) bW:=⟨TX⟩
end
end _D
section
namespace _D
open _L
mutual
def kq:D->Al Yv
 |.non=>Ab .none
 |.bl b=>Ab (.bool b)
 |.int i=>Ab (.int i)
 |.str x=>Ab (.str x)
 |.tup Q=>(jH Q).map .tuple
 |.lst Q=>(jH Q).map .list
 |.dct0=>Ab (.dict [])
 |_=>none
def jH:Aa D->Al (Aa Yv)
 |[]=>Ab []
 |d::Q=>(kq d).bind λx=>(jH Q).map (x::·)
end
mutual
def uS:D->Au
 |.lst _=>false
 |.tup Q=>gC Q
 |_=>true
def gC:Aa D->Au
 |[]=>true
 |d::Q=>uS d&&gC Q
end
noncomputable def bJ (d:D)(p:Yv):Au:=p.showable&&p.leavesShort 40&&decide (p.bulk<=2 ^ 16)&&decide (p.depth<=60)&&(!p.hasDict||uS d)
def pJ (d:D):Al Ar:=(kq d).bind λp=>if bJ d p then Ab p.shown else none
def bV:DF:=λQ S=>match Q with
 |[d]=>match pJ d with
  |some x=>.ok (.str x) S
  |none=>.bad
 |_=>.bad
section
variable {X:Cx}{aj:aa}{σ: _L.St}{H P:Hp}{α: Aa Af}{S:aq}{s:Ag}
mutual
theorem cF (I:Inv X aj σ H s)(r:bf X.K H P α S):∀ (d:D) (p:Yv) (v:V) (u:Ad),kq d=Ab p->av X.K P α d v->qL v u->∃ as,Reads s.heap u p as/\(uS d=true->IN ∉ as)
 |.non,p,v,u,h,q,Q=>by
  cases h;simp only[av] at q;subst q;cases (show u=Dj from Q);exact⟨_,.none,by simp⟩
 |.bl b,p,v,u,h,q,Q=>by
  cases h;simp only[av] at q;subst q;cases (show u=Fv b from Q);exact⟨_,.bool b,by simp⟩
 |.int i,p,v,u,h,q,Q=>by
  cases h;simp only[av] at q;subst q;obtain⟨t,rfl⟩:=Q;exact⟨_,.int i t,by simp⟩
 |.str x,p,v,u,h,q,Q=>by
  cases h;simp only[av] at q;subst q;obtain⟨t,rfl⟩:=Q;exact⟨_,.str x t,by simp⟩
 |.tup N,p,v,u,h,q,Q=>by
  simp only[kq] at h;obtain⟨G,O,rfl⟩:=Em.mp h;obtain⟨a,J,C,rfl,_,t,Y,⟨o,e,M,n,U⟩,_,_⟩:=yJ I r q;cases (show u=Cc a from Q)
  obtain⟨as,B,w⟩:=bI I r N G J C O t Y;exact⟨as,.tuple e M U (by simpa using B),λz=>w (by simpa only [uS] using z)⟩
 |.lst N,p,v,u,h,q,Q=>by
  simp only[kq] at h;obtain⟨G,O,rfl⟩:=Em.mp h;obtain⟨a,J,C,n,rfl,_,t,Y,e,_,_⟩:=yS I r q;cases (show u=Cc a from Q)
  obtain⟨as,B,_⟩:=bI I r N G J C O t Y;exact⟨a::as,.list e rfl rfl (by simpa using B),λz=>by simp[uS] at z⟩
 |.dct0,p,v,u,h,q,Q=>by
  cases h;simp only[av] at q;obtain⟨a,rfl,q⟩:=q;cases (show u=Cc a from Q)
  obtain⟨_,y,J,j,o,E,k,e,A,U,_,L,_⟩:=I.hok _ _ (r.sub _ _ q);cases j;have T:E.toList=[]:=by
   generalize E.toList=l at L;cases L;rfl
  refine⟨[a]++[],.dict (kvs:=[]) e A.1 U ?_ ?_,λ_=>by simpa using (λz=>(Gj.mp y) z.symm)⟩
  .rw[T];exact .nil
  .rw[T];exact .nil
 |.ty _,p,v,u,h,_,_=>by simp[kq] at h
 |.obj _,p,v,u,h,_,_=>by simp[kq] at h
 |.loc _,p,v,u,h,_,_=>by simp[kq] at h
 |.exn _,p,v,u,h,_,_=>by simp[kq] at h
 |.fd _ _,p,v,u,h,_,_=>by simp[kq] at h
 |.clo _ _ _,p,v,u,h,_,_=>by simp[kq] at h
 |.exl _ _ _,p,v,u,h,_,_=>by simp[kq] at h
theorem bI (I:Inv X aj σ H s)(r:bf X.K H P α S):∀ (ds:Aa D) (Q:Aa Yv) (vs:Aa V) (us:ai),jH ds=Ab Q->qF X.K P α ds vs->qQ vs us->∃ as,ReadsAll s.heap us Q as/\(gC ds=true->IN ∉ as)
 |[],Q,vs,us,h,q,J=>by
  cases h;cases q.nil_inv;cases J;exact⟨[],.nil,by simp⟩
 |d::ds,Q,vs,us,h,q,J=>by
  simp only[jH] at h;obtain⟨p,B,G⟩:=Ec.mp h;obtain⟨Y,M,rfl⟩:=Em.mp G;obtain⟨w,A,rfl,C,E⟩:=q.cons_inv;cases J with
  |cons U N =>
   obtain⟨as,L,y⟩:=cF I r d p w _ B C U;obtain⟨j,T,O⟩:=bI I r ds Y A _ M E N;refine⟨as++j,.cons L T,λz=>?_⟩;simp only[gC,Bj] at z;simp only[Bv,Wh];exact⟨y z.1,O z.2⟩
end
set_option tactic.hygienic true in
theorem VO (h:pJ d=Ab x):∃ p,kq d=Ab p/\p.shown=x/\p.showable=true/\p.shown.length<=sizeLine/\p.depth<=60/\(p.hasDict=true->uS d=true):=by
 unfold pJ at h;obtain⟨p,N,Q⟩:=Ec.mp h
 split at Q
 .rename_i Y
  cases Q;simp only[bJ,Bj,Ce,Ny,Jg] at Y;obtain⟨⟨⟨⟨O,G⟩,C⟩,U⟩,J⟩:=Y;refine⟨p,N,rfl,O,?_,U,λz=>J.resolve_left (by rw[z];simp)⟩
  have:=PyData.shown_le_bulk 40 om p G;rw[Es];fin2
 .cases Q
theorem FG (w:X.A.guards=Ab [])(hu:X.A.units+64<Ed):xY X (.builtin "repr") bV:=by
 intro c σ H s P α S vs us f Q I r a E J
 match f,J,E with
 |[],J,_=>exact Aq J
 |_::_::_,J,_=>exact Aq J
 |[d],J,E =>
  simp only[bV] at J;cases L:pJ d with
  |none=>rw[L] at J;exact Aq J
  |some x =>
   rw[L] at J;obtain⟨p,m,rfl,B,C,h,T⟩:=VO L;obtain⟨v,u,rfl,rfl,q,j⟩:=yN E a;obtain⟨as,n,M⟩:=cF I r d p v u m q j;have Y:∀ (A:Bk) (u k:Sr),(∀ b o,s.heap.get? b=Ab o->A.get? b=Ab o)->EP X c σ Q (.str p.shown u) { s with heap:=A,toks:=k }:=λA u k g =>
    ⟨.str p.shown,H,I.kept g,⟨u,rfl⟩,xr J r (by simp only[av])⟩
   cases n with
   |none=>exact PySem.P.repr_of_none (Y s.heap _ _ λ_ _ e=>e)
   |bool b=>exact PySem.P.repr_of_bool (Y s.heap _ _ λ_ _ e=>e)
   |int i t=>exact PySem.P.repr_of_int (by simpa [Vu] using B) (Y s.heap _ _ λ_ _ e=>e)
   |str y t=>exact PySem.P.repr_of_str (Y s.heap _ _ λ_ _ e=>e) C
   |list G O N U=>exact Xb (.list G O N U) B (λz=>M (T z)) w om (λ_ _ e=>e) Y C
   |tuple G O N U=>exact Xb (.tuple G O N U) B (λz=>M (T z)) w om (λ_ _ e=>e) Y C
   |dict G O N U l=>exact Xb (.dict G O N U l) B (λz=>M (T z)) w om (λ_ _ e=>e) Y C
end
end _D
end
section
namespace _H
noncomputable def gb (n:Ai)(k:Am):Am:=(Ha none none k (n:Am)).1
def qv (n:Ai)(k:Am):Am:=(Ha none none k (n:Am)).2
def gy (n:Ai)(k:Am):Ai:=Hb (gb n k) (qv n k) k
def dz {α:Type}(xs:Aa α)(k:Am):Aa α:=(Dd (gy xs.length k)).filterMap λ(m:Ai)=>xs[(gb xs.length k+(m:Am)*k).toNat]?
section
variable {prog:Bc}{w:Bu}{A:Bl}{E:ae}{s:Ag}
theorem fM {k:Am}{t:Sr}{n:Ai}{Q:Am × Am × Ai->Ag->Prop}(hs:s.heap.IsSliceOf U .none .none (.int k t))(G:k≠0)
  (h:Q (gb n k,k,gy n k) s):Ao (As prog w) A (Kb (.ref U) (pure (n:Am))) Q E s:=by
 obtain⟨os,Y,N,J⟩:=id hs;unfold Kb Sx;refine Ac (Ac (Du Y J (x:=.none) rfl (Ac (Du Y J (x:=.none) rfl (Ac (Du Y J (x:=.int k t) rfl (Ak ?_)))))));refine Ac (slicePart_int ?_);show Ao _ _ (if (k == 0)=true then _ else _) _ _ s
 rw[AT (by simpa using G)]
 refine Ac (Rp (Ac (Rp (Ac (Ak ?_)))));exact Ak h
theorem iu {α:Type}(xs:Aa α)(k:Am):(dz xs k).length<=gy xs.length k:=by
 unfold dz;exact Cs (List.length_filterMap_le _ _) (by rw[Ev];exact Av _)
theorem im {t N:Af}{k:Am}{Q:ae}(J:Rm s.heap t items)(hs:s.heap.IsSliceOf N .none .none (.int k u))(h0:k≠0)(h1:k≠1)
  (h:Q (.ref s.heap.objs.size) { s with heap:=s.heap.push { cls:=.type "tuple",data:=.seq (dz items.toList k).toArray } })
  (hsz:gy items.size k<=sizeLine):Ao (As prog w) A (Mw (.ref t) (.ref N)) Q E s:=by
 have Y:sizeOk (.seq (dz items.toList k).toArray):=by
  show (dz items.toList k).toArray.size<=sizeLine;rw[Bh];exact Cs (iu _ _) (by simpa using hsz)
 obtain⟨os,C,O,B⟩:=id hs;have U:s.TypeIs (.ref N) "slice":=⟨os,C,O⟩;unfold Mw
 try with_reducible refine Dn ?_
 first|refine Ac (Ak ?_)|skip
 refine Ac (Sy J.typeIs da ?_)
 refine Ac (Eb (name:=Gh "__getitem__") J.typeIs Dy
  (Eg Dy J.typeIs Rc ?_ (Sb _ _)))
 show Ao _ _ (Kc (.ref t) >>= _) _ _ s;refine Ac (Xt J ?_);refine Ac (Kk U ?_);rw[Ay da]
 refine Ac (fM hs h0 ?_);have G:¬ ((gb items.size k == 0&&k == 1&&gy items.size k == items.size)=true):=by
  intro q;rw[Bj,Bj] at q;exact h1 (eq_of_beq q.1.2)
 show Ao _ _ (if (gb items.size k == 0&&k == 1&&gy items.size k == items.size)=true then _ else _) _ _ s
 rw[AT G];have e:((Dd (gy items.size k)).filterMap λ(m:Ai)=>items[(gb items.size k+(m:Am)*k).toNat]?)=dz items.toList k:=by
  unfold dz;simp
 rw[e]
 first
  |exact Ac (m:=Ft _) (Dq (Ak ⟨_,rfl,Ak h⟩) Y)
  |exact Ac (m:=Ft _) (Dq (Ac (Ak (Ak ⟨_,rfl,Ak h⟩))) Y)
  |exact Ac (Ac (m:=Ft _) (Dq (Ak (Ak ⟨_,rfl,Ak h⟩)) Y))
  |exact Ac (Ac (m:=Ft _) (Dq (Ak ⟨_,rfl,Ak h⟩) Y))
end
end _H
namespace _D
open _L
def sV:G2:=λd k S=>match d,k with
 |.tup Q,.int k=>if k≠0/\k≠1/\_H.gy Q.length k<=bi then .ok (.tup (_H.dz Q k)) S else .bad
 |_,_=>.bad
def QQ (fe Q:DE):DE:=d2 sV fe Q
section
variable {X:Cx}{e ek:Cb}{fe fk:DE}{p2 au:Fc}
theorem U5 (Y:qQ vs us)(l:Aa Ai)(f:Ai->Ai):qQ (l.filterMap λm=>vs[f m]?) (l.filterMap λm=>us[f m]?):=by
 induction l with
 |nil=>exact .nil
 |cons m l Q =>
  simp only[Gy];cases h:vs[f m]? with
  |none =>
   have:us[f m]? = none:=by
    rw[Ts] at h ⊢;rw[<- Y.length];exact h
   rw[this];exact Q
  |some v =>
   obtain⟨u,J,r⟩:=Y.get h;rw[J];exact .cons r Q
theorem VP {K:Ah}{P:Hp}{α:ag}(Q:qF K P α ds vs)(l:Aa Ai)(f:Ai->Ai):qF K P α (l.filterMap λm=>ds[f m]?) (l.filterMap λm=>vs[f m]?):=by
 induction l with
 |nil=>exact .nil
 |cons m l Y =>
  simp only[Gy];cases h:ds[f m]? with
  |none =>
   have:vs[f m]? = none:=by
    rw[Ts] at h ⊢;rw[<- Q.length];exact h
   rw[this];exact Y
  |some d =>
   obtain⟨u,J,r⟩:=Q.get h;rw[J];exact .cons r Y
set_option tactic.hygienic true in
theorem FR (g:PE X e (tD X fe))(l:PE X ek (tD X fk)):PE X (.Subscript e (.Slice none none (Ab ek) p2) au) (tD X (QQ fe fk)):=by
 intro c s σ H Q I h;obtain⟨P,α,j,S,r,f,i⟩:=h;have M:qO X P α ((fe j S).bind λd z=>(fk j z).bind λk w=>sV d k w) (jj X P α Q):=i;refine Xw (bv (zR g I r f M) λv s1 ⟨x,H1,P1,zb,d,z,G,T⟩=>?_);refine wpAny_Slice ?_;rw[Xu];refine Ak (Ak ?_);rw[evalPart_some];refine bv (zR l G.inv G.rel G.env (qX.base G.same G.pre T)) λvk U ⟨y,H2,P2,A,k,w,G2,Y⟩=>?_;have Y:=qX.base G2.same G2.pre Y;cases d with
 |tup u =>
  cases k with
  |int k =>
   simp only[sV] at Y
   split at Y
   .rename_i J
    have n:=av.mono G2.same G2.pre _ _ G.rep;obtain⟨a,O,L,rfl,q,t,N,ht,hl,_⟩:=yJ G2.inv G2.rel n;cases (show v=Cc a from G.val)
    have o:=G2.rep;simp only[av] at o;subst o;obtain⟨B,rfl⟩:=G2.val;have p:Inv X c σ H2 { U with heap:=U.heap.push { cls:=.type "slice",data:=.fields #[.none,.none,.int k B] } }:=G2.inv.kept (t':=U.toks) λb ob q=>Aj _ q
    have C:Rm (U.heap.push { cls:=.type "slice",data:=.fields #[.none,.none,.int k B] }) a L.toArray:=ht.keeps λb ob q=>Aj _ q;refine tail_any (ops:=[.ref a,.ref U.heap.objs.size]) (s:={ U with heap:=U.heap.push { cls:=.type "slice",data:=.fields #[.none,.none,.int k B] } }) C.typeIs Dy.lookup ?_ (by with_unfolding_all rfl)
    refine _H.im (s:={ U with heap:=U.heap.push { cls:=.type "slice",data:=.fields #[.none,.none,.int k B] } }) C (Zb ..) J.1 J.2.1 ?_ ?_
    .have lv:O.length=L.length:=N.length
     have ld:u.length=O.length:=t.length;have t':qF X.K P2 A (_H.dz u k) (_H.dz O k):=by
      unfold _H.dz;rw[ld];exact VP t _ λm=>(_H.gb O.length k+(m:Am)*k).toNat
     have E:qQ (_H.dz O k) (_H.dz L k):=by
      unfold _H.dz;rw[lv];exact U5 N _ λm=>(_H.gb L.length k+(m:Am)*k).toNat
     exact eW p G2.rel t' E (Cs (_H.iu _ _) J.2.2) Y
    .rw[Bh,<- hl,<- xC];exact J.2.2
   .exact Aq Y
  |_=>exact Aq Y
 |_=>exact Aq Y
end
end _D
end
namespace _D
open _L
section
variable {X:Cx}{cm:Au}{k:Ai}{e ek:Cb}{fe fk:DE}{p2 au:Fc}
theorem AZ (Q:ay cm k X.A):fg X (.builtin "repr") bV:=⟨FG Q.gd Q.units⟩
theorem NM (Y:QE X e fe)(Q:QE X ek fk):QE X (.Subscript e (.Slice none none (Ab ek) p2) au) (QQ fe fk):=⟨FR Y.1 Q.1⟩
end
end _D
namespace _S
open PySem.W
section
variable {prog:Bc}{w:Bu}{A:Bl}{E:ae}{s:Ag}{K:Type}{is:K->Ad->Prop}{az:K->Am}{lt':K->K->Au}{d:K}{qh:K->Prop}{h0:Bk}
theorem X2 {Q:ae}(kd:Kind prog w is az lt' d qh h0)(hu:A.units+16<Ed)(r:jn h0 s.heap){l:Af}{vs:ai}(hl:s.heap.IsList l vs.toArray\/s.heap.IsTuple l vs.toArray)(ks:Aa K)(Y:vs.length=ks.length)(G:∀ i v,vs[i]? = Ab v->is (ks.getD i d) v)(hf:∀ k∈ks,qh k)(C:vs.length<=100000)
  (h:∀ (h1 h':Bk) (tk:Ai) (D:Af) (c:Ai) (J:Aa (K × Ad)),(∀ b o,s.heap.get? b=Ab o->h1.get? b=Ab o)->(∀ b o,h1.get? b=Ab o->h'.get? b=Ab o)->h1.objs.size<=D->h'.get? D=Ab (Ew "list" (J.map (·.2)).toArray c)->J.map (·.1)=vZ lt' ks->(∀ p∈J,is p.1 p.2/\p.2∈vs)->J.length=ks.length->Q (.ref D) { s with heap:=h',toks:=tk }) :
  Ao (As prog w) A (call (.builtin "sorted") [.ref l]) Q E s:=by
 refine Tq kind_sorted plain_sorted entry_sorted (args_sorted1 _) ?_;unfold HT.«sorted»;refine Ac (m:=checkCount "sorted" 1 1 _) (Ak ?_);have N:∀ {R:Aa Ad->Ag->Prop},(∀ h1:Bk,(∀ b o,s.heap.get? b=Ab o->h1.get? b=Ab o)->R vs { s with heap:=h1 }) -> Ao (As prog w) A.in1 (collect (.ref l)) R E s:=λ{R} f=>by
  have e:vs.toArray.toList=vs:=by simp
  rcases hl with⟨o,j,T,n,I⟩|⟨o,j,T,n,I⟩
  .exact wpAny_collect_seq l (.inl rfl) j T I (λh' L=>by rw[e];exact f h' L) (by rw[Bh,Es];lia)
  .exact wpAny_collect_seq l (.inr rfl) j T I (λh' L=>by rw[e];exact f h' L) (by rw[Bh,Es];lia)
 refine Ac (N λh1 U=>?_);refine Ac (Ym ?_ (by rw[Es];lia))
 have u:(h1.push (Ew "list" vs.toArray 0)).get? h1.objs.size=Ab (Ew "list" vs.toArray 0):=Bf _ rfl;have n0:h0.get? h1.objs.size=none:=by
  cases q:h0.get? h1.objs.size with
  |none=>rfl
  |some o=>exact absurd (Az (U _ _ (r _ _ q))) (Ex _)
 show Ao _ _ _ _ _ { s with heap:=h1.push (Ew "list" vs.toArray 0),toks:=s.toks }
 refine Ac (Dn (Eg slot_list_sort ⟨_,u,rfl⟩ entry_list_sort (BH (h0:=h0) (is:=is) kd.ord kd.inj (d:=d) (vs:=vs) Y G u (by show A.units+2+8<Ed;lia) C (λa=>kd.cmps Y G hf a) (λb o e=>Aj _ (U b o (r b o e))) n0 λJ g nf=>⟨_,rfl,?_⟩) (args_list_sort _)))
 refine Ak ⟨_,rfl,?_⟩;have hz:(h1.push (Ew "list" vs.toArray 0)).objs.size=h1.objs.size+1:=size_push' ..;have M:∀ b o,b≠h1.objs.size->(h1.push (Ew "list" vs.toArray 0)).get? b=Ab o->((((h1.push (Ew "list" vs.toArray 0)).update h1.objs.size (Fk λ_=>#[])).push (Ew "tuple" vs.toArray 0)).push (Ew "list" #[] 0)).get? b=Ab o:=λb o B e =>
  Aj _ (Aj _ ((Bt _ _ (Dw B)).trans e))
 obtain⟨O,H⟩:∃ O,((h1.push (Ew "list" vs.toArray 0)).update h1.objs.size (Fk λ_=>#[])).get? h1.objs.size=Ab (Ew "list" #[] O):=⟨_,Oe u (λ_=>#[])⟩;have y:=Oe (Aj (Ew "list" #[] 0) (Aj (Ew "tuple" vs.toArray 0) H)) (λ_=>(J.map (·.2)).toArray)
 have t:(J.map (·.1)).Perm ks:=by
  have:=g.map (·.1)
  rwa [Ui ak] at this
 refine h h1 _ s.toks h1.objs.size _ J U (λb o e=>?_) (Av _) y (iY kd.ord nf (oR kd.ord ks) (t.trans (bK ks).symm)) (λp x=>?_) (by have:=t.length_eq;rwa [Ap] at this)
 .have B:b≠h1.objs.size:=λz=>by
   subst z;exact absurd (Az e) (Ex _)
  exact(Bt _ _ (Dw B)).trans (M b o B (Aj _ e))
 .obtain⟨i,O,e2⟩:=UA (d:=d) Y (g.mem_iff.mp x)
  exact⟨e2▸G i _ O,Bw O⟩
end
end _S
namespace _D
open _L
def pM (xs:Aa D):Al (Aa D):=match wC xs with
 |some Y=>if Y.length<=100000 then Ab ((_S.vZ _S.q_ Y).map D.int) else none
 |none=>match wF xs with
  |some Q=>if (decide (Q.length<=100000)&&Q.all λk=>!k.isEmpty) then Ab ((_S.vZ _H.lexLt Q).map kg) else none
  |none=>none
def GX (R:Aa D->aq->a_ D):DF:=λY S=>match Y with
 |[d]=>match (GS d).bind pM with
  |some Q=>R Q S
  |none=>.bad
 |_=>.bad
def gA:DF:=GX λQ S=>.ok (.lst Q) S
section
variable {X:Cx}{aj:aa}{σ: _L.St}{H P:Hp}{α: Aa Af}{S:aq}{s:Ag}
inductive rh (X:Cx)(pins:aa)(σ : _L.St)(H P:Hp)(α : Aa Af)(ys:Aa D)(u:Ad)(s':Ag):Prop
 |mk (D:Af) (vs:Aa V) (e:u=.ref D) (hn:H D=none) (I:Inv X pins σ (bw H D (.lst vs)) s') (rp:qF X.K P α ys vs):rh X pins σ H P α ys u s'
theorem sF {K:Type}{is:K->Ad->Prop}{n:K->Am}{lt':K->K->Au}{d:K}{y:K->Prop}(kd:_S.Kind X.prog X.w is n lt' d y s.heap)(hu:X.A.units+64<Ed)(I:Inv X aj σ H s)(r:bf X.K H P α S){a:Af}{ao:ai}
  (b:s.heap.IsList a ao.toArray\/s.heap.IsTuple a ao.toArray) (ks:Aa K) (hl:ks.length=ao.length) (t:∀ i v,ao[i]? = Ab v->is (ks.getD i d) v) (hn:ks.length<=100000) (hf:∀ k∈ks,y k) (cw:K->D)
  (U:∀ k v,is k v->v∈ao->∃ C,qL C v/\av X.K P α (cw k) C) {E:ae} :
  db X (call (.builtin "sorted") [.ref a]) (rh X aj σ H P α ((_S.vZ lt' ks).map cw)) E s:=by
 refine _S.X2 kd li (λ_ _ e=>e) b ks hl.symm t hf li λz m G D c Y B A j M T o x=>?_;have w:Inv X aj σ H { s with heap:=z,toks:=s.toks }:=I.kept B
 have C:∀ (Y:Aa (K × Ad)),(∀ p∈Y,is p.1 p.2/\p.2∈ao)->∃ Q,qQ Q (Y.map (·.2))/\qF X.K P α ((Y.map (·.1)).map cw) Q:=by
  intro Y
  induction Y with
  |nil=>exact λ_=>⟨[],.nil,.nil⟩
  |cons p Y f =>
   intro h;obtain⟨Q,N,O⟩:=f λq l=>h q (by simp[l])
   obtain⟨v,g,u⟩:=U p.1 p.2 (h p a8).1 (h p a8).2
   exact⟨v::Q,.cons g N,.cons u O⟩
 obtain⟨Q,N,O⟩:=C Y o;rw[T] at O;have nd:([(D,HO.lst Q)].map (·.1)).Nodup:=by simp
 have I2:Inv X aj σ (kQ H [(D,HO.lst Q)]) { s with heap:=m,toks:=G }:=Inv.laidL (s:={ s with heap:=z,toks:=s.toks }) (L:=[(D,HO.lst Q)]) (t':=G) w A (λp J=>by
  have:p=(D,HO.lst Q):=by simpa using J
  subst this;exact j) λp J=>by
  have:p=(D,HO.lst Q):=by simpa using J
  subst this;refine⟨?_,Y.map (·.2),c,N,M⟩
  have:=N.length;rw[Ap] at this;rw[this,Es]
  lia
 exact⟨D,Q,rfl,w.hok.fresh j,I2,O⟩
set_option tactic.hygienic true in
theorem X1 {E:ae}(e:X.A.units+64<Ed)(I:Inv X aj σ H s)(r:bf X.K H P α S){a:Af}{xs ys:Aa D}{vs:Aa V}{ao:ai}(x:qF X.K P α xs vs)(C:qQ vs ao)(e1:s.heap.IsList a ao.toArray\/s.heap.IsTuple a ao.toArray)(y:xs.length=ao.length)(hs:pM xs=Ab ys) :
  db X (call (.builtin "sorted") [.ref a]) (rh X aj σ H P α ys) E s:=by
 unfold pM at hs;cases N:wC xs with
 |some n =>
  rw[N] at hs;dsimp only at hs
  split at hs
  .rename_i Y
   cases hs;have:=jC N;subst this;have:=vE x;subst this;refine sF (d:=0) (_S.BD X.prog X.w s.heap) e I r e1 n (by simpa using y) (λi u Q=>?_) Y (λ_ _=>trivial) D.int λk u G _=>?_
   .have N:Lc ao n:=by simpa using gW C
    obtain⟨t,rfl⟩:=Ry N i u Q;exact Yi _ _ _ _
   .obtain⟨t,rfl⟩:=_S.wY G
    exact⟨.int k,⟨t,rfl⟩,by simp only[av]⟩
  .cases hs
 |none =>
  rw[N] at hs;dsimp only at hs;cases g:wF xs with
  |none=>rw[g] at hs;cases hs
  |some J =>
   rw[g] at hs;dsimp only at hs
   split at hs
   .rename_i Y
    cases hs;rw[Bj,Ce] at Y;have:=mO g;subst this;have O:∀ (i:Ai) (u:Ad),ao[i]? = Ab u->∃ b,u=.ref b/\Ri (Df X.prog X.w) s.heap (J.getD i []) b/\∃ f,qL f u/\av X.K P α (kg (J.getD i [])) f:=λi u Q=>by
     have U:i<ao.length:=(Bd.mp Q).1;have A:i<J.length:=by rw[Ap] at y;lia
     obtain⟨v,p,q,_⟩:=wN x C (j:=i) (by rw[Bh];exact U)
     have B:(J.map kg).getD i D.non=kg (J.getD i []):=by simp[Jh,A]
     rw[B] at p;have L:ao.toArray[i]'(by rw[Bh];exact U)=u:=by
      rw[An U] at Q;simpa using Q
     rw[L] at q;obtain⟨b,ws,us,rfl,sq,t,rv,⟨o,ho,M,m,B⟩,_,_⟩:=yJ I r (show av X.K P α (.tup ((J.getD i []).map D.int)) v from p)
     cases (show u=Cc b from q)
     have:=vE t;subst this;exact⟨b,rfl,⟨o,us.toArray,m,ho,M,B,by simpa using l5 rv⟩,.ref b,rfl,p⟩
    refine sF (d:=[]) (_S.BE X.prog X.w s.heap) e I r e1 J (by simpa using y) (λi u Q=>?_) Y.1 (λk G=>?_) kg λk u G l=>?_
    .obtain⟨b,rfl,q,_⟩:=O i u Q
     exact⟨b,rfl,q⟩
    .have:=Ca.mp Y.2 k G
     intro z;subst z;cases this
    .obtain⟨i,T,rfl⟩:=Cp.mp l
     obtain⟨b,h,q,w,c,pw⟩:=O i _ (An T);have:k=J.getD i []:=_S.gu.inj G ⟨b,h,q⟩;rw[this];exact⟨w,c,pw⟩
   .cases hs
theorem qAS (A:X.A.units+64<Ed){vs:Aa V}{us:ai}{ds:Aa D}{Q:VK}{R:Aa D->aq->a_ D}(I:Inv X aj σ H s)(r:bf X.K H P α S)(w:qQ vs us)(G:qF X.K P α ds vs)(Y:qX X P α (GX R ds S) Q)
  (k:∀ ys D J,H D=none->qF X.K P α ys J->qX X P α (R ys S) Q->Q (.ref D) (bw H D (.lst J))):db X (call (.builtin "sorted") us) (EP X aj σ Q) X.xe s:=by
 match ds,Y,G with
 |[],Y,_=>exact Aq Y
 |_::_::_,Y,_=>exact Aq Y
 |[d],Y,G =>
  simp only[GX] at Y;cases N:(GS d).bind pM with
  |none=>rw[N] at Y;exact Aq Y
  |some ys =>
   rw[N] at Y;obtain⟨j,C,L⟩:=Ec.mp N;obtain⟨v,u,rfl,rfl,p,q⟩:=yN G w;obtain⟨a,vs,y,rfl,z,O,E,T⟩:=cJ I r p q C;refine bv (X1 A I r z O E T L) λo l ⟨D,J,e,B,M,U⟩=>?_;subst e;exact⟨.ref D,_,M,rfl,k ys D J B U Y⟩
theorem XU (C:X.A.units+64<Ed):xY X (.builtin "sorted") gA:=by
 intro aj σ H s P α S T A L Q I r B N O;exact qAS C I r B N O λE D G U Y J=>wO r U Y J
end
section
variable {X:Cx}{cm:Au}{k:Ai}
theorem PF (Q:ay cm k X.A):fg X (.builtin "sorted") gA:=⟨XU Q.units⟩
end
end _D
namespace _L
variable {jw:Aa Ar}{mg mb:ah}
def qAs (H:Hp):Prop:=∀ b,H b=none\/(∃ o Q,H b=Ab (.frz o (.lst Q)))\/H b=Ab (.tbl #[])
def yo (K:Ah)(H:Hp):Prop:=∀ x∈vO,∀ c T,Ey K x=Ab (c,T)->H T=Ab (.tbl #[])
structure xa (K:Ah)(h:Bk):Prop where
 at':∀ x∈vO,∀ c T,Ey K x=Ab (c,T)->Ab5 h c T/\h.get? T=Ab (Rz #[]) /\ K.lookup T=none
 inj:∀ x∈vO,∀ y∈vO,∀ c d T,Ey K x=Ab (c,T)->Ey K y=Ab (d,T)->x=y
theorem JZ {P:Bc}{w:Bu}{K:Ah}{CX:ue}{k:Ai}{fa a:Af}{fd:Gd}{x:Ar}{sp:Sp}{Q:Ag}{vs:ai}{ns:Aa Am}
  (KX:K.In Q.heap) (g:Q.heap.Ns Ct mg) (J:Q.heap.Ns Ra mb) (zs:∀ x:Ar,x ≠ "__name__" -> mb x=Gr x) (zc:Q.heap.NoLimit) (hg:Q.gens=#[]) (z1:D1 mg Q.heap) (G:xa K Q.heap)
  (y:Q.heap.get? a=Ab { cls:=.type "list",data:=.seq vs.toArray }) (hi:Lc vs ns) (hl:ns.length<=sizeLine) (hr:gp k Ta)
  (F:∀ base:Bk,K.In base->base.Ns Ct mg->my P w K mg base CX k fa fd [x] sp) (M:∀ (s:Ag) (u:Ad),Pv s fd ⟨[u],[]⟩ [(x,u)])
  (zy:∀ H:Hp,yo K H->qe K H a (ns.map V.int)->sp [.ref a] H (λv _=>v=.bl true) λ_ _ _=>Fp)
  (zx:∀ H e s',CX [] H Q (λ_ _ _=>Fp) e s'->Fp) :
  Ht (As P w) Ta (.call (.ref fa) ⟨[.ref a],[]⟩) (λr s'=>r=.ok (.ret (.bool true))/\OldK Q.heap s'.heap/\s'.os=Q.os/\Ps s'.gens) Q:=by
 have rv:=U4 hi;have z4:=hi.length
 let gu:Af->Prop:=λb=>∃ x∈vO,∃ c,Ey K x=Ab (c,b)
 have tab:∀ b,gu b->Q.heap.get? b=Ab (Rz #[]) /\ K.lookup b=none:=λb ⟨x,U,c,h⟩=>(G.at' x U c b h).2;have L:∀ H:Hp,qAs H->yo K H->qe K H a (ns.map V.int)->gt P w H Q.heap->(∀ b,H b≠none->b=a\/gu b)->(H a≠none->K.lookup a=none) ->
   Ht (As P w) Ta (.call (.ref fa) ⟨[.ref a],[]⟩) (λr s'=>r=.ok (.ret (.bool true))/\OldK Q.heap s'.heap/\s'.os=Q.os/\Ps s'.gens) Q:=by
  intro H hO hT hS I hA hK;have Y:∀ {b:Af} {o:Co},Q.heap.get? b=Ab o->H b=none->(gV Q.heap H).get? b=Ab o:=λe n=>JQ e n;have zb:∀ {b:Af} {o:Co},Q.heap.get? b=Ab o->o.cls≠.none->(o.cls≠.type "list" \/ ∃ A E,o.data=.dict A E)->H b=none:=λ{b o} e c1 c2=>by
   cases q:H b with
   |none=>rfl
   |some u =>
    rcases hA b (by rw[q];simp) with e'|e'
    .subst e'
     rw[y] at e;cases e;rcases c2 with z|⟨A,E,d⟩
     .exact absurd rfl z
     .cases d
    .rw[(tab b e').1] at e;cases e
     exact absurd rfl c1
  have z3:∀ {b:Af} {o:Co} {A:Aw DictEntry} {E:Ai},Q.heap.get? b=Ab o->o.data=.dict A E->H b=none:=λ{b o A E} e d=>by
   cases q:H b with
   |none=>rfl
   |some u =>
    rcases hA b (by rw[q];simp) with e'|e'
    .subst e'
     rw[y] at e;cases e;cases d
    .rw[(tab b e').1] at e;cases e;cases d
  have O:∀ {b:Af} {m:ah},Q.heap.Ns b m->(gV Q.heap H).Ns b m:=λ{b m} ⟨o,A,E,e,d,r⟩=>⟨o,A,E,Y e (z3 e d),d,r⟩;have t:K.In (gV Q.heap H):=λb o e=>Y (KX b o e) (by
   cases q:H b with
   |none=>rfl
   |some u =>
    rcases hA b (by rw[q];simp) with e'|e'
    .subst e'
     rw[hK (by rw[q];simp)] at e;cases e
    .rw[(tab b e').2] at e;cases e)
  have hM:Mod K mg (gV Q.heap H):=by
   refine⟨t,O g,⟨mb,O J,zs⟩,let ⟨mc,h1,h2⟩:=zc;⟨mc,O h1,h2⟩,?_,λx U c T h=>?_,G.inj⟩
   .obtain⟨bm,o,b1,b2,b3,b4,b5⟩:=z1
    exact⟨bm,o,b1,b2,Y b3 (zb b3 (by rw[b4];nofun) (.inl (by rw[b4];decide))),b4,b5⟩
   .obtain⟨o,vs,i,tf,j,tg,zl,f,tt,C,p,r⟩:=(G.at' x U c T h).1
    exact⟨o,vs,i,tf,j,tg,zl,f,tt,Y C (zb C (by rw[p];nofun) (.inl (by rw[p];decide))),p,r⟩
  have e0:md P w K mg (gV Q.heap H) Ta [] Q H:=⟨rfl,hM,λb o e=>N1 e,Zv (WX _ _),trivial,λb J=>absurd (show b∈([]:ag) from J) a8,I,.of_eq hg⟩
  refine My ((F _ t (O g)).run Ta [] Q H ⟨[.ref a],[]⟩ [.ref a] [.ref a] _ _ hr e0 (M Q (.ref a)) (.cons rfl .nil) (zy H hT hS)) λr s' h=>?_;cases r with
  |error e=>exact(zx H e s' h).elim
  |ok fl =>
   cases fl with
   |next=>exact Aq h
   |brk=>exact Aq h
   |cont=>exact Aq h
   |ret u =>
    obtain⟨v,H',os,l,un,B,r',q⟩:=h;have q':v=.bl true:=q;subst q';obtain rfl:u=Fv true:=r';refine⟨rfl,⟨λb o e=>?_,λb o e=>un.there b o e a8⟩,os,l⟩
    cases q:H b with
    |none=>exact .inl (un.keep b o e q (by intro z;exact absurd (show b∈([]:ag) from z) a8) a8)
    |some u =>
     rcases hO b with z|⟨ob,xs,z⟩|z
     .rw[q] at z;cases z
     .have z2:=un.frzs b ob _ z
      obtain⟨C,_⟩:=I b _ z;obtain⟨p,_⟩:=B b _ z2;rw[e] at C;cases C;exact .inl p
     .obtain⟨gl,z2⟩:=un.tbls b _ z
      have C:Q.heap.get? b=Ab (Rz #[]):=I b _ z;have p:s'.heap.get? b=Ab (Rz (#[] ++ gl)):=B b _ z2;rw[e] at C;cases C;rcases hA b (by rw[q];simp) with e'|⟨x,U,c,h⟩
      .subst e';rw[y] at e;cases e
      .exact .inr (.inl ⟨((G.at' x U c b h).1.tab e).isCodeTable,rfl,#[],gl,rfl,p⟩)
 have nT:¬ gu a:=λh=>by
  have z:=(tab a h).1;rw[y] at z;cases z
 have tT:∀ x∈vO,∀ c T,Ey K x=Ab (c,T)->gu T:=λx U c T h=>⟨x,U,c,h⟩;have z5:∀ b,Jd (gu b):=λb=>Classical.propDecidable _;cases hk:K.lookup a with
 |some o =>
  have e:=KX a o hk;rw[y] at e;cases e;refine L (λb=>if gu b then Ab (.tbl #[]) else none) (λb=>?_) (λx U c T h=>Ay (tT x U c T h)) (.inr ⟨vs,_,hk,by rw[Ap];exact hl,rv⟩) (λb u z=>?_) (λb z=>?_) λz=>absurd (AT nT) z
  .by_cases h:gu b
   .exact .inr (.inr (Ay h))
   .exact .inl (AT h)
  .by_cases h:gu b
   .have N:=(Ay h).symm.trans z
    cases N;exact(tab b h).1
   .have N:=(AT h).symm.trans z
    cases N
  .by_cases h:gu b
   .exact .inr h
   .exact absurd (AT h) z
 |none =>
  refine L (λb=>if b=a then Ab (.frz { cls:=.type "list",data:=.seq vs.toArray } (.lst (ns.map V.int))) else if gu b then Ab (.tbl #[]) else none) (λb=>?_) (λx U c T h=>?_) (.inl (.inr ⟨{ cls:=.type "list",data:=.seq vs.toArray },Ay rfl⟩)) (λb u z=>?_) (λb z=>?_) λ_=>hk
  .by_cases J:b=a
   .exact .inr (.inl ⟨_,_,Ay J⟩)
   .by_cases h:gu b
    .exact .inr (.inr ((AT J).trans (Ay h)))
    .exact .inl ((AT J).trans (AT h))
  .have h':=tT x U c T h
   exact(AT (λ(z:T=a)=>nT (z▸h'))).trans (Ay h')
  .by_cases J:b=a
   .have N:=(Ay J).symm.trans z
    cases N;subst J;exact⟨y,by rw[Ap];exact hl,vs,_,rv,y⟩
   .by_cases h:gu b
    .have N:=((AT J).trans (Ay h)).symm.trans z
     cases N;exact(tab b h).1
    .have N:=((AT J).trans (AT h)).symm.trans z
     cases N
  .by_cases J:b=a
   .exact .inl J
   .by_cases h:gu b
    .exact .inr h
    .exact absurd ((AT J).trans (AT h)) z
def rT (q:Bc)(K:Ah):Au:=vO.all λx=>match Ey K x with
 |none=>true
 |some (_,T)=>((recsOf q).find? λe=>e.name == x).isSome&&((K.lookup T).isNone&&vO.all λy=>match Ey K y with
  |none=>true
  |some (_,U)=>x == y||!decide (T=U))
theorem LI {Y:ExcName->Al Ad}{K:Ah}(T:Top q jw Y mg mb h)(X:K.In h)(c:rT q K=true):xa K h:=by
 unfold rT at c;have g:∀ x∈vO,∀ d U,Ey K x=Ab (d,U)->((recsOf q).find? λe=>e.name == x).isSome=true/\(K.lookup U).isNone=true/\(vO.all λy=>match Ey K y with
  |none=>true
  |some (_,V)=>x == y||!decide (U=V))=true:=λx Q d U e=>by
  have z:=Ca.mp c x Q;rw[e] at z;simpa only [Bj] using z
 refine⟨λx Q d U e=>?_,λx Q y C d I U E J=>?_⟩
 .obtain⟨O,N,_⟩:=g x Q d U e
  obtain⟨r,G⟩:=Oh.mp O;obtain⟨L,B⟩:=PySem.W.tab_of T X G e;exact⟨L,B,by simpa using N⟩
 .have z:=Ca.mp (g x Q d U E).2.2 y C
  rw[J] at z;simpa using z
theorem LP {l:AaX}{n k:Ai}{q:Bc}{jw:Aa Ar}{t:(Ar->Al Ad)->Bk->Prop}{M:Bu->Bk->Prop}{d:DefRec}{K:Params->Ah}{CX:Bu->ue}{sp:Bu->Sp}{x:Ar}
  (hn:l.most=Ab n) (L:n<=sizeLine) (B:d.params.defaults=[]) (j:gp k Ta) (ht:∀ p,rT q (K p)=true)
  (hY:∀ (w:Bu) (h:Bk),M w h->(K w.params).In h)
  (F:∀ (w:Bu) (mg:ah) (O:Af) (h:Bk),(K w.params).In h->h.Ns Ct mg->mg d.name=Ab (.ref O) ->
   ∃ fd:Gd,(∀ (s:Ag) (u:Ad),Pv s fd ⟨[u],[]⟩ [(x,u)]) /\
    ∀ base:Bk,(K w.params).In base->base.Ns Ct mg->my l.prog w (K w.params) mg base (CX w) k O fd [x] (sp w))
  (E:∀ (w:Bu) (H:Hp) (a:Af) (ns:Aa Am),ns.length<=n->yo (K w.params) H->qe (K w.params) H a (ns.map V.int)->sp w [.ref a] H (λv _=>v=.bl true) λ_ _ _=>Fp)
  (T:∀ (w:Bu) (H:Hp) (s:Ag) (e:Ad) (s':Ag),CX w [] H s (λ_ _ _=>Fp) e s'->Fp) :
  AbL q jw t M l.row.toRowW d [] (λf vs=>AaZ f vs):=by
 refine _A.mw hn B λw A N mg mb O o pm cd g a vs ns G Y ho hd zb C U J Q r=>?_;have I:=hY w _ Y;obtain⟨fd,hb,hF⟩:=F w mg O _ I G.T.g C;exact JZ I G.T.g G.T.b G.T.builtins G.T.nolimit r (let ⟨b,ob,m,y,c,b4,b5,b6⟩:=G.T.bmain;⟨b,ob,m,y,c,b4,b5,b6⟩) (LI G.T I (ht _)) U J (Cs Q L) j hF hb (λH z i=>E w H a ns Q z i) λH e s'=>T w H N e s'
end _L
namespace _D
open _L
variable {K:Ah}{mg:ah}
theorem A5 (X:K.In h)(G:h.Ns Ct mg){x:Ar}{st:Et}{J:Aa Ar}{f:Af}{T:Ad}{B O:Al Af}{C:Aw (Al Ad)}{kV Y U Q N:Ad}
  (a:Do K Ct x=Ab (Ab (.ref f)))
  (l:K.lookup f=Ab ⟨T,B,.func (Gf x x (wH st) (zJ st) (qM st) .none kV Y U O Q N),C⟩) (c:Kz K Q x=true) (k:Ff K (.ref f)=true)
  (L:∀ (kV Y U:Ad) (O:Al Af) (Q N:Ad) (us:ai),us.length=J.length->Yt (Gf x x (wH st) (zJ st) (qM st) .none kV Y U O Q N) ⟨us,[]⟩=pure (J.zip us)):td K mg x st J:=
 have F:=WV (st:=st) l c k
 ⟨f,_,Tt X G a,F,F.binds L⟩
noncomputable def m9 (K:Ah)(C:Af):Au:=
 decide (Hg K (.ref C) "__getattribute__" = Ab (Ab (.builtin "BaseException.__getattribute__")))&&decide (Hg K (.ref C) "__getattr__" = Ab none)
 && decide (Hg K (.ref C) "__class__" = Ab (Ab (.builtin "object.__class__")))&&decide (Xp K C (.type "object")=Ab true)&&decide (Xp K C (.type "BaseException")=Ab true)
 && (Tu K C).isSome&&decide (Mv K (.ref C) (.type "ValueError")=Ab true)
noncomputable def nM (K:Ah):Au:=
 decide (f8 K (.builtin "object.__class__") "__get__" = Ab (Ab (.builtin "getset_descriptor.__get__")))&&decide (AaR K (.builtin "object.__class__")=Ab true)
def DU (K:Ah)(Q:ag):Au:=Q.all λC=>Q.all λB=>decide (Mv K (.ref C) (.ref B)=Ab (C == B))
theorem DW {Y:ag}(h1:Y.all (m9 K)=true)(h2:nM K=true)(h3:DU K Y=true):r_ K Y:=by
 have g:=h2;unfold nM at g;simp only[Bj,Ce] at g;have J:∀ C∈Y,m9 K C=true:=Ca.mp h1;refine⟨λC Q=>?_,λC Q B E=>?_,λC Q=>?_⟩
 .have e:=J C Q
  unfold m9 at e;simp only[Bj,Ce] at e;obtain⟨⟨⟨⟨⟨⟨T,U⟩,N⟩,O⟩,L⟩,G⟩,I⟩:=e;exact⟨T,U,N,g.1,g.2,O,L,G⟩
 .have e:=Ca.mp (Ca.mp h3 C Q) B E
  exact Cf e
 .have e:=J C Q
  unfold m9 at e;simp only[Bj,Ce] at e;exact e.2
def qA2 (K:Ah)(Q:ai)(A:Af):Au:=Q.all λv=>decide (La K v (.ref A)=Ab true)
def qA0 (K:Ah)(Q:ag)(A:Af):Au:=Q.all λC=>m8 K C A
def qA1 (K:Ah)(Q:ag):Au:=Q.all λC=>Ff K (.ref C)
def rD (K:Ah):Sp:=λJ H Q E=>yo K H/\∃ a Y,J=[.ref a]/\qe K H a (List.map V.int Y)/\Y.length<=63/\∀ U,Q (.bl true) U
theorem cG {P:Hp}{α:ag}:∀ ns:Aa Am,qF K P α (ns.map D.int) (ns.map V.int)
 |[]=>.nil
 |n::ns=>.cons (by simp only[av]) (cG ns)
def vh (H:Hp):Hp:=λb=>match H b with
 |some (.tbl _)=>none
 |u=>u
theorem TK {P:Bc}{w:Bu}{st:Et}{k:Ai}{x:Ar}(hs:td K mg "law" st [x])(M:mg "law" = Ab (.ref d))
  (L:∀ (kV J C:Ad) (A:Al Af) (U j:Ad) (s:Ag) (v:Ad),Pv s (Gf "law" "law" (wH st) (zJ st) (qM st) .none kV J C A U j) ⟨[v],[]⟩ [(x,v)])
  (N:∀ base:Bk,∃ F,rG P w K mg base true k "law" [x] F/\∀ ns:Aa Am,ns.length<=63->∃ S,F [.lst (ns.map D.int)] [] = .ok (.bl true) S) :
  ∃ fd:Gd,(∀ (s:Ag) (v:Ad),Pv s fd ⟨[v],[]⟩ [(x,v)])/\∀ base:Bk,K.In base->base.Ns Ct mg->my P w K mg base (m_ P w) k d fd [x] (rD K):=by
 obtain⟨f,fd,l,F,hb⟩:=hs;cases M.symm.trans l;refine⟨fd,?_,λbase _ _=>?_⟩
 .obtain⟨oc,od,kV,J,C,A,U,j,i,rfl,_,_⟩:=F.ex
  exact L kV J C A U j
 .obtain⟨G,⟨f',m,y,_,t,B,X⟩,n⟩:=N base
  cases l.symm.trans y;cases B.one (p7 F);refine(X.imp λvs H Q E h=>?_).ok;obtain⟨r,a,ns,rfl,hS,B,k⟩:=h;obtain⟨S,e⟩:=n ns B;have Y:∀ (b:Af) (u:HO),H b=Ab u->(∀ O,u≠.tbl O)->vh H b=Ab u:=λb u q h=>by
   unfold vh;rw[q];cases u with
   |tbl O=>exact absurd rfl (h O)
   |_=>rfl
  have I:qe K (vh H) a (List.map V.int ns):=by
   rcases hS with (h|⟨o,h⟩)|h
   .exact .inl (.inl (Y _ _ h λ_ z=>by cases z))
   .exact .inl (.inr ⟨o,Y _ _ h λ_ z=>by cases z⟩)
   .exact .inr h
  have sub:qI (vh H) H:=λb u q=>by
   unfold vh at q;cases z:H b with
   |none=>rw[z] at q;cases q
   |some v =>
    rw[z] at q;cases v with
    |tbl O=>cases q
    |_=>exact q
  refine⟨rfl,vh H,[],[.lst (ns.map D.int)],[],⟨λx p c T h=>⟨#[],r x p c T h,by unfold vh;rw[r x p c T h],by simp,trivial,λau cv z=>by cases z⟩,sub,rfl,.nil,by simp,by simp,by simp⟩,.cons (lL I (cG ns)) .nil,?_⟩
  rw[e];intro v H' P' zb _ _ _ g;simp only[av] at g;subst g;exact k H'
theorem qAc {l:AaX}{C:Aa Ar}{T:(Ar->Al Ad)->Bk->Prop}{J:Bu->Bk->Prop}{d:DefRec}{K:Params->Ah}{k:Ai}{x:Ar}(O:l.most=Ab 63)(Q:d.params.defaults=[])(N:gp k Ta)(I:∀ p,rT q (K p)=true)
  (U:∀ (w:Bu) (h:Bk),J w h->(K w.params).In h)
  (F:∀ (w:Bu) (mg:ah) (Y:Af) (h:Bk),(K w.params).In h->h.Ns Ct mg->mg d.name=Ab (.ref Y) ->
   ∃ fd:Gd,(∀ (s:Ag) (u:Ad),Pv s fd ⟨[u],[]⟩ [(x,u)])/\∀ base:Bk,(K w.params).In base->base.Ns Ct mg->my l.prog w (K w.params) mg base (m_ l.prog w) k Y fd [x] (rD (K w.params))) :
  AbL q C T J l.row.toRowW d [] (λf vs=>AaZ f vs):=
 _L.LP (n:=63) (k:=k) (x:=x) (CX:=λw=>m_ l.prog w) (sp:=λw=>rD (K w.params)) O da Q N I U F (λ_ _ a L B G E=>⟨G,a,L,rfl,E,B,λ_=>rfl⟩) λw H s e A h=>by
  obtain⟨_,_,_,_,_,_,_,_,_,_,_,_,z⟩:=h;exact z
end _D
namespace _D
variable {us:ai}
theorem _f (h:us.length=0):us=[]:=Qu h
theorem wn {n:Ai}(h:us.length=n+1):∃ a vs,us=a::vs/\vs.length=n:=by
 cases us with
 |nil=>exact absurd h a8
 |cons a vs=>exact⟨a,vs,rfl,by simpa using h⟩
theorem z_ (h:us.length=1):∃ a,us=[a]:=by
 obtain⟨a,Y,rfl,Q⟩:=wn h;exact⟨a,by rw[_f Q]⟩
theorem zz (h:us.length=2):∃ a b,us=[a,b]:=by
 obtain⟨a,Y,rfl,Q⟩:=wn h;obtain⟨b,rfl⟩:=z_ Q;exact⟨a,b,rfl⟩
theorem zw (h:us.length=3):∃ a b c,us=[a,b,c]:=by
 obtain⟨a,Y,rfl,Q⟩:=wn h;obtain⟨b,c,rfl⟩:=zz Q;exact⟨a,b,c,rfl⟩
theorem _e (h:us.length=4):∃ a b c d,us=[a,b,c,d]:=by
 obtain⟨a,Y,rfl,Q⟩:=wn h;obtain⟨b,c,d,rfl⟩:=zw Q;exact⟨a,b,c,d,rfl⟩
theorem _d (h:us.length=5):∃ a b c d e,us=[a,b,c,d,e]:=by
 obtain⟨a,Y,rfl,Q⟩:=wn h;obtain⟨b,c,d,e,rfl⟩:=_e Q;exact⟨a,b,c,d,e,rfl⟩
end _D
namespace _D
open _L
variable {sc:Fq}
theorem BX (F:DF):∃ G:DF,G=F:=⟨F,rfl⟩
def sh (F:DF):DF:=Qe (BX F)
theorem zQ (F:DF):sh F=F:=Qf (BX F)
def H_:Al Je->Au
 |some .local => true
 |some .cell=>true
 |some .free=>true
 |_=>false
noncomputable def yf:Al Je->Au
 |some .local => true
 |some .cell=>true
 |_=>false
def isG:Al Je->Au
 |some .globalImplicit=>true
 |_=>false
noncomputable def yb (x:Ar):Au:=!(x == ("__debug__" : Ar))&&(!(x == ("__classdict__" : Ar))&&!decide (x = "__name__"))
def qq (X:Cx)(x:Ar):Au:=isG (X.env.kindOf x)&&yb x
def zd (v:Ad)(x:Ar):Au:=decide (Gr x=Ab v)
def l9 (sc:Fq):Aa Ar:=sc.names.filterMap λy=>if yf (Ab y.2) then Ab y.1 else none
def yY (sc:Fq):Aa Ar:=(sc.names.filterMap λy=>if yf (Ab y.2)&&!(y.1 == (".0" : Ar)) then Ab y.1 else none)++sc.names.filterMap λy=>if y.2 == .free then Ab y.1 else none
def Ck (b:Au):Prop:=b=true
theorem ck {b:Au}(h:b=true:=by kernel_rfl):Ck b:=h
structure t_ (F:DF)(P:Bc)(w:Bu)(K:Ah)(mg:ah)(base:Bk)(cm:Au)(k:Ai)(x:Ar)(n:Ai):Prop where
 get:rq P w K mg base cm k x n F
def wq (X:Cx)(m:Ai)(x:Ar):Au:=decide (X.N[m]? = Ab x)&&(yf (X.env.scope.names.lookup x)&&(decide X.N.Nodup&&(X.fn x||decide (X.env.scope.names.lookup x=Ab .local))))
noncomputable def wt (X:Cx)(m:Ai)(x:Ar):Au:=decide (X.N[m]? = Ab x)&&decide (X.env.scope.names.lookup x=Ab .local)
def sQ (Q:Fq)(Y:Aa Ar)(am:Fq)(cj:Aa (Al Ai)):Au:=
 decide (am.kind=.function)&&(decide (∀ y∈am.names,y.2=.local -> am.names.lookup y.1=Ab .local)&&(decide (∀ y∈am.names,y.2=.cell->am.names.lookup y.1=Ab .cell)&&(decide (∀ y∈am.names,y.2=.free->Q.names.lookup y.1=Ab .cell\/Q.names.lookup y.1=Ab .free)
 && (decide (∀ y∈am.names,y.2=.free->am.names.lookup y.1=Ab .free)&&(decide (cj.length=(yY am).length)&&(((cj.zip (yY am)).all λp=>match p.1 with|none=>true|some i=>Y[i]? == Ab p.2&&am.names.lookup p.2 == Ab .free)&&decide (yY am).Nodup))))))
noncomputable def wv (N P:Aa Ar)(sc:Fq):Au:=
 decide (sc.kind=.function)&&(decide (sc.isCoroutine=false)&&(decide (sc.isGenerator=false)&&(decide N.Nodup&&(decide (N.take P.length=P)&&(decide (∀ x∈P,sc.names.lookup x=Ab .local \/ sc.names.lookup x=Ab .cell)&&decide (∀ y∈sc.names,y.2≠.free))))))
theorem rV (h:sQ Q Y am cj=true):dk Q Y am (yY am) cj:=by
 simp only[sQ,Bj,Ce] at h;obtain⟨a,b,c,d,e,f,g,k⟩:=h;exact⟨a,b,c,d,e,f,g,k⟩
theorem eO {N P:Aa Ar}(h:wv N P sc=true):ci N P sc:=by
 simp only[wv,Bj,Ce] at h;obtain⟨a,b,c,d,e,f,g⟩:=h;exact⟨a,b,c,d,e,f,g⟩
section
variable {X:Cx}{a b c e cu tg bg:Cb}{dh qG:Aa Cb}{f g:DS}{fa:DE}{f2:qm}{dg:DG}{t:DT}{kk:DK}{ff:Aa En}{am:Fq}{cj:Aa (Al Ai)}{mm:Au}{l:Ai}{y z:Ar}{es:Aa Cb}{fA:DA}{x:Ar}{p au:Fc}{cm:Au}{k n m:Ai}{F:DF}
theorem MX (h:H_ (sc.names.lookup x)=true):ow sc x:=by
 unfold ow
 revert h
 cases sc.names.lookup x with
 |none=>intro h;cases h
 |some y=>cases y <;> intro h <;> first|cases h;done|exact .inl rfl|exact .inr (.inl rfl)|exact .inr (.inr rfl)
theorem MW (h:yf (sc.names.lookup x)=true):_L.Loc sc x:=by
 unfold _L.Loc
 revert h
 cases sc.names.lookup x with
 |none=>intro h;cases h
 |some y=>cases y <;> intro h <;> first|cases h;done|exact .inl rfl|exact .inr rfl
theorem tR (h:yb x=true):(x == ("__debug__" : Ar))=false/\(x == ("__classdict__" : Ar))=false/\x ≠ "__name__":=by
 unfold yb at h;rw[Bj,Bj] at h;exact⟨by simpa using h.1,by simpa using h.2.1,by simpa using h.2.2⟩
theorem wV (h:qq X x=true):Gl X x/\(x == ("__debug__" : Ar))=false/\x ≠ "__name__":=by
 have h:=(Bj _ _).mp h;refine⟨?_,(tR h.2).1,(tR h.2).2.2⟩;have z:=h.1;unfold Gl
 revert z
 cases X.env.kindOf x with
 |none=>intro z;cases z
 |some y=>cases y <;> intro z <;> first|cases z;done|rfl
theorem hJ (h:wq X m x=true):X.N[m]? = Ab x/\_L.Loc X.env.scope x/\X.N.Nodup/\(X.fn x=true\/X.env.scope.names.lookup x=Ab .local):=by
 simp only[wq,Bj,Ce,Ny] at h;exact⟨h.1,MW h.2.1,h.2.2⟩
theorem gF (h:wt X m x=true):X.N[m]? = Ab x/\X.env.scope.names.lookup x=Ab .local:=by
 simp only[wt,Bj,Ce] at h;exact h
theorem B8 (h:Ck (qq X x)):Gl X x:=(wV h).1
theorem aV (h:Ck (decide (X.N[m]? = Ab x)&&(H_ (X.env.scope.names.lookup x)&&yb x))):QE X (.Name x au) (qB m):=by
 unfold Ck at h;simp only[Bj,Ce] at h;exact CI m h.1 (MX h.2.1) (tR h.2.2).1 (tR h.2.2).2.1
theorem N_ (h:Ck (qq X x))(hm:X.mg x=none)(Q:Ck (zd (.type nm) x)):QE X (.Name x au) (dC (.ty nm)):=
 have h:=wV h
 NH h.1 hm (Cf Q) h.2.2 h.2.1
theorem aCl (h:Ck (qq X x))(hm:X.mg x=Ab (.ref C)/\Ff X.K (.ref C)=true):QE X (.Name x au) (dC (.obj C)):=
 have h:=wV h
 HY h.1 hm.1 hm.2 h.2.1
theorem aGi (h:Ck (qq X x))(hm:∃ t,X.mg x=Ab (.int v t)):QE X (.Name x au) (dC (.int v)):=
 have h:=wV h
 NJ h.1 hm h.2.1
abbrev uo (X:Cx)(e:Cb)(es:Aa Cb)(au:Fc):Prop:=Bn (e::es) X.env=(false,eval e X.env)::Bn es X.env/\(Gm au (Bn es X.env)).any (·.1)=false
theorem aN (G:t_ F X.prog X.w X.K X.mg X.base cm k x n)(Q:ay cm k X.A)(J:kf X)(h:Ck (qq X x))(Y:QA X (e::es) fA)(s:uo X e es au):QE X (.Call (.Name x p) (e::es) [] au) (qP n F fA):=
 have h:=wV h
 _m G.1 Q J h.1 Y h.2.1 s.1 s.2
theorem aO (G:t_ F X.prog X.w X.K X.mg X.base cm k x n)(Q:ay cm k X.A)(h:Ck (qq X x))(Y:QA X (e::es) fA)(s:uo X e es au):QE X (.Call (.Name x p) (e::es) [] au) (qP n (ng F) fA):=
 have h:=wV h
 _l G.1 Q h.1 Y h.2.1 s.1 s.2
theorem aB {id:Er}(Q:fg X (.builtin id) F)(h:Ck (qq X x))(hm:X.mg x=none)(Y:Ck (zd (.builtin id) x))(J:QA X (e::es) fA)(s:uo X e es au):QE X (.Call (.Name x p) (e::es) [] au) (qH F fA):=
 have h:=wV h
 KZ Q h.1 hm (Cf Y) J h.2.2 h.2.1 s.1 s.2
theorem aT (Q:fg X (.type T) F)(h:Ck (qq X x))(hm:X.mg x=none)(Y:Ck (zd (.type T) x))(J:QA X (e::es) fA)(s:uo X e es au):QE X (.Call (.Name x p) (e::es) [] au) (qH F fA):=
 have h:=wV h
 V7 Q h.1 hm (Cf Y) J h.2.2 h.2.1 s.1 s.2
theorem aC (S:Ck (sQ X.env.scope X.N am cj))(G:X.calm=true)(hi:wg X tg bg f2)(N:∀ J C U Y Q,QG (zA X (yY am) am J C U Y Q) tg dg)(B:∀ J C U Y Q,xf (zA X (yY am) am J C U Y Q) dh t)
  (has:∀ g',(⟨tg,bg,dh,0⟩::ff:Aa En)[0+1]? = Ab g'->g'.is_async=0)
  (O:∀ J C U Y Q,QK kj (zA X (yY am) am J C U Y Q) (λaw=>xP false cu (⟨tg,bg,dh,0⟩::ff) am au 0 aw (zA X (yY am) am J C U Y Q).env) kk) (hs:∀ x,Gn bg X.env x=pure x) :
  QE X (.ListComp cu (⟨tg,bg,dh,0⟩::ff) am au) (zH mm cj f2 dg t kk):=G7 G (rV S) hi N B has O hs
theorem aCs {N J:Fc}(hsw:Pj (.ListComp cu (⟨tg,bg,dh,0⟩::ff) am au) (Ab (.Name y N)) J.line X.env=pure true)(S:Ck (sQ X.env.scope X.N am cj))(T:Ck (wq X m y))(O:X.calm=true)(hi:wg X tg bg f2)(B:∀ U C G Y Q,QG (zA X (yY am) am U C G Y Q) tg dg)(E:∀ U C G Y Q,xf (zA X (yY am) am U C G Y Q) dh t)
  (has:∀ g',(⟨tg,bg,dh,0⟩::ff:Aa En)[0+1]? = Ab g'->g'.is_async=0)
  (L:∀ U C G Y Q,QK kj (zA X (yY am) am U C G Y Q) (λaw=>xP false cu (⟨tg,bg,dh,0⟩::ff) am au 0 aw (zA X (yY am) am U C G Y Q).env) kk) (hs:∀ x,Gn bg X.env x=pure x) :
  QS X (.Assign [.Name y N] (.ListComp cu (⟨tg,bg,dh,0⟩::ff) am au) J) (qZ (zH mm cj f2 dg t kk) (bx m)):=
 have h:=hJ T
 GA O h.2.2.1 (rV S) hi B E has L h.1 h.2.1 h.2.2.2 hsw hs
theorem M_ (h:Ck (wq X m x)):QG X (.Name x au) (bx m):=
 have h:=hJ h
 NN h.2.2.1 h.1 h.2.1 h.2.2.2
theorem L_ (hs:Pj e (Ab (.Name x Q)) au.line X.env=pure false)(Y:QE X e fa)(h:Ck (wq X m x)):QS X (.Assign [.Name x Q] e au) (qZ fa (bx m)):=
 have h:=hJ h
 CP h.2.2.1 Y h.1 h.2.1 hs h.2.2.2
theorem aP2 {Y J Q:Fc} {kt k2 pt2} (h:Ck (decide X.N.Nodup&&(wt X m x&&(wt X l y&&!decide (m=l))))) (U:X.calm=true) (G:QA X [a,b] fA)
  (hw:Ni [.Tuple [.Name x Y,.Name y J] kt Q] (.Tuple [a,b] k2 pt2) X.env=pure (Ab [x,y])) (hs:Nj [.Tuple [.Name x Y,.Name y J] kt Q] (.Tuple [a,b] k2 pt2) au.line X.env=pure false) :
  QS X (.Assign [.Tuple [.Name x Y,.Name y J] kt Q] (.Tuple [a,b] k2 pt2) au) (kO m l fA):=by
 unfold Ck at h;simp only[Bj,Ce,Jg,Jj] at h;exact CO U h.1 G (gF h.2.1).1 (gF h.2.2.1).1 h.2.2.2 (gF h.2.1).2 (gF h.2.2.1).2 hw hs
theorem aRs {U Q:Fc}(h:Ck (qq X x))(J:X.calm=true)(O:kf X)(hm:∃ G,X.mg x=Ab (.ref C)/\m8 X.K C G=true)(N:QA X (e::qG) fA)(s:uo X e qG Q) :
  QS X (.Raise (Ab (.Call (.Name x U) (e::qG) [] Q)) none au) (jK (.ref C) fA):=
 have h:=wV h
 let ⟨_,hm,Y⟩:=hm
 GB J O h.1 hm Y N h.2.1 s.1 s.2
theorem aTr {Y:Et}{Q:Aa Et}{B J:Fc}{O:ai}(h:Ck (qq X x&&(wt X m nm&&(decide X.N.Nodup&&decide (X.N.length=n)))))(T:kf X)(hm:∃ U,X.mg x=Ab (.ref U)/\∀ c∈O,La X.K c (.ref U)=Ab true)(L:∀ E C,me (Cx.tryIn X E C)->QB (Cx.tryIn X E C) N f)(hs:∀ e,QB (Cx.suite X e) (Y::Q) g) :
  QS X (.Try N [.ExceptHandler (Ab (.Name x B)) (Ab nm) (Y::Q) J] [] [] au) (mL n m O f g):=by
 unfold Ck at h;simp only[Bj,Ce] at h;obtain⟨U,hm,G⟩:=hm;exact CQ T L hs (wV h.1).1 hm G h.2.2.1 (gF h.2.1).1 (gF h.2.1).2 (wV h.1).2.1 h.2.2.2
end
structure yn (K:Ah)(mg:ah)(tp:Ai->Et)(tab:Aa (Ar × Ai × Aa Ar))(bl:Aa Ar)(pr se:Aa (Ar × Af))(cs:ai)(exl:ag)(sk:Aa (Ar × Am)):Prop where
 src:∀ (j:Ai) {x:Ar} {i:Ai} {ps:Aa Ar},tab[j]? = Ab (x,i,ps)->td K mg x (tp i) ps
 nb:∀ {x:Ar},Ck (bl.contains x)->mg x=none
 cl:∀ {x:Ar} {C:Af},pr.lookup x=Ab C->mg x=Ab (.ref C)/\Ff K (.ref C)=true
 rz:∀ {x:Ar} {C:Af},se.lookup x=Ab C->∃ Ae,mg x=Ab (.ref C)/\m8 K C Ae=true
 ct:∃ C0,mg "FarError" = Ab (.ref C0)/\∀ c∈cs,La K c (.ref C0)=Ab true
 cls:r_ K exl
 gi:∀ {x:Ar} {v:Am},sk.lookup x=Ab v->∃ t,mg x=Ab (.int v t)
section
variable {K:Ah}{mg:ah}{cm:Au}{tp:Ai->Et}{tab:Aa (Ar × Ai × Aa Ar)}{bl:Aa Ar}{pr se:Aa (Ar × Af)}{cs:ai}{exl:ag}{sk:Aa (Ar × Am)}{x:Ar}{i m:Ai}{ps:Aa Ar}{F:DF}{g:DS}
theorem dq (P:Bc)(w:Bu)(base:Bk)(k j:Ai)(T:yn K mg tp tab bl pr se cs exl sk)(J:tab[j]? = Ab (x,i,ps))(h:Ck (wv (l9 (qM (tp i))) ps (qM (tp i))&&decide ((l9 (qM (tp i))).length=m)))(G:F=qR m g)
  (U:∀ (f:Af) (Q:Ad) (A:Bl) (Y:Aa Jk) (s:Ag) (H:Hp) (E:XK),fU K x Q->ay cm k (A.deeper (Hq x (qM (tp i)) s.heap.objs.size f Q)) ->
   QB (ls cm P w K mg base (l9 (qM (tp i))) x (qM (tp i)) f Q A Y s H E) (zJ (tp i)) g):t_ F P w K mg base cm (k+1) x ps.length:=by
 unfold Ck at h;simp only[Bj,Ce] at h;obtain⟨h,rfl⟩:=h;exact⟨G▸qA4 (T.src j J) (eO h) rfl U⟩
theorem dqP {P:Bc}{w:Bu}{base:Bk}(k j:Ai)(T:yn K mg tp tab bl pr se cs exl sk)(J:tab[j]? = Ab (x,i,ps))(h:Ck (wv (l9 (qM (tp i))) ps (qM (tp i))&&decide ((l9 (qM (tp i))).length=m)))
  (U:∀ (f:Af) (Q:Ad) (A:Bl) (Y:Aa Jk) (s:Ag) (H:Hp) (E:XK),fU K x Q->ay cm k (A.deeper (Hq x (qM (tp i)) s.heap.objs.size f Q)) ->
   QB (ls cm P w K mg base (l9 (qM (tp i))) x (qM (tp i)) f Q A Y s H E) (zJ (tp i)) g):rG P w K mg base cm (k+1) x ps (qR m g):=by
 unfold Ck at h;simp only[Bj,Ce] at h;obtain⟨h,rfl⟩:=h;exact IQ (T.src j J) (eO h) rfl U
end
theorem hv {a b:Prop}(f:a->b)(h:a):b:=f h
inductive vo (K:Ah)(x:Ar)(st:Et)(ps:Aa Ar):Prop
 |mk {f:Af} {oc:Ad} {od an:Al Af} {osl:Aw (Al Ad)} {kV doc pm cdv ct:Ad} (a:Do K Ct x=Ab (Ab (.ref f)))
  (l:K.lookup f=Ab ⟨oc,od,.func (Gf x x (wH st) (zJ st) (qM st) .none kV doc pm an cdv ct),osl⟩) (c:Kz K cdv x=true) (k:Ff K (.ref f)=true):vo K x st ps
def Q5 (K:Ah)(tp:Ai->Et):Aa (Ar × Ai × Aa Ar)->Prop
 |[]=>Ov
 |(x,i,Q)::t=>vo K x (tp i) Q/\Q5 K tp t
def yy (tp:Ai->Et):Aa (Ar × Ai × Aa Ar)->Prop
 |[]=>Ov
 |(x,i,U)::t=>(∀ (kV Q G:Ad) (O:Al Af) (Y N:Ad) (J:ai),J.length=U.length->Yt (Gf x x (wH (tp i)) (zJ (tp i)) (qM (tp i)) .none kV Q G O Y N) ⟨J,[]⟩=pure (U.zip J))/\yy tp t
def Q0 (K:Ah):Aa (Ar × Af)->Prop
 |[]=>Ov
 |(x,C)::t=>Do K Ct x=Ab (Ab (.ref C))/\Q0 K t
def Q1 (K:Ah):Aa (Ar × Am)->Prop
 |[]=>Ov
 |(x,v)::t=>(∃ k,Do K Ct x=Ab (Ab (.int v k)))/\Q1 K t
def _U:Al (Al Ad)->Au
 |some none=>true
 |_=>false
section
variable {K:Ah}{h:Bk}{mg:ah}{tp:Ai->Et}
theorem oP (X:K.In h)(G:h.Ns Ct mg):∀ (tab:Aa (Ar × Ai × Aa Ar)),Q5 K tp tab->yy tp tab->∀ (j:Ai) {x:Ar} {i:Ai} {Q:Aa Ar},tab[j]? = Ab (x,i,Q)->td K mg x (tp i) Q
 |[],_,_,_,_,_,_,e=>by cases e
 |(x,i,Q)::t,H,B,0,_,_,_,e=>by
  cases e;obtain⟨a,l,c,k⟩:=H.1;exact A5 X G a l c k B.1
 |(x,i,Q)::t,H,B,j+1,_,_,_,e=>oP X G t H.2 B.2 j e
theorem yC {β:Type}{p:Ar->β->Prop}{C:β}:∀ {l:Aa (Ar × β)},(∀ y∈l,p y.1 y.2)->l.lookup x=Ab C->p x C
 |[],_,e=>by cases e
 |(y,b)::t,H,e=>by
  rw[Hr] at e;cases q:x == y with
  |true =>
   rw[q] at e;cases e;rw[eq_of_beq q];exact H (y,_) (.head _)
  |false =>
   rw[q] at e;exact yC (λz Q=>H z (.tail _ Q)) e
theorem bO (X:K.In h)(G:h.Ns Ct mg):∀ {l:Aa (Ar × Af)},Q0 K l->∀ y∈l,mg y.1=Ab (.ref y.2)
 |(x,C)::t,H,y,hy=>by
  rcases Ax.mp hy with rfl|hy
  .exact Tt X G H.1
  .exact bO X G H.2 y hy
theorem aX (X:K.In h)(G:h.Ns Ct mg):∀ {l:Aa (Ar × Am)},Q1 K l->∀ y∈l,∃ k,mg y.1=Ab (.int y.2 k)
 |(x,C)::t,H,y,hy=>by
  rcases Ax.mp hy with rfl|hy
  .obtain⟨k,e⟩:=H.1
   exact⟨k,Tt X G e⟩
  .exact aX X G H.2 y hy
theorem qAX {tab:Aa (Ar × Ai × Aa Ar)}{bl:Aa Ar}{pr se:Aa (Ar × Af)}{Y:ai}{exl:ag}{sk:Aa (Ar × Am)}{oq:Af}(B:yy tp tab)(hp:∀ y∈se,y∈pr)(U:pr.lookup ("FarError" : Ar)=Ab oq)(X:K.In h)(G:h.Ns Ct mg)
  (s:Q5 K tp tab) (z:(bl.all λx=>_U (Do K Ct x))=true) (q:Q0 K pr) (g:Q1 K sk) (e1:exl.all (m9 K)=true) (e2:nM K=true) (e3:DU K exl=true) (e4:qA2 K Y oq=true) (e5:qA0 K (se.map (·.2)) oq=true) (e6:qA1 K (pr.map (·.2))=true):yn K mg tp tab bl pr se Y exl sk where
 src:=oP X G tab s B
 nb:=λ{x} J=>by
  have e:=Ca.mp z x (by simpa using Fa.mp J)
  refine PySem.W.mg_none_of X G ?_
  revert e
  cases Do K Ct x with
  |none=>intro e;cases e
  |some y=>cases y with
   |none=>intro _;rfl
   |some y=>intro e;cases e
 cl:=λh=>⟨yC (p:=λx C=>mg x=Ab (.ref C)) (bO X G q) h,yC (p:=λ_ C=>Ff K (.ref C)=true) (λy Q=>Ca.mp e6 y.2 (Rk Q)) h⟩
 rz:=λh=>⟨oq,yC (p:=λx C=>mg x=Ab (.ref C)) (λy Q=>bO X G q y (hp y Q)) h,yC (p:=λ_ C=>m8 K C oq=true) (λy Q=>Ca.mp e5 y.2 (Rk Q)) h⟩
 ct:=⟨oq,yC (p:=λx C=>mg x=Ab (.ref C)) (bO X G q) U,λv hv=>Cf (Ca.mp e4 v hv)⟩
 cls:=DW e1 e2 e3
 gi:=λh=>yC (p:=λx v=>∃ k,mg x=Ab (.int v k)) (aX X G g) h
end
structure tu where
 qual:Ar
 params:Wb
 body:Cb
 scope:Fq
def B6 (sc:Fq):Aa Ar:=sc.names.filterMap λy=>if y.2 == .free then Ab y.1 else none
inductive mz (h:Bk)(H:Hp)(fs:ag)(L:tu)(a:Af)(cv:Aa V):Prop
 |mk (cl:Aa (Ar × Af)) (pm ctv:Ad) (c:Af) (oc:Co) (ws:Aw Ad) (t:Sr) (o:h.get? a=Ab (PySem.W.kla_obj "<lambda>" L.qual L.params L.body L.scope cl pm c ctv)) (hc:H c=Ab (.frz oc (.frz oc (.own 0)))) (hd:oc.data=.fields ws) (ht:ws[1]? = Ab (.str L.qual t))
  (inj:∀ x y d,cl.lookup x=Ab d->cl.lookup y=Ab d->x=y) (cel:∀ x d,cl.lookup x=Ab d->H d=none/\∃ v,h.IsCell d v) (has:∀ x,L.scope.names.lookup x=Ab .free->∃ d,cl.lookup x=Ab d)
  (len:cv.length=(B6 L.scope).length) (val:∀ (j:Ai) x v,(B6 L.scope)[j]? = Ab x->cv[j]? = Ab v->∃ d u,cl.lookup x=Ab d/\qL v u/\h.IsCell d (Ab u)) (hn:H a=none) (hf:a ∉ fs):mz h H fs L a cv
theorem mz.at {X:Cx}{σ:_L.St}{a:Af}(C:mz X.s₀.heap X.H₀ X.fs L a E)(F:kf X)(I:Inv X aj σ H s):mz s.heap H (gx X.stack) L a E:=by
 obtain⟨g,k,G,c,oc,h,t,o,w,y,ht,U,Q,has,N,val,O,M⟩:=C;have Y:∀ b,b ∉ X.ex:=λb=>by rw[F.1];simp
 have r:∀ b o,X.s₀.heap.get? b=Ab o->b ∉ X.fs->b ∉ gx X.stack:=λb o e n z=>(F.mem.mp z).elim (Cw (Bi (Az e) I.ok.above)) n;have B:∀ d v,X.H₀ d=none->X.s₀.heap.IsCell d v->s.heap.IsCell d v:=λd v J ⟨o,e,q⟩=>let ⟨_,z⟩:=I.base.any e J (Y d);⟨_,z,q⟩
 refine⟨g,k,G,c,oc,h,t,I.base.keep a _ o O M (Y a),I.base.frzs _ _ _ w,y,ht,U,λx d e=>?_,has,N,λj x v p l=>?_,I.base.free a _ o O (Y a),r a _ o M⟩
 .obtain⟨J,v,A⟩:=Q x d e
  obtain⟨i,f,q⟩:=id A;exact⟨I.base.free d i f J (Y d),v,B d v J A⟩
 .obtain⟨d,u,T,m,q3⟩:=val j x v p l
  exact⟨d,u,T,m,B d _ (Q x d T).1 q3⟩
theorem tm.at {K:Ah}{H H' P:Hp}{α:ag}{a:Af}(e:H' a=H a):∀ {o:MO},tm K H P α a o->tm K H' P α a o
 |.dead,_=>trivial
 |.lst _,⟨Q,q,r⟩=>⟨Q,e.trans q,r⟩
 |.dct _,⟨Q,q,r⟩=>⟨Q,e.trans q,r⟩
 |.dcT _,⟨Q,q,r⟩=>⟨Q,e.trans q,r⟩
 |.ins _ _,⟨Y,Q,q,r⟩=>⟨Y,Q,e.trans q,r⟩
section
variable {X:Cx}{aj:aa}{σ: _L.St}{H:Hp}{s:Ag}
theorem Inv.pinned {a:Af}{h':Bk}{Y:Ai}(I:Inv X aj σ H' { s with heap:=h'.push o,toks:=Y })(G:a=h'.objs.size)(hs:s.heap.objs.size<=h'.objs.size)(J:Inv X aj σ H s)(U:H' a=none)(hd:∀ v,o.data≠.cell v)(Q:o.isFreed=false:=by rfl):Inv X ((a,o)::aj) σ H' { s with heap:=h'.push o,toks:=Y }:=by
 refine I.pins_of λp hp=>?_;rcases Ax.mp hp with rfl|hp
 .subst G
  exact⟨Bf _ Q,U,Hd (Bi J.lt hs),J.nofs hs,hd⟩
 .exact I.pin p (Cj _ hp)
end
structure v_ (X:Cx)(L:tu)(a:Af)(cv:Aa V):Prop where
 get:mz X.s₀.heap X.H₀ X.fs L a cv
section
variable {X:Cx}{L:tu}{a:Af}{cv:Aa V}
theorem v_.tr (h:v_ X L a cv):v_ (Cx.tryIn X E Q) L a cv:=⟨h.1⟩
end
noncomputable def ZY:D->aq->Al (Aa D)
 |.lst Q,_=>Ab Q
 |.tup Q,_=>Ab Q
 |.loc n,S=>match S[n]? with
  |some (.lst Q)=>Ab Q
  |_=>none
 |_,_=>none
def uH (U:Au)(f:DE):DE:=λJ S=>(f J S).bind λd Q=>match (ZY d Q).bind jM with
 |some Y=>if U then .ok (.loc Q.length) (Q++[.lst Y]) else .ok (.lst Y) Q
 |none=>.bad
section
variable {X:Cx}{aj:aa}{σ: _L.St}{H P:Hp}{α: Aa Af}{S:aq}{s:Ag}
theorem fS {K:Type}{is:K->Ad->Prop}{m:K->Am}{lt':K->K->Au}{d:K}{e:K->Prop}(kd:_S.Kind X.prog X.w is m lt' d e s.heap)(ad:_S.sd X.prog X.w is m s.heap)(g:X.calm=true)(hu:X.A.units+64<Ed)(I:Inv X aj σ H s)(r:bf X.K H P α S){a:Af}{ao:ai}
  (ha:s.heap.IsList a ao.toArray\/s.heap.IsTuple a ao.toArray) (ks:Aa K) (hl:ks.length=ao.length) (b:∀ i v,ao[i]? = Ab v->is (ks.getD i d) v) (hn:(_S.jp lt' ks).length<=1000) (hf:∀ k∈ks,e k) (cw:K->D)
  (M:∀ k v,is k v->v∈ao->∃ w,qL w v/\av X.K P α (cw k) w) {E:ae} :
  db X (call (.type "set") [.ref a]) (λu s1=>db X (call (.builtin "sorted") [u]) (rh X aj σ H P α ((_S.jp lt' ks).map cw)) E s1) E s:=by
 have N:ao.toArray.size=ks.length:=by rw[Bh,hl]
 have mem:∀ k,k∈_S.jp lt' ks↔k∈ks:=λk=>_S.vG kd.ord k ks;have C:∀ i,i<ks.length->ks.getD i d∈ks:=λi B=>by simp[Jh,B]
 refine _S.QH (U:=_S.jp lt' ks) ad (I.ok.hd g) li ha (λi=>ks.getD i d) (λi v hv=>b i v (by simpa using hv)) li (λi B=>(mem _).mpr (C i (by rw[<- N];exact B))) λo O Z f=>?_
 have seen:∀ k∈_S.u9 (λi=>ks.getD i d) ao.toArray.size,k∈ks:=λk Q=>by
  obtain⟨i,B,rfl⟩:=_S.jZ.mp Q;exact C i (by rw[<- N];exact B)
 have t:Inv X aj σ H { s with heap:=o,toks:=O }:=I.kept f
 refine _S.X3 (s:={ s with heap:=o,toks:=O }) kd (I.ok.hd g) li f Z (λk Q=>hf k (seen k Q)) (U:=_S.jp lt' ks) li (λk Q=>(mem k).mpr (seen k Q)) λx A D c G y n l T hp zb=>?_
 rw[N,GZ kd.ord] at T;have w:∀ (G:Aa (K × Ad)),(∀ p∈G,is p.1 p.2/\p.2∈ao)->∃ J,qQ J (G.map (·.2))/\qF X.K P α ((G.map (·.1)).map cw) J:=by
  intro G
  induction G with
  |nil=>exact λ_=>⟨[],.nil,.nil⟩
  |cons p G ih =>
   intro h;obtain⟨J,z,j⟩:=ih λq hq=>h q (by simp[hq])
   obtain⟨v,b1,b2⟩:=M p.1 p.2 (h p a8).1 (h p a8).2
   exact⟨v::J,.cons b1 z,.cons b2 j⟩
 obtain⟨J,z,j⟩:=w G λp Y=>by simpa using hp p Y
 rw[T] at j;have nd:([(D,HO.lst J)].map (·.1)).Nodup:=by simp
 have I2:Inv X aj σ (kQ H [(D,HO.lst J)]) { s with heap:=x,toks:=A }:=Inv.laidL (s:={ s with heap:=o,toks:=O }) (L:=[(D,HO.lst J)]) (t':=A) t y (λp Y=>by
  have:p=(D,HO.lst J):=by simpa using Y
  subst this;exact n) λp Y=>by
  have:p=(D,HO.lst J):=by simpa using Y
  subst this;refine⟨?_,G.map (·.2),c,z,l⟩
  have:=z.length;rw[Ap] at this;rw[this,Es]
  lia
 exact⟨D,J,rfl,t.hok.fresh n,I2,j⟩
set_option tactic.hygienic true in
theorem L8 (I:Inv X aj σ H s)(r:bf X.K H P α S)(p:av X.K P α d v)(q:qL v Q)(h:ZY d S=Ab xs) :
  ∃ a vs ao,Q=.ref a/\qF X.K P α xs vs/\qQ vs ao/\(s.heap.IsList a ao.toArray\/s.heap.IsTuple a ao.toArray)/\xs.length=ao.length:=by
 cases d with
 |lst U=>exact cJ I r p q h
 |tup U=>exact cJ I r p q h
 |loc n =>
  have G:S[n]? = Ab (.lst xs):=by
   have h:(match S[n]? with|some (.lst xs)=>Ab xs|_=>none)=Ab xs:=h
   split at h
   .rename_i e;cases h;exact e
   .cases h
  simp only[av] at p;obtain⟨a,rfl,J⟩:=p;cases (show Q=Cc a from q)
  obtain⟨vs,z,t⟩:=r.at' n a _ J G;obtain⟨ao,Y,p,N⟩:=I.list (ju.of z);exact⟨a,vs,ao,rfl,t,Y,.inl p.isList,by rw[t.length,Y.length]⟩
 |_=>cases h
end
section
variable {X:Cx}{e:Cb}{fa:DE}{p1 p2 ph pf:Fc}{mu:Au}
set_option tactic.hygienic true in
theorem cZ (hc:X.calm=true)(hu:X.A.units+64<Ed)(hg:Gl X "sorted")(hm:X.mg "sorted" = none)(zl:Gl X "set")(zb:X.mg "set" = none)(ha:PE X e (tD X fa))(he:Bn [e] X.env=(false,eval e X.env)::Bn [] X.env:=by rfl) :
  PE X (.Call (.Name "sorted" p1) [.Call (.Name "set" p2) [e] [] pf] [] ph) (tD X (uH mu fa)):=by
 intro aj s σ H Q I h;obtain⟨P,α,al,S,r,re,af⟩:=h;refine Jy (vP I hg hm XQ ?_);refine Qk ?_ rfl rfl;refine Sd ?_;refine Call_ (vP I zl zb UI (Hw ?_ he rfl));rw[he];refine Sd (bv (zR ha I r re af) λvv O ⟨v,H1,P1,B,d,S1,Y,G⟩=>Sw ?_);cases hq:(ZY d S1).bind jM with
 |none=>simp only[hq] at G;exact Aq G
 |some ys =>
   simp only[hq] at G;obtain⟨xs,f,J⟩:=Ec.mp hq;obtain⟨a,vs,x,rfl,t1,g,A,l1⟩:=L8 Y.inv Y.rel Y.rep Y.val f;have M:db X (call (.type "set") [.ref a]) (λu O=>db X (call (.builtin "sorted") [u]) (rh X aj σ H1 P1 B ys) X.xe O) X.xe O:=by
    unfold jM at J;cases n:wC xs with
    |some ns =>
     rw[n] at J;dsimp only at J
     split at J
     .rename_i T
      cases J;have:=jC n;subst this;have:=vE t1;subst this;refine fS (d:=0) (_S.BD X.prog X.w O.heap) (_S.D5 O.heap) hc hu Y.inv Y.rel A ns (by simpa using l1) (λi u U=>?_) T (λ_ _=>trivial) D.int λk u c _=>?_
      .have n:Lc x ns:=by simpa using gW g
       obtain⟨t,rfl⟩:=Ry n i u U;exact Yi _ _ _ _
      .obtain⟨t,rfl⟩:=_S.wY c
       exact⟨.int k,⟨t,rfl⟩,by simp only[av]⟩
     .cases J
    |none =>
     rw[n] at J;dsimp only at J;cases ht:wF xs with
     |none=>rw[ht] at J;cases J
     |some C =>
      rw[ht] at J;dsimp only at J
      split at J
      .rename_i T
       cases J;have N:=Dc.mp T;have:=mO ht;subst this;have l:∀ (i:Ai) (u:Ad),x[i]? = Ab u->∃ b,u=.ref b/\Ri (Df X.prog X.w) O.heap (C.getD i []) b/\∃ vv,qL vv u/\av X.K P1 B (kg (C.getD i [])) vv:=λi u U=>by
        have L:i<x.length:=(Bd.mp U).1;have z1:i<C.length:=by rw[Ap] at l1;lia
        obtain⟨v,p,q,_⟩:=wN t1 g (j:=i) (by rw[Bh];exact L)
        have f:(C.map kg).getD i D.non=kg (C.getD i []):=by simp[Jh,z1]
        rw[f] at p;have zx:x.toArray[i]'(by rw[Bh];exact L)=u:=by
         rw[An L] at U;simpa using U
        rw[zx] at q;obtain⟨b,ws,us,rfl,sq,t,rv,⟨o,ho,z2,m,f⟩,_,_⟩:=yJ Y.inv Y.rel (show av X.K P1 B (.tup ((C.getD i []).map D.int)) v from p)
        cases (show u=Cc b from q)
        have:=vE t;subst this;exact⟨b,rfl,⟨o,us.toArray,m,ho,z2,f,by simpa using l5 rv⟩,.ref b,rfl,p⟩
       refine fS (d:=[]) (_S.BE X.prog X.w O.heap) (_S.D6 O.heap) hc hu Y.inv Y.rel A C (by simpa using l1) (λi u U=>?_) (Cf N.1) (λk c=>?_) kg λk u c zc=>?_
       .obtain⟨b,rfl,q,_⟩:=l i u U
        exact⟨b,rfl,q⟩
       .have:=Ca.mp N.2 k c
        intro z;subst z;cases this
       .obtain⟨i,zy,rfl⟩:=Cp.mp zc
        obtain⟨b,eb,q,w,zs,pw⟩:=l i _ (An zy);have:k=C.getD i []:=_S.gu.inj c ⟨b,eb,q⟩;rw[this];exact⟨w,zs,pw⟩
      .cases J
   refine bv M λu s2 h2=>Sw (bv h2 λu' s3 ⟨D,z3,e,hn,I',y⟩=>?_);subst e;cases mu with
   |true=>exact⟨.ref D,_,I',rfl,lF Y.rel hn y λv' H' P' E r' A e2 rp=>G v' H' P' E r' (Y.same.trans A) (Y.pre.trans e2) rp⟩
   |false=>exact⟨.ref D,_,I',rfl,wO Y.rel hn y λv' H' P' E r' A e2 rp=>G v' H' P' E r' (Y.same.trans A) (Y.pre.trans e2) rp⟩
end
section
variable {X:Cx}{cm:Au}{k:Ai}{e:Cb}{fa:DE}{p1 p2 ph pf:Fc}{mu:Au}
theorem aH (U:X.calm=true)(J:ay cm k X.A)(G:Gl X "sorted")(hm:X.mg "sorted" = none)(Q:Gl X "set")(Y:X.mg "set" = none)(N:QE X e fa)(O:Bn [e] X.env=(false,eval e X.env)::Bn [] X.env:=by rfl) :
  QE X (.Call (.Name "sorted" p1) [.Call (.Name "set" p2) [e] [] pf] [] ph) (uH mu fa):=⟨cZ U J.units G hm Q Y N.1 O⟩
end
end _D
section
namespace _D
open _L
mutual
def w9:D->Aa Am
 |.int n=>[1,n]
 |.tup Q=>2::zL Q
 |_=>[]
def zL:Aa D->Aa Am
 |[]=>[0]
 |x::Q=>w9 x++zL Q
end
mutual
def vM:D->D->Au
 |.int _,.int _=>true
 |.tup Q,.tup Y=>jW Q Y
 |_,_=>false
def jW:Aa D->Aa D->Au
 |x::Q,y::Y=>vM x y&&jW Q Y
 |_,_=>true
end
def ltN (a b:D):Au:=_H.lexLt (w9 a) (w9 b)
noncomputable def oj:Ai->D->Au
 |_,.int _=>true
 |n+1,.tup Q=>Q.all (oj n)
 |_,_=>false
inductive Tr:Ai->D->Prop
 |int (n:Ai) (i:Am):Tr n (.int i)
 |tup (n:Ai) (xs:Aa D) (h:∀ x∈xs,Tr n x):Tr (n+1) (.tup xs)
theorem X7:∀ {n:Ai} {d:D},oj n d=true->Tr n d:=by
 intro n
 induction n with
 |zero=>intro d h;cases d <;> first|exact .int _ _|exact Dt h
 |succ n J =>
  intro d h;cases d with
  |int i=>exact .int _ i
  |tup Q=>exact .tup n Q λx Y=>J (Ca.mp (show Q.all (oj n)=true from h) x Y)
  |_=>exact Dt h
theorem uV (h:Tr n d):∃ k r,w9 d=k::r/\0<k:=by
 cases h with
 |int _ i=>exact⟨1,[i],rfl,by decide⟩
 |tup n Q=>exact⟨2,zL Q,rfl,by decide⟩
theorem xG (x:D)(xs:Aa D):zL (x::xs)=w9 x++zL xs:=rfl
theorem dU:∀ {xs ys:Aa D} {n m:Ai},(∀ x∈xs,Tr n x)->(∀ y∈ys,Tr m y)->(∀ x∈xs,∀ y∈ys,vM x y=true->∀ r Q:Aa Am,_H.lexLt (w9 x++r) (w9 y++Q)=if fz x y=true then _H.lexLt r Q else ltN x y)->jW xs ys=true ->
  ∀ r Q:Aa Am,_H.lexLt (zL xs++r) (zL ys++Q)=if xB xs ys=true then _H.lexLt r Q else _H.lexLt (zL xs) (zL ys)
 |[],[],_,_,_,_,_,_,r,Q=>rfl
 |[],y::ys,_,_,_,U,_,_,r,Q=>by
  obtain⟨k,t,e,p⟩:=uV (U y a8)
  rw[AT (by intro z;cases z),xG,e]
  show _H.lexLt (0::r) (k::_)=_H.lexLt [0] (k::_);rw[_H.bb,_H.bb,AT om,AT om]
 |x::xs,[],_,_,N,_,_,_,r,Q=>by
  obtain⟨k,t,e,p⟩:=uV (N x a8)
  rw[AT (by intro z;cases z),xG,e]
  show _H.lexLt (k::_) (0::Q)=_H.lexLt (k::_) [0];rw[_H.bb,_H.bb,AT om,AT om]
 |x::xs,y::ys,_,_,N,U,G,O,r,Q=>by
  have Y:(vM x y&&jW xs ys)=true:=O;rw[Bj] at Y;have C:=dU (λz J=>N z (by simp[J])) (λz J=>U z (by simp[J])) (λz J B L=>G z (by simp[J]) B (by simp[L])) Y.2
  rw[xG,xG,Cg,Cg,G x a8 y a8 Y.1,G x a8 y a8 Y.1,C,dG]
  cases fz x y <;> cases xB xs ys <;> simp
theorem K2 {a:D}(T:Tr n a):∀ {m:Ai} {b:D},Tr m b->vM a b=true->∀ r Q:Aa Am,_H.lexLt (w9 a++r) (w9 b++Q)=if fz a b=true then _H.lexLt r Q else ltN a b:=by
 induction T with
 |int n i =>
  intro m b O Y r Q;cases O with
  |int _ j =>
   show _H.lexLt (1::i::r) (1::j::Q)=if (i == j)=true then _ else _H.lexLt [1,i] [1,j]
   simp only[_H.bb,Ef,Re]
   split <;> rfl
  |tup _ J=>exact Dt Y
 |tup n N L E =>
  intro m b O Y r Q;cases O with
  |int _ j=>exact Dt Y
  |tup m J B =>
   have h:=dU L B (λx U y G C=>E x U (B y G) C) Y r Q;show _H.lexLt (2::(zL N++r)) (2::(zL J++Q))=if xB N J=true then _ else _H.lexLt (2::zL N) (2::zL J)
   rw[_H.bb,_H.bb,Ay rfl,Ay rfl,h]
theorem lB:ltN (.tup xs) (.tup ys)=_H.lexLt (zL xs) (zL ys):=by
 show _H.lexLt (2::_) (2::_)=_;rw[_H.bb,Ay rfl]
theorem yD {n m:Ai}{x y:D}{xs ys:Aa D}(Q:Tr n x)(J:Tr m y)(Y:vM x y=true):_H.lexLt (zL (x::xs)) (zL (y::ys))=if fz x y=true then _H.lexLt (zL xs) (zL ys) else ltN x y:=K2 Q J Y _ _
set_option tactic.hygienic true in
theorem lA (i j:Am):ltN (.int i) (.int j)=decide (i<j):=by
 show _H.lexLt [1,i] [1,j]=_;rw[_H.bb,Ay rfl,_H.bb]
 split
 .rename_i h;subst h;simp[_H.g_]
 .rfl
theorem dB:∀ {xs ys:Aa D} {n m:Ai},(∀ x∈xs,Tr n x)->(∀ y∈ys,Tr m y)->(∀ x∈xs,∀ y∈ys,∀ r Q:Aa Am,w9 x++r=w9 y++Q->x=y/\r=Q)->∀ r Q:Aa Am,zL xs++r=zL ys++Q->xs=ys/\r=Q
 |[],[],_,_,_,_,_,r,Q,e=>⟨rfl,by injection e⟩
 |[],y::ys,_,_,_,J,_,r,Q,e=>by
  obtain⟨k,t,O,p⟩:=uV (J y a8)
  rw[xG,O] at e;injection e with G N
  fin2
 |x::xs,[],_,_,U,_,_,r,Q,e=>by
  obtain⟨k,t,O,p⟩:=uV (U x a8)
  rw[xG,O] at e;injection e with G N
  fin2
 |x::xs,y::ys,_,_,U,J,C,r,Q,e=>by
  rw[xG,xG,Cg,Cg] at e;obtain⟨G,N⟩:=C x a8 y a8 _ _ e
  obtain⟨L,B⟩:=dB (λz Y=>U z (by simp[Y])) (λz Y=>J z (by simp[Y])) (λz Y T E=>C z (by simp[Y]) T (by simp[E])) _ _ N
  exact⟨by rw[G,L],B⟩
theorem XW {a:D}(B:Tr n a):∀ {m:Ai} {b:D},Tr m b->∀ r Q:Aa Am,w9 a++r=w9 b++Q->a=b/\r=Q:=by
 induction B with
 |int n i =>
  intro m b U r Q e;cases U with
  |int _ j=>injection e with _ e;injection e with G N;exact⟨by rw[G],N⟩
  |tup _ L=>injection e with e _;cases e
 |tup n E C T =>
  intro m b U r Q e;cases U with
  |int _ j=>injection e with e _;cases e
  |tup m L O =>
   injection e with _ e
   obtain⟨G,N⟩:=dB C O (λx Y y J=>T x Y (O y J)) r Q e;exact⟨by rw[G],N⟩
theorem UO {a b:D}(Y:Tr n a)(Q:Tr m b)(e:w9 a=w9 b):a=b:=(XW Y Q [] [] (by rw[e])).1
theorem RC {a:D}(U:Tr n a):fz a a=true:=by
 induction U with
 |int n i=>show (i == i)=true;simp
 |tup n Q _ J =>
  show xB Q Q=true;rw[yA];simp only[Ur,BEq.rfl,AbH,Ca,Fe];intro j Y;exact J _ (by simp[Jh,Y])
theorem gM:∀ {xs ys:Aa D},jW xs ys=true->∀ {j:Ai} {x y:D},xs[j]? = Ab x->ys[j]? = Ab y->vM x y=true
 |[],_,_,j,x,y,e,_=>by simp at e
 |_::_,[],_,j,x,y,_,e=>by simp at e
 |a::xs,b::ys,h,j,x,y,J,Y=>by
  have Q:(vM a b&&jW xs ys)=true:=h;rw[Bj] at Q;cases j with
  |zero=>cases J;cases Y;exact Q.1
  |succ j=>exact gM Q.2 (j:=j) (by simpa using J) (by simpa using Y)
end _D
end
namespace _D
open _L PySem.SeqAt
variable {n:Ai}{h:Bk}
def Q4 (A:Bl)(s:Ag)(u v:Ad)(c:Au):Prop:=∀ (Y:Bc) (w:Bu) (E:ae) (Q:ae),Q (.bool c) s->Ao (As Y w) A (AaB .Lt u v) Q E s
inductive l_ (A:Bl)(s:Ag):Aa Ad->Aa Ad->Au->Prop
 |nn:l_ A s [] [] false
 |nc (v:Ad) (vs:ai):l_ A s [] (v::vs) true
 |cn (u:Ad) (us:ai):l_ A s (u::us) [] false
 |eq (u v:Ad) (us vs:ai) (b:Au) (he:EqAt A s u v true) (h:l_ A s us vs b):l_ A s (u::us) (v::vs) b
 |ne (u v:Ad) (us vs:ai) (b:Au) (he:EqAt A s u v false) (h:Q4 A s u v b):l_ A s (u::us) (v::vs) b
section
open PySem.SeqAt
open PySem.AutoSeq1 (wpAny_loadPart')
open PySem.MeetsSeq PySem.MeetsSeq2 PySem.MeetsSeq3
theorem X9 (l b:Af)(items Q:Aw Ad)(n p:Ai)(dd M:Al Af)(f z:Aw (Al Ad))(r:Au) :
  Meets (HT.«tuple.__lt__» ⟨[.ref l,.ref b],[]⟩)
   (λA R s=>s.heap.get? l=Ab { cls:=.type "tuple",dict:=dd,data:=.seq items n,slots:=f } /\ s.heap.get? b=Ab { cls:=.type "tuple",dict:=M,data:=.seq Q p,slots:=z } /\
    l_ A.in1 s items.toList Q.toList r/\R (.ok (.ret (.bool r))) s):=
 .of_wp λG w A R s h=>by
  obtain⟨q,g,d,o,os⟩:=s;obtain⟨c,t,T,h⟩:=h;have i:=Tw
  wp_walk using wpAny_loadPart' c,wpAny_loadPart' t,Jo _ (λqG b H=>b.1=none/\H=⟨q,g,d,o,os⟩/\∃ (N J:ai),qG=N.zip J/\l_ A.in1 ⟨q,g,d,o,os⟩ N J r/\N.length+Q.size=J.length+items.size) _
  case turn =>
   rintro⟨y,x⟩ qG b H ⟨B,rfl,N,J,O,C,Y⟩;cases C with
   |nn=>cases O
   |nc v J=>cases O
   |cn u N=>cases O
   |eq u v N J _ E I =>
    rw[Ix] at O;injection O with L U
    injection L with j T
    subst j T;refine Ac (E G w _ _ ?_)
    wp_walk
    exact⟨rfl,rfl,_,_,U,I,by simp only[Ba] at Y;lia⟩
   |ne u v N J _ E I =>
    rw[Ix] at O;injection O with L U
    injection L with j T
    subst j T;refine Ac (E G w _ _ ?_);have k:=I G w
    wp_walk using k
    exact⟨_,rfl,by simpa using h⟩
  case fin =>
   rintro⟨e,m⟩ H ⟨B,rfl,N,J,O,C,Y⟩;simp only at B;subst B;have hv:r=decide (items.size<Q.size):=by
    cases C with
    |nn=>simp only[Cu] at Y;exact(Dr li).symm
    |nc v J=>simp only[Cu,Ba] at Y;exact(Cz li).symm
    |cn u N=>simp only[Cu,Ba] at Y;exact(Dr li).symm
    |eq u v N J _ E I=>cases O
    |ne u v N J _ E I=>cases O
   rw[hv] at h
   wp_walk
   exact⟨_,rfl,by simpa [Pw] using h⟩
  case h =>
   exact⟨rfl,rfl,items.toList,Q.toList,rfl,T,by simp;lia⟩
end
theorem K7 {A:Bl}{s:Ag}{l b:Af}(hl:s.heap.IsTuple l items)(z:s.heap.IsTuple b Y)(k:A.units<Ed)(h:l_ A.in1 s items.toList Y.toList r):Q4 A s (.ref l) (.ref b) r:=by
 intro L w E Q y;obtain⟨⟨cls,j,data,M⟩,T,C,n,B⟩:=id hl;obtain⟨⟨I,N,data2,O⟩,G,J,H,U⟩:=id z;simp only at C B J U;subst C B J U;exact Vd (op:=.Lt) ⟨_,T,rfl⟩ ⟨_,G,rfl⟩ Wd Ve (Uq _ _) (X9 l b items Y n H j N M O r)
  ⟨T,G,h,show Fv r≠Xf/\Q (.bool r) s from⟨(λx=>nomatch x),y⟩⟩ k
inductive jm (h:Bk):Ai->D->Ad->Prop
 |int (n:Ai) (i:Am) (t:Sr):jm h n (.int i) (.int i t)
 |tup (n:Ai) (a:Af) (xs:Aa D) (its:ai) (ht:h.IsTuple a its.toArray) (hl:xs.length=its.length) (hs:∀ (j:Ai) (x:D) (v:Ad),xs[j]? = Ab x->its[j]? = Ab v->jm h n x v):jm h (n+1) (.tup xs) (.ref a)
theorem jm.tr (t:jm h n d v):Tr n d:=by
 induction t with
 |int n i t=>exact .int n i
 |tup n a U Y O N C G =>
  refine .tup n U λx Q=>?_;obtain⟨j,J,e⟩:=Cp.mp Q;exact G j x (Y[j]' li) (by rw[An J,e]) (An li)
theorem jm.sup (S:_S.jn h h'){n:Ai}{d:D}{v:Ad}(t:jm h n d v):jm h' n d v:=by
 induction t with
 |int n i t=>exact .int n i t
 |tup n a U Q N Y O G =>
  obtain⟨o,J,r⟩:=N;exact .tup n a U Q ⟨o,S _ _ J,r⟩ Y G
theorem jm.det (t:jm h n d v):∀ {m:Ai} {d':D},jm h m d' v->d=d':=by
 induction t with
 |int n i t=>intro m d' J;cases J with|int _ _ _=>rfl
 |tup n a O G I H A E =>
  intro m d' J;cases J with
  |tup m _ B Q U L Y =>
   have e:=l0 I U;have T:G=Q:=by simpa using congrArg Zl e
   subst T;have:O=B:=Nd li λj C N=>E j _ (G[j]' li) (An C) (An li) (Y j _ _ (An N) (An li));rw[this]
theorem jm.eq {s:Ag}{a:D}(t:jm s.heap n a u):∀ {m:Ai} {b:D} {v:Ad} {A:Bl},jm s.heap m b v->vM a b=true->A.units+n<Ed->EqAt A s u v (fz a b):=by
 induction t with
 |int n i t =>
  intro m b v A Y C o;cases Y with
  |int _ j Y=>exact EqAt.int_int i t j Y
  |tup _ _ _ _ _ _ _=>exact Dt C
 |tup n a G N I L H p =>
  intro m b v A Y C o;cases Y with
  |int _ j Y=>exact Dt C
  |tup m b B Q U O J =>
   refine(B3 li I U L O (λj k z=>?_) λe=>?_).eq
   .have E:j<N.length:=by simpa using k
    have T:j<Q.length:=by simpa using z
    have M:G[j]? = Ab (G.getD j .non):=by simp[Jh,show j<G.length by lia]
    have w:B[j]? = Ab (B.getD j .non):=by simp[Jh,show j<B.length by lia]
    have q:N[j]? = Ab N.toArray[j]:=by simp[E]
    have y:Q[j]? = Ab Q.toArray[j]:=by simp[T]
    exact p j _ _ M q (J j _ _ w y) (gM C M w) (by show A.units+1+n<Ed;lia)
   .subst e
    have:=jm.det (.tup n a G N I L H) (.tup m a B Q U O J);injection this with this
    subst this;exact RC (jm.tr (.tup n a G N I L H))
theorem iS {A:Bl}{s:Ag}:∀ {xs ys:Aa D} {us vs:ai} {n m:Ai},xs.length=us.length->ys.length=vs.length->(∀ x∈xs,Tr n x)->(∀ y∈ys,Tr m y)->jW xs ys=true ->
  (∀ (j:Ai) (x y:D) (u v:Ad),xs[j]? = Ab x->ys[j]? = Ab y->us[j]? = Ab u->vs[j]? = Ab v->EqAt A s u v (fz x y)/\Q4 A s u v (ltN x y))->l_ A s us vs (_H.lexLt (zL xs) (zL ys))
 |[],[],[],[],_,_,_,_,_,_,_,_=>.nn
 |[],y::ys,[],v::vs,_,_,_,_,_,G,_,_=>by
  obtain⟨k,t,e,p⟩:=uV (G y a8)
  have:_H.lexLt (zL []) (zL (y::ys))=true:=by
   rw[xG,e];show _H.lexLt [0] (k::_)=_;rw[_H.bb,AT li];exact Cz p
  rw[this];exact .nc v vs
 |x::xs,[],u::us,[],_,_,_,_,N,_,_,_=>by
  obtain⟨k,t,e,p⟩:=uV (N x a8)
  have:_H.lexLt (zL (x::xs)) (zL []) = false:=by
   rw[xG,e];show _H.lexLt (k::_) [0]=_;rw[_H.bb,AT li];exact Dr li
  rw[this];exact .cn u us
 |x::xs,y::ys,u::us,v::vs,_,_,Y,J,N,G,T,h=>by
  have Q:(vM x y&&jW xs ys)=true:=T;rw[Bj] at Q;obtain⟨U,I⟩:=h 0 x y u v rfl rfl rfl rfl;rw[yD (N x a8) (G y a8) Q.1]
  cases C:fz x y with
  |true =>
   rw[C] at U;exact .eq u v us vs _ U (iS (by simpa using Y) (by simpa using J) (λz O=>N z (by simp[O])) (λz O=>G z (by simp[O])) Q.2 λj a b c d B L H E=>h (j+1) a b c d (by simpa using B) (by simpa using L) (by simpa using H) (by simpa using E))
  |false =>
   rw[C] at U;exact .ne u v us vs _ U I
 |[],_,_::_,_,_,_,Y,_,_,_,_,_=>by simp at Y
 |_::_,_,[],_,_,_,Y,_,_,_,_,_=>by simp at Y
 |_,[],_,_::_,_,_,_,J,_,_,_,_=>by simp at J
 |_,_::_,_,[],_,_,_,J,_,_,_,_=>by simp at J
theorem jm.lt {s:Ag}{a:D}(t:jm s.heap n a u):∀ {m:Ai} {b:D} {v:Ad} {A:Bl},jm s.heap m b v->vM a b=true->A.units+n<Ed->Q4 A s u v (ltN a b):=by
 induction t with
 |int n i t =>
  intro m b v A G U r;cases G with
  |int _ j G =>
   intro O w E Q p;rw[lA] at p;exact(Rb p:Ao (As O w) A (Cy .Lt (.int i t) (.int j G)) Q E s)
  |tup _ _ _ _ _ _ _=>exact Dt U
 |tup n a g o l k q e =>
  intro m b v A G U r;cases G with
  |int _ j G=>exact Dt U
  |tup m b d Y N C J =>
   have z:=jm.tr (.tup n a g o l k q);have M:=jm.tr (.tup m b d Y N C J);cases z with
   |tup _ _ z =>
    cases M with
    |tup _ _ M =>
     refine K7 l N li ?_;rw[lB];refine iS (by simpa using k) (by simpa using C) z M U λj x y u v I H f c=>?_
     have T:A.in1.units+n<Ed:=by show A.units+1+n<Ed;lia
     have L:o[j]? = Ab u:=by simpa using f
     have B:Y[j]? = Ab v:=by simpa using c
     exact⟨(q j x u I L).eq (J j y v H B) (gM U I H) T,e j x u I L (J j y v H B) (gM U I H) T⟩
section
variable {X:Cx}{aj:aa}{σ: _L.St}{H P:Hp}{α: Aa Af}{S:aq}{s:Ag}
theorem AE (I:Inv X aj σ H s)(r:bf X.K H P α S):∀ (n:Ai) {d:D} {v:V} {u:Ad},oj n d=true->av X.K P α d v->qL v u->jm s.heap n d u:=by
 intro n
 induction n with
 |zero =>
  intro d v u h p q;cases d with
  |int i=>simp only[av] at p;subst p;obtain⟨t,rfl⟩:=q;exact .int _ i t
  |_=>exact Dt h
 |succ n E =>
  intro d v u h p q;cases d with
  |int i=>simp only[av] at p;subst p;obtain⟨t,rfl⟩:=q;exact .int _ i t
  |tup Y =>
   obtain⟨a,k,T,rfl,M,U,Q,C,o,_⟩:=yJ I r p;cases (show u=Cc a from q)
   have l:=U.length;have A:=Q.length;refine .tup n a Y T C li λj x w J B=>?_;obtain⟨y,L,G⟩:=U.get J;obtain⟨z,O,N⟩:=Q.get L;cases O.symm.trans B;exact E (Ca.mp (show Y.all (oj n)=true from h) x (Bw J)) G N
  |_=>exact Dt h
end
def neT:D->Au
 |.tup (_::_)=>true
 |_=>false
def E_ (xs:Aa D):Au:=xs.all λa=>neT a&&oj 6 a&&xs.all λb=>vM a b
theorem CY (h:E_ xs=true){x:D}(Q:x∈xs):neT x=true/\Tr 6 x/\∀ y∈xs,vM x y=true:=by
 have:=Ca.mp h x Q;simp only[Bj] at this;exact⟨this.1.1,X7 this.1.2,λy Y=>Ca.mp this.2 y Y⟩
end _D
namespace _D
open _L
noncomputable def bR (d:D)(S:aq):Al (Aa (bz × D)):=match d with
 |.loc n=>match S[n]? with
  |some (.dct Q)=>Ab Q
  |_=>none
 |_=>none
def bD:G2:=λa b S=>match bR a S,yB b with
 |some Q,Ab k=>match x5 Q k with
  |some d=>.ok d S
  |none=>.bad
 |_,_=>.bad
section
variable {X:Cx}{aj:aa}{σ: _L.St}{H P:Hp}{α: Aa Af}{S:aq}{s:Ag}
set_option tactic.hygienic true in
theorem W6 (r:bf X.K H P α S){d:D}{kvs:Aa (bz × D)}{v:V}(h:bR d S=Ab kvs)(p:av X.K P α d v):∃ a Q,v=.ref a/\H a=Ab (.dK Q)/\nk X.K P α kvs Q:=by
 unfold bR at h
 split at h
 .split at h
  .rename_i Y
   cases h;simp only[av] at p;obtain⟨b,rfl,q⟩:=p;obtain⟨Q,z,t⟩:=r.at' _ b _ q Y;exact⟨b,Q,rfl,z,t⟩
  .cases h
 .cases h
set_option tactic.hygienic true in
theorem SJ (hu:X.A.units+1<Ed)(ho:PE X o (tD X L))(hi:PE X i (tD X T))(hs:UF i:=by intro _ _;rfl):PE X (.Subscript o i au) (tD X (d2 bD L T)):=by
 intro aj s σ H Q I h;obtain⟨P,α,al,S,r,m,n⟩:=h;refine LD PySem.F.slot_dict_getitem.lookup hs (bv (zR ho I r m n) λx s1 ⟨v,H1,M,U,a,S1,J,N⟩=>?_);refine bv (zR hi J.inv J.rel J.env (P:=M) (α:=U) (Ok:=jj X M U Q) (g:=λy B=>bD a y B) (qX.base J.same J.pre N)) λuu s2 ⟨u,E,P2,zb,b,B,G2,G⟩=>?_;have j:=av.mono G2.same G2.pre _ _ J.rep;have pb:=G2.rep;have A:=G2.inv;have C:=G2.rel;have Y:=qX.base G2.same G2.pre G;unfold bD at Y
 split at Y
 .rename_i f k l q
  split at Y
  .rename_i d hv
   obtain⟨p,ws,rfl,z,t⟩:=W6 C l j;have ei:=tI q pb;subst ei;cases (show x=Cc p from J.val)
   obtain⟨w,e,c⟩:=(bZ t).1 d hv;have g:gK E p (kV k) (Ab w):=.inl ⟨_,k,.inl z,rfl,e.symm⟩;exact⟨a0 A g,W3 hu A g G2.val λw' s3 I3 O=>⟨w,E,I3,O,xr Y C c⟩⟩
  .exact Aq Y
 .exact Aq Y
end
def pv (xs:Aa D)(i j:Ai):Au:=ltN (xs.getD i .non) (xs.getD j .non)
def lD (xs:Aa D):D:=xs.getD (Ku (pv xs) (xs.length-1)) .non
theorem DD (xs:Aa D):∀ k,Ku (pv xs) k<=k/\∀ j,j<=k->pv xs j (Ku (pv xs) k)=false
 |0=>⟨Av _,λj J=>by
  have:j=0:=by lia
  subst this;exact _S.yG.irr _⟩
 |k+1=>by
  obtain⟨U,Y⟩:=DD xs k;rw[Ku];cases h:pv xs (k+1) (Ku (pv xs) k) with
  |true =>
   rw[Ay rfl];refine⟨Av _,λj J=>?_⟩;cases q:pv xs j (k+1) with
   |false=>rfl
   |true =>
    by_cases Q:j=k+1
    .subst Q;exact absurd (_S.yG.irr _) (by unfold pv ltN at q;rw[q];simp)
    .exact absurd (show pv xs j (Ku (pv xs) k)=true from _S.yG.tr q h) (by rw[Y j li];simp)
  |false =>
   rw[AT a8]
   refine⟨by lia,λj J=>?_⟩
   by_cases Q:j=k+1
   .subst Q;exact h
   .exact Y j li
theorem YL {xs:Aa D}(h:0<xs.length):lD xs∈xs/\∀ y∈xs,ltN y (lD xs)=false:=by
 obtain⟨G,Q⟩:=DD xs (xs.length-1);have U:Ku (pv xs) (xs.length-1)<xs.length:=by lia
 refine⟨by unfold lD;rw[Ih,An U];exact Jq _,λy J=>?_⟩
 obtain⟨j,Y,e⟩:=Cp.mp J;have:=Q j li;unfold pv at this;rw[Ih,An Y] at this;rw[<- e];exact this
def uh (xs:Aa D):Au:=xs.all λa=>oj 6 a&&xs.all λb=>vM a b
noncomputable def wd (d:D)(S:aq):Al (Aa D):=match d with
 |.lst Q=>Ab Q
 |.loc n=>match S[n]? with
  |some (.lst Q)=>Ab Q
  |_=>none
 |_=>none
section
variable {prog:Bc}{w:Bu}{A:Bl}{R:Si->Ag->Prop}{I:Af}{fp wr:ag}{n:Ai}{P:Ai->Ad->Prop}{St:Ai->Bk->Prop}{bt:Ai->Ai->Au}{S:Af}{h0:Bk}{kw:Aa (Ar × Ad)}
def UD (prog:Bc)(w:Bu)(A:Bl)(h0:Bk)(op:Wa)(P:Ai->Ad->Prop)(bt:Ai->Ai->Au):Prop:=
 ∀ i j J Y (s:Ag) (Q:ae) (E:ae),_S.jn h0 s.heap->P i J->P j Y->Q (.bool (bt i j)) s->Ao (As prog w) A (AaB op J Y) Q E s
theorem sZ:(toString "min" ++ toString ".loop" : Er) = "min.loop":=by decide
theorem KD (W:Walks prog w A.in1 I fp wr n P St)(C:UD prog w A.in1 h0 .Lt P bt)(m:S ∉ fp)(p:h0.get? S=none)(E:∀ b∈wr,h0.get? b=none) :
  ∀ (k j:Ai) (s:Ag) (u:Ad) (c:Ai),j+1+k=n->_S.jn h0 s.heap->St (j+1) s.heap->P (Ku bt j) u->s.heap.get? S=Ab { cls:=.type "list",dict:=none,data:=.seq #[u,u] c,slots:=#[] } ->
  (∀ v h' T,P (Ku bt (n-1)) v->(∀ b o,b ∉ wr->b≠S->s.heap.get? b=Ab o->h'.get? b=Ab o)->R (.ok (.ret v)) { s with heap:=h',toks:=T }) ->
  Ht (As prog w) A (.builtin "min.loop" ⟨[.ref I,.none,.ref S],kw⟩) R s:=by
 have d:S ∉ wr:=λz=>m (W.sub _ z);intro k
 induction k with
 |zero =>
  intro j s u c i r st L O B;have a:j+1=n:=by lia
  subst a;refine Gu Md ?_;rw[Gc Fm _];refine Ac (Fh O rfl ?_);refine Ac (Ph (W.done s _ _ st λh' T q=>?_));refine Ac ?_;exact Oc (q S _ d O) rfl (Ac (Mk (Ak (B u _ T L λb o Y G e=>(Bt _ _ (Dw G)).trans (q b o Y e)))))
 |succ k f =>
  intro j s u c i r st L O B;refine Gu Md ?_;rw[Gc Fm _];refine Ac (Fh O rfl ?_);refine Ac (Ph (W.item (j+1) s _ _ li st λv h' T hv N q=>?_));have J:=q S _ d O;have Q:_S.jn h0 h':=λb o e=>q b o (λz=>by rw[E b z] at e;cases e) (r b o e)
  refine Ac (Ak ?_);refine Ac (Ph (Dn (Ac (C (j+1) (Ku bt j) v u _ _ _ Q hv L ?_))));refine Ac (Dn (Su ?_));refine Ac (Mk (Ak ?_));cases t:bt (j+1) (Ku bt j) with
  |true =>
   rw[Ay rfl];refine Ac ?_;refine Oc J rfl (Ac (Mk ?_));rw[sZ];refine Ak ⟨Jl Fm _,f (j+1) _ v _ li (λb o e=>(Bt _ _ λy:S=b=>by rw[<- y,p] at e;cases e).trans (Q b o e)) (W.frame _ _ _ N λb z o e=>(Bt _ _ λy:S=b=>m (y▸z)).trans e) ?_ (DL _ J rfl) λH g U l M=>B H g U l λb o Y G e=>M b o Y G ((Bt _ _ (Dw G)).trans (q b o Y e))⟩
   rw[Ku,Ay t];exact hv
  |false =>
   rw[AT a8]
   refine Ac (Mk ?_);rw[sZ];refine Ak ⟨Jl Fm _,f (j+1) _ u c li Q N ?_ J λH g U l M=>B H g U l λb o Y G e=>M b o Y G (q b o Y e)⟩;rw[Ku,AT (by rw[t];simp)]
   exact L
theorem YN (W:Walks prog w A.in1 I fp wr n P St)(Y:UD prog w A.in1 h0 .Lt P bt)(C:S ∉ fp)(U:h0.get? S=none)(Q:∀ b∈wr,h0.get? b=none){s:Ag}{c:Ai}(hs:_S.jn h0 s.heap)(st:St 0 s.heap)(M:0<n)(E:s.heap.get? S=Ab { cls:=.type "list",dict:=none,data:=.seq #[] c,slots:=#[] })
  (k:∀ v h' B,P (Ku bt (n-1)) v->(∀ b o,b ∉ wr->b≠S->s.heap.get? b=Ab o->h'.get? b=Ab o)->R (.ok (.ret v)) { s with heap:=h',toks:=B }) :
  Ht (As prog w) A (.builtin "min.loop" ⟨[.ref I,.none,.ref S],kw⟩) R s:=by
 have u:S ∉ wr:=λz=>C (W.sub _ z);refine Gu Md ?_;rw[Gc Fm _];refine Ac (Fh E rfl ?_);refine Ac (Ph (W.item 0 s _ _ M st λv h' B hv N q=>?_));have J:=q S _ u E;have G:_S.jn h0 h':=λb o e=>q b o (λz=>by rw[Q b z] at e;cases e) (hs b o e)
 refine Ac (Ak ?_);refine Ac ?_;refine Oc J rfl ?_;rw[sZ];refine Ak ⟨Jl Fm _,KD W Y C U Q (n-1) 0 _ v _ li (λb o e=>(Bt _ _ λy:S=b=>by rw[<- y,U] at e;cases e).trans (G b o e)) (W.frame _ _ _ N λb z o e=>(Bt _ _ λy:S=b=>C (y▸z)).trans e) hv (DL _ J rfl) λj H O l p=>k j H O l λb o T L e=>p b o T L ((Bt _ _ (Dw L)).trans (q b o T e))⟩
end
section
variable {X:Cx}{aj:aa}{σ: _L.St}{H P:Hp}{α: Aa Af}{S:aq}{s:Ag}
set_option tactic.hygienic true in
theorem OC (I:Inv X aj σ H s)(r:bf X.K H P α S){d:D}{xs:Aa D}{v:V}(h:wd d S=Ab xs)(p:av X.K P α d v):∃ a vs ao,v=.ref a/\qF X.K P α xs vs/\qQ vs ao/\s.heap.IsList a ao.toArray/\xs.length=ao.length:=by
 unfold wd at h
 split at h
 .cases h
  obtain⟨a,Y,ao,n,rfl,_,t,Q,e,l,_⟩:=yS I r p;exact⟨a,Y,ao,rfl,t,Q,⟨_,e,rfl,n,rfl⟩,l⟩
 .split at h
  .rename_i J
   cases h;simp only[av] at p;obtain⟨b,rfl,q⟩:=p;obtain⟨Y,z,t⟩:=r.at' _ b _ q J;obtain⟨ao,Q,pl,_⟩:=I.list (.inl (.inl z));exact⟨b,Y,ao,rfl,t,Q,pl.isList,by rw[t.length,Q.length]⟩
  .cases h
 .cases h
theorem YI (h:uh xs=true){x:D}(Q:x∈xs):oj 6 x=true/\∀ y∈xs,vM x y=true:=by
 have:=Ca.mp h x Q;simp only[Bj] at this;exact⟨this.1,λy Y=>Ca.mp this.2 y Y⟩
end
section
variable {prog:Bc}{w:Bu}{A:Bl}{E:ae}{s:Ag}{l:Af}{ao:Aw Ad}{d:Ad}
theorem KE (a v:Ad):Wj "min" ⟨[a],[(Gh "default",v)]⟩:=by unfold Wj;kernel_rfl
theorem KC {bt:Ai->Ai->Au}{Q:ae}(T:A.handled=none)(hl:s.heap.IsList l ao)(G:UD prog w A.in1 s.heap .Lt (λi v=>ao[i]? = Ab v) bt)
  (h:∀ v h' U,(ao.size=0/\v=d\/0<ao.size/\ao[Ku bt (ao.size-1)]? = Ab v)->(∀ b o,s.heap.get? b=Ab o->h'.get? b=Ab o)->Q v { s with heap:=h',toks:=U }) : Ao (As prog w) A (call (.builtin "min") [.ref l] [(Gh "default",d)]) Q E s:=by
 have N:l<s.heap.objs.size:=by obtain⟨_,e,_⟩:=hl;exact Az e
 have Y:∀ b,s.heap.objs.size<=b->s.heap.get? b=none:=λb B=>by
  cases q:s.heap.get? b with
  |none=>rfl
  |some o=>exact absurd (Az q) (Me.mpr B)
 refine kmk_tree PySem.F.kind_min PySem.F.plain_min PySem.F.entry_min (KE _ _) ?_;refine Ac (Lf (show Ab8 "min" ["key","default"] 0 ⟨[],[(Gh "default",d)]⟩=pure [none,Ab d] from rfl) ?_)
 refine Ac (Ak ?_);refine Ac (Go hl ?_);refine Ac (Dq ?_);have W:=Ab0 (prog:=prog) (w:=w) (A:=A.in1) T s.heap.objs.size l (Cw N) ao;rw[sZ];have L:(s.heap.push { cls:=.type "list_iterator",data:=.fields #[.ref l,.int 0 0] }).objs.size=s.heap.objs.size+1:=Ep ..;have st:=W.frame _ _ _ (show (s.heap.push { cls:=.type "list_iterator",data:=.fields #[.ref l,.int 0 0] }).IsListIter s.heap.objs.size l 0/\(s.heap.push { cls:=.type "list_iterator",data:=.fields #[.ref l,.int 0 0] }).IsList l ao from⟨⟨_,Bf _ rfl,rfl,rfl⟩,hl.push _⟩) λb _ o e=>Aj { cls:=.type "list",data:=.seq ([] : Aa Ad).toArray } e
 have J:∀ {v:Ad} {h':Bk} {U:Ai},(ao.size=0/\v=d\/0<ao.size/\ao[Ku bt (ao.size-1)]? = Ab v)->(∀ b o,b ∉ [s.heap.objs.size]->b≠(s.heap.push { cls:=.type "list_iterator",data:=.fields #[.ref l,.int 0 0] }).objs.size->((s.heap.push { cls:=.type "list_iterator",data:=.fields #[.ref l,.int 0 0] }).push { cls:=.type "list",data:=.seq ([] : Aa Ad).toArray }).get? b=Ab o->h'.get? b=Ab o)->Q v { s with heap:=h',toks:=U }:=λ{v h' U} hv q=>by
  refine h v h' U hv λb o e=>q b o (λC=>?_) (λC=>?_) (Aj _ (Aj _ e))
  .simp only[Ax,Di,Gk] at C
   subst C;exact absurd (Az e) (Ex _)
  .subst C
   exact absurd (Az e) (by rw[L];exact Me.mpr (Nz _))
 by_cases O:ao.size=0
 .refine Ak ⟨Jl Fm _,Gu Md ?_⟩
  rw[Gc Fm _];refine Ac (Fh (Bf _ rfl) rfl ?_);refine Ac (Ph (W.done _ _ _ (by rw[O];exact st) λh' U q=>?_))
  exact Ac (Gw (Ak (J (.inl ⟨O,rfl⟩) λb o I _ e=>q b o I e)))
 .refine Ak ⟨Jl Fm _,YN (h0:=s.heap) W G ?_ (Y _ (by rw[L];exact Nz _)) (λb B=>?_) (λb o e=>Aj _ (Aj _ e)) st (Ka O) (Bf _ rfl) λv h' U hv q=>J (.inr ⟨Ka O,hv⟩) q⟩
  .rw[L]
   simp only[Ax,Di,Gk,Wh];exact⟨Nat.succ_ne_self _,Dw (Cw (Tn N))⟩
  .simp only[Ax,Di,Gk] at B
   subst B;exact Y _ (Av _)
end
def yc (ds:Aa D)(b:D)(S:aq):a_ D:=match ds with
 |[d]=>match wd d S with
  |some [] => .ok b S
  |some (x::Q)=>if uh (x::Q)=true then .ok (lD (x::Q)) S else .bad
  |none=>.bad
 |_=>.bad
def mV (U:DA)(J:DE):DE:=λQ S=>(U Q S).bind λG Y=>(J Q Y).bind λb N=>yc G b N
section
variable {X:Cx}{e e2:Cb}{fA:DA}{fD:DE}{p au kp:Fc}{cm:Au}{k:Ai}
theorem FQ (hc:X.calm=true)(hu:X.A.units+64<Ed)(hg:Gl X "min")(hm:X.mg "min" = none)(ha:PA X [e] (ko X fA))(hd:PE X e2 (tD X fD))(he:Bn [e] X.env=(false,eval e X.env)::Bn [] X.env:=by rfl):PE X (.Call (.Name "min" p) [e] [⟨Ab "default",e2,kp⟩] au) (tD X (mV fA fD)):=by
 intro aj s σ H Q I h;obtain⟨P,α,al,S,r,re,af⟩:=h;refine Jy (vP I hg hm (u:=.builtin "min") (by decide +kernel) ?_ da da)
 refine callWith_kw (bv (y9 ha I r re af au) λus s1 ⟨vs,H1,P1,zb,ds,S1,I1,rv,r1,w,g,e1,d,M⟩=>kws_cons (bv (zR hd I1 r1 w (qX.base e1 d M)) λu s2 ⟨v,E,n,O,b,S2,G,Y⟩=>kws_nil ?_)) (by rw[he];rfl) (by rw[he];rfl)
 show Ao _ _ (call (.builtin "min") us [(Gh "default",u)]) _ _ s2
 match ds,Y,g with
 |[],Y,_=>exact Aq Y
 |_::_::_,Y,_=>exact Aq Y
 |[dd],Y,g =>
  simp only[yc] at Y;cases N:wd dd S2 with
  |none=>rw[N] at Y;exact Aq Y
  |some J =>
   rw[N] at Y;have I:=G.inv;have r:=G.rel;obtain⟨v',u',rfl,rfl,p',q⟩:=yN g rv;obtain⟨a,ws,T,rfl,t,f,hl,ll⟩:=OC I r N (av.mono G.same G.pre _ _ p');cases (show u'=Cc a from q)
   have A:J=[]\/uh J=true:=by
    cases J with
    |nil=>exact .inl rfl
    |cons x J=>exact .inr (uI (X:=X) Y).1
   have U:∀ (i:Ai) (u:Ad),T.toArray[i]? = Ab u->∃ L,jm s2.heap 6 (J.getD i .non) u/\qL L u/\av X.K n O (J.getD i .non) L/\J.getD i .non∈J/\uh J=true:=λi u c=>by
    have B:T[i]? = Ab u:=by simpa using c
    have zc:i<T.length:=(Bd.mp B).1;have ok:uh J=true:=by
     rcases A with rfl|ok
     .simp at ll;fin2
     .exact ok
    have hx:J[i]? = Ab (J[i]' om):=An om;obtain⟨y,f1,f2⟩:=t.get hx;obtain⟨z,g1,g2⟩:=f.get f1;cases g1.symm.trans B;have e:J.getD i .non=J[i]' om:=by rw[Ih,hx];rfl
    rw[e];exact⟨y,AE I r 6 (YI ok (Jq _)).1 f2 g2,g2,f2,Jq _,ok⟩
   have hz:T.toArray.size=J.length:=by simp only[Bh];rw[ll]
   refine KC (bt:=pv J) (I.ok.hd hc) hl (λi j vi vj s' Q' E' hs c hj hQ=>?_) λv3 h' tk hv hk=>?_
   .obtain⟨_,t1,_,_,m1,ok⟩:=U i vi c
    obtain⟨_,t2,_,_,m2,_⟩:=U j vj hj;exact(t1.sup hs).lt (t2.sup hs) ((YI ok m1).2 _ m2) (by show X.A.units+1+6<Ed;fin2) _ _ _ _ hQ
   .rcases hv with⟨h0,rfl⟩|⟨_,hv⟩
    .have:J=[]:=Li.mp om
     subst this;exact⟨v,E,I.kept (t':=tk) hk,G.val,Y v E n O r G.same G.pre G.rep⟩
    .obtain⟨L,_,o,C,m,_⟩:=U _ v3 hv
     rw[hz] at C;cases J with
     |nil=>cases m
     |cons x J =>
      have l:=(uI (X:=X) Y).2;exact⟨L,E,I.kept (t':=tk) hk,o,l L E n O r G.same G.pre C⟩
theorem NL (Y:X.calm=true)(Q:ay cm k X.A)(J:Gl X "min")(hm:X.mg "min" = none)(U:QA X [e] fA)(hd:QE X e2 fD)(G:Bn [e] X.env=(false,eval e X.env)::Bn [] X.env:=by rfl):QE X (.Call (.Name "min" p) [e] [⟨Ab "default",e2,kp⟩] au) (mV fA fD):=⟨FQ Y Q.units J hm U.1 hd.1 G⟩
end
end _D
section
end
namespace _D
open _L
inductive wa {K:Type}(w:Bu)(hash:K->Am)(enc:K->D)(Kf:Ah)(P:Hp)(α : Aa Af)(ds:Aa D)(o:Co):Prop
 |mk (es:Aw (Am × Ad)) (ep:Ai) (t:Gb) (ks:Aa K) (kv:Aa (K × Ad)) (ho:o=_S.kh es ep t) (T:_S.je t es) (led:t.led=_S.vQ w) (hds:ds=ks.map enc) (hes:es.toList=kv.map λp=>(hash p.1,p.2)) (nd:(kv.map (·.1)).Nodup) (mem:∀ k,k∈kv.map (·.1)↔k∈ks) (rp:∀ p∈kv,∃ v,qL v p.2/\av Kf P α (enc p.1) v):wa w hash enc Kf P α ds o
section
variable {K:Type}{w:Bu}{az:K->Am}{cw:K->D}{Kf:Ah}{P:Hp}{α:ag}{ds:Aa D}{o:Co}
theorem wa.cell (a:wa w az cw Kf P α ds o):∀ v,o.data≠.cell v:=by
 obtain⟨J,Y,t,U,Q,rfl,_⟩:=a;intro v z;cases z
end
def rT (ds:Aa D):Au:=match wF ds with
 |some Q=>decide ((_S.jp _H.lexLt Q).length<=1000)&&Q.all λk=>!k.isEmpty
 |none=>false
end _D
section
end
namespace _D
open _L PySem.W
structure oh (K:Ah)(C B:Af):Prop where
 cd:∃ cd,clsIn K C=Ab cd/\cd.mro=.ref C::.ref B::kG/\cd.hasDict=true
 sa:findIn K (.ref C) "__setattr__" = Ab (Ab (.builtin "object.__setattr__"))
section
variable {prog:Bc}{w:Bu}{A:Bl}{E:ae}{s:Ag}{K:Ah}{x C B:Af}{ob:Co}{vs:Aw Ad}{name:Ar}{v:Ad}
theorem i6 {Y:Sr}{R:Si->Ag->Prop}(X:K.In s.heap)(Z:oh K C B)(O:findIn K (.ref C) name=Ab none)(I:InstAt s.heap x ob C L)
  (h:Ao (As prog w) A.in1 (Aa2 (.ref x) (.ref C) (.str name Y) name v false)
   (λfin s'=>match fin with|.done f=>R (.ok f) s'|.again U=>U.quiet=true/\Ht (As prog w) A U R s') (λe s'=>R (.error e) s') s) :
  Ht (As prog w) A (.call (.builtin "object.__setattr__") ⟨[.ref x,.str name Y,v],[]⟩) R s:=by
 have Q:=PySem.F.store_object;obtain⟨T,J,G,_⟩:=Z.cd;have sub:Looks (As prog w) s.heap (Yd (.ref x) (.type "object")) true:=I.type.andThen (Wf X (by unfold mroIn;rw[J,Qj,G];rfl))
 refine Kw Q.slot.plain Q.entry (@check_slot (As prog w) _ _ s "object.__setattr__" "object" "__setattr__" (.ref x) [.str name Y,v] [] _ Q.kind Q.split sub (Q.args (.ref x) (.str name Y) v) ?_);have N:Looks (As prog w) s.heap (mroOf (.ref C)) T.mro:=(AaP X J).andThen .now;rw[osa_eq,refuse_eq];refine Ac (Ac (I.type.here (Ac (N.here ?_))));rw[G,refuseLoop_ref,refuseLoop_ref,PySem.F.store_ValueError.passes];exact Ak (Ac (I.type.here (Ac ((Oy X O).here (Ac (Lf (a:=none) rfl h))))))
theorem dI {mA:ah}{ns:Aa Ar}{Q:Po->Ag->Prop}(X:K.In s.heap)(Z:oh K C B)(i:findIn K (.ref C) name=Ab none)(G:s.heap.get? x=Ab ob)(m:ob.cls=.ref C)(hd:ob.data=.fields vs)
  (hD:(ob.dict=none/\∀ n,mA n=none)\/∃ Y,ob.dict=Ab Y/\Y≠x/\s.heap.Ns1 Y mA) (hw:Qx mA ns) (hz:ns.length<=sizeLine)
  (h:∀ h' Y tk,h'.get? x=Ab { ob with dict:=Ab Y } -> Y≠x->h'.Ns1 Y (λy=>if y=name then Ab v else mA y)->(∀ b o,b≠x->b≠Y->s.heap.get? b=Ab o->h'.get? b=Ab o)->(∀ d,ob.dict=Ab d->d=Y)->(ob.dict=none->s.heap.get? Y=none)->Q () ⟨h',s.gens,s.drawn,tk,s.os⟩) :
  Ao (As prog w) A (setAttr (.ref x) name v) Q E s:=by
 obtain⟨cd,M,_,O⟩:=Z.cd;obtain⟨oc,zb,zc,N⟩:=ob;dsimp only at m hd;subst m hd;rcases hD with⟨u,r⟩|⟨Y,p,ne,j⟩
 .dsimp only at u
  subst u;have I:InstAt s.heap x ⟨.ref C,none,.fields vs,N⟩ C none:=⟨G,rfl,rfl,Hz⟩;refine set_plain X I Z.sa (i6 (s:={ s with toks:=s.toks+1 }) X Z i I ?_)
  refine Ac (Ak (Ac (Ac (Ww G (Ac (Looks.here (s:={ s with toks:=s.toks+1 }) (AaP X M) ?_))))))
  rw[O];refine Ac (AaK ?_);have k:(s.heap.push { cls:=.type "dict",data:=.dict #[] }).get? x=Ab ⟨.ref C,none,.fields vs,N⟩:=Aj _ G;have l:x≠s.heap.objs.size:=Cw (Az G);refine Ac (wpAny_update (o:=⟨.ref C,none,.fields vs,N⟩) k ?_);refine Ak (a:=Ab s.heap.objs.size) ?_;have g1:((s.heap.push { cls:=.type "dict",data:=.dict #[] }).update x λo=>{ o with dict:=Ab s.heap.objs.size }).get? s.heap.objs.size=Ab { cls:=.type "dict",data:=.dict #[] }:=(Bt _ _ l).trans (Aa3 rfl rfl)
  have g2:((s.heap.push { cls:=.type "dict",data:=.dict #[] }).update x λo=>{ o with dict:=Ab s.heap.objs.size }).Ns s.heap.objs.size (λ_=>none):=⟨_,#[],_,g1,rfl,λe G=>absurd G a8,λ_=>rfl⟩
  refine Ac (Ak (Ac (wpAny_nsSet1 (s:=⟨_,s.gens,s.drawn,s.toks+1,s.os⟩) (Heap.Ns1.of_empty g2) λh' U J=>?_)));obtain⟨oD,f,c,T,H,L⟩:=U.count (Aa4 name v Uj);refine Ac (wpAny_lookBehind T (by rw[H];exact pastItsLine_dict (Cs L (by rw[Ba,Cu,Es];lia))) ?_)
  refine Ak (h h' _ _ ?_ l.symm ?_ (λb o t g q=>?_) (λd z=>nomatch z) λ_=>Jb (Av _))
  .exact(J.2 x l).trans (DL _ k rfl)
  .obtain⟨o',es,ep,e1,e2,e3,eu,e4⟩:=U
   exact⟨o',es,ep,e1,e2,e3,eu,λy=>by rw[e4 y];by_cases hy:y=name <;> simp[hy,r]⟩
  .exact(J.2 b g).trans ((Bt _ _ (Dw t)).trans (Aj _ q))
 .dsimp only at p
  subst p;obtain⟨od,ho,_⟩:=bG j;have I:InstAt s.heap x ⟨.ref C,Ab Y,.fields vs,N⟩ C (Ab od):=⟨G,rfl,rfl,ho⟩;refine set_plain X I Z.sa (i6 (s:={ s with toks:=s.toks+1 }) X Z i I ?_)
  refine Ac (Ak (Ac (Ac (Ww G (Ac (Looks.here (s:={ s with toks:=s.toks+1 }) (AaP X M) ?_))))))
  rw[O];refine Ak (a:=Ab Y) (Ac (Ak (Ac ?_)));refine wpAny_nsSet1 (s:={ s with toks:=s.toks+1 }) j λh' U J=>?_
  obtain⟨oD,f,c,T,H,L⟩:=U.count (Aa4 name v hw);refine Ac (wpAny_lookBehind T (by rw[H];exact pastItsLine_dict (Cs L (by rw[Ba];lia))) ?_)
  exact Ak (h h' Y _ ((J.2 x ne.symm).trans G) ne U (λb o t g q=>(J.2 b g).trans q) (λd z=>(Dg z).symm) λz=>nomatch z)
end
end _D
namespace _D
open _L
variable {K:Ah}{P:Bc}{φ:Bk->Prop}
def nj (e C t:Af)(dd:Al Af):HO:=.ext λh=>∃ Q,h.get? e=Ab Q/\Q.cls=.ref C/\Q.dict=dd/\Q.data=.fields #[.ref t,.none,.none,.none,.bool false,.none]
inductive uz (H0 H:Hp)(e C t:Af)(fs:Aa (Ar × V)):Prop
 |no (h1:fs=[]) (h2:H=bw H0 e (nj e C t none)):uz H0 H e C t fs
 |dx (dx:Af) (h1:H0 dx=none) (h2:dx≠e) (h3:H=bw (bw H0 e (nj e C t (Ab dx))) dx (o_ dx fs)):uz H0 H e C t fs
theorem WL {h:Bk}{a:Af}(p:φ h)(t:∃ o,h.get? a=Ab o)(st:∀ h1 h2:Bk,φ h1->(∀ o,h1.get? a=Ab o->h2.get? a=Ab o)->φ h2):zC P w H h a (.ext φ):=⟨p,t,st⟩
theorem WI {h:Bk}{e C t:Af}{dd:Al Af}(J:h.get? e=Ab Q)(U:Q.cls=.ref C)(hd:Q.dict=dd)(Y:Q.data=.fields #[.ref t,.none,.none,.none,.bool false,.none]):zC P w H h e (nj e C t dd):=
 WL ⟨Q,J,U,hd,Y⟩ ⟨Q,J⟩ λ_ _ ⟨o,q,r⟩ k=>⟨o,k o q,r⟩
theorem F1 {a:Af}{fs:Aa (Ar × V)}(x:UG a fs h):zC P w H h a (o_ a fs):=by
 have Q:=x;obtain⟨_,⟨o,_,_,e,_⟩,_⟩:=Q;exact WL x ⟨o,e⟩ λ_ _ ⟨m,⟨o,Y,J,e,r⟩,q⟩ k=>⟨m,⟨o,Y,J,k _ e,r⟩,q⟩
theorem YD {f:Ar}{v:V}:∀ {fs:Aa (Ar × V)},(∀ p∈fs,p.1≠f)->∀ y,(fs++[(f,v)]).lookup y=if y=f then Ab v else fs.lookup y
 |[],_,y=>by
  by_cases h:y=f
  .subst h;simp
  .simp[Ld,Gj.mpr h,h]
 |(g,u)::fs,Q,y=>by
  rw[Jv,Hr,Hr];have:=YD (fs:=fs) (v:=v) (λp Y=>Q p (.tail _ Y)) y;cases q:y == g with
  |true =>
   rw[AT (λz=>Q (g,u) (.head _) (by rw[<- eq_of_beq q,z]))]
  |false=>exact this
theorem U9 {h':Bk}{a:Af}{f:Ar}{fs:Aa (Ar × V)}{mA:ah}(Y:∀ p∈fs,p.1≠f)(U:qL v u)(r:∀ y,yP (fs.lookup y) (mA y))(Q:Qx mA (fs.map (·.1)))(n:h'.Ns1 a (λy=>if y=f then Ab u else mA y)):UG a (fs++[(f,v)]) h':=by
 refine⟨_,n,λy=>?_,λy J=>?_⟩
 .rw[YD Y]
  by_cases q:y=f
  .rw[Ay q,Ay q];exact U
  .rw[AT q,AT q];exact r y
 .rw[Eu,Bv]
  by_cases q:y=f
  .exact .inr (by rw[q];simp)
  .refine .inl (Q y λz=>J ?_)
   show (if y=f then Ab u else mA y)=none
   rw[AT q];exact z
section
variable {X:Cx}{aj:aa}{σ: _L.St}{H0 H:Hp}{s:Ag}{e C B t:Af}{fs:Aa (Ar × V)}{f:Ar}{v:V}{u:Ad}
theorem uG {a:Af}(I:Inv X aj σ H s)(h:H a=Ab (.ext φ)) : φ s.heap:=(I.hok a _ h).1
theorem o4 {a:Af}(I:Inv X aj σ H s)(h:s.heap.get? a=none):H a=none:=by
 cases q:H a with
 |none=>rfl
 |some w =>
  obtain⟨Q,z⟩:=zC.there (I.hok a _ q);rw[h] at z;cases z
theorem L9 {A:Bl}{E:ae}{Q:Po->Ag->Prop}(I:Inv X aj σ H s)(h0:H0 e=none)(Z:oh X.K C B)(hn:Hg X.K (.ref C) f=Ab none)(x:uz H0 H e C t fs)(hl:fs.length<1000)(hf:∀ p∈fs,p.1≠f)(rv:qL v u)
  (h:∀ H' s',Inv X aj σ H' s'->uz H0 H' e C t (fs++[(f,v)])->Q () s'):Ao (As X.prog X.w) A (setAttr (.ref e) f u) Q E s:=by
 cases x with
 |no d G =>
  subst d G;obtain⟨ob,L,O,J,Y⟩:=uG I qT;refine dI (mA:=λ_=>none) (ns:=[]) I.kIn Z hn L O Y (.inl ⟨J,λ_=>rfl⟩) Uj a8 λk dx m M y j l _ a6=>?_
  have i:s.heap.get? dx=none:=a6 J;have hx:H0 dx=none:=by have z:=o4 I i;rwa [qJ y] at z
  have nH:∀ b w,bw H0 e (nj e C t none) b=Ab w->b≠dx:=λb w q z=>by rw[z,qJ y,hx] at q;cases q
  have U:∀ b o,b≠e->s.heap.get? b=Ab o->k.get? b=Ab o:=λb o n q=>l b o n (λz=>by rw[z,i] at q;cases q) q
  have N:∀ b w,bw H0 e (nj e C t none) b=Ab w->(∀ φ,w≠.ext φ) -> bw (bw H0 e (nj e C t (Ab dx))) dx (o_ dx [(f,v)]) b=Ab w:=λb w q n=>by
   rw[qJ (nH b w q)];by_cases z:b=e
   .subst z;rw[qT] at q;cases q;exact absurd rfl (n _)
   .rw[qJ z] at q ⊢;exact q
  refine h _ _ (Inv.un (t':=m) I (H':=bw (bw H0 e (nj e C t (Ab dx))) dx (o_ dx [(f,v)])) ⟨λb o q n _ _=>?_,λb o q n _ _=>⟨o.slots,?_⟩,λb o q n _=>?_,λb o q _=>?_,λb xs q=>N b _ q (λ_ z=>nomatch z),λb o w q=>N b _ q (λ_ z=>nomatch z),λb ps q=>⟨#[],by rw[N b _ q (λ_ z=>nomatch z)];simp⟩⟩ λb w q=>?_) (.dx dx hx y rfl)
  .exact U b o (λz=>by rw[z,qT] at n;cases n) q
  .exact U b o (λz=>by rw[z,qT] at n;cases n) q
  .have z1:b≠e:=λz=>by rw[z,qT] at n;cases n
   rw[qJ z1] at n;rw[qJ (λz=>by rw[z,i] at q;cases q),qJ z1];exact n
  .by_cases z:b=e
   .subst z;exact⟨_,M⟩
   .exact⟨o,U b o z q⟩
  .by_cases z:b=dx
   .subst z
    rw[qT] at q;cases q;exact F1 (U9 (fs:=[]) (mA:=λ_=>none) a8 rv (λ_=>Hz) Uj j)
   .rw[qJ z] at q
    by_cases T:b=e
    .subst T
     rw[qT] at q;cases q;exact WI M O rfl Y
    .rw[qJ T] at q
     have q':bw H0 e (nj e C t none) b=Ab w:=by rw[qJ T];exact q
     refine(I.hok b w q').stay (λc o g r=>U c o ?_ r) (λc r=>N c _ r λ_ z=>nomatch z) λc xs r=>N c _ r λ_ z=>nomatch z;rcases g with rfl|r
     .exact T
     .rintro rfl;rw[qT] at r;cases r
 |dx dx d G h3 =>
  subst h3;have hE:bw (bw H0 e (nj e C t (Ab dx))) dx (o_ dx fs) e=Ab (nj e C t (Ab dx)):=by rw[qJ (Dw G),qT]
  obtain⟨ob,L,O,J,Y⟩:=uG I hE;obtain⟨mA,n,r,wi⟩:=uG I (a:=dx) qT;refine dI (mA:=mA) (ns:=fs.map (·.1)) I.kIn Z hn L O Y (.inr ⟨dx,J,G,n⟩) wi (by rw[Ap,Es];lia) λk d2 m M y j l a5 _=>?_
  cases a5 dx J;have U:∀ b o,b≠dx->s.heap.get? b=Ab o->k.get? b=Ab o:=λb o n q=>by
   by_cases z:b=e
   .subst z
    rw[L] at q;cases q;rw[M,<- J]
   .exact l b o z n q
  have x':=U9 hf rv r wi j;refine h _ _ (Inv.write (t':=m) I (x:=dx) (e:=dx) (o:=o_ dx (fs++[(f,v)])) (by rw[qT];exact Hz) (.inl rfl) U ?_ (F1 x')) (.dx dx d G LK)
  obtain⟨o,_,_,q,_⟩:=j;exact⟨o,q⟩
end
inductive lr:Aa Ar->Aa Et->Prop
 |nil:lr [] []
 |cons {f:Ar} {fs:Aa Ar} {p1 p2 p3 pos:Fc} {r:Aa Et}:lr fs r->lr (f::fs) (.Assign [.Attribute (.Name ("self" : Ar) p1) f p2] (.Name f p3) pos::r)
structure oz (K:Ah)(C:Af)(f:Ar):Prop where
 at_:Hg K (.ref C) f=Ab none
 hd:(f == ("__debug__" : Ar))=false
 hc:(f == ("__classdict__" : Ar))=false
def A8 (C:Af)(i:Ai)(f:Ar):TS:=λD σ H=>∃ e t Y Q v,σ[0]? = Ab (Ab (.ref e))/\σ[i]? = Ab (Ab v)/\Y e=none/\uz Y H e C t Q/\Q.length<1000/\(∀ p∈Q,p.1≠f)/\∀ J,uz Y J e C t (Q++[(f,v)])->D.nx σ J
def A9 (C:Af)(i:Ai)(fs:Aa Ar):TS:=λD σ H=>∃ e t J Y Q,σ[0]? = Ab (Ab (.ref e))/\(∀ j w,Y[j]? = Ab w->σ[i+j]? = Ab (Ab w))/\Y.length=fs.length/\J e=none/\uz J H e C t Q/\Q.length+fs.length<1000/\(∀ p∈Q,p.1 ∉ fs)/\∀ U,uz J U e C t (Q++fs.zip Y)->D.nx σ U
section
variable {X:Cx}{C B:Af}
theorem NC {L r l j:Fc}{i:Ai}(Z:oh X.K C B)(k:oz X.K C f)(h0:X.N[0]? = Ab ("self" : Ar))(c:ow X.env.scope "self")(hi:X.N[i]? = Ab f)(hv:ow X.env.scope f) :
  PS X (.Assign [.Attribute (.Name ("self" : Ar) L) f r] (.Name f l) j) (A8 C i f):=by
 intro Y s σ H D I ⟨e,t,H0,h,v,p,n,d,A,G,b,q⟩;refine plainObj_wpAny_Assign_Attribute (bv (c5 hi hv k.hd k.hc Y s σ H (λy Q=>y=v/\Q=H) I ⟨v,n,rfl,rfl⟩) λu N ⟨y,Q,E,O,z,J⟩=>bv (c5 h0 c da da Y N σ Q (λy Q=>y=.ref e/\Q=H) E ⟨.ref e,p,rfl,J⟩) λM s2 ⟨x,H2,g,T,o,w⟩=>?_)
 subst z J o w;obtain rfl:M=Cc e:=T;exact L9 g d Z k.at_ A G b O λU a m x=>⟨σ,U,m,q U x⟩
theorem PM {fs:Aa (Ar × V)}{f:Ar}{v:V}{r:Aa (Ar × V)}:fs++(f,v)::r=(fs++[(f,v)])++r:=by simp
set_option tactic.hygienic true in
theorem dO (Z:oh X.K C B)(h0:X.N[0]? = Ab ("self" : Ar))(d:ow X.env.scope "self"):∀ (fs:Aa Ar) (J:Aa Et) (i:Ai),lr fs J->(∀ j f,fs[j]? = Ab f->X.N[i+j]? = Ab f)->(∀ f∈fs,oz X.K C f/\ow X.env.scope f)->fs.Nodup ->
  ip X J (A9 C i fs)
 |[],J,i,T,_,_,_=>by
  cases T;intro O s σ H D I ⟨e,t,N,Y,Q,_,_,_,_,G,_,_,U⟩;exact oC O s σ H D I (U H (by simpa using G))
 |f::fs,J,i,T,E,l,c=>by
  cases T;rename_i p1 p2 p3 au r b;have k:=l f (.head _);have ih:=dO Z h0 d fs r (i+1) b (λj g e=>by have:=E (j+1) g e;rwa [show i+1+j=i+(j+1) by fin2]) (λg h=>l g (.tail _ h)) (Jf.mp c).2
  have nf:=(Jf.mp c).1;intro O s σ H D I ⟨e,t,N,Y,Q,o,m,v,A,G,n,M,U⟩;cases Y with
  |nil=>cases v
  |cons w Y =>
   have q:AA (A8 C i f) (A9 C (i+1) fs) D σ H:=⟨e,t,N,Q,w,o,m 0 w rfl,A,G,by rw[Ba] at n;fin2,λp hp z=>M p hp (z▸.head _),λH' x=>?_⟩
   .exact c8 (NC Z k.1 h0 d (E 0 f rfl) k.2) ih O s σ H D I q
   .refine⟨e,t,N,Y,Q++[(f,w)],o,λj u a=>by have:=m (j+1) u a;rwa [show i+1+j=i+(j+1) by fin2],AbN v,A,x,by rw[Ba] at n;rw[Bb,EQ];fin2,λp hp z=>?_,λL y=>U L (by rw[Ix,PM];exact y)⟩
    rcases Bv.mp hp with hp|hp
    .exact M p hp (.tail _ z)
    .rw[Cn.mp hp] at z;exact nf z
end
def _j (C:Af)(fs:Aa Ar):Sp:=λG H Q _=>∃ e t J U,G=V.ref e::U/\U.length=fs.length/\J e=none/\H=bw J e (nj e C t none)/\∀ Y,J Y=none->Y≠e->Q .non (bw (bw J e (nj e C t (Ab Y))) Y (o_ Y (fs.zip U)))
theorem MU {w:Bu}{mg:ah}{base:Bk}{cm:Au}{I:Ar}{st:Et}{fs:Aa Ar}(F:rk K "__init__" I st O fd)(S:ci (("self" : Ar)::fs) (("self" : Ar)::fs) (qM st))(Z:oh K C B)(c:lr fs (zJ st))(d:∀ f∈fs,oz K C f)(g:fs≠[])(hl:fs.length<1000) :
  nq P w K mg base cm 1 O fd (("self" : Ar)::fs) (_j C fs):=by
 have Y:∀ x∈("self" : Ar)::fs,ow (qM st) x:=λx l=>(S.par x l).elim .inl λh=>.inr (.inl h);refine WT F S (λq H Q E ⟨e,t,T,J,G,U,_⟩=>by rw[G,Ba,Ba,U]) λN A k s H q Q E _ _ ⟨e,t,T,J,G,U,v,r,o⟩=>?_
 refine⟨_,dO (X:=ls cm P w K mg base (("self" : Ar)::fs) I (qM st) O N A k s H E) (C:=C) Z rfl (Y _ (.head _)) fs (zJ st) 1 c (λj f e=>by rw[Qz];exact e) (λf z=>⟨d f z,Y f (.tail _ z)⟩) (Jf.mp S.nd).2,e,t,T,J,[],?_,λj u M=>?_,U,v,.no rfl r,by simpa using hl,by simp,λm x=>?_⟩
 .rw[G];rfl
 .rw[G]
  show ((V.ref e::J).map Ab++_)[1+j]? = _;rw[Bo (by rw[Ap,Ba];have:=(Bd.mp M).1;fin2),Ee,Qz,Pb,M]
  rfl
 .rw[Ie] at x
  cases x with
  |no L _ =>
   exfalso
   cases fs with
   |nil=>exact g rfl
   |cons f fs =>
    cases J with
    |nil=>cases U
    |cons _ _=>cases L
  |dx dx L y p=>rw[p];exact o dx L y
section
variable {prog:Bc}{w:Bu}{A:Bl}{E:ae}{s:Ag}{h:Bk}{g:Aw Yr}{d:Drawn}{t:Ai}{os:OsState}{al:Jk}
variable {nm q:Ar}{C N:Af}{bs bm wf:ai}{hdct:Au}{sn:Aa Ar}{sub:ai}{ab:Au}{col:Al Au}{dd:Al Af}{k0 k1 k2 k3 k5:Al Ad}{B gz og:Er}{fI:Af}{oI:Co}{mN:ah}{qG:ai}
theorem X6 (F:Zx B gz og wf)(T:Yb h wf bm){Q:Fin->Ag->Prop}(L:h.get? C=Ab (Mj nm q C N bs bm hdct sn sub ab col dd k0 k1 k2 k3 k5 gz))(v:h.Ns N mN)(hi:mN "__init__" = Ab (.ref fI))(H:h.get? fI=Ab oI)(k:oI.cls=.type "function")
  (f:∀ h' e,Xc h h' e (.ref C) qG->Ao (As prog w) A (call (.ref fI) (.ref e::qG)) (λr s'=>r=.none/\Q (.done (.ret (.ref e))) s') E ⟨h',g,d,t,os⟩) (Y:qG.length<=sizeLine) :
  Ao (As prog w) A (HT.«type.__call__» ⟨.ref C::qG,[]⟩) Q E ⟨h,g,d,t,os⟩:=by
 repeat (first|with_reducible refine Mr L ?_|with_reducible refine wpAny_madeBy_exc L ?_|wp_step)
 refine codeAny_call_builtin_code (Op _ F.quiet) (wpAny_check_new_subT F T L ?_);refine codeAny_exc_new_subT F T L ?_ Y;show Ao _ _ _ _ _ _;generalize M:({ cls:=.ref C,data:=.fields #[.ref h.objs.size,.none,.none,.none,.bool false,.none] } : Co)=O;generalize p:({ cls:=.type "tuple",data:=.seq qG.toArray } : Co)=U;have G:∀ b o,h.get? b=Ab o->((h.push U).push O).get? b=Ab o:=λb o e=>Aj _ (Aj _ e);have J:=G _ _ L;have I:=G _ _ H;have y:=v.keeps G;have c:=T.keeps G;have u:((h.push U).push O).get? (h.objs.size+1)=Ab O:=by subst M p;heap_get
 have j:(Cc C::bm).contains (.ref C)=true:=by simp
 have z:O.cls=.ref C:=by subst M;rfl
 unfold Yd
 repeat (first|(with_reducible refine Mr u ?_;rw[z])|(with_reducible refine Yn J ?_;rw[j])|wp_step)
 show Ao _ _ (Xv (.ref C) _) _ _ _;refine wpAny_typeLookup_tail J y c F.mroIs F.init.lookup ?_;rw[hi];refine Dn (Ac ?_);unfold bindSpecial;refine Ac (Kk (T:="function") ⟨_,I,k⟩ ?_);rw[Ay da]
 refine Ak (Ac (Fd (f _ (h.objs.size+1) ⟨G,Jb (Nz _),h.objs.size,u.trans (congrArg Ab M.symm),Jb (Av _),?_⟩) (λr s' l=>?_) λ_ _ x=>x))
 .subst p;exact Aj _ (Aa3 rfl rfl)
 .obtain⟨rfl,m⟩:=l
  wp_walk
  exact m
theorem XS (F:Zx B gz og wf)(T:Yb h wf bm){Q:ae}(J:h.get? C=Ab (Mj nm q C N bs bm hdct sn sub ab col dd k0 k1 k2 k3 k5 gz))(O:h.Ns N mN)(hi:mN "__init__" = Ab (.ref fI))(U:h.get? fI=Ab oI)(G:oI.cls=.type "function")
  (L:∀ h' e,Xc h h' e (.ref C) qG->Ao (As prog w) (A.under (.builtin "type.__call__" ⟨.ref C::qG,[]⟩)) (call (.ref fI) (.ref e::qG)) (λr s'=>r=.none/\Q (.ref e) s') E ⟨h',g,d,t,os⟩) (Y:qG.length<=sizeLine) :
  Ao (As prog w) A (call (.ref C) qG) Q E ⟨h,g,d,t,os⟩:=by
 have M:=tc_lookup;have H:=tc_bind (.ref C);have I:(⟨h,g,d,t,os⟩:Ag).TypeIs (.ref C) "type":=⟨_,J,rfl⟩;refine Nl (Qt ?_);show Ao _ _ (callAny (.ref C) _) _ _ _
 repeat (any_goals (first|assumption|with_reducible refine Mr J ?_|wp_step))
 refine⟨rfl,codeAny_call_builtin_at (Op _ (by decide +kernel)) entry_typeCall (wpAny_check_type_call_sub J (X6 F T J O hi U G (λh' e m=>?_) Y))⟩
 exact L h' e m
theorem GK {x:Lb Ad}{Q:Flow->Ag->Prop}(y:bm.contains (.type "BaseException")=true)(M:A.handled=none)
  (k:Ao (As prog w) A x (λv Y=>∃ e J t,v=.ref e/\Y.heap.get? C=Ab (Mj nm q C N bs bm hdct sn sub ab col dd k0 k1 k2 k3 k5 gz)/\Y.heap.get? e=Ab J/\J.cls=.ref C/\J.data=.fields #[.ref t,.none,.none,.none,.bool false,.none]/\E (.ref e) Y) E s) :
  Ao (As prog w) A (raiseStmt al (Ab x) none) Q E s:=by
 have U:(Cc C::bm).contains (.type "BaseException")=true:=by rw[List.contains_cons,y,Bool.or_true]
 unfold raiseStmt;refine Ac (Fd k (λv Y z=>?_) λ_ _ x=>x);obtain⟨e,⟨l,p,T,j⟩,t,rfl,L,I,G,O,H⟩:=z;dsimp only at G O;subst G O;obtain⟨o,g,d,u,os⟩:=Y
 repeat (first|with_reducible refine Mr I ?_|with_reducible refine Mr L ?_|(with_reducible refine Yn L ?_;rw[U])|wp_step)
 exact wpAny_raiseNew_none M H
theorem ZV (F:Zx B gz og wf){x:Ar}{H I c:Fc}{Y:Aa Cb}{Q:Flow->Ag->Prop}(l:bm.contains (.type "BaseException")=true)(n:A.handled=none)(L:(Gm I (Bn Y al)).any (·.1)=false)(hi:mN "__init__" = Ab (.ref fI))(O:oI.cls=.type "function")
  (k:Ao (As prog w) A (eval (.Name x H) al) (λf M=>f=.ref C/\Ao (As prog w) A (evalArgs (.ref C) true (Gm I (Bn Y al)) [])
   (λa J=>a.kw=[]/\a.pos.length<=sizeLine/\J.heap.get? C=Ab (Mj nm q C N bs bm hdct sn sub ab col dd k0 k1 k2 k3 k5 gz)/\J.heap.Ns N mN/\Yb J.heap wf bm/\J.heap.get? fI=Ab oI /\
    ∀ h' e,Xc J.heap h' e (.ref C) a.pos->Ao (As prog w) (A.under (.builtin "type.__call__" ⟨.ref C::a.pos,[]⟩)) (call (.ref fI) (.ref e::a.pos))
     (λr s'=>r=.none/\∃ G t,s'.heap.get? C=Ab (Mj nm q C N bs bm hdct sn sub ab col dd k0 k1 k2 k3 k5 gz)/\s'.heap.get? e=Ab G/\G.cls=.ref C/\G.data=.fields #[.ref t,.none,.none,.none,.bool false,.none]/\E (.ref e) s') E { J with heap:=h' }) E M) E s) :
  Ao (As prog w) A (exec (.Raise (Ab (.Call (.Name x H) Y [] I)) none c) al) Q E s:=by
 rw[arm_exec_Raise];refine Ac (Kq (GK (C:=C) (nm:=nm) (q:=q) (N:=N) (bs:=bs) (bm:=bm) (hdct:=hdct) (sn:=sn) (sub:=sub) (ab:=ab) (col:=col) (dd:=dd) (k0:=k0) (k1:=k1) (k2:=k2) (k3:=k3) (k5:=k5) (gz:=gz) l n (Ac (Fd (wpAny_Call_ofName (Fd k (λf M z=>?_) λ_ _ x=>x)) (λv s3 z=>Ac (Kq (Ak z))) λ_ _ x=>x))));obtain⟨rfl,z⟩:=z;unfold callWith;refine Ac (Dn (Fd z (λa J y=>Ac (Kq ?_)) λ_ _ x=>x));obtain⟨ap,p⟩:=a;obtain⟨u,U,j,o,T,b,y⟩:=y;obtain rfl:p=[]:=u;obtain⟨hp,g,d,tk,os⟩:=J;simp only[L];refine Ac (wpAny_keeperOf_exc j ?_);refine Ac (XS F T j o hi b O (λh' e m=>Fd (y h' e m) (λr s' ⟨i,G,t,z⟩=>⟨i,Ac (Dn (wpAny_point (Ak ⟨e,G,t,rfl,z⟩)))⟩) λ_ _ x=>x) U)
end
set_option tactic.hygienic true in
theorem OI (X:K.In h)(G:h.Ns N m)(e:Do K N n=Ab (Ab v)):m n=Ab v:=by
 obtain⟨o,O,C,J,Q,_,U⟩:=G;unfold Do at e
 split at e
 .rename_i q
  cases J.symm.trans (X _ _ q);cases Q
  split at e
  .rename_i Y
   cases e;rw[<- U];unfold nsFind findBy;rw[<- Yy,Y];rfl
  .split at e <;> cases e
 .cases e
def RP (K:Ah)(N Q:Af):Au:=rF K N&&(decide (Do K N "__init__" = Ab (Ab (.ref Q)))&&(match Ld Q K with|some o=>decide (o.cls=.type "function")|none=>false))
def rS (K:Ah)(C A J:Af):Au:=fB K C λU Q Y=>fB K A λ_ ca _=>decide (U=.type "type")&&(decide (Q.mro=.ref C::.ref A::kG)&&(!Q.hasDel&&(RP K Q.ns J&&(uX K ca.ns&&(decide (Y.toList.length=6)&&decide (Y.toList[4]? = Ab (Ab (.builtin "ValueError.__new__"))))))))
inductive xu (h:Bk)(C fI:Af):Prop
 |mk (nm q:Ar) (N:Af) (bs bm:ai) (hdct:Au) (sn:Aa Ar) (sub:ai) (ab:Au) (col:Al Au) (dd:Al Af) (k0 k1 k2 k3 k5:Al Ad) (mN:ah) (hC:h.get? C=Ab (Mj nm q C N bs bm hdct sn sub ab col dd k0 k1 k2 k3 k5 "ValueError.__new__")) (hN:h.Ns N mN) (hi:mN "__init__" = Ab (.ref fI)) (T:Yb h kG bm):xu h C fI
theorem ME (Q:K.In h)(z:rS K C A J=true):xu h C J/\∀ o,Ld J K=Ab o->o.cls=.type "function":=by
 obtain⟨v,g,B,c,e,z⟩:=pD z;obtain⟨l,d,ca,f,w,z⟩:=pD z;have N:=Dc.mp z;have E:=Dc.mp N.2;have L:=Dc.mp E.2;have T:=Dc.mp L.2;have Y:=Dc.mp T.2;have H:=Dc.mp Y.2;have O:=Dc.mp T.1;have U:=Dc.mp O.2;rw[Cf N.1] at e;obtain⟨M,p,u,y,x,k,j⟩:=C_ (Cf H.1);have G:h.Ns B.ns (h.nsMap B.ns):=.of_isNs (Oo Q (cQ O.1));refine⟨⟨_,_,_,_,_,_,_,_,_,_,_,M,p,u,y,k,_,(Q _ _ e).trans (congrArg Ab (V0 (Cf E.1) (Jg _▸L.1) j (Cf H.2))),G,OI Q G (Cf U.1),.own (Q _ _ w) (.of_isNs (Oo Q (xO Y.1).1)) (On Q (xO Y.1).1 (xO Y.1).2) .base⟩,λo q=>?_⟩;have I:=U.2;rw[q] at I;exact Cf I
structure tz (K:Ah)(mg:ah)(x:Ar)(C:Af)(ns:Aa Ar):Prop where
 hm:mg x=Ab (.ref C)
 ex:∃ B fI fd qual st,rk K "__init__" qual st fI fd/\u3 K fd (("self" : Ar)::ns) [] /\ ci (("self" : Ar)::ns) (("self" : Ar)::ns) (qM st)/\lr ns (zJ st)/\oh K C B/\rS K C B fI=true
 fld:∀ f∈ns,oz K C f
 ne:ns≠[]
 ln:ns.length<1000
section
variable {X:Cx}{aj:aa}{σ: _L.St}{H:Hp}{s:Ag}
theorem Inv.drop {H':Hp}(I:Inv X aj σ H s)(Y:H e=Ab (.ext φ))(h0:H' e=none)(h1:∀ b,b≠e->H' b=H b):Inv X aj σ H' s:=by
 have k:∀ b u,H b=Ab u->(∀ φ,u≠.ext φ) -> H' b=Ab u:=λb u q n=>by
  rw[h1 b λz=>?_];· exact q
  rw[z,Y] at q;cases q;exact n _ rfl
 have Q:∀ b,H b=none->H' b=none:=λb q=>by rw[h1 b λz=>by rw[z,Y] at q;cases q];exact q
 refine⟨I.ok,I.os,I.bare,⟨I.base.keep,I.base.slot,λb o q n U=>Q b (I.base.free b o q n U),I.base.there,λb J q=>k b _ (I.base.tups b J q) (λ_ z=>nomatch z),λb o u q=>k b _ (I.base.frzs b o u q) (λ_ z=>nomatch z),λb O q=>?_⟩,I.loc,I.cell,Q _ I.free,λx c q=>Q _ (I.freeC x c q),λp N=>?_,λb u q=>?_,I.len⟩
 .obtain⟨m,z⟩:=I.base.tbls b O q
  exact⟨m,k b _ z (λ_ z=>nomatch z)⟩
 .obtain⟨L,E,T,C,G⟩:=I.pin p N
  exact⟨L,Q _ E,T,C,G⟩
 .have B:b≠e:=λz=>by rw[z,h0] at q;cases q
  rw[h1 b B] at q;exact(I.hok b u q).stay (λ_ _ _ z=>z) (λc z=>k c _ z (λ_ z=>nomatch z)) λc J z=>k c _ z (λ_ z=>nomatch z)
def lR (c:Ad)(ns:Aa Ar)(U:DA):DS:=λQ S=>(U Q S).toS Q λY J=>if Y.length=ns.length then .ex c (.exl c ns Y) Q J else .bad
theorem W9 {Y:Cb}{qG:Aa Cb}{np y au:Fc}(hc:X.calm=true)(l:ay cm 2 X.A)(hF:kf X)(hg:Gl X x)(G:tz X.K X.mg x C ns)(ha:PA X (Y::qG) (ko X fa))
  (i:(x == ("__debug__" : Ar))=false:=by decide) (he:Bn (Y::qG) X.env=(false,eval Y X.env)::Bn qG X.env:=by rfl) (zb:(Gm y (Bn qG X.env)).any (·.1)=false:=by rfl) :
  PS X (.Raise (Ab (.Call (.Name x np) (Y::qG) [] y)) none au) (iq X (lR (.ref C) ns fa)):=by
 intro aj s σ H D I h;obtain⟨P,α,al,S,r,re,af⟩:=h;obtain⟨B,fI,fd,ba,st,F,hb,hS,m,Z,hx⟩:=G.ex;obtain⟨⟨nm,qn,N,bs,tl,hdct,sn,sub,ab,col,dd,k0,k1,k2,k3,k5,mN,hC,hN,hi,T⟩,f⟩:=ME I.mod.kin hx;obtain⟨oc,od,zl,lk⟩:=p7 F;refine ZV (C:=C) (nm:=nm) (q:=qn) (N:=N) (bs:=bs) (bm:=tl) (hdct:=hdct) (sn:=sn) (sub:=sub) (ab:=ab) (col:=col) (dd:=dd) (k0:=k0) (k1:=k1) (k2:=k2) (k3:=k3) (k5:=k5)
  Ke (mN:=mN) (T.hasType Ke.hasBase) (I.ok.hd hc) (by rw[he];show (false||(Gm y (Bn qG X.env)).any (·.1))=false;rw[zb];rfl) hi (f _ lk) (uW I hg G.hm ⟨rfl,?_⟩ i)
 have run:=aY ha I r re af y;rw[he] at run ⊢;refine Qm (bv run λE p ⟨J,U,P1,c,ds,S1,O,rv,r1,zc,rp,e1,e2,q⟩=>?_);by_cases g:ds.length=ns.length
 .rw[Ay g] at q
  have hv:J.length=ns.length:=by rw[<- rp.length];exact g
  have hl:E.length=ns.length:=by rw[<- rv.length];exact hv
  refine⟨rfl,by rw[hl,Es];have:=G.ln;fin2,O.bk _ _ hC,hN.keeps O.bk,T.keeps O.bk,O.kIn _ _ lk,λa e j=>?_⟩
  obtain⟨t,d,_,_⟩:=j.there;have n:U e=none:=o4 O j.new;have no:¬ qf X aj U e:=λL=>by
   obtain⟨o1,A⟩:=qf.there O hF L;rw[j.new] at A;cases A
  have nf:e ∉ gx X.stack:=λz=>by
   obtain⟨_,o,A,_⟩:=O.stack.mem z;rw[j.new] at A;cases A
  have I2:Inv X aj σ (bw U e (nj e C t none)) { p with heap:=a }:=Inv.track (O.kept (t':=p.toks) j.keeps) hF no nf λ_=>WI d rfl rfl rfl
  have rm:ay true 1 (X.A.under (.builtin "type.__call__" ⟨.ref C::E,[]⟩)):=.of (gp.make (k:=1) ⟨I.ok.hd hc,l.dp,l.un,l.gd⟩ C E []);have bd:=hb { p with heap:=a } (.ref e::E) I2.kIn (by simp[hl])
  rw[Gs] at bd;refine Nl (My ((MU (w:=X.w) (mg:=X.mg) (base:=X.base) (cm:=true) F hS Z m G.fld G.ne G.ln).run _ X.stack { p with heap:=a } _ ⟨.ref e::E,[]⟩ (.ref e::E) (.ref e::J) (λv H'=>v=.non/\∃ Q,U Q=none/\Q≠e/\H'=bw (bw U e (nj e C t (Ab Q))) Q (o_ Q (ns.zip J))) (λ_ _ _=>Fp) rm (I2.env0.make C E []) bd (.cons rfl rv) ⟨e,t,U,J,rfl,hv,n,rfl,λQ d1 d2=>⟨rfl,Q,d1,d2,rfl⟩⟩) λr s' M=>?_)
  cases r with
  |error u =>
   obtain⟨_,_,_,_,_,_,_,_,_,_,_,_,z⟩:=(show m_ X.prog X.w X.stack _ _ _ u s' from M)
   exact Aq z
  |ok fl =>
   cases fl with
   |ret u =>
    obtain⟨v,H',I3,ru,rfl,Q,d1,d2,rfl⟩:=I2.after M;have hE:bw (bw U e (nj e C t (Ab Q))) Q (o_ Q (ns.zip J)) e=Ab (nj e C t (Ab Q)):=by rw[qJ (Dw d2),qT]
    obtain⟨ob,b1,b2,b3,b4⟩:=uG I3 hE;have I4:Inv X aj σ (bw U Q (o_ Q (ns.zip J))) s':=Inv.drop I3 hE (by rw[qJ (Dw d2)];exact n) λb hb=>by
     by_cases w:b=Q
     .rw[w,qT,qT]
     .rw[qJ w,qJ w,qJ hb]
    obtain⟨r4,sP⟩:=r1.pure (o:=o_ Q (ns.zip J)) d1;refine⟨ru,ob,t,I3.bk _ _ hC,b1,b2,b4,q _ _ ⟨e,aj,σ,_,_,c,rfl,I4,r4,sP,Br _,hF,Ab Q,.new ob t b1 b2 b3 b4 (λL=>no ?_) nf,⟨rfl,Q,J,rfl,qT,hv.symm,qF.mono sP (Br _) _ _ rp⟩⟩⟩;rcases L with z|z|z|z
    .exact .inl z
    .exact absurd (by rw[qJ (Dw d2)];exact n) z
    .exact .inr (.inr (.inl z))
    .exact .inr (.inr (.inr z))
   |next=>exact Aq M
   |brk=>exact Aq M
   |cont=>exact Aq M
 .rw[AT g] at q;exact Aq q
end
end _D
namespace _D
open _L PySem.W
variable {cl:ag}
section
variable {prog:Bc}{w:Bu}{A:Bl}{E:ae}{s:Ag}{K:Ah}{x C:Af}{ox:Co}{od:Al Co}{name:Ar}{v:Ad}
theorem RE {Q:Sr}{R:Si->Ag->Prop}(X:K.In s.heap)(Z:ma K C)(I:InstAt s.heap x ox C od)(G:findObj K C od name=Ab (.value v))(h:R (.ok (.ret v)) s) :
  Ht (As prog w) A (.call (.builtin "BaseException.__getattribute__") ⟨[.ref x,.str name Q],[]⟩) R s:=by
 have LT:=I.type (M:=As prog w);have N:=Wf (M:=As prog w) X Z.mb;have U:=looks_find (M:=As prog w) X I G;have J:builtinKind "BaseException.__getattribute__" = Ab .slot:=by decide +kernel
 have Y:splitId "BaseException.__getattribute__" = Ab ("BaseException","__getattribute__"):=by decide +kernel
 refine Kw Lj.ga.plain Wg (@check_slot (As prog w) _ _ s "BaseException.__getattribute__" "BaseException" "__getattribute__" (.ref x) [.str name Q] [] _ J Y (LT.andThen N) (Xh (.ref x) (.str name Q)) ?_);cases s;unfold HT.«object.__getattribute__»;refine Ac (Lf (show slotArgs "__getattribute__" 1 ⟨[.ref x,.str name Q],[]⟩=pure (.ref x,[.str name Q]) from by kernel_rfl) ?_)
 exact Ac (Ak (Ac (LT.at (Ac (U.at (Ak h))))))
theorem MD {Q:ae}(X:K.In s.heap)(Z:ma K C)(I:InstAt s.heap x ox C od)(O:findObj K C od name=Ab (.value v))(G:handedIn v=true)(h:Q v { s with toks:=s.toks+1 }) : Ao (As prog w) A (getAttr (.ref x) name Y) Q E s:=by
 have LT:=I.type (M:=As prog w);have N:=Oy (M:=As prog w) X Z.ga;have J:=Oy (M:=As prog w) X Z.hk;unfold getAttr getAttrBy;cases s;refine Ac (wpAny_mkText (Dn (Ac (LT.at (Ac (N.at ?_))))));dsimp only;have U:(Nm "BaseException.__getattribute__" == Nm "object.__getattribute__")=false:=by decide +kernel
 rw[U,Jx,AT Gx];unfold getAttrByItsOwn hookBefore;rw[Ay (show onTheHeap (.ref C)=true from rfl)]
 refine Ac (J.at (Ac (Iq (Dn ?_))));unfold callGetattribute;rw[show onTheHeap (Nm "BaseException.__getattribute__")=false from rfl,Jx,AT Gx]
 unfold boundAndCalled;refine Ac (Lf (Lj.ga.bind (.ref x)) ?_);refine Nl (RE X Z I O ?_);show Ao _ _ (handedOut v) _ _ _;rw[handedOut_of G];exact Ak h
end
structure tx (K:Ah)(C:Af)(f:Ar):Prop where
 ex:ma K C
 hd:hasDictIn K C=true
 at_:findIn K (.ref C) f=Ab none
def mB (cl:ag)(f:Ar)(J:DE):DE:=d1 (λd S=>match d with
 |.exl (.ref C) Q Y=>if cl.contains C then (match (Q.zip Y).lookup f with
   |some x=>.ok x S
   |none=>.bad) else .bad
 |_=>.bad) J
section
variable {X:Cx}{e:Cb}{f:Ar}{au:Fc}{fa:DE}
theorem oY {K:Ah}{P:Hp}{α:ag}:∀ {ns:Aa Ar} {ds:Aa D} {vs:Aa V},qF K P α ds vs->(ns.zip ds).lookup f=Ab x->∃ v,(ns.zip vs).lookup f=Ab v/\av K P α x v
 |[],ds,vs,_,h=>by cases ds <;> cases h
 |n::ns,[],_,_,h=>by cases h
 |n::ns,d::ds,vs,r,h=>by
  obtain⟨w,J,rfl,Q,Y⟩:=r.cons_inv;rw[Ix,Hr] at h ⊢;cases q:f == n with
  |true=>rw[q] at h;cases h;exact⟨w,rfl,Q⟩
  |false=>rw[q] at h;exact oY Y h
theorem SH (hK:∀ C∈cl,tx X.K C f)(B:PE X e (tD X fa))(hb:Lx e f X.env (eval e X.env)=eval e X.env:=by rfl):PE X (.Attribute e f au) (tD X (mB cl f fa)):=by
 intro aj s σ H Q I h;obtain⟨P,α,al,S,r,l,t⟩:=h;refine F7 hb (bv (zR B I r l t) λu s1 ⟨v,A,P1,O,d,g,G,q⟩=>?_);cases d with
 |exl c E T =>
  cases c with
  |ref C =>
   have q:qO X P α (if cl.contains C=true then (match (E.zip T).lookup f with|some x=>a_.ok x g|none=>.bad) else .bad) (jj X P α Q):=q
   by_cases Y:cl.contains C=true
   .rw[Ay Y] at q
    cases U:(E.zip T).lookup f with
    |none=>rw[U] at q;exact Aq q
    |some x =>
     rw[U] at q;have k:=hK C (Fa.mp Y);have p:=G.rep;simp only[av] at p;obtain⟨a,dx,vs,rfl,j,p2,_,rp⟩:=p;obtain rfl:u=Cc a:=G.val;obtain⟨w,B,Y,hd,ws,L⟩:=uG G.inv (G.rel.sub _ _ j);obtain⟨mA,n,i,_⟩:=uG G.inv (G.rel.sub _ _ p2);obtain⟨y,hy,z⟩:=oY rp U;obtain⟨yv,m,M⟩:=yP.some_of (v:=y) (o:=mA f) (by rw[<- hy];exact i f)
     obtain⟨od,ho,N⟩:=bG n;have J:InstAt s1.heap a w C (Ab od):=⟨B,Y,by obtain⟨_,_,b,_⟩:=w;cases L;rfl,by rw[hd];exact ho⟩
     refine MD G.inv.kIn k.ex J (findObj_own k.hd k.at_ rfl (by rw[N,m])) (WW M) ⟨y,A,G.inv.tok _,M,?_⟩
     exact q y A P1 O G.rel G.same G.pre z
   .rw[AT Y] at q;exact Aq q
  |_=>exact Aq q
 |_=>exact Aq q
def xE (cl:ag):DF:=λQ S=>match Q with
 |.exl c _ _::Q=>yW cl (.exn c::Q) S
 |_=>yW cl Q S
theorem FB (hK:r_ X.K cl):xY X (.builtin "isinstance") (xE cl):=by
 intro o σ H s P α S O l J Q I r L N Y;cases J with
 |nil=>exact aS hK o σ H s P α S O l _ Q I r L N Y
 |cons d J =>
  cases d with
  |exl c h i =>
   replace Y:qX X P α (yW cl (.exn c::J) S) Q:=Y
   cases RT cl (.exn c::J) S with
   |bad e=>rw[e] at Y;exact Aq Y
   |old e =>
    rw[e] at Y;cases J with
    |nil=>exact Aq Y
    |cons b t =>
     cases t with
     |cons _ _=>cases b <;> exact Aq Y
     |nil =>
      cases b with
      |ty n =>
       have Y:qX X P α (if pC n then .bad else .bad) Q:=Y
       by_cases z:pC n=true
       .rw[Ay z] at Y;exact Aq Y
       .rw[AT z] at Y;exact Aq Y
      |_=>exact Aq Y
   |obj C B j U g e =>
    rw[e] at Y;cases j;obtain⟨v,w,u,x,rfl,rfl,p,G,q,k⟩:=uD N L;simp only[av] at p G;obtain⟨rfl,_⟩:=G;cases (show x=Cc B from k)
    obtain⟨a,m,O,rfl,T,_⟩:=p;obtain rfl:u=Cc a:=q;obtain⟨y,E,A,_⟩:=uG I (r.sub _ _ T);exact Ej (p6 (hK.ex C U)) I.kIn ⟨y,E,A⟩ (hK.one C U B g) (λz=>nomatch z) λM=>⟨.bl _,H,I.tok M,rfl,xr Y r (by simp only[av])⟩
   |ve C j U e =>
    rw[e] at Y;cases j;obtain⟨v,w,u,x,rfl,rfl,p,G,q,k⟩:=uD N L;simp only[av] at p G;subst G;cases (show x=Hn "ValueError" from k)
    obtain⟨a,m,O,rfl,T,_⟩:=p;obtain rfl:u=Cc a:=q;obtain⟨y,E,A,_⟩:=uG I (r.sub _ _ T);exact Ej (p6 (hK.ex C U)) I.kIn ⟨y,E,A⟩ (hK.ve C U) (λz=>nomatch z) λM=>⟨.bl _,H,I.tok M,rfl,xr Y r (by simp only[av])⟩
  |_=>exact aS hK o σ H s P α S O l _ Q I r L N Y
end
end _D
namespace _D
open _L
variable {cl:ag}{K:Ah}{mg:ah}
def RQ (s:Et):Et:=match s with
 |.ClassDef _ _ _ (b::_) _ _ _ _ _ _ _=>b
 |_=>s
def DR (K:Ah)(C B Y:Af)(ns:Aa Ar):Au:=rS K C B Y&&(m9 K C&&(dL K C&&(decide (Hg K (.ref C) "__setattr__" = Ab (Ab (.builtin "object.__setattr__")))&&((match Tu K C with|some Q=>decide (Q.mro=.ref C::.ref B::kG)&&Q.hasDict|none=>false)
 && (ns.all (λf=>decide (Hg K (.ref C) f=Ab none)&&(!(f == ("__debug__" : Ar))&&!(f == ("__classdict__" : Ar))))&&(!ns.isEmpty&&decide (ns.length<1000)))))))
inductive yu (K:Ah)(st:Et)(C B:Af)(ns:Aa Ar):Prop
 |mk {fI:Af} {oc:Ad} {od an:Al Af} {osl:Aw (Al Ad)} {kV doc pm cdv ct:Ad} {qual:Ar} (b:Do K Ct "FarError" = Ab (Ab (.ref B))) (i:Hg K (.ref C) "__init__" = Ab (Ab (.ref fI)))
  (l:K.lookup fI=Ab ⟨oc,od,.func (Gf "__init__" qual (wH st) (zJ st) (qM st) .none kV doc pm an cdv ct),osl⟩) (c:Kz K cdv qual=true) (k:Ff K (.ref fI)=true) (e:DR K C B fI ns=true):yu K st C B ns
structure zr (st:Et)(ns:Aa Ar):Prop where
 bd:∀ (q:Ar) (kV doc pm:Ad) (an:Al Af) (cdv ct:Ad) (us:ai),us.length=(("self" : Ar)::ns).length->Yt (Gf "__init__" q (wH st) (zJ st) (qM st) .none kV doc pm an cdv ct) ⟨us,[]⟩=pure ((("self" : Ar)::ns).zip us)
 sc:wv (("self" : Ar)::ns) (("self" : Ar)::ns) (qM st)=true
 ib:lr ns (zJ st)
structure _a (K:Ah)(mg:ah)(x:Ar)(C:Af)(ns:Aa Ar):Prop extends tz K mg x C ns where
 fk:∀ f∈ns,tx K C f
theorem RI {st:Et}(hm:mg x=Ab (.ref C))(g:nM K=true)(T:zr st ns)(F:yu K st C B ns):_a K mg x C ns:=by
 obtain⟨_,i,l,c,k,e⟩:=F;unfold DR at e;simp only[Bj,Ce] at e;obtain⟨I,U,H,E,J,M,G,y⟩:=e;have j:ma K C:=by
  unfold m9 at U;unfold nM at g;simp only[Bj,Ce] at U g;obtain⟨⟨⟨⟨⟨⟨A,u⟩,w⟩,L⟩,O⟩,o⟩,p⟩:=U;exact⟨A,u,w,g.1,g.2,L,O,o⟩
 have N:=WV (st:=st) l c k;have Q:∃ Q,Tu K C=Ab Q/\Q.mro=.ref C::.ref B::kG/\Q.hasDict=true:=by
  cases q:Tu K C with
  |none=>rw[q] at J;cases J
  |some Q =>
   rw[q] at J;have z:=Dc.mp J;exact⟨Q,rfl,Cf z.1,z.2⟩
 have fl:∀ f∈ns,Hg K (.ref C) f=Ab none/\(f == ("__debug__" : Ar))=false/\(f == ("__classdict__" : Ar))=false:=λf Y=>by
  have z:=Ca.mp M f Y;simp only[Bj,Ce,Jg] at z;exact z
 refine⟨⟨hm,⟨B,_,_,_,st,N,N.binds (T.bd _),eO T.sc,T.ib,⟨Q,E⟩,I⟩,λf Y=>⟨(fl f Y).1,(fl f Y).2.1,(fl f Y).2.2⟩,λz=>?_,y⟩,λf Y=>⟨j,H,(fl f Y).1⟩⟩;rw[z] at G;cases G
abbrev wl (K:Ah)(mg:ah)(l:Aa (Ar × Af × Aa Ar)):Prop:=∀ e∈l,_a K mg e.1 e.2.1 e.2.2
theorem MK:wl K mg []:=λ_ z=>nomatch z
theorem JI {st:Et}{l:Aa (Ar × Af × Aa Ar)}(T:zr st ns)(Q:K.In h)(G:h.Ns Ct mg)(q:Do K Ct x=Ab (Ab (.ref C)))(g:nM K=true)(F:yu K st C B ns)(t:wl K mg l):wl K mg ((x,C,ns)::l):=List.forall_mem_cons.mpr ⟨RI (Tt Q G q) g T F,t⟩
section
variable {X:Cx}{e:Cb}{f:Ar}{p au cq:Fc}{fa:DE}{fA:DA}{x:Ar}{C:Af}{qG:Aa Cb}{ns:Aa Ar}{cm:Au}
theorem IW {l:Aa (Ar × Af × Aa Ar)}{y:Ar × Af × Aa Ar}(U:wl K mg l)(h:y∈l)(Q:Ck (y.2.2.contains f)):∀ C∈[y.2.1],tx K C f:=λC Y=>by
 rw[Cn.mp Y];exact(U y h).fk f (Fa.mp Q)
theorem CA (hK:∀ C∈cl,tx X.K C f)(Y:QE X e fa)(Q:Lx e f X.env (eval e X.env)=eval e X.env):QE X (.Attribute e f au) (mB cl f fa):=⟨SH hK Y.1 Q⟩
theorem AU (h:r_ X.K cl):fg X (.builtin "isinstance") (xE cl):=⟨FB h⟩
theorem aRf (G:tz X.K X.mg x C ns)(Q:ay cm 2 X.A)(Y:X.calm=true)(J:kf X)(h:Ck (qq X x))(U:QA X (e::qG) fA)(s:uo X e qG cq):QS X (.Raise (Ab (.Call (.Name x p) (e::qG) [] cq)) none au) (lR (.ref C) ns fA):=
 have h:=wV h
 ⟨W9 Y Q J h.1 G U.1 h.2.1 s.1 s.2⟩
end
end _D
section
namespace _D
open _L
mutual
def t8:D->Am
 |.int i=>hashInt i
 |.tup Q=>XV (Ip (vN Q))
 |_=>0
def vN:Aa D->Aa Am
 |[]=>[]
 |d::Q=>t8 d::vN Q
end
theorem t9:∀ (xs ys:Aa D),vN (xs++ys)=vN xs++vN ys
 |[],_=>rfl
 |x::xs,ys=>congrArg (t8 x::·) (t9 xs ys)
theorem AC {xs:Aa D}{ao:ai}(hl:xs.length=ao.length):∀ v∈ao,∃ (j:Ai) (x:D),xs[j]? = Ab x/\ao[j]? = Ab v:=λv hv=>by
 obtain⟨j,Q,e⟩:=Cp.mp hv;exact⟨j,_,An li,by rw[An Q,e]⟩
section
variable {prog:Bc}{w:Bu}{h:Bk}
theorem IsTuple.at {h:Bk}{a:Af}(t:h.IsTuple a xs):∃ o m,h.get? a=Ab o/\o.cls=.type "tuple" /\ o.data=.seq xs m:=by
 obtain⟨o,e,c,m,d⟩:=t;exact⟨o,m,e,c,d⟩
theorem jm.hash (t:jm h n d v):∀ {A:Bl} {E:ae} {s:Ag} {Q:Am->Ag->Prop},s.heap=h->A.units+n<Ed->(∀ J,s.toks<=J->Q (t8 d) { s with toks:=J }) -> Ao (As prog w) A (pyHash v) Q E s:=by
 induction t with
 |int n i t =>
  intro A E s Q p g k;exact(Df prog w).pyHash (k:=i) (v:=.int i t) (by simp[Df,Aa7]) (k _ (Hs _ _))
 |tup n a U B I f p c =>
  intro A E s Q l g k;subst l;obtain⟨o,m,y,u,q⟩:=IsTuple.at I;have O:s.TypeIs (.ref a) "tuple":=⟨o,y,u⟩;unfold pyHash;unfold pyHashByItsType;refine Ac (wpAny_cRoomFor_or (.inr li) ?_);refine Ac (Nw O Lo.lookup ?_);show Ao _ _ (if (Ab (Nm "tuple.__hash__") == Ab Dj)=true then _ else _) Q E s
  rw[AT (by rw[beq_builtin_none];exact Gx)]
  refine Ac (Nw O Lo.lookup ?_);show Ao _ _ (callSpecialIfBoundUnlessNone? (.ref a) "__hash__" _ >>= _) Q E s;refine Ac (wpAny_callSpecialIfBoundUnlessNone?_slot O Lo (Eg Lo O PySem.F.entry_tuple_hash ?_ (PySem.F.args_tuple_hash_1 _)));show Ao _ _ (Kc (.ref a) >>= _) _ _ s;refine Ac (wpAny_tupleItemsOf y q ?_);refine Ac ?_;rw[<- Os];refine Jo _ (λqG (b:Aw Am) L=>∃ i,qG=B.drop i/\b.toList=vN (U.take i)/\∃ J,s.toks<=J/\L={ s with toks:=J }) _ ?_ ?_ _ _ ⟨0,rfl,rfl,_,Av _,rfl⟩
  .rintro x qG b L ⟨i,Y,C,J,G,rfl⟩
   have T:i<B.length:=Nat.lt_of_not_le λz=>by rw[Jp z] at Y;cases Y
   rw[Fi T] at Y;cases Y;have M:i<U.length:=by lia
   refine Ac (c i U[i] B[i] (An M) (An T) (s:={ s with toks:=J }) rfl ?_ λN j=>?_)
   .show A.units+1+n<Ed
    lia
   .have e:(b.push (t8 U[i])).toList=vN (U.take (i+1)):=by
     rw[Eo,C,List.take_succ_eq_append_getElem M,t9];rfl
    first
     |exact Ak ⟨i+1,rfl,e,N,Cs G j,rfl⟩
     |exact Ac (Ak (Ak ⟨i+1,rfl,e,N,Cs G j,rfl⟩))
  .rintro b L ⟨i,Y,C,J,G,rfl⟩
   have T:B.length<=i:=AaF λz=>by rw[Fi z] at Y;cases Y
   rw[Fl li] at C;show Ao _ _ (retInt (Ip b.toList)) _ _ _;rw[C];refine wpAny_ret_mkInt ?_;have k:=λt I=>k t I;rw[show t8 (.tup U)=XV (Ip (vN U)) from rfl] at k
   generalize Ip (vN U)=H at k ⊢;show Ao _ _ (if (decide (-(2:Am) ^ 63<=H)&&decide (H<2 ^ 63))=true then _ else _) Q E _
   unfold XV at k;by_cases Y:(decide (-(2:Am) ^ 63<=H)&&decide (H<2 ^ 63))=true
   .rw[Ay Y]
    rw[Ay Y] at k;exact Ak (k _ (by show s.toks<=J+1;lia))
   .rw[AT Y]
    rw[AT Y] at k;exact Ac (Gw (Ak (k _ (by show s.toks<=J+1;lia))))
theorem jm.cls (t:jm h n d v):∀ {f:Ai} {A:Bl} {E:ae} {s:Ag} {Q:Au->Ag->Prop},s.heap=h->n<=f->Q false s->Ao (As prog w) A (Hy f v) Q E s:=by
 induction t with
 |int n i t =>
  intro f A E s Q M q k;rw[show Hy f (.int i t)=pure false from by cases f <;> rfl]
  exact Ak k
 |tup n a H N l I M p =>
  intro f A E s Q y q k;subst y;obtain⟨g,rfl⟩:∃ g,f=g+1:=⟨f-1,by lia⟩
  obtain⟨o,m,O,B,L⟩:=IsTuple.at l;have C:s.TypeIs (.ref a) "tuple":=⟨o,O,B⟩;unfold Hy;refine Ac (Kk C ?_);dsimp only;refine Ac (Ak ?_);simp only[Kt,By,Ek];refine Ac (Fh O L ?_);refine Ac ?_;show Ao _ _ (forIn N.toArray _ _) _ _ s;rw[<- Os];refine Jo _ (λqG r U=>r.1=none/\U=s/\∀ v∈qG,∃ (j:Ai) (x:D),H[j]? = Ab x/\N[j]? = Ab v) _ ?_ ?_ _ _ ⟨rfl,rfl,AC I⟩
  .rintro v qG r U ⟨J,rfl,Y⟩
   obtain⟨j,x,z,T⟩:=Y v Dm;refine Ac (p j x v z T rfl li ?_);simp only[By,Ek];exact Ak ⟨rfl,rfl,λu G=>Y u (Cd _ G)⟩
  .rintro⟨c,e⟩ U ⟨J,rfl,_⟩
   simp only at J;subst J;exact Ak k
def I_ (xs:Aa D)(h:Bk)(k:Aa Am)(v:Ad):Prop:=∃ d,d∈xs/\jm h 6 d v/\w9 d=k
variable {xs:Aa D}
theorem I_.ref (ok:E_ xs=true){k:Aa Am}{v:Ad}(t:I_ xs h k v):∃ a,v=.ref a:=by
 obtain⟨d,Q,t,_⟩:=t;have Y:=(CY ok Q).1;cases t with
 |int _ _ _=>cases Y
 |tup _ a _ _ _ _ _=>exact⟨a,rfl⟩
end
end _D
end
namespace _D
open _L
def mD:G2:=λa b S=>match bR b S,yB a with
 |some Q,Ab k=>.ok (.bl (x5 Q k).isSome) S
 |_,_=>.bad
section
variable {X:Cx}
set_option tactic.hygienic true in
theorem ET (E:X.A.units+1<Ed):gq X (Cy .In) mD:=by
 intro o σ H s P α S v u c N a b Q I r j T U B Y;unfold mD at Y
 split at Y
 .rename_i J k O G
  obtain⟨p,L,rfl,z,t⟩:=W6 r O B;have A:=tI G U;subst A;cases (show N=Cc p from T)
  obtain⟨y,M⟩:=bZ (k:=k) t;have g:gK H p (kV k) (yQ L k):=.inl ⟨_,k,.inl z,rfl,rfl⟩;refine qA3 E I g j λq w=>⟨.bl _,H,w,rfl,?_⟩;cases hv:x5 J k with
  |none=>rw[hv] at Y;rw[M hv];exact xr Y r (by simp only[av];rfl)
  |some d =>
   obtain⟨f,C,l⟩:=y d hv;rw[hv] at Y;rw[C];exact xr Y r (by simp only[av];rfl)
 .exact Aq Y
end
section
variable {X:Cx}{cm:Au}{k:Ai}{o i:Cb}{fo fi:DE}{au:Fc}
theorem CC (Y:ay cm k X.A)(Q:QE X o fo)(hi:QE X i fi)(hs:UF i:=by intro _ _;rfl):QE X (.Subscript o i au) (d2 bD fo fi):=⟨SJ (we Y) Q.1 hi.1 hs⟩
end
section
variable {X:Cx}{cm:Au}{k:Ai}
theorem qAg (Q:ay cm k X.A):js X (Cy .In) mD:=⟨ET (we Q)⟩
end
end _D
namespace _D
variable {ds as:Aa D}{v:Ad}{n p:Ai}{lo hi:Al Am}{f1 f2:DE}{F:DF}{S1 S' S2:aq}{bo:qE}
def Nx (o:ir)(Q:qE->aq->Prop):Prop:=∃ Y S,o=.nx Y S/\Q Y S
def Rt (o:ir)(Q:D->aq->Prop):Prop:=∃ d S,o=.rt d S/\Q d S
def Ok {β:Type}(r:a_ β)(Q:β->aq->Prop):Prop:=∃ d S,r=.ok d S/\Q d S
theorem ZO {o:ir}{Q:qE->aq->Prop}{S:aq}(h:o=.nx al S)(q:Q al S):Nx o Q:=⟨al,S,h,q⟩
theorem qAM {o:ir}{Q:D->aq->Prop}{S:aq}(h:o=.rt d S)(q:Q d S):Rt o Q:=⟨d,S,h,q⟩
theorem qN {β:Type}{r:a_ β}{Q:β->aq->Prop}{d:β}{S:aq}(h:r=.ok d S)(q:Q d S):Ok r Q:=⟨d,S,h,q⟩
theorem EF {f g:DS}{S:aq}{Q:qE->aq->Prop}(h:Nx (f al S) λY S1=>Nx (g Y S1) Q):Nx (qS f g al S) Q:=by
 obtain⟨Y,S1,e,J,S2,U,q⟩:=h;exact⟨J,S2,by unfold qS;rw[e];exact U,q⟩
theorem tZ {f g:DS}{S:aq}{Q:D->aq->Prop}(h:Nx (f al S) λY S1=>Rt (g Y S1) Q):Rt (qS f g al S) Q:=by
 obtain⟨Y,S1,e,J,S2,U,q⟩:=h;exact⟨J,S2,by unfold qS;rw[e];exact U,q⟩
theorem OJ {t:DT}{S:aq}{b:Au}{Q:qE->aq->Prop}(h:t al S=.ok b S1)(k:Nx ((if b then f else g) al S1) Q):Nx (gk t f g al S) Q:=by
 obtain⟨Y,S2,J,q⟩:=k;refine⟨Y,S2,?_,q⟩;unfold gk;rw[h];cases b <;> exact J
theorem TU {f:DE}{S:aq}{Q:qE->aq->Prop}(h:Ok (f al S) λ_ S1=>Q al S1):Nx (wR f al S) Q:=by
 obtain⟨d,S1,e,q⟩:=h;exact⟨_,S1,by unfold wR;rw[e];rfl,q⟩
theorem CU {f:DE}{S:aq}{Q:D->aq->Prop}(h:Ok (f al S) Q):Rt (qW f al S) Q:=by
 obtain⟨d,S1,e,q⟩:=h;exact⟨_,S1,by unfold qW;rw[e];rfl,q⟩
theorem YT {J:DI}{S:aq}{Q:qE->aq->Prop}(h:J al S=.ok ds S1)(k:Nx (yZ g f ds al S1) Q):Nx (yH J g f al S) Q:=by
 obtain⟨Y,S2,U,q⟩:=k;exact⟨Y,S2,by unfold yH;rw[h];exact U,q⟩
theorem lH {g:DG}{f:DS}{Q:qE->aq->Prop}(I:Aa D->qE->aq->Prop)(turn:∀ d ds al S,I (d::ds) al S->∃ Y S1,g d al S=.ok Y S1/\Nx (f Y S1) (I ds))(J:∀ al S,I [] al S->Q al S) :
  ∀ {ds:Aa D} {al:qE} {S:aq},I ds al S->Nx (yZ g f ds al S) Q
 |[],al,S,h=>⟨al,S,rfl,J al S h⟩
 |d::ds,al,S,h=>by
  obtain⟨Y,S1,L,G,S2,N,O⟩:=turn d ds al S h;obtain⟨U,C,B,q⟩:=lH I turn J (ds:=ds) O;refine⟨U,C,?_,q⟩;unfold yZ;simp only[L,a_.toS,N];exact B
theorem mH {fe:DE}{S:aq}{aw:Aa D}(h:fe al S=.ok x S1)(hl:aw.length<bi):zN fe al S aw=.ok (al,aw++[x]) S1:=by
 unfold zN;rw[h];simp[a_.bind,hl]
theorem b8 {Q:qm}{t:DT}{k:DK}{S:aq}{o:Al (Ai × MO)}{items:Aa D}(h:Q al S=.ok (o,items) S1)(e:jl o g t k items (xK cj al) S1 [] = .ok (bo,ds) S'):zH false cj Q g t k al S=.ok (.lst ds) S':=by
 unfold zH;rw[h];simp only[a_.bind,e,vm];rfl
theorem L5 {f:DE}{S:aq}{al:qE}(hs:wW n ds=al)(h:f al S=.ok d S'):qR n (qW f) ds S=.ok d S':=by
 subst hs;unfold qR qW;rw[h];rfl
theorem VT {g:DS}{S:aq}{al:qE}(hs:wW n ds=al)(h:g al S=.rt d S'):qR n g ds S=.ok d S':=by
 subst hs;unfold qR;rw[h];rfl
theorem i9 {α β:Type}(Q:α->Au)(val:α->β)(l:Aa α) : (l.flatMap λd=>if Q d then [val d] else []) = (l.filter Q).map val:=by
 induction l with
 |nil=>rfl
 |cons d l Y =>
  rw[Ms,Y];cases h:Q d <;> simp[h]
theorem yg {α:Type}{cw:α->D}{g:DG}{t:DT}{k:DK}(Y:α->Aa D)(C:qE->aq->Prop)(N:∀ al S,C al S->nz o S) :
  ∀ (xs:Aa α) (al:qE) (S:aq) (aw:Aa D),C al S->aw.length+(xs.flatMap Y).length<=bi ->
  (∀ x∈xs,∀ al S aw,C al S->aw.length+(Y x).length<=bi->∃ Q S1 b S2,g (cw x) al S=.ok Q S1/\t Q S1=.ok b S2/\((b=false/\Y x=[]/\C Q S2)\/(b=true/\∃ J G,k Q S2 aw=.ok (J,aw++Y x) G/\C J G))) ->
  ∃ bo S',jl o g t k (xs.map cw) al S aw=.ok (bo,aw++xs.flatMap Y) S'/\C bo S'
 |[],al,S,aw,h,B,_=>⟨al,S,by simp[jl,vB.mpr (N _ _ h)],h⟩
 |x::xs,al,S,aw,h,B,step=>by
  rw[Ms,Bb] at B;obtain⟨Q,S1,b,S2,L,T,r⟩:=step x (Dm ..) al S aw h om;have U:=vB.mpr (N _ _ h);rcases r with⟨rfl,I,E⟩|⟨rfl,J,G,H,A⟩
  .obtain⟨bo,S',e,q⟩:=yg Y C N xs Q S2 aw E om λd O=>step d (Cd _ O)
   refine⟨bo,S',?_,q⟩;simp only[Ds,jl,U,Ef,L,T,a_.bind,By,Ek,Ms,I,Ie];exact e
  .obtain⟨bo,S',e,q⟩:=yg Y C N xs J G (aw++Y x) A (by rw[Bb];fin2) λd O=>step d (Cd _ O)
   refine⟨bo,S',?_,q⟩;simp only[Ds,jl,U,Ef,L,T,a_.bind,H,Ms];rw[e,Cg]
section
variable {α:Type}{cw:α->D}{cj:Aa (Al Ai)}{fi:qm}{g:DG}{t:DT}{fe:DE}{al:qE}{S:aq}{o:Al (Ai × MO)}{xs:Aa α}
theorem O1 (J:nz o S)(Y:α->Au)(val:α->D)(C:qE->Prop)(h0:C al)(hl:xs.length<=bi)
  (step:∀ x∈xs,∀ al,C al->∃ Q,g (cw x) al S=.ok Q S/\C Q/\t Q S=.ok (Y x) S/\(Y x=true->fe Q S=.ok (val x) S)) :
  ∃ bo,jl o g t (zN fe) (xs.map cw) al S [] = .ok (bo,(xs.filter Y).map val) S:=by
 have B:(xs.flatMap λd=>if Y d then [val d] else []).length<=bi:=by
  rw[i9,Ap];exact Cs (Ws _ _) hl
 obtain⟨bo,S',e,_,q⟩:=yg (cw:=cw) (o:=o) (g:=g) (t:=t) (k:=zN fe) (λd=>if Y d then [val d] else []) (λal S'=>C al/\S'=S) (λ_ _ h=>h.2▸J) xs al S [] ⟨h0,rfl⟩ (by simpa using B) (λd O al S' I T hl=>by
  obtain⟨L,rfl⟩:=T;obtain⟨Q,E,U,N,k⟩:=step d O al L;refine⟨Q,S',Y d,S',E,N,?_⟩;cases G:Y d with
  |false=>exact .inl ⟨rfl,by simp,U,rfl⟩
  |true =>
   refine .inr ⟨rfl,Q,S',?_,U,rfl⟩;simp only[Ef];exact mH (k G) (by simp only[G,Ef,EQ] at hl;fin2))
 subst q;refine⟨bo,?_⟩;rw[e,Ie,i9]
theorem FI (h:fi al S=.ok (o,xs.map cw) S)(J:nz o S)(Y:α->Au)(val:α->D)(C:qE->Prop)(h0:C (xK cj al))(hl:xs.length<=bi)
  (step:∀ x∈xs,∀ al,C al->∃ Q,g (cw x) al S=.ok Q S/\C Q/\t Q S=.ok (Y x) S/\(Y x=true->fe Q S=.ok (val x) S)) :
  zH false cj fi g t (zN fe) al S=.ok (.lst ((xs.filter Y).map val)) S:=by
 obtain⟨bo,e⟩:=O1 J Y val C h0 hl step;exact b8 h e
end
theorem y8 {f g:DE}{S:aq}{a b:D}(h1:f al S=.ok a S1)(h2:g al S1=.ok b S2):d2 o f g al S=o a b S2:=by
 unfold d2;rw[h1];simp only[a_.bind];rw[h2]
theorem u7 {S:aq}{a:D}(h1:f1 al S=.ok a S1):qP 1 F (qA f1 qC) al S=F [a] S1:=by
 simp only[qP,qA,qC,h1,a_.bind,Ba,Cu,Ef]
theorem QF {S:aq}{a b:D}(h1:f1 al S=.ok a S1)(h2:f2 al S1=.ok b S2):qP 2 F (qA f1 (qA f2 qC)) al S=F [a,b] S2:=by
 simp only[qP,qA,qC,h1,h2,a_.bind,Ba,Cu,Ef]
theorem DM {S:aq}{a:D}(h1:f1 al S=.ok a S1):qH F (qA f1 qC) al S=F [a] S1:=by
 simp only[qH,qA,qC,h1,a_.bind]
theorem qAW {f:DE}{S:aq}{b:Au}(h:f al S=.ok (.bl b) S1):ef f al S=.ok b S1:=by
 unfold ef;rw[h];rfl
theorem W5 {S:aq}{a:D}(h1:f1 al S=.ok a S1):qA f1 qC al S=.ok [a] S1:=by
 simp only[qA,qC,h1,a_.bind]
theorem eC {S:aq}{a b:D}(h1:f1 al S=.ok a S1)(h2:f2 al S1=.ok b S2):qA f1 (qA f2 qC) al S=.ok [a,b] S2:=by
 simp only[qA,qC,h1,h2,a_.bind]
theorem IH {f:DE}{g:DA}{S:aq}{a:D}(h:f al S=.ok a S1)(k:g al S1=.ok as S2):qA f g al S=.ok (a::as) S2:=by
 simp only[qA,h,k,a_.bind]
theorem VY {g:DA}{S:aq}(k:g al S=.ok as S1)(h:as.length<=bi):zM g al S=.ok (.tup as) S1:=by
 simp only[zM,k,a_.bind,h,Ef]
theorem cV {al:qE}{i:Ai}{S:aq}(h:al[i]? = Ab (Ab d)):qB i al S=.ok d S:=by simp only[qB,h]
theorem WN {α:Type}(l:Aa α) : l.filter (λ_=>true)=l:=by simp
theorem XO {α:Type}(p:α->Au)(l:Aa α) : xI (l.map λx=>D.bl (p x))=Ab (l.map p):=by
 induction l with
 |nil=>rfl
 |cons x l Q =>
  show (xI (l.map λx=>D.bl (p x))).map (p x::·)=_
  rw[Q];rfl
theorem EE {S:aq}{a b:D}{Q:qE->aq->Prop}(h1:f1 al S=.ok a S1)(h2:f2 al S1=.ok b S2)(q:Q ((al.set i (Ab a)).set j (Ab b)) S2):Nx (kO i j (qA f1 (qA f2 qC)) al S) Q:=by
 unfold kO;rw[eC h1 h2];exact ZO rfl q
theorem lG {f:DE}{g:DG}{S:aq}{Q:qE->aq->Prop}(h1:f al S=.ok d S1)(h2:g d al S1=.ok Y S2)(q:Q Y S2):Nx (qZ f g al S) Q:=by
 unfold qZ;rw[h1];simp only[a_.toS];rw[h2];exact ZO rfl q
section
variable {β γ:Type}{al:qE}{S:aq}
theorem z9 {k:β->aq->a_ γ}{Q:γ->aq->Prop}(h:Ok r λd S1=>Ok (k d S1) Q):Ok (r.bind k) Q:=by
 obtain⟨d,S1,rfl,h⟩:=h;exact h
theorem xD {d:β}(h:Ok r λd' S'=>d'=d/\S'=S):r=.ok d S:=by
 obtain⟨_,_,e,rfl,rfl⟩:=h;exact e
theorem zO {Q Y:β->aq->Prop}(h:Ok r Q)(k:∀ d S,Q d S->Y d S):Ok r Y:=by
 obtain⟨d,S,e,q⟩:=h;exact⟨d,S,e,k d S q⟩
variable {Q:D->aq->Prop}{f g:DE}{fa:DA}{o:G2}{i j:Ai}
theorem o_c (h:Q d S):Ok (dC d al S) Q:=⟨_,_,rfl,h⟩
theorem o_v (e:al[i]? = Ab (Ab d))(h:Q d S):Ok (qB i al S) Q:=⟨_,_,cV e,h⟩
theorem o_2 (h:Ok (f al S) λa S1=>Ok (g al S1) λb S2=>Ok (o a b S2) Q):Ok (d2 o f g al S) Q:=z9 (zO h λ_ _=>z9)
theorem o_1 {u:D->aq->a_ D}(h:Ok (f al S) λa S1=>Ok (u a S1) Q):Ok (d1 u f al S) Q:=z9 h
theorem pB {Q:Aa D->aq->Prop}(h:Q [] S):Ok (qC al S) Q:=⟨_,_,rfl,h⟩
theorem yU {Q:Aa D->aq->Prop}(h:Ok (f al S) λa S1=>Ok (fa al S1) λas S2=>Q (a::as) S2):Ok (qA f fa al S) Q:=z9 (zO h λ_ _ k=>z9 (zO k λ_ _ q=>⟨_,_,rfl,q⟩))
theorem qBw (h:Ok (fa al S) λas S1=>as.length<=bi/\Q (.tup as) S1):Ok (zM fa al S) Q:=z9 (zO h λ_ _ k=>⟨_,_,Ay k.1,k.2⟩)
theorem OO (h:Ok (fa al S) λas S1=>as.length<=bi/\Q (.lst as) S1):Ok (xN fa al S) Q:=z9 (zO h λ_ _ k=>⟨_,_,Ay k.1,k.2⟩)
theorem qBk (h:Ok (fa al S) λas S1=>as.length<=bi/\Q (.loc S1.length) (S1++[.lst as])):Ok (gO fa al S) Q:=z9 (zO h λ_ _ k=>⟨_,_,Ay k.1,k.2⟩)
theorem qBn (h:Q (.loc S.length) (S++[.dct []])) : Ok (eB al S) Q:=⟨_,_,rfl,h⟩
theorem qBg (h:Q .dct0 S):Ok (bQ al S) Q:=⟨_,_,rfl,h⟩
theorem tO (h:Ok (fa al S) λas S1=>as.length=n/\Ok (F as S1) Q):Ok (qP n F fa al S) Q:=z9 (zO h λ_ _ k=>by rw[Ay k.1];exact k.2)
theorem qBs (h:Ok (F as S) Q):Ok (ng F as S) Q:=by
 obtain⟨d,S1,e,q⟩:=h;exact⟨d,S1,H8 e,q⟩
theorem qB3 (h:Ok (fa al S) λas S1=>Ok (F as S1) Q):Ok (qH F fa al S) Q:=z9 h
theorem OK {a b:Am}(h:Q (.int (a+b)) S):Ok (zB (.int a) (.int b) S) Q:=⟨_,_,rfl,h⟩
theorem yF {a b:Aa D}(l:a.length+b.length<=bi)(h:Q (.tup (a++b)) S):Ok (zB (.tup a) (.tup b) S) Q:=⟨_,_,Ay l,h⟩
theorem wI {a b:Aa D}(l:a.length+b.length<=bi)(h:Q (.lst (a++b)) S):Ok (zB (.lst a) (.lst b) S) Q:=⟨_,_,Ay l,h⟩
theorem qBv {a b:Am}(h:Q (.int (a-b)) S):Ok (wM (.int a) (.int b) S) Q:=⟨_,_,rfl,h⟩
theorem qBr {a:Am}(h:Q (.int (-a)) S):Ok (kJ (.int a) S) Q:=⟨_,_,rfl,h⟩
theorem qBq {a b:Am}(l : -(2 ^ 64)<a/\a<2 ^ 64)(h:Q (.int (a*b)) S):Ok (wL (.int a) (.int b) S) Q:=by
 refine⟨_,_,?_,h⟩;unfold wL i2;rw[rQ];unfold rP;simp only[l,and_self,Lh,Bool.true_or,Ef]
theorem qBp {a b:Am}(l:0<b)(h:Q (.int (a % b)) S):Ok (uO (.int a) (.int b) S) Q:=by
 refine⟨_,_,?_,h⟩;unfold uO i2;simp[l]
theorem qBo {a b:Am}(l:0<b/\b<1073741824)(h:Q (.int (a/b)) S):Ok (kI (.int a) (.int b) S) Q:=by
 refine⟨_,_,?_,h⟩;unfold kI i2 DH;simp[l]
theorem qCA {a b:Am}(h:Q (.bl (decide (a<b))) S):Ok (wu (.int a) (.int b) S) Q:=⟨_,_,rfl,h⟩
theorem qB9 {a b:Am}(h:Q (.bl (decide (b<a))) S):Ok (yh (.int a) (.int b) S) Q:=⟨_,_,rfl,h⟩
theorem qB7 {a b:Am}(h:Q (.bl (decide (b<=a))) S):Ok (yi (.int a) (.int b) S) Q:=⟨_,_,rfl,h⟩
theorem qBI {a b:Am}(h:Q (.bl (decide (a=b))) S):Ok (mj (.int a) (.int b) S) Q:=⟨_,_,by kernel_rfl!,h⟩
theorem qCB {a b:Am}(h:Q (.bl (!decide (a=b))) S):Ok (ni (.int a) (.int b) S) Q:=⟨_,_,by kernel_rfl!,h⟩
theorem tQ {a:Aa D}{k:Am}(e:_L.io a k=Ab d)(h:Q d S):Ok (dj (.tup a) (.int k) S) Q:=⟨d,S,by show _D.v9 (_L.io a k) S=_;rw[e];rfl,h⟩
theorem r9 {a:Aa D}{k:Am}(e:_L.io a k=Ab d)(h:Q d S):Ok (dj (.lst a) (.int k) S) Q:=⟨d,S,by show _D.v9 (_L.io a k) S=_;rw[e];rfl,h⟩
theorem qBj {a:Aa D}(h:Q (.int a.length) S):Ok (xJ [.tup a] S) Q:=⟨_,_,rfl,h⟩
theorem qBi {a:Aa D}(h:Q (.int a.length) S):Ok (xJ [.lst a] S) Q:=⟨_,_,rfl,h⟩
theorem qBl {a:Aa D}(h:Q (.tup a) S):Ok (j9 [.lst a] S) Q:=⟨_,_,rfl,h⟩
theorem EK {a:Aa D}(h:Q (.lst a) S):Ok (gS [.tup a] S) Q:=⟨_,_,rfl,h⟩
theorem kA (h:Ok (f al S) λd S1=>∃ b,d=.bl b/\(b=true->Ok (g al S1) Q)/\(b=false->Q (.bl false) S1)):Ok (vX f g al S) Q:=z9 (zO h λd S1 ⟨b,e,J,Y⟩=>by
 subst e;cases b with
 |true=>exact J rfl
 |false=>exact⟨_,_,rfl,Y rfl⟩)
theorem qCG {fl Y:DO}(h:Ok (f al S) λd S1=>Ok (fl al S1) λlo S2=>Ok (Y al S2) λhi J=>Ok (su d lo hi J) Q):Ok (lz f fl Y al S) Q:=z9 (zO h λ_ _ k=>z9 (zO k λ_ _=>z9))
theorem qBu {a:Aa D}(h:Q (.tup (zY a lo hi)) S):Ok (su (.tup a) lo hi S) Q:=⟨_,_,rfl,h⟩
theorem qBt {a:Aa D}(h:Q (.lst (zY a lo hi)) S):Ok (su (.lst a) lo hi S) Q:=⟨_,_,rfl,h⟩
theorem qB4 {Q:Al Am->aq->Prop}(h:Q none S):Ok (xA al S) Q:=⟨_,_,rfl,h⟩
theorem qB5 {Q:Al Am->aq->Prop}(h:Ok (f al S) λd S1=>∃ k,d=.int k/\Q (Ab k) S1):Ok (zS f al S) Q:=z9 (zO h λ_ _ ⟨_,e,q⟩=>by subst e;exact⟨_,_,rfl,q⟩)
theorem qB2 {m:D->Aa D->aq->a_ D}(h:Ok (f al S) λa S1=>mf a S1=Ab T/\Ok (fa al S1) λas S2=>Ok (m a as S2) Q):Ok (qr T m f fa al S) Q:=z9 (zO h λ_ _ k=>by rw[k.1,Ay a8];exact z9 k.2)
theorem EG {a b:D}(e1:lstM a S=Ab xs)(e2:lstM b S=Ab ys)(l:xs.length+ys.length<=bi)(h:Q (.lst (xs++ys)) S):Ok (bW a b S) Q:=⟨_,_,by unfold bW;rw[e1,e2];exact Ay l,h⟩
theorem BM {d:D}(e:S[i]? = Ab (.lst xs))(l:xs.length<bi)(h:Q .non (S.set i (.lst (xs++[d])))):Ok (xQ (.loc i) [d] S) Q:=by
 refine⟨_,_,?_,h⟩;show (match S[i]? with|some (.lst xs)=>(if xs.length<bi then a_.ok D.non (S.set i (.lst (xs++[d]))) else .bad)|_=>.bad)=_
 rw[e];exact Ay l
theorem _M {t:DT}(h:Ok (t al S) λb S1=>(b=true->Ok (f al S1) Q)/\(b=false->Ok (g al S1) Q)):Ok (yk t f g al S) Q:=z9 (zO h λb S1 k=>by
 cases b with
 |true=>exact k.1 rfl
 |false=>exact k.2 rfl)
variable {Q:Au->aq->Prop}{t u:DT}
theorem EO (h:Ok (f al S) λd S1=>∃ b,xW d S1=Ab b/\Q b S1):Ok (ef f al S) Q:=z9 (zO h λd S1 ⟨b,e,k⟩=>by
 rw[e];exact⟨_,_,rfl,k⟩)
theorem YX (h:Ok (t al S) λb S1=>Q (!b) S1):Ok (wA t al S) Q:=z9 (zO h λ_ _ k=>⟨_,_,rfl,k⟩)
theorem qBx (h:Q true S):Ok (xS al S) Q:=⟨_,_,rfl,h⟩
theorem yM (h:Ok (t al S) λb S1=>(b=true->Q true S1)/\(b=false->Ok (u al S1) Q)):Ok (uN t u al S) Q:=z9 (zO h λb S1 k=>by
 cases b with
 |true=>exact⟨_,_,rfl,k.1 rfl⟩
 |false=>exact k.2 rfl)
theorem YU (h:Ok (t al S) λb S1=>(b=true->Ok (u al S1) Q)/\(b=false->Q false S1)):Ok (mU t u al S) Q:=z9 (zO h λb S1 k=>by
 cases b with
 |true=>exact k.1 rfl
 |false=>exact⟨_,_,rfl,k.2 rfl⟩)
theorem fW {xs:Aa D}{a:Ai}(h:a<xs.length):_L.io xs (a:Am)=Ab xs[a]:=by
 have e:_L.nh xs.length (a:Am)=Ab a:=by simp[_L.nh];lia
 simp[_L.io,e,h]
theorem kZ (S:aq)(m:MO):(S++[m])[S.length]? = Ab m:=by simp
theorem GU (S:aq)(m m':MO):(S++[m]).set S.length m'=S++[m']:=by simp
theorem XD (h:S[j]? = Ab (.lst xs)):mf (.loc j) S=Ab "list":=by
 show (match S[j]? with|some (.lst _)=>Ab "list" | some (.dct _)=>Ab "dict" | _=>none)=_
 rw[h]
theorem OA (h:S[j]? = Ab (.lst xs)):lstM (.loc j) S=Ab xs:=by
 show (match S[j]? with|some (.lst xs)=>Ab xs|_=>none)=_
 rw[h]
theorem tP {Q:D->aq->Prop}{a:Aa D}{k:Ai}(h:k<a.length)(q:∀ d∈a,Q d S):Ok (dj (.lst a) (.int (k:Am)) S) Q:=r9 (fW h) (q _ (Jq h))
theorem qBh {Q:Aa D->aq->Prop}(h:Ok (f al S) λd S1=>∃ xs,d=.tup xs/\Q (yV xs) S1):Ok (sR (qA f qC) al S) Q:=z9 (yU (zO h λ_ _ ⟨xs,e,q⟩=>pB ⟨_,_,by rw[e];rfl,q⟩))
theorem TV {Q:Aa D->aq->Prop}(h:Ok (f al S) λd S1=>∃ ds,x8 d=Ab ds/\Q ds S1):Ok (wU f al S) Q:=z9 (zO h λd S1 ⟨ds,e,k⟩=>⟨ds,S1,by rw[e];rfl,k⟩)
theorem ZR {Q:Aa D->aq->Prop}(h:Ok (fa al S) λas S1=>∃ ds,jJ as=Ab ds/\Q ds S1):Ok (wZ fa al S) Q:=z9 (zO h λd S1 ⟨ds,e,k⟩=>⟨ds,S1,by rw[e];rfl,k⟩)
theorem ZX (n:Ai)(h:n<=1000000):jJ [.int (n:Am)]=Ab ((Dd n).map λ(i:Ai)=>D.int (i:Am)):=by
 unfold jJ;have : -(2 ^ 62)<=(n:Am)/\(n:Am)<2 ^ 62:=⟨by lia,by lia⟩
 refine(Ay this).trans ?_;unfold w4;rw[Fy]
 congr 2
 funext i
 rw[Int.zero_add]
theorem EL {Q:Aa D->aq->Prop}(h:Ok (f al S) λd S1=>∃ k:Am,d=.int k/\0<=k/\k<=1000000/\Q ((Dd k.toNat).map λ(i:Ai)=>D.int (i:Am)) S1):Ok (wZ (qA f qC) al S) Q:=ZR (yU (zO h λ_ _ ⟨k,e,Y,J,q⟩=>pB ⟨_,by
 have:=ZX k.toNat li;rw[Yo Y] at this;rw[e,this],q⟩))
theorem uT {Q:D->aq->Prop}{k:Am}(e:S[i]? = Ab (.lst xs))(Y:_L.io xs k=Ab d)(h:Q d S):Ok (dj (.loc i) (.int k) S) Q:=by
 refine⟨d,S,?_,h⟩;show (match S[i]? with|some (.lst xs)=>_D.v9 (_L.io xs k) S|_=>.bad)=_
 rw[e];show _D.v9 (_L.io xs k) S=_;rw[Y];rfl
theorem YV {Q:D->aq->Prop}(e:S[i]? = Ab (.lst xs))(h:Q (.int xs.length) S):Ok (xJ [.loc i] S) Q:=by
 refine⟨_,_,?_,h⟩;have Y:ZE (.loc i) S=Ab xs.length:=by
  show (match S[i]? with|some (.lst xs)=>Ab xs.length|_=>none)=_
  rw[e]
 show (match ZE (.loc i) S with|some n=>a_.ok (D.int n) S|none=>.bad)=_
 rw[Y]
theorem YY {Q:Po->aq->Prop}{n:Am}(e:S[i]? = Ab (.lst xs))(Y:_L.nh xs.length n=Ab j)(h:Q () (S.set i (.lst (xs.set j d)))):Ok (yL (.loc i) (.int n) d S) Q:=by
 refine⟨_,_,?_,h⟩;simp[yL,mE,e,Y]
theorem eD (h:S[i]? = Ab (.dct kvs)):bR (.loc i) S=Ab kvs:=by
 show (match S[i]? with|some (.dct kvs)=>Ab kvs|_=>none)=_
 rw[h]
theorem Z6 (h:al[i]? = Ab (Ab (.tup xs))):mr (qB i) al S=.ok (none,xs) S:=by
 unfold mr;rw[cV h];rfl
theorem _R (h:al[i]? = Ab (Ab (.lst xs))):mr (qB i) al S=.ok (none,xs) S:=by
 unfold mr;rw[cV h];rfl
theorem RU (h:n<=1000000):xU (wZ (qA (dC (.int (n:Am))) qC)) al S=.ok (none,(Dd n).map λ(i:Ai)=>D.int (i:Am)) S:=xD (z9 (ZR (yU (o_c (pB ⟨_,ZX n h,_,_,rfl,rfl,rfl⟩)))))
theorem eM {α:Type}(f:α->β):∀ l:Aa α,l.flatMap (λx=>[f x])=l.map f
 |[]=>rfl
 |x::l=>by rw[Ms,eM f l];rfl
theorem yT {α:Type}{cw:α->D}{o:Al (Ai × MO)}{N:qm}{tg:DG}{fe:DE}{Q:D->aq->Prop}(xs:Aa α)(val:α->D)(C:qE->aq->Prop)(hi:N al S=.ok (o,xs.map cw) S1)(h0:C (xK cj al) S1)(hl:xs.length<=bi)(U:∀ al S,C al S->nz o S)
  (step:∀ x∈xs,∀ al S,C al S->Ok (tg (cw x) al S) λY S1=>Ok (t Y S1) λb S2=>b=true/\Ok (fe Y S2) λd J=>d=val x/\C Y J) (q:∀ bo S',C bo S'->Q (.lst (xs.map val)) S'):Ok (zH false cj N tg t (zN fe) al S) Q:=by
 have G:=eM val xs;obtain⟨bo,S',e,c⟩:=yg (cw:=cw) (o:=o) (g:=tg) (t:=t) (k:=zN fe) (λx=>[val x]) C U xs (xK cj al) S1 [] h0 (by rw[G,Ap];simpa using hl) (λx O al S H I hl=>by
  obtain⟨Y,S1,B,b,S2,L,rfl,d,J,T,rfl,E⟩:=step x O al S I;exact⟨Y,S1,true,S2,B,L,.inr ⟨rfl,Y,J,mH T (by simp at hl;lia),E⟩⟩)
 rw[G,Ie] at e;exact⟨_,_,b8 hi e,q bo S' c⟩
theorem RL {α:Type}{cw:α->D}{o:Al (Ai × MO)}{tg:DG}{fe:DE}(R:D->Prop)(C:qE->aq->Prop)(J:∀ al S,C al S->nz o S) :
  ∀ (xs:Aa α) (al:qE) (S:aq) (aw:Aa D),C al S->aw.length+xs.length<=bi->(∀ x∈xs,∀ al S,C al S->Ok (tg (cw x) al S) λY S1=>Ok (t Y S1) λb S2=>b=true/\Ok (fe Y S2) λd U=>R d/\C Y U) ->
  ∃ bo S' ds,jl o tg t (zN fe) (xs.map cw) al S aw=.ok (bo,aw++ds) S'/\C bo S'/\ds.length=xs.length/\∀ d∈ds,R d
 |[],al,S,aw,h,_,_=>⟨al,S,[],by simp[jl,vB.mpr (J _ _ h)],h,rfl,λ_ h=>by cases h⟩
 |x::xs,al,S,aw,h,N,step=>by
  obtain⟨Y,S1,B,b,S2,L,rfl,d,U,T,G,E⟩:=step x (Dm ..) al S h;rw[Ba] at N;obtain⟨bo,S',ds,e,c,l,O⟩:=RL R C J xs Y U (aw++[d]) E (by rw[Bb];show _+1+_<=bi;lia) λy I=>step y (Cd _ I)
  refine⟨bo,S',d::ds,?_,c,by rw[Ba,Ba,l],λz hz=>?_⟩
  .simp only[Ds,jl,vB.mpr (J _ _ h),Ef,B,L,a_.bind,mH T (show aw.length<bi by lia)]
   rw[e,Cg];rfl
  .rcases Ax.mp hz with rfl|hz
   .exact G
   .exact O z hz
theorem o6 {α:Type}{cw:α->D}{o:Al (Ai × MO)}{U:qm}{tg:DG}{fe:DE}{Q:D->aq->Prop}(xs:Aa α)(R:D->Prop)(C:qE->aq->Prop)(hi:U al S=.ok (o,xs.map cw) S1)(h0:C (xK cj al) S1)(hl:xs.length<=bi)(J:∀ al S,C al S->nz o S)
  (step:∀ x∈xs,∀ al S,C al S->Ok (tg (cw x) al S) λY S1=>Ok (t Y S1) λb S2=>b=true/\Ok (fe Y S2) λd G=>R d/\C Y G) (q:∀ ds bo S',ds.length=xs.length->(∀ d∈ds,R d)->C bo S'->Q (.lst ds) S'):Ok (zH false cj U tg t (zN fe) al S) Q:=by
 obtain⟨bo,S',ds,e,c,l,N⟩:=RL (cw:=cw) (o:=o) (tg:=tg) (t:=t) (fe:=fe) R C J xs (xK cj al) S1 [] h0 (by simpa using hl) step
 exact⟨_,_,b8 hi e,q ds bo S' l N c⟩
theorem f7 {α:Type}{Q:D->aq->Prop}{l:Aa α}{p:α->Au}(h:Q (.bl (l.all p)) S):Ok (kH false [.lst (l.map λx=>.bl (p x))] S) Q:=by
 refine⟨_,_,?_,h⟩;show (match (x8 (.lst (l.map λx=>D.bl (p x)))).bind xI with|some Y=>a_.ok (D.bl (Y.all id)) S|none=>.bad)=_
 rw[show (x8 (.lst (l.map λx=>D.bl (p x)))).bind xI=Ab (l.map p) from XO p l]
 simp only[Kl];rfl
theorem qCF {Q:qE->aq->Prop}{h:G3}(k:Ok (f al S) λa S1=>Ok (g al S1) λb S2=>Ok (h a b d S2) λ_ Y=>Q al Y):Ok (sv f g h d al S) Q:=z9 (zO k λ_ _ k=>z9 (zO k λ_ _ k=>z9 (zO k λ_ _ q=>⟨_,_,rfl,q⟩)))
variable {Q:qE->aq->Prop}
theorem qCC (h:Q (al.set i (Ab d)) S):Ok (bx i d al S) Q:=⟨_,_,rfl,h⟩
theorem qBK {Y:qu}{xs:Aa D}(h:xs.length=n/\Ok (Y xs al S) Q):Ok (mq n Y (.tup xs) al S) Q:=by
 obtain⟨d,S1,e,q⟩:=h.2;exact⟨d,S1,by show (if xs.length=n then Y xs al S else .bad)=_;rw[Ay h.1];exact e,q⟩
theorem qB8 (h:Q al S):Ok (wB [] al S) Q:=⟨_,_,rfl,h⟩
theorem qB6 {t:DG}{J:qu}(h:Ok (t x al S) λY S1=>Ok (J xs Y S1) Q):Ok (zE t J (x::xs) al S) Q:=z9 h
def Wo (P:ir->Prop)(o:ir):Prop:=P o
def GT (g:DS)(P:ir->Prop):ir->Prop
 |.nx al S=>P (g al S)
 |o=>P o
def cD (b:Au)(f g:DS):DS:=match b with
 |true=>f
 |false=>g
def qA5 (Q:D->aq->Prop):ir->Prop
 |.rt d S=>Q d S
 |.nx _ S=>Q .non S
 |_=>Fp
def sY {α:Type}(I:Aa α -> qE->aq->Prop)(xs:Aa α)(P:ir->Prop):ir->Prop
 |.nx al S=>I xs al S
 |.ct al S=>I xs al S
 |.bk al S=>P (.nx al S)
 |o=>P o
variable {P:ir->Prop}{sf sg:DS}{fi:DI}{tg:DG}{d:D}
theorem pO (h:Wo (GT sg P) (sf al S)):Wo P (qS sf sg al S):=by
 unfold qS;unfold Wo at h ⊢;cases e:sf al S <;> rw[e] at h <;> exact h
theorem XF (R:qE->aq->Prop)(h:∀ Y:ir->Prop,(∀ al S,R al S->Wo Y (.nx al S))->Wo Y (sf al S))(k:∀ al S,R al S->Wo P (sg al S)):Wo P (qS sf sg al S):=pO (h _ k)
theorem qBa (h:Wo P (sg al S)):Wo (GT sg P) (.nx al S):=h
theorem qCJ (h:Wo P (.rt d S)):Wo (GT sg P) (.rt d S):=h
theorem qBm (h:Wo P (.nx al S)):Wo P (zP al S):=h
theorem pP {k:β->aq->ir}(h:Ok r λd S1=>Wo P (k d S1)):Wo P (r.toS al k):=by
 obtain⟨d,S1,rfl,h⟩:=h;exact h
theorem qAa (h:Ok (f al S) λd S1=>Ok (tg d al S1) λbo S2=>Wo P (.nx bo S2)):Wo P (qZ f tg al S):=pP (zO h λ_ _=>pP)
theorem AN (h:Ok (f al S) λ_ S1=>Wo P (.nx al S1)):Wo P (wR f al S):=pP h
theorem qB0 (h:Ok (f al S) λd S1=>Wo P (.rt d S1)):Wo P (qW f al S):=pP h
theorem qBz (h:Ok (fa al S) λds S1=>∃ a b,ds=[a,b]/\Wo P (.nx ((al.set i (Ab a)).set j (Ab b)) S1)):Wo P (kO i j fa al S):=pP (zO h λ_ _ ⟨_,_,e,q⟩=>by subst e;exact q)
theorem qCI (h:Ok (t al S) λb S1=>Wo P (cD b sf sg al S1)):Wo P (gk t sf sg al S):=pP (zO h λb S1 q=>by cases b <;> exact q)
theorem w_t (h:Wo P (sf al S)):Wo P (cD true sf sg al S):=h
theorem w_f (h:Wo P (sg al S)):Wo P (cD false sf sg al S):=h
theorem qBy {b:Au}(h:Wo P (cD b sg sf al S)):Wo P (cD (!b) sf sg al S):=by cases b <;> exact h
theorem xV {p:Prop}[Jd p](h1:p->Wo P (sf al S))(h2:¬ p->Wo P (sg al S)):Wo P (cD (decide p) sf sg al S):=by
 by_cases h:p
 .rw[Cz h];exact h1 h
 .rw[Dr h];exact h2 h
theorem qAb (h:Ok (fi al S) λds S1=>Wo P (yZ tg sf ds al S1)):Wo P (yH fi tg sf al S):=pP h
theorem vU {α:Type}{cw:α->D}(I:Aa α -> qE->aq->Prop)(turn:∀ x xs al S,I (x::xs) al S->Ok (tg (cw x) al S) λU S1=>Wo (sY I xs P) (sf U S1))(J:∀ al S,I [] al S->Wo P (.nx al S)) :
  ∀ {xs:Aa α} {al:qE} {S:aq},I xs al S->Wo P (yZ tg sf (xs.map cw) al S)
 |[],al,S,h=>J al S h
 |x::xs,al,S,h=>by
  obtain⟨U,S1,O,Y⟩:=turn x xs al S h;rw[Ds,yZ];unfold Wo at Y ⊢;simp only[O,a_.toS];cases N:sf U S1 with
  |nx G S2=>rw[N] at Y;exact vU I turn J Y
  |ct G S2=>rw[N] at Y;exact vU I turn J Y
  |bk G S2=>rw[N] at Y;exact Y
  |rt d2 S2=>rw[N] at Y;exact Y
  |ex B C G S2=>rw[N] at Y;exact Y
  |bad=>rw[N] at Y;exact Y
theorem lW (I:Aa D->qE->aq->Prop)(turn:∀ x xs al S,I (x::xs) al S->Ok (tg x al S) λY S1=>Wo (sY I xs P) (sf Y S1))(J:∀ al S,I [] al S->Wo P (.nx al S)){xs:Aa D}{al:qE}{S:aq}(h:I xs al S):Wo P (yZ tg sf xs al S):=by
 have:=vU (cw:=id) I turn J h
 rwa [Mt] at this
theorem cH (hs:wW n ds=al)(h:sf al S=.ex v x bo S'):qR n sf ds S=.ex v x S':=by
 subst hs;unfold qR;rw[h];rfl
theorem BA (h:t al S=.ok true S1)(k:sf al S1=.ex v x bo S'):gk t sf sg al S=.ex v x bo S':=by
 simp only[gk,h,a_.toS,Ef];exact k
theorem cB (v:Ad)(x:Ar)(al:qE)(S:aq):jK v (qA (dC (.str x)) qC) al S=.ex v .non al S:=by
 unfold jK;rw[W5 (show dC (.str x) al S=.ok (.str x) S from rfl)]
 show (if ([D.str x]:Aa D).length<=bi then ir.ex v D.non al S else ir.bad)=_
 exact Ay (De rfl)
def exQ (v:Ad)(x:D)(Y:aq):ir->Prop:=λo=>∃ bo,o=.ex v x bo Y
theorem gG (hs:wW n ds=al)(h:Wo (exQ v x S') (sf al S)):qR n sf ds S=.ex v x S':=by
 obtain⟨bo,e⟩:=h;exact cH hs e
theorem lV (e:f al S=.ex v x S')(h:P (.ex v x al S')):Wo P (wR f al S):=by
 unfold Wo wR;rw[e];exact h
theorem AL (e:f al S=.ex v x S')(h:P (.ex v x al S')):Wo P (qZ f tg al S):=by
 unfold Wo qZ;rw[e];exact h
theorem v7 {α:Type}{I:Aa α -> qE->aq->Prop}{xs:Aa α}(h:I xs al S):Wo (sY I xs P) (.nx al S):=h
theorem AM {α:Type}{I:Aa α -> qE->aq->Prop}{xs:Aa α}(h:Wo P (.rt d S)):Wo (sY I xs P) (.rt d S):=h
theorem zI {Q:D->aq->Prop}(hs:wW n ds=al)(h:Wo (qA5 Q) (sf al S)):Ok (qR n sf ds S) Q:=by
 subst hs;unfold qR;unfold Wo at h;cases e:sf (wW n ds) S <;> rw[e] at h <;> first|exact⟨_,_,rfl,h⟩|exact Aq h
end
abbrev Pt:=Am × Am
variable {ps:Aa Pt}
noncomputable def ax (p:Pt):D:=.tup [.int p.1,.int p.2]
def zZ (l:Aa Pt):D:=.tup (l.map ax)
def kP (p:Pt):Aa Am:=[p.1,p.2]
def pK (k:Aa Am):Pt:=(k.getD 0 0,k.getD 1 0)
theorem jE (ps:Aa Pt):ps.map ax=(ps.map kP).map kg:=by
 rw[Il];rfl
def mh (p q:Pt):Au:=_H.lexLt [p.1,p.2] [q.1,q.2]
abbrev Up (l:Aa Pt):Prop:=l.Pairwise λp q=>mh p q=true
def jN (ps:Aa Pt):Aa Pt:=(_S.jp _H.lexLt (ps.map kP)).map pK
theorem bN {ks:Aa (Aa Am)}(h:∀ k∈ks,k∈ps.map kP):ks.map kg=(ks.map pK).map ax/\(ks.map pK).map kP=ks:=by
 have e:∀ k∈ks,kP (pK k)=k:=λk Y=>by
  obtain⟨p,_,rfl⟩:=Ci.mp (h k Y);rfl
 have Q:(ks.map pK).map kP=ks:=by
  rw[Il]
  conv=>rhs;rw[<- Mt ks]
  exact Rj e
 exact⟨by rw[jE,Q],Q⟩
theorem RY {p q:Pt}(h:kP p=kP q):p=q:=by
 injection h with Y Q
 injection Q with Q _
 exact Prod.ext Y Q
theorem cN (ps:Aa Pt):∀ k∈_S.jp _H.lexLt (ps.map kP),k∈ps.map kP:=λk Q=>(_S.vG _S.yG k _).mp Q
theorem cM (ps:Aa Pt)(p:Pt):p∈jN ps↔p∈ps:=by
 unfold jN;constructor
 .intro h
  obtain⟨k,Y,rfl⟩:=Ci.mp h;obtain⟨q,Q,rfl⟩:=Ci.mp (cN ps k Y);exact Q
 .intro h
  exact Ci.mpr ⟨kP p,(_S.vG _S.yG _ _).mpr (Ci.mpr ⟨p,h,rfl⟩),rfl⟩
theorem oS (ps:Aa Pt):Up (jN ps):=by
 have h:=_S.gH _S.yG (ps.map kP);rw[<- (bN (cN ps)).2,Gp] at h;exact h
theorem eR {K:Type}(lt':K->K->Au)(x:K):∀ l:Aa K,(_S.jB lt' x l).length<=l.length+1
 |[]=>by simp[_S.jB]
 |y::l=>by
  have:=eR lt' x l;unfold _S.jB
  split
  .simp
  .split <;> simp <;> fin2
theorem lS {K:Type}(lt':K->K->Au):∀ l:Aa K,(_S.jp lt' l).length<=l.length
 |[]=>by simp[_S.jp]
 |x::l=>by
  have Y:=eR lt' x (_S.jp lt' l);have Q:=lS lt' l;rw[_S.jp,Ba];fin2
theorem GY (ps:Aa Pt):(jN ps).length<=ps.length:=by
 unfold jN;rw[Ap];exact Cs (lS _ _) a8
theorem aJ (ps:Aa Pt)(hl:ps.length<=1000):jM (ps.map ax)=Ab ((jN ps).map ax):=by
 unfold jM jN;rw[<- (bN (cN ps)).1];cases ps with
 |nil=>rfl
 |cons p ps =>
  have Y:wC ((p::ps).map ax)=none:=rfl;rw[Y,jE,uL];have Q:(((p::ps).map kP).all λk=>!k.isEmpty)=true:=by
   rw[Kl,Ca];intro q _;rfl
  have J:(_S.jp _H.lexLt ((p::ps).map kP)).length<=1000:=Cs (lS _ _) (by rw[Ap];exact hl)
  exact Ay (by rw[Q,Cz J];rfl)
def uP (ps:Aa Pt):Aa Pt:=(_S.vZ _H.lexLt (ps.map kP)).map pK
theorem oQ (ps:Aa Pt):∀ k∈_S.vZ _H.lexLt (ps.map kP),k∈ps.map kP:=λk Q=>(_S.bK _).mem_iff.mp Q
theorem A6 (ps:Aa Pt):(uP ps).map kP=_S.vZ _H.lexLt (ps.map kP):=(bN (oQ ps)).2
theorem uJ (ps:Aa Pt):(uP ps).Perm ps:=by
 have h:=(_S.bK (lt':=_H.lexLt) (ps.map kP)).map pK;rw[Il] at h;have e:ps.map (pK∘kP)=ps:=by
  conv=>rhs;rw[<- Mt ps]
  exact Rj λq _=>rfl
 rw[e] at h;exact h
theorem LC (nd:ps.Nodup):Up (uP ps):=by
 have h:=_S.oR _S.yG (ps.map kP);unfold _S.Nf at h;rw[<- A6,Gp] at h;have Q:(uP ps).Nodup:=(uJ ps).nodup_iff.mpr nd;refine(List.pairwise_and_iff.mpr ⟨h,Q⟩).imp λ{a b} ⟨Y,J⟩=>?_;rcases _S.yG.tri Y with z|z
 .exact absurd (RY z).symm J
 .exact z
theorem GW (ps:Aa Pt)(hl:ps.length<=100000):pM (ps.map ax)=Ab ((uP ps).map ax):=by
 unfold uP;rw[<- (bN (oQ ps)).1];unfold pM;cases ps with
 |nil =>
  have U:_S.vZ _S.q_ [] = []:=Zh;have Q:_S.vZ _H.lexLt [] = []:=Zh;show (if ([] : Aa Am).length<=100000 then Ab ((_S.vZ _S.q_ []).map D.int) else none)=_
  rw[U];show Ab [] = Ab ((_S.vZ _H.lexLt []).map kg);rw[Q];rfl
 |cons p ps =>
  have J:wC ((p::ps).map ax)=none:=rfl;rw[J,jE,uL];have Y:(((p::ps).map kP).all λk=>!k.isEmpty)=true:=by
   rw[Kl,Ca];intro q _;rfl
  exact Ay (by rw[Y,Cz (by rw[Ap];exact hl)];rfl)
theorem qCD {Q:D->aq->Prop}{p:Pt}{S:aq}(h:Q (.int p.1) S):Ok (dj (ax p) (.int 0) S) Q:=⟨_,_,rfl,h⟩
theorem qCE {Q:D->aq->Prop}{p:Pt}{S:aq}(h:Q (.int p.2) S):Ok (dj (ax p) (.int 1) S) Q:=⟨_,_,rfl,h⟩
theorem tV (ps:Aa Pt):pl zW (.lst (ps.map ax))=true:=by
 show ((ps.map ax).all (pl 29))=true;rw[Kl];exact Ca.mpr λp _=>rfl
theorem WH:∀ (a b:Aa Pt),xB (a.map ax) (b.map ax)=decide (a=b)
 |[],[]=>rfl
 |[],_::_=>by simp[xB]
 |_::_,[]=>by simp[xB]
 |x::a,y::b=>by
  show ((x.1 == y.1&&(x.2 == y.2&&true))&&xB (a.map ax) (b.map ax))=_;rw[WH a b,Kn];simp[Prod.ext_iff,and_assoc]
theorem OL {Q:D->aq->Prop}{a b:Aa Pt}{S:aq}(h:Q (.bl (decide (a=b))) S):Ok (mj (.lst (a.map ax)) (.lst (b.map ax)) S) Q:=by
 refine⟨_,_,?_,h⟩;unfold mj;rw[tV,tV];show a_.ok (D.bl (xB (a.map ax) (b.map ax))) S=_;rw[WH]
theorem EM {Q:D->aq->Prop}{f:DE}{S:aq}(h:Ok (f al S) λd S1=>∃ ps:Aa Pt,ZY d S1=Ab (ps.map ax)/\ps.length<=1000/\Q (.lst ((jN ps).map ax)) S1):Ok (uH false f al S) Q:=z9 (zO h λd S1 ⟨ps,e,l,q⟩=>⟨_,_,by rw[e,Qj,aJ ps l];rfl,q⟩)
def fy (B:Am)(q:Pt):Prop:=-B<=q.1/\q.1<=B /\ -B<=q.2/\q.2<=B
instance (B:Am)(q:Pt):Jd (fy B q):=by unfold fy;exact inferInstance
structure mx (M:Ai)(l:Aa Pt):Prop where
 ne:l≠[]
 len:l.length<=M
 up:Up l
 box:∀ q∈l,fy 1000 q
theorem F0 {l:Aa Pt}(h:Up l):l.Nodup:=h.imp λ{a b} h e=>by
 subst e;rw[show mh a a=false from _S.yG.irr _] at h
 cases h
theorem BF {M:Ai}(Y:ps≠[])(hl:ps.length<=M)(nd:ps.Nodup)(J:∀ q∈ps,fy 1000 q):mx M (uP ps):=by
 have p:=uJ ps;refine⟨λz=>?_,by rw[p.length_eq];exact hl,LC nd,λq Q=>J q (p.mem_iff.mp Q)⟩
 rw[z] at p;exact Y p.symm.eq_nil
def y7 (S:aq)(p:Ai):Prop:=∃ v f:Am,S[p]? = Ab (.lst [.int v,.int f])
theorem oB {S:aq}(h:y7 S p)(e:S<+:S'):y7 S' p:=by
 obtain⟨J,Y,Q⟩:=h;obtain⟨r,rfl⟩:=e;exact⟨J,Y,by rw[Bo (Bd.mp Q).1];exact Q⟩
structure Kp (p:Ai)(S S':aq):Prop where
 pen:y7 S' p
 len:S.length<=S'.length
 same:∀ m,m<S.length->m≠p->S'[m]? = S[m]?
theorem Kp.refl {S:aq}(h:y7 S p):Kp p S S:=⟨h,Av _,λ_ _ _=>rfl⟩
theorem Kp.trans {S:aq}(a:Kp p S S1)(b:Kp p S1 S2):Kp p S S2:=⟨b.pen,Cs a.len b.len,λm Y Q=>(b.same m (Bi Y a.len) Q).trans (a.same m Y Q)⟩
theorem HN {S:aq}(h:y7 S p):p<S.length:=by
 obtain⟨v,f,e⟩:=h;exact(Bd.mp e).1
theorem Kp.set {j:Ai}{S:aq}(h:Kp p S S')(Y:S.length<=j)(m:MO)(hp:p≠j):Kp p S (S'.set j m):=by
 obtain⟨v,f,e⟩:=h.pen;exact⟨⟨v,f,by rw[Bz (Dw hp)];exact e⟩,by rw[AaS];exact h.len,λi hi Q=>by rw[Bz om];exact h.same i hi Q⟩
end _D
local macro_rules|`(tactic|array_get_dec)=>`(tactic| first | (with_reducible first | apply _D.pO | apply _D.qBa | apply _D.qAa | apply _D.o_2 | apply _D.o_c | apply _D.yU | apply _D.pB | apply _D.OK | apply _D.qBv | apply _D.qBw | apply _D.OO | apply _D.tO | apply _D.qB3 | apply _D.qBs | apply _D.EO | apply _D.YX | apply _D.qCI | apply _D.w_t | apply _D.w_f | apply _D.qBy | apply _D.qBm | apply _D.AN | apply _D.qB0 | apply _D.qCJ | apply _D.qBz | apply _D.qAb | apply _D.qCA | apply _D.qB9 | apply _D.qB7 | apply _D.qBI | apply _D.qCB | apply _D.o_1 | apply _D.qBr | apply _D.qBj | apply _D.qBi | apply _D.qBl | apply _D.EK | apply _D.qBk | apply _D.qCG | apply _D.qBu | apply _D.qBt | apply _D.qB4 | apply _D.qB5 | apply _D.qB2 | apply _D.qBn | apply _D.qBK | apply _D.qB6 | apply _D.qB8 | apply _D.qBx | apply _D.qBg | apply _D.qCD | apply _D.qCE | apply _D.qCF | apply _D.qBh | apply _D.TV | apply _D.EL) | ((with_reducible apply _D.o_v); exact rfl) | ((with_reducible apply _D.qCC); dsimp only [List.set_cons_succ, List.set_cons_zero]) | ((with_reducible (first | apply _D.qBq | apply _D.qBp | apply _D.qBo)); fin2) | ((with_reducible apply And.intro); (first | exact rfl | exact Nat.le_of_ble_eq_true rfl)) | ((with_reducible apply Exists.intro); (with_reducible apply And.intro); exact rfl) | ((with_reducible apply Exists.intro); (with_reducible apply Exists.intro); (with_reducible apply And.intro); exact rfl; dsimp only [List.set_cons_succ, List.set_cons_zero]) | ((with_reducible apply Exists.intro); (with_reducible apply Exists.intro); (with_reducible apply Exists.intro); (with_reducible apply And.intro); exact rfl; dsimp only [List.set_cons_succ, List.set_cons_zero]))
local macro_rules|`(tactic|rfl')=>`(tactic| repeat array_get_dec)
namespace _D
variable {kvs:Aa (_L.bz × D)}{ks:Aa Am}{xs:Aa D}{n:Ai}{i:D}{Q:D->aq->Prop}{S:aq}
def Pn (d:D):Prop:=∃ p,kq d=Ab p
theorem pns:∀ {Y:Aa Yv},jH xs=Ab Y->∀ x∈xs,Pn x:=by
 induction xs with
 |nil=>intro Y _ x hx;cases hx
 |cons d C N =>
  intro Y h x hx;simp only[jH] at h;obtain⟨p,O,J⟩:=Ec.mp h;obtain⟨U,G,_⟩:=Em.mp J;rcases Ax.mp hx with rfl|hx
  .exact⟨p,O⟩
  .exact N G x hx
theorem tW (h:Pn (.tup xs)):∀ x∈xs,Pn x:=by
 obtain⟨p,h⟩:=h;simp only[kq] at h;obtain⟨J,Y,_⟩:=Em.mp h;exact pns Y
theorem c6:∀ {xs:Aa D},(∀ x∈xs,Pn x)->∃ l,jH xs=Ab l
 |[],_=>⟨[],rfl⟩
 |x::xs,h=>by
  obtain⟨l,e⟩:=c6 (xs:=xs) λy Y=>h y (Cd _ Y);obtain⟨q,J⟩:=h x (Dm ..);refine⟨q::l,?_⟩;show (kq x).bind (λx=>(jH xs).map (x::·))=_
  rw[e,J];rfl
theorem kM (h:∀ x∈xs,Pn x):Pn (.tup xs):=by
 obtain⟨l,e⟩:=c6 h;exact⟨.tuple l,by simp only[kq,e,Ko]⟩
theorem _F (h:∀ x∈xs,Pn x):Pn (.lst xs):=by
 obtain⟨l,e⟩:=c6 h;exact⟨.list l,by simp only[kq,e,Ko]⟩
theorem rA (q:Pt):Pn (ax q):=⟨.tuple [.int q.1,.int q.2],rfl⟩
theorem HQ (l:Aa Pt):Pn (zZ l):=kM λx Y=>by
 obtain⟨q,_,rfl⟩:=Ci.mp Y;exact rA q
noncomputable def inR (a b:Am):D->Au
 |.int i=>decide (a<=i/\i<=b)
 |_=>false
def G_:D->Au
 |.int _=>true
 |_=>false
def gu:D->Au
 |.tup _=>true
 |_=>false
theorem sX (h:Pn d)(S:aq):zU [d,.ty "tuple"] S=.ok (.bl (gu d)) S:=by
 obtain⟨p,h⟩:=h;cases d <;> first|kernel_rfl!|simp[kq] at h
theorem f9 {J fb Y:DE}{a b c:Am}(h1:J al S=.ok (.int a) S)(h2:fb al S=.ok (.int b) S)(h3:Y al S=.ok (.int c) S)(q:Q (.bl (decide (a<=b/\b<=c))) S):Ok (wG pq pq J fb Y al S) Q:=by
 refine⟨_,_,?_,q⟩;unfold wG;rw[h1,a_.bind_ok,h2,a_.bind_ok];show (match xW (.bl (decide (a<=b))) S with|some true=>(Y al S).bind λw U=>pq (.int b) w U|some false=>a_.ok (.bl (decide (a<=b))) S|none=>.bad)=_
 by_cases h:a<=b
 .rw[Cz h]
  show (Y al S).bind _=_;rw[h3];simp only[h,true_and];rfl
 .rw[Dr h,Dr λz=>h z.1]
  rfl
abbrev lx:D->Au:=inR (-1000) 1000
def x9:D->Au
 |.tup [a,b]=>lx a&&lx b
 |_=>false
theorem iJ (q:Pt):x9 (ax q)=decide (fy 1000 q):=by
 show (decide (-1000<=q.1/\q.1<=1000)&&decide (-1000<=q.2/\q.2<=1000))=_;rw[<- Bool.decide_and];exact Uk.mpr ⟨λh=>⟨h.1.1,h.1.2,h.2.1,h.2.2⟩,λh=>⟨⟨h.1,h.2.1⟩,h.2.2.1,h.2.2.2⟩⟩
theorem Y0 (h:xs.length=2):x9 (.tup xs)=xs.all lx:=by
 match xs,h with
 |[a,b],_=>simp[x9]
theorem Y1 (h:xs.length≠2):x9 (.tup xs)=false:=by
 match xs,h with
 |[],_=>rfl
 |[_],_=>rfl
 |[_,_],h=>exact absurd rfl h
 |_::_::_::_,_=>rfl
theorem Y2 (h:gu d=false):x9 d=false:=by
 cases d <;> first|rfl|cases h
def nw (ks:Aa (Aa Am)):Au:=(ks.zip (ks.drop 1)).all λp=>_H.lexLt p.1 p.2
def uB:D->Au
 |.tup xs=>decide (1<=xs.length/\xs.length<=40)&&xs.all x9&&(match wF xs with|some ks=>nw ks|none=>false)
 |_=>false
theorem iF {a b:Am}(h:inR a b d=true):∃ i,d=.int i/\a<=i/\i<=b:=by
 cases d <;> first|exact⟨_,rfl,Cf h⟩|cases h
theorem JU (h:x9 d=true):∃ q,d=ax q/\fy 1000 q:=by
 unfold x9 at h
 split at h
 .rw[Bj] at h
  obtain⟨x,rfl,Y⟩:=iF h.1;obtain⟨y,rfl,J⟩:=iF h.2;exact⟨(x,y),rfl,Y.1,Y.2,J.1,J.2⟩
 .cases h
theorem jG:∀ {xs:Aa D},xs.all x9=true->∃ Y:Aa Pt,xs=Y.map ax/\∀ q∈Y,fy 1000 q
 |[],_=>⟨[],rfl,λ_ h=>by cases h⟩
 |d::G,h=>by
  rw[Tf,Bj] at h;obtain⟨Y,rfl,J⟩:=jG h.2;obtain⟨q,rfl,U⟩:=JU h.1;refine⟨q::Y,rfl,λz hz=>?_⟩;rcases Ax.mp hz with rfl|hz
  .exact U
  .exact J z hz
theorem OD (a b:Aa Am)(S:aq):nX (kg a) (kg b) S=.ok (.bl (_H.lexLt a b)) S:=by
 unfold nX kg;simp only[dP]
theorem cR:∀ (ks:Aa (Aa Am)),nw ks=true↔ks.Pairwise (λa b=>_H.lexLt a b=true)
 |[]=>by simp[nw]
 |[a]=>by simp[nw]
 |a::b::r=>by
  have U:=cR (b::r);have e:nw (a::b::r)=(_H.lexLt a b&&nw (b::r)):=by simp[nw]
  rw[e,Bj,U,Ea (a:=a)];constructor
  .rintro⟨Y,J⟩
   refine⟨λx hx=>?_,J⟩;rcases Ax.mp hx with rfl|hx
   .exact Y
   .exact _S.yG.tr Y ((Ea.mp J).1 x hx)
  .rintro⟨Y,J⟩
   exact⟨Y b a8,J⟩
theorem IB (ks Y:Aa (Aa Am)):vV (ks.map kg) (Y.map kg)=(ks.zip Y).map λp=>D.tup [kg p.1,kg p.2]:=by
 unfold vV
 induction ks generalizing Y with
 |nil=>rfl
 |cons k ks J =>
  cases Y with
  |nil=>rfl
  |cons m Y=>exact congrArg (_::·) (J Y)
theorem iI (h:gu d=false):uB d=false:=by
 cases d <;> first|rfl|cases h
theorem JT {M:Ai}(N:M<=40){l:Aa Pt}(h:mx M l):uB (zZ l)=true:=by
 show (decide (1<=(l.map ax).length/\(l.map ax).length<=40)&&(l.map ax).all x9&&(match wF (l.map ax) with|some ks=>nw ks|none=>false))=true
 have G:1<=(l.map ax).length/\(l.map ax).length<=40:=by
  rw[Ap];exact⟨Jn.mpr h.ne,by have:=h.len;lia⟩
 have U:(l.map ax).all x9=true:=by
  rw[Kl];exact Ca.mpr λq Y=>(iJ q).trans (Cz (h.box q Y))
 have J:nw (l.map kP)=true:=by
  rw[cR,Gp];exact h.up
 rw[Cz G,U,jE,uL];exact J
def U_ (d:D):Prop:=Pn d/\uB d=false
theorem IG (xs:Aa D):zY xs (Ab 1) none=xs.drop 1:=by
 unfold zY;have J:_H.cf xs.length 0 (Ab 1)=min 1 xs.length:=rfl;have Y:_H.cf xs.length xs.length none=xs.length:=rfl;rw[J,Y];cases xs with
 |nil=>rfl
 |cons x r=>simp
theorem XY (xs:Aa D)(n:Ai)(h:n<=xs.length):zY xs (Ab (n:Am)) none=xs.drop n:=by
 unfold zY;have J:_H.cf xs.length xs.length none=xs.length:=rfl;have Y:_H.cf xs.length 0 (Ab (n:Am))=min n xs.length:=by
  show (if (n:Am)<0 then ((n:Am)+(xs.length:Am)).toNat else min (n:Am).toNat xs.length)=_
  rw[AT li,Fy]
 rw[J,Y,Of h];exact Fl (by rw[Gg];exact Av _)
theorem W0 (xs:Aa D)(n:Ai)(h:n<=xs.length):zY xs none (Ab (n:Am))=xs.take n:=by
 unfold zY;have J:_H.cf xs.length 0 none=0:=rfl;have Y:_H.cf xs.length xs.length (Ab (n:Am))=min n xs.length:=by
  show (if (n:Am)<0 then ((n:Am)+(xs.length:Am)).toNat else min (n:Am).toNat xs.length)=_
  rw[AT li,Fy]
 rw[J,Y,Of h];rfl
theorem X4 (n:Ai):_H.gy n (-1)=n:=by
 unfold _H.gy _H.gb _H.qv Ha Hb;simp
 split <;> lia
theorem VW {k:Am}{x:D}(h:x∈_H.dz xs k):x∈xs:=by
 unfold _H.dz at h;obtain⟨m,_,e⟩:=Lp.mp h;exact Bw e
theorem EN {a:Aa D}(l:a.length<=1000)(h:Q (.tup (_H.dz a (-1))) S):Ok (sV (.tup a) (.int (-1)) S) Q:=⟨_,_,Ay ⟨by lia,by lia,by rw[X4];unfold bi;lia⟩,h⟩
theorem UQ (xs:Aa D)(i:Ai):zY xs (Ab ((i:Am)+1)) none=xs.drop (i+1):=by
 unfold zY;have Y:_H.cf xs.length 0 (Ab ((i:Am)+1))=min (i+1) xs.length:=by
  have:((i:Am)+1)=((i+1:Ai):Am):=by lia
  rw[this,_H.ol]
 rw[Y,_H.mn];by_cases h:i+1<=xs.length
 .rw[Of h,Fl a8]
 .have:xs.drop (i+1)=[]:=Jp li
  rw[this,Ul li];simp
noncomputable def eL:Ai->Aa D->Aa D
 |_,[]=>[]
 |k,x::xs=>D.tup [.int (k:Am),x]::eL (k+1) xs
theorem JB (xs:Aa D):yV xs=eL 0 xs:=by
 have Y:∀ (xs:Aa D) (k:Ai),(xs.mapIdx λi x=>D.tup [.int ((i+k:Ai):Am),x])=eL k xs:=by
  intro xs
  induction xs with
  |nil=>intro k;rfl
  |cons x xs J =>
   intro k;rw[List.mapIdx_cons];show _::_=D.tup [.int (k:Am),x]::eL (k+1) xs
   congr 1
   .simp
   .rw[<- J (k+1)]
    congr 1
    funext i y
    congr 4
    lia
 have:=Y xs 0;simpa [yV] using this
noncomputable def oq (p q:Pt):Am:=(p.1-q.1)*(p.1-q.1)+(p.2-q.2)*(p.2-q.2)
def qY:Aa Pt->Aa (Pt × Pt)
 |[]=>[]
 |p::Y=>Y.map (λq=>(p,q))++qY Y
def qK (x:Pt × Pt):Am:=oq x.1 x.2
def eh (l:Aa Pt):Aa Am:=(qY l).map qK
def jv (x:Pt × Pt):D:=.tup [ax x.1,ax x.2]
structure GI {β : Type}(key:β->Am)(enc:β->D)(n:Ai)(prs:Aa β)(kvs:Aa (_L.bz × D))(S:aq):Prop where
 dict:S[n]? = Ab (.dct kvs)
 lists:∀ kv∈kvs,∃ (f:Am) (j:Ai),kv=(.inl f,.loc j)/\n<j/\S[j]? = Ab (.lst ((prs.filter λx=>key x == f).map enc))
 nd:(kvs.map (·.2)).Nodup
 keys:kvs.map (·.1)=((prs.map key).foldl Bg []).map Im
set_option tactic.hygienic true in
theorem P7 {l:Aa Am}{k x:Am}:x∈Bg l k↔x∈l\/x=k:=by
 unfold Bg
 split
 .rename_i h
  simp at h;constructor
  .exact λz=>.inl z
  .rintro (z|rfl)
   .exact z
   .exact h
 .simp
theorem fH {l:Aa Am}{k:Am}(h:k∈l):Bg l k=l:=by
 unfold Bg;rw[Ay (by simpa using h)]
theorem pN {l:Aa Am}{k:Am}(h:k ∉ l):Bg l k=l++[k]:=by
 unfold Bg;rw[AT (by simpa using h)]
theorem gT:∀ {l:Aa Am} {x:Am},x∈ks.foldl Bg l↔x∈l\/x∈ks:=by
 induction ks with
 |nil=>intro l x;simp
 |cons k ks Y =>
  intro l x;rw[Oa,Y,P7,Ax];constructor
  .rintro ((h|h)|h)
   .exact .inl h
   .exact .inr (.inl h)
   .exact .inr (.inr h)
  .rintro (h|h|h)
   .exact .inl (.inl h)
   .exact .inl (.inr h)
   .exact .inr h
theorem eP:∀ {l:Aa Am},(ks.foldl Bg l).length<=l.length+ks.length:=by
 induction ks with
 |nil=>intro l;simp
 |cons k ks Y =>
  intro l;rw[Oa];have U:=Y (l:=Bg l k);have J:(Bg l k).length<=l.length+1:=by
   unfold Bg
   split <;> simp
  rw[Ba]
  lia
theorem PB {k:_L.bz}(h:x5 kvs k=Ab d):(k,d)∈kvs:=by
 unfold x5 at h;obtain⟨G,Y,rfl⟩:=Em.mp h;have U:=Og Y;have J:=Iw Y;have N:G.1=k:=by simpa using U
 subst N;exact J
theorem cU {k:_L.bz}(h:x5 kvs k=none):∀ Y∈kvs,Y.1≠k:=by
 unfold x5 at h;have U:=Option.map_eq_none_iff.mp h;intro Y J e;have:=Jz.mp U Y J;simp[e] at this
theorem BW {x:D}{k:_L.bz}(hd:S[n]? = Ab (.dct kvs))(Y:yB i=Ab k):wX (.loc n) [i,x] S=(match x5 kvs k with|some d=>.ok d S|none=>if kvs.length<bi then .ok x (S.set n (.dct (wQ kvs k x))) else .bad):=by
 show (match S[n]? with|some (.dct kvs)=>(match yB i with|some k=>(match x5 kvs k with|some d=>a_.ok d S|none=>if kvs.length<bi then .ok x (S.set n (.dct (wQ kvs k x))) else .bad)|none=>.bad)|_=>.bad)=_
 rw[hd,Y]
theorem L7 {x d:D}{k:_L.bz}(hd:S[n]? = Ab (.dct kvs))(Y:yB i=Ab k)(hv:x5 kvs k=Ab d):wX (.loc n) [i,x] S=.ok d S:=by
 rw[BW hd Y,hv]
theorem L6 {x:D}{k:_L.bz}(hd:S[n]? = Ab (.dct kvs))(Y:yB i=Ab k)(hv:x5 kvs k=none)(hl:kvs.length<bi):wX (.loc n) [i,x] S=.ok x (S.set n (.dct (wQ kvs k x))):=by
 rw[BW hd Y,hv];exact Ay hl
theorem YQ {β γ:Type}{l:Aa β}{f:β->γ}(nd:(l.map f).Nodup){x y:β}(Y:x∈l)(U:y∈l)(e:f x=f y):x=y:=by
 obtain⟨a,G,rfl⟩:=Cp.mp Y;obtain⟨b,J,rfl⟩:=Cp.mp U;have:a=b:=(Pu nd (h₀:=by simpa using G) (h₁:=by simpa using J)).mp (by simpa using e)
 subst this;rfl
set_option tactic.hygienic true in
theorem MN:∀ (ks l:Aa Am),l.Nodup->(ks.foldl Bg l).Nodup:=by
 intro ks
 induction ks with
 |nil=>exact λl h=>h
 |cons k ks G =>
  intro l h;rw[Oa];apply G;unfold Bg
  split
  .exact h
  .rename_i J
   rw[Kr];refine⟨h,by simp,?_⟩
   intro a N b U Y;simp at U J;subst U;subst Y;exact J N
theorem T7 (h:kvs.map (·.1)=(ks.foldl Bg []).map Im):(kvs.map (·.1)).Nodup:=by
 rw[h,Ab1,Gp];exact(MN ks [] Pg).imp λY e=>Y (Vx e)
theorem DB {j:Ai}(h:S[j]? = Ab (.lst xs))(hl:xs.length<bi)(d:D):xQ (.loc j) [d] S=.ok .non (S.set j (.lst (xs++[d]))):=xD (BM h hl ⟨rfl,rfl⟩)
theorem MR {β:Type}{Y:β->Am}{cw:β->D}{J:Aa β}(I:GI Y cw n J kvs S)(x:β)(hl:J.length<bi) :
  ∃ (j:Ai) (S1 S2:aq) (M:Aa (_L.bz × D)),wX (.loc n) [.int (Y x),.loc S.length] (S++[.lst []]) = .ok (.loc j) S1/\mf (.loc j) S1=Ab "list" /\ xQ (.loc j) [cw x] S1=.ok .non S2/\GI Y cw n (J++[x]) M S2/\∀ m,m<n->S2[m]? = S[m]?:=by
 have q:n<S.length:=(Bd.mp I.dict).1;have v:(S++[MO.lst []])[n]? = Ab (.dct kvs):=by rw[Bo q];exact I.dict
 have zb:kvs.length<=J.length:=by
  have p:kvs.length=(kvs.map (·.1)).length:=by simp
  rw[p,I.keys,Ap];have:=eP (ks:=J.map Y) (l:=[]);simpa using this
 have o:kvs.length<bi:=by lia
 have zc:∀ {f:Am} {j:Ai},((Im f:_L.bz),D.loc j)∈kvs->n<j/\j<S.length/\S[j]? = Ab (.lst ((J.filter λx=>Y x == f).map cw)):=by
  intro f j O;obtain⟨C,E,e,p,z⟩:=I.lists _ O;cases e;exact⟨p,(Bd.mp z).1,z⟩
 cases hv:x5 kvs (.inl (Y x)) with
 |some d =>
  have O:=PB hv;obtain⟨f,j,e,p,z⟩:=I.lists _ O;have e1:f=Y x:=by
   have:=congrArg Prod.fst e;exact(Vx this).symm
  have e2:d=.loc j:=congrArg Prod.snd e;subst e1;subst e2;have r:=(Bd.mp z).1;have u:(S++[MO.lst []])[j]? = Ab (.lst ((J.filter λy=>Y y == Y x).map cw)):=by rw[Bo r];exact z
  have s:((J.filter λy=>Y y == Y x).map cw).length<bi:=by
   rw[Ap];have:=Ws (λy=>Y y == Y x) J
   lia
  refine⟨j,S++[MO.lst []],(S++[MO.lst []]).set j (.lst ((J.filter λy=>Y y == Y x).map cw++[cw x])),kvs,?_,?_,?_,⟨?_,?_,I.nd,?_⟩,?_⟩
  .exact L7 v rfl hv
  .exact XD u
  .exact DB u s _
  .rw[Bz li];exact v
  .intro G hk
   obtain⟨C,E,rfl,g,H⟩:=I.lists G hk;refine⟨C,E,rfl,g,?_⟩;have N:=(Bd.mp H).1;by_cases B:j=E
   .subst B
    have t:C=Y x:=Vx (congrArg Prod.fst (YQ (f:=(·.2)) I.nd hk O rfl))
    subst t;rw[Dv (by simp;lia)]
    rw[Ou];simp
   .rw[Bz B,Bo N,H]
    have T:(Y x == C)=false:=by
     rw[Gj];rintro rfl;exact B (D.loc.inj (congrArg Prod.snd (YQ (f:=(·.1)) (T7 I.keys) O hk rfl)))
    rw[Ou];simp[T]
  .rw[Eu,Aa5]
   show _=(Bg ((J.map Y).foldl Bg []) (Y x)).map Im;have U:Y x∈(J.map Y).foldl Bg []:=by
    have:(Im (Y x):_L.bz)∈kvs.map (·.1):=Ci.mpr ⟨_,O,rfl⟩
    rw[I.keys] at this;obtain⟨y,hy,e⟩:=Ci.mp this;cases e;exact hy
   rw[fH U];exact I.keys
  .intro m O
   rw[Bz li,Bo li]
 |none =>
  have L:=cU hv;have w:wQ kvs (.inl (Y x)) (.loc S.length)=kvs++[(.inl (Y x),.loc S.length)]:=by
   unfold wQ;rw[AT];rw[Um];rintro⟨G,hk,e⟩;exact L G hk (by simpa using e)
  have k:Y x ∉ J.map Y:=by
   intro U;have:(Im (Y x):_L.bz)∈kvs.map (·.1):=by
    rw[I.keys];exact Ci.mpr ⟨_,gT.mpr (.inr U),rfl⟩
   obtain⟨G,hk,e⟩:=Ci.mp this;exact L G hk e
  have A:((S++[MO.lst []]).set n (.dct (kvs++[(Im (Y x),.loc S.length)])))[S.length]? = Ab (.lst []):=by
   rw[Bz li];simp
  refine⟨S.length,(S++[MO.lst []]).set n (.dct (kvs++[(.inl (Y x),.loc S.length)])),((S++[MO.lst []]).set n (.dct (kvs++[(.inl (Y x),.loc S.length)]))).set S.length (.lst [cw x]),kvs++[(.inl (Y x),.loc S.length)],?_,?_,?_,⟨?_,?_,?_,?_⟩,?_⟩
  .rw[<- w]
   exact L6 v rfl hv o
  .exact XD A
  .have:(0:Ai)<bi:=by decide
   exact DB A this _
  .rw[Bz li,Dv (by simp;lia)]
  .intro G hk
   rcases Bv.mp hk with hk|hk
   .obtain⟨C,E,rfl,g,H⟩:=I.lists G hk
    have N:=(Bd.mp H).1;refine⟨C,E,rfl,g,?_⟩;rw[Bz li,Bz li,Bo N,H];have T:(Y x == C)=false:=by
     rw[Gj];intro e;exact L _ hk (by rw[e])
    rw[Ou];simp[T]
   .have:G=(.inl (Y x),.loc S.length):=by simpa using hk
    subst this;refine⟨Y x,S.length,rfl,q,?_⟩;rw[Dv a8]
    have:(J.filter λy=>Y y == Y x)=[]:=by
     rw[Vv];intro y hy e;exact k (by rw[<- (by simpa using e:Y y=Y x)];exact Ci.mpr ⟨y,hy,rfl⟩)
    rw[Ou,this];simp
  .rw[Eu,Kr]
   refine⟨I.nd,by simp,?_⟩
   intro a ha b hb c;simp at hb;subst hb;subst c;obtain⟨G,hk,e⟩:=Ci.mp ha;obtain⟨C,E,rfl,g,H⟩:=I.lists G hk;have N:=(Bd.mp H).1;have:E=S.length:=D.loc.inj e
   lia
  .rw[Eu,I.keys,Eu,Aa5]
   show _=(Bg ((J.map Y).foldl Bg []) (Y x)).map Im;have U:Y x ∉ (J.map Y).foldl Bg []:=by
    intro h;rcases gT.mp h with h|h
    .simp at h
    .exact k h
   rw[pN U,Eu];rfl
  .intro m O
   rw[Bz li,Bz li,Bo li]
theorem rK (l:Aa Pt):(qY l).length<=l.length*l.length:=by
 induction l with
 |nil=>simp[qY]
 |cons p l Y =>
  have e:(p::l).length*(p::l).length=l.length*l.length+l.length+l.length+1:=by
   simp only[Ba,Nat.add_mul,Nat.mul_add]
   lia
  rw[e];simp only[qY,Bb,Ap]
  lia
theorem c7 {S':aq}(h:∀ m,m<S.length->S'[m]? = S[m]?):S<+:S':=by
 rw[List.prefix_iff_getElem?];intro i Y;rw[h i Y,An Y]
theorem rL {l:Aa Pt}{x:Pt × Pt}(h:x∈qY l):x.1∈l/\x.2∈l:=by
 induction l with
 |nil=>simp[qY] at h
 |cons p l Y =>
  simp only[qY,Bv,Ci] at h;rcases h with⟨q,J,rfl⟩|h
  .exact⟨Dm ..,Cd _ J⟩
  .exact⟨Cd _ (Y h).1,Cd _ (Y h).2⟩
theorem ZJ {l:Aa Pt}(h:l.length<=41):(qY l).length<4000:=by
 have Y:=rK l;have J:l.length*l.length<=41*41:=Ab9 h h
 lia
def yd (fs:Aa Am):Aa Am:=fs.foldl Bg []
theorem iR {fs:Aa Am}{x:Am}:x∈yd fs↔x∈fs:=by
 unfold yd;rw[gT];simp
theorem MJ (p q:Pt):oq p q=oq q p:=by
 have e:∀ a b:Am,(a-b)*(a-b)=(b-a)*(b-a):=λa b=>by
  rw[<- Int.neg_sub b a,Int.neg_mul_neg]
 unfold oq;rw[e p.1 q.1,e p.2 q.2]
theorem vD (p:Pt)(l:Aa Pt):eh (p::l)=l.map (oq p)++eh l:=by
 unfold eh;rw[qY,Eu,Il];rfl
theorem dJ {l m:Aa Pt}(h:l.Perm m):(eh l).Perm (eh m):=by
 induction h with
 |nil=>exact Mx _
 |cons x h J=>rw[vD,vD];exact(h.map _).append J
 |swap x y l =>
  rw[vD,vD,vD,vD,Ds,Ds,MJ y x,Jv,Jv];refine List.Perm.cons _ ?_;rw[<- Cg,<- Cg];exact Ju _ Kj
 |trans _ _ U Y=>exact U.trans Y
end _D
namespace _K
open _L _D
noncomputable def top (i:Ai):Et:=Sm.main.body.getD i (.Pass ⟨0,0,0,0⟩)
structure Cl where
 (FarError NoPoint NoLot NoNumber NoCircle NoMarks NoFars NoText NoLine NoDeed Alike TooMany:Af)
noncomputable def zX (c:Cl):Aa Af:=[c.NoPoint,c.NoLot,c.NoNumber,c.NoCircle,c.NoMarks,c.NoFars,c.NoText,c.NoLine,c.NoDeed,c.Alike,c.TooMany]
noncomputable def j8 (c:Cl):Aa Ad:=[.ref c.NoPoint,.ref c.NoLot,.ref c.NoNumber,.ref c.NoCircle,.ref c.NoMarks,.ref c.NoFars,.ref c.NoText,.ref c.NoLine,.ref c.NoDeed,.ref c.Alike]
noncomputable abbrev pr (c:Cl):Aa (Ar × Af):=[("FarError",c.FarError),("NoPoint",c.NoPoint),("NoLot",c.NoLot),("NoNumber",c.NoNumber),("NoCircle",c.NoCircle),("NoMarks",c.NoMarks),("NoFars",c.NoFars),("NoText",c.NoText),("NoLine",c.NoLine),("NoDeed",c.NoDeed),("Alike",c.Alike),("TooMany",c.TooMany)]
noncomputable abbrev se (c:Cl):Aa (Ar × Af):=[("NoPoint",c.NoPoint),("NoLot",c.NoLot),("NoNumber",c.NoNumber),("NoCircle",c.NoCircle),("NoMarks",c.NoMarks),("NoFars",c.NoFars),("NoText",c.NoText),("NoLine",c.NoLine),("NoDeed",c.NoDeed)]
noncomputable abbrev sk:Aa (Ar × Am):=[("LEAST_NUMBER",-1000),("MOST_NUMBER",1000),("MOST_POINTS",40)]
noncomputable abbrev bl:Aa Ar:=["ValueError","all","bool","enumerate","int","isinstance","len","list","max","min","range","repr","set","sorted","str","tuple","zip"]
noncomputable abbrev tab:Aa (Ar × Ai × Aa Ar):=[(("is_whole" : Ar),(14:Ai),[("thing" : Ar)]),(("is_within" : Ar),(15:Ai),[("thing" : Ar),("least" : Ar),("most" : Ar)]),(("is_rising" : Ar),(16:Ai),[("some" : Ar)]),(("is_point" : Ar),(21:Ai),[("thing" : Ar)]),(("is_lot" : Ar),(22:Ai),[("thing" : Ar)]),(("need_point" : Ar),(23:Ai),[("thing" : Ar)]),(("need_lot" : Ar),(24:Ai),[("thing" : Ar)]),(("far_between" : Ar),(25:Ai),[("one" : Ar),("other" : Ar)]),(("pairs_by_far" : Ar),(26:Ai),[("points" : Ar)]),(("first_like" : Ar),(28:Ai),[("lot" : Ar)]),(("need_unlike" : Ar),(29:Ai),[("lot" : Ar)]),(("are_unlike" : Ar),(30:Ai),[("points" : Ar)]),(("fits" : Ar),(31:Ai),[("lot" : Ar),("point" : Ar)]),(("_law_cell" : Ar),(33:Ai),[("_law_script" : Ar),("_law_k" : Ar)]),(("_law_pen" : Ar),(34:Ai),[("_law_cell_here" : Ar)]),(("_law_draw" : Ar),(35:Ai),[("_law_pen_here" : Ar),("_law_many" : Ar)]),(("_law_whole" : Ar),(36:Ai),[("_law_thing" : Ar)]),(("_law_same" : Ar),(37:Ai),[("_law_found" : Ar),("_law_due" : Ar)]),(("_law_kind_of" : Ar),(38:Ai),[("_law_e" : Ar)]),(("_law_point" : Ar),(39:Ai),[("_law_pen_here" : Ar),("_law_wide" : Ar)]),(("_law_lot" : Ar),(40:Ai),[("_law_pen_here" : Ar),("_law_most" : Ar)]),(("_law_is_point" : Ar),(41:Ai),[("_law_thing" : Ar)]),(("_law_is_lot" : Ar),(42:Ai),[("_law_thing" : Ar)]),(("_law_no_point" : Ar),(43:Ai),[("_law_pen_here" : Ar),("_law_point_here" : Ar)]),(("_law_no_lot" : Ar),(44:Ai),[("_law_pen_here" : Ar),("_law_lot_here" : Ar)]),(("_law_far" : Ar),(45:Ai),[("_law_one" : Ar),("_law_other" : Ar)]),(("_law_pairs" : Ar),(46:Ai),[("_law_lot_here" : Ar)]),(("_law_first_like" : Ar),(47:Ai),[("_law_lot_here" : Ar)]),(("_law_kept" : Ar),(48:Ai),[("_law_points" : Ar)]),(("_law_came" : Ar),(49:Ai),[("_law_lot_here" : Ar),("_law_point_here" : Ar)]),(("law" : Ar),(50:Ai),[("_law_script" : Ar)])]
abbrev Txt (K:Ah)(mg:ah)(c:Cl):Prop:=yn K mg top tab bl (pr c) (se c) (j8 c) (zX c) sk
abbrev E5:Aa Ar:=[]
noncomputable abbrev J_ (c:Cl):Aa (Ar × Af × Aa Ar):=[("Alike",c.Alike,["one","two","three","four"])]
theorem WM:zr (RQ (top 11)) ["one","two","three","four"]:=⟨λq kV Q U G Y N J h=>by obtain⟨_,_,_,_,_,rfl⟩:=_d h;rfl,kd,.cons (.cons (.cons (.cons (.nil))))⟩
abbrev vc (a:DE):=qA a qC
abbrev vd (a b:DE):=qA a (vc b)
abbrev vf (a b c:DE):=qA a (vd b c)
abbrev vg (a b c d:DE):=qA a (vf b c d)
abbrev ic (i:Int):DE:=dC (.int i)
abbrev ku:DS:=qW (vX (qH zU (vd (qB 0) (dC (.ty "int")))) (QP (qH zU (vd (qB 0) (dC (.ty "bool"))))))
@[irreducible] def ge:DF:=sh (qR 1 ku)
theorem pU:ge=qR 1 ku:=by delta ge;exact zQ _
abbrev jx:DS:=qW (vX (qP 1 ge (vc (qB 0))) (wG pq pq (qB 1) (qB 0) (qB 2)))
@[irreducible] def ft:DF:=sh (qR 3 jx)
theorem kY:ft=qR 3 jx:=by delta ft;exact zQ _
abbrev jy:DS:=qW (qH (kH false) (vc (zH false [none,none] (xU (nO (vd (qB 0) (lz (qB 0) (zS (ic 1)) xA)))) (mq 2 (zE (bx 0) (zE (bx 1) wB))) xS (zN (d2 nX (qB 0) (qB 1))))))
@[irreducible] def fu:DF:=sh (qR 1 jy)
theorem kX:fu=qR 1 jy:=by delta fu;exact zQ _
abbrev ky:DS:=qS (gk (uN (wA (ef (qH zU (vd (qB 0) (dC (.ty "tuple")))))) (ef (d2 ni (qH xJ (vc (qB 0))) (ic 2)))) (qW (dC (.bl false))) zP) (qW (qH (kH false) (vc (zH false [none] (mr (qB 0)) (bx 0) xS (zN (qP 3 (ng ft) (vf (qB 0) (dC (.int (-1000))) (ic 1000))))))))
@[irreducible] def fq:DF:=sh (qR 1 ky)
theorem pT:fq=qR 1 ky:=by delta fq;exact zQ _
abbrev mv:DS:=qS (gk (uN (wA (ef (qH zU (vd (qB 0) (dC (.ty "tuple")))))) (wA (ef (wG pq pq (ic 1) (qH xJ (vc (qB 0))) (ic 40))))) (qW (dC (.bl false))) zP) (qW (vX (qH (kH false) (vc (zH false [none] (mr (qB 0)) (bx 0) xS (zN (qP 1 (ng fq) (vc (qB 0))))))) (qP 1 fu (vc (qB 0)))))
@[irreducible] def ji:DF:=sh (qR 1 mv)
theorem fN:ji=qR 1 mv:=by delta ji;exact zQ _
abbrev iy (c:Cl):DS:=gk (wA (ef (qP 1 fq (vc (qB 0))))) (jK (.ref c.NoPoint) (vc (dC (.str "a point is needed")))) zP
@[irreducible] def c_ (c:Cl):DF:=sh (qR 1 (iy c))
theorem vJ (c:Cl):c_ c=qR 1 (iy c):=by delta c_;exact zQ _
abbrev kr (c:Cl):DS:=gk (wA (ef (qP 1 ji (vc (qB 0))))) (jK (.ref c.NoLot) (vc (dC (.str "a lot is needed")))) zP
@[irreducible] def fj (c:Cl):DF:=sh (qR 1 (kr c))
theorem uM (c:Cl):fj c=qR 1 (kr c):=by delta fj;exact zQ _
abbrev ig:DS:=qS (qZ (d2 wM (d2 dj (qB 0) (ic 0)) (d2 dj (qB 1) (ic 0))) (bx 2)) (qS (qZ (d2 wM (d2 dj (qB 0) (ic 1)) (d2 dj (qB 1) (ic 1))) (bx 3)) (qW (d2 zB (d2 wL (qB 2) (qB 2)) (d2 wL (qB 3) (qB 3)))))
@[irreducible] def dn:DF:=sh (qR 4 ig)
theorem j6:dn=qR 4 ig:=by delta dn;exact zQ _
abbrev gv:DS:=qS (qZ eB (bx 1)) (qS (yH (sR (vc (qB 0))) (mq 2 (zE (bx 2) (zE (bx 3) wB))) (yH (wU (lz (qB 0) (zS (d2 zB (qB 2) (ic 1))) xA)) (bx 4) (wR (qr "list" xQ (qr "dict" wX (qB 1) (vd (qP 2 dn (vd (qB 3) (qB 4))) (gO qC))) (vc (zM (vd (qB 3) (qB 4)))))))) (qW (qB 1)))
@[irreducible] def b_:DF:=sh (qR 5 gv)
theorem uQ:b_=qR 5 gv:=by delta b_;exact zQ _
abbrev i_ (c:Cl):DS:=qS (wR (qP 1 (fj c) (vc (qB 0)))) (qS (yH (jX (qP 1 b_ (vc (qB 0)))) (bx 1) (gk (ef (d2 yh (qH xJ (vc (qB 1))) (ic 1))) (qW (d2 zB (d2 dj (qB 1) (ic 0)) (d2 dj (qB 1) (ic 1)))) zP)) (qW (dC .non)))
@[irreducible] def dc (c:Cl):DF:=sh (qR 2 (i_ c))
theorem vI (c:Cl):dc c=qR 2 (i_ c):=by delta dc;exact zQ _
abbrev h_ (c:Cl):DS:=qS (qZ (qP 1 (dc c) (vc (qB 0))) (bx 1)) (gk (ef (d2 bC (qB 1) (dC .non))) (qS (qZ (qB 1) (mq 4 (zE (bx 2) (zE (bx 3) (zE (bx 4) (zE (bx 5) wB)))))) (lR (.ref c.Alike) ["one","two","three","four"] (vg (qB 2) (qB 3) (qB 4) (qB 5)))) zP)
@[irreducible] def cb (c:Cl):DF:=sh (qR 6 (h_ c))
theorem wK (c:Cl):cb c=qR 6 (h_ c):=by delta cb;exact zQ _
abbrev ja:DS:=qW (qH (kH false) (vc (zH false [none] (xU (jX (qP 1 b_ (vc (qB 0))))) (bx 0) xS (zN (d2 mj (qH xJ (vc (qB 0))) (ic 1))))))
@[irreducible] def ez:DF:=sh (qR 1 ja)
theorem jU:ez=qR 1 ja:=by delta ez;exact zQ _
abbrev rg (c:Cl):DS:=qS (wR (qP 1 (cb c) (vc (qB 0)))) (qS (wR (qP 1 (c_ c) (vc (qB 1)))) (qW (vX (d2 jA (qB 1) (qB 0)) (qP 1 ez (vc (d2 zB (qB 0) (zM (vc (qB 1)))))))))
@[irreducible] def fx (c:Cl):DF:=sh (qR 2 (rg c))
theorem jV (c:Cl):fx c=qR 2 (rg c):=by delta fx;exact zQ _
abbrev ke:DS:=qS (gk (ef (d2 wu (qB 1) (qH xJ (vc (qB 0))))) (qW (d2 dj (qB 0) (qB 1))) zP) (qW (ic 0))
@[irreducible] def d_:DF:=sh (qR 2 ke)
theorem kS:d_=qR 2 ke:=by delta d_;exact zQ _
abbrev kz:DS:=qW (gO (vd (qB 0) (qH QX (vc (d2 yi (qB 0) (d2 kK (ic 10) (ic 18)))))))
@[irreducible] def gf:DF:=sh (qR 1 kz)
theorem pS:gf=qR 1 kz:=by delta gf;exact zQ _
abbrev ka:DS:=qS (gk (ef (d2 mj (d2 dj (qB 0) (ic 1)) (ic 1))) (qS (qZ (d2 uO (d2 dj (qB 0) (ic 0)) (qB 1)) (bx 2)) (qS (qZ (d2 kI (d2 dj (qB 0) (ic 0)) (qB 1)) (sv (qB 0) (ic 0) yL)) (qW (qB 2)))) zP) (qS (qZ (d2 uO (d2 zB (d2 wL (d2 uO (d2 dj (qB 0) (ic 0)) (ic 2147483629)) (ic 48271)) (ic 11)) (ic 2147483629)) (sv (qB 0) (ic 0) yL)) (qW (d2 uO (d2 kI (d2 uO (d2 zB (d2 wL (d2 dj (qB 0) (ic 0)) (d2 dj (qB 0) (ic 0))) (d2 wL (ic 40692) (d2 dj (qB 0) (ic 0)))) (ic 2147483647)) (ic 8)) (qB 1))))
@[irreducible] def be:DF:=sh (qR 3 ka)
theorem kT:be=qR 3 ka:=by delta be;exact zQ _
abbrev jc:DS:=qW (vX (qH zU (vd (qB 0) (dC (.ty "int")))) (QP (qH zU (vd (qB 0) (dC (.ty "bool"))))))
@[irreducible] def e_:DF:=sh (qR 1 jc)
theorem jT:e_=qR 1 jc:=by delta e_;exact zQ _
abbrev cy (cc:DF):DS:=qS (gk (ef (d2 ul (qB 1) (dC .non))) (qW (d2 ul (qB 0) (dC .non))) zP) (qS (gk (uN (ef (qH zU (vd (qB 1) (dC (.ty "tuple"))))) (ef (qH zU (vd (qB 1) (dC (.ty "list")))))) (qS (gk (uN (ef (d2 ni (qH zU (vd (qB 0) (dC (.ty "tuple")))) (qH zU (vd (qB 1) (dC (.ty "tuple")))))) (ef (d2 ni (qH zU (vd (qB 0) (dC (.ty "list")))) (qH zU (vd (qB 1) (dC (.ty "list"))))))) (qW (dC (.bl false))) zP) (qS (gk (ef (d2 ni (qH xJ (vc (qB 0))) (qH xJ (vc (qB 1))))) (qW (dC (.bl false))) zP) (qS (yH (nO (vd (qB 0) (qB 1))) (mq 2 (zE (bx 2) (zE (bx 3) wB))) (gk (wA (ef (qP 2 cc (vd (qB 2) (qB 3))))) (qW (dC (.bl false))) zP)) (qW (dC (.bl true)))))) zP) (qS (gk (ef (qH zU (vd (qB 1) (dC (.ty "str"))))) (qW (vX (qH zU (vd (qB 0) (dC (.ty "str")))) (d2 mj (qB 0) (qB 1)))) zP) (qW (vX (d2 mj (qH zU (vd (qB 0) (dC (.ty "bool")))) (qH zU (vd (qB 1) (dC (.ty "bool"))))) (vX (qH zU (vd (qB 0) (dC (.ty "int")))) (d2 mj (qB 0) (qB 1)))))))
def n6:Ai->DF
 |0=>λ_ _=>.bad
 |n+1=>qR 4 (cy (n6 n))
@[irreducible] def cc:DF:=sh (n6 4)
theorem kW:cc=n6 4:=by delta cc;exact zQ _
abbrev gw (c:Cl):DS:=qS (qZ (xN (vg (qH (xE (zX c)) (vd (qB 0) (dC (.obj c.NoPoint)))) (qH (xE (zX c)) (vd (qB 0) (dC (.obj c.NoLot)))) (qH (xE (zX c)) (vd (qB 0) (dC (.obj c.NoNumber)))) (qH (xE (zX c)) (vd (qB 0) (dC (.obj c.NoCircle)))))) (bx 1)) (qS (qZ (d2 zB (qB 1) (xN (vg (qH (xE (zX c)) (vd (qB 0) (dC (.obj c.NoMarks)))) (qH (xE (zX c)) (vd (qB 0) (dC (.obj c.NoFars)))) (qH (xE (zX c)) (vd (qB 0) (dC (.obj c.NoText)))) (qH (xE (zX c)) (vd (qB 0) (dC (.obj c.NoLine))))))) (bx 1)) (qS (qZ (d2 zB (qB 1) (xN (vf (qH (xE (zX c)) (vd (qB 0) (dC (.obj c.NoDeed)))) (qH (xE (zX c)) (vd (qB 0) (dC (.obj c.Alike)))) (qH (xE (zX c)) (vd (qB 0) (dC (.obj c.TooMany))))))) (bx 1)) (qS (gk (uN (wA (ef (qH (xE (zX c)) (vd (qB 0) (dC (.ty "ValueError")))))) (ef (d2 ni (qr "list" mZ (qB 1) (vc (dC (.bl true)))) (ic 1)))) (qW (dC (.str "other"))) zP) (qS (gk (ef (qH (xE (zX c)) (vd (qB 0) (dC (.obj c.Alike))))) (qW (xN (qA (dC (.str "alike")) (vg (mB [c.Alike] "one" (qB 0)) (mB [c.Alike] "two" (qB 0)) (mB [c.Alike] "three" (qB 0)) (mB [c.Alike] "four" (qB 0)))))) zP) (qS (gk (ef (qH (xE (zX c)) (vd (qB 0) (dC (.obj c.TooMany))))) (qW (xN (vf (dC (.str "many")) QN QN))) zP) (qS (qZ (xN (qA (dC (.str "point")) (qA (dC (.str "lot")) (qA (dC (.str "number")) (qA (dC (.str "circle")) (qA (dC (.str "marks")) (vg (dC (.str "fars")) (dC (.str "text")) (dC (.str "line")) (dC (.str "deed"))))))))) (bx 2)) (qW (d2 dj (qB 2) (qr "list" t7 (qB 1) (vc (dC (.bl true))))))))))))
@[irreducible] def bq (c:Cl):DF:=sh (qR 3 (gw c))
theorem w8 (c:Cl):bq c=qR 3 (gw c):=by delta bq;exact zQ _
abbrev jd:DS:=qW (zM (vd (d2 wM (qP 2 be (vd (qB 0) (d2 zB (d2 wL (ic 2) (qB 1)) (ic 1)))) (qB 1)) (d2 wM (qP 2 be (vd (qB 0) (d2 zB (d2 wL (ic 2) (qB 1)) (ic 1)))) (qB 1))))
@[irreducible] def bp:DF:=sh (qR 2 jd)
theorem jS:bp=qR 2 jd:=by delta bp;exact zQ _
abbrev k_:DS:=qS (kO 2 3 (vd (qP 2 be (vd (qB 0) (ic 7))) (d2 zB (ic 1) (qP 2 be (vd (qB 0) (qB 1)))))) (qS (qZ (zM (vd (d2 dj (xN (qA (ic 1) (vg (ic 2) (ic 4) (ic 12) (ic 1000)))) (qP 2 be (vd (qB 0) (ic 5)))) (qP 2 bp (vd (qB 0) (ic 400))))) (mq 2 (zE (bx 4) (zE (bx 5) wB)))) (qS (qZ (d2 zB (ic 1) (qP 2 be (vd (qB 0) (ic 9)))) (bx 6)) (qS (qZ (zH false [none,Ab 0,Ab 4] (xU (wZ (vc (qB 3)))) (bx 0) xS (zN (qP 2 (ng bp) (vd (qB 1) (qB 2))))) (bx 7)) (qS (gk (ef (d2 mj (qB 2) (ic 0))) (qZ (zH false [none,Ab 5] (xU (wZ (vc (qB 3)))) (bx 0) xS (zN (zM (vd (d2 zB (d2 dj (qB 1) (ic 0)) (d2 uO (qB 0) (ic 4))) (d2 zB (d2 dj (qB 1) (ic 1)) (d2 kI (qB 0) (ic 4))))))) (bx 7)) zP) (qS (gk (ef (d2 mj (qB 2) (ic 1))) (qZ (zH false [none,Ab 5,Ab 6] (xU (wZ (vc (qB 3)))) (bx 0) xS (zN (zM (vd (d2 zB (d2 dj (qB 1) (ic 0)) (d2 wL (qB 2) (qB 0))) (d2 wM (d2 dj (qB 1) (ic 1)) (qB 0)))))) (bx 7)) zP) (qS (gk (ef (d2 mj (qB 2) (ic 2))) (qS (qZ (lz (qB 7) xA (zS (d2 zB (ic 1) (d2 kI (qB 3) (ic 4))))) (bx 8)) (qS (qZ (d2 zB (d2 zB (qB 8) (zH false [none,none] (mr (qB 8)) (mq 2 (zE (bx 0) (zE (bx 1) wB))) xS (zN (zM (vd (d2 wM (ic 0) (qB 1)) (qB 0)))))) (zH false [none,none] (mr (qB 8)) (mq 2 (zE (bx 0) (zE (bx 1) wB))) xS (zN (zM (vd (d2 wM (ic 0) (qB 0)) (d2 wM (ic 0) (qB 1))))))) (bx 7)) (qZ (d2 zB (qB 7) (zH false [none,none] (mr (qB 8)) (mq 2 (zE (bx 0) (zE (bx 1) wB))) xS (zN (zM (vd (qB 1) (d2 wM (ic 0) (qB 0))))))) (bx 7)))) zP) (qW (qH j9 (vc (uH false (lz (qB 7) xA (zS (qB 3)))))))))))))
@[irreducible] def gg:DF:=sh (qR 9 k_)
theorem pR:gg=qR 9 k_:=by delta gg;exact zQ _
abbrev gj:DS:=qS (gk (uN (wA (ef (qH zU (vd (qB 0) (dC (.ty "tuple")))))) (ef (d2 ni (qH xJ (vc (qB 0))) (ic 2)))) (qW (dC (.bl false))) zP) (qW (qH (kH false) (vc (zH false [none] (mr (qB 0)) (bx 0) xS (zN (vX (qP 1 (ng e_) (vc (qB 0))) (wG pq pq (d1 kJ (ic 1000)) (qB 0) (ic 1000))))))))
@[irreducible] def cx:DF:=sh (qR 1 gj)
theorem uE:cx=qR 1 gj:=by delta cx;exact zQ _
abbrev ik:DS:=qS (gk (uN (wA (ef (qH zU (vd (qB 0) (dC (.ty "tuple")))))) (uN (wA (ef (wG pq pq (ic 1) (qH xJ (vc (qB 0))) (ic 40)))) (wA (ef (qH (kH false) (vc (zH false [none] (mr (qB 0)) (bx 0) xS (zN (qP 1 (ng cx) (vc (qB 0))))))))))) (qW (dC (.bl false))) zP) (qW (d2 mj (qH gS (vc (qB 0))) (uH false (qB 0))))
@[irreducible] def dy:DF:=sh (qR 1 ik)
theorem uZ:dy=qR 1 ik:=by delta dy;exact zQ _
abbrev gh:DS:=qS (kO 2 3 (vd (qP 2 be (vd (qB 0) (ic 12))) (qP 2 be (vd (qB 0) (ic 2))))) (qS (qZ (d2 dj (xN (qA (ic 1001) (qA (d1 kJ (ic 1001)) (qA (dC (.bl true)) (qA (dC (.bl false)) (qA (dC .non) (qA (dC (.str "0")) (vg (zM (vc (ic 0))) (d2 kK (ic 10) (ic 29)) (xN (vc (ic 0))) bQ)))))))) (qP 2 be (vd (qB 0) (ic 10)))) (bx 4)) (qS (qZ (d2 zB (d2 zB (lz (qB 1) xA (zS (qB 3))) (zM (vc (qB 4)))) (lz (qB 1) (zS (d2 zB (qB 3) (ic 1))) xA)) (bx 5)) (qS (qZ (xN (qA (qB 5) (qA (qB 5) (qA (qB 5) (qA (qB 5) (qA (lz (qB 1) xA (zS (ic 1))) (qA (d2 zB (qB 1) (zM (vc (ic 0)))) (vg (qH gS (vc (qB 1))) (dC .non) (ic 7) (dC (.str "0,0")))))))))) (bx 6)) (qW (d2 dj (d2 zB (qB 6) (xN (vd bQ (zM (vc (qB 1)))))) (qB 2))))))
@[irreducible] def ce:DF:=sh (qR 7 gh)
theorem uF:ce=qR 7 gh:=by delta ce;exact zQ _
abbrev ii:DS:=qS (kO 2 3 (vd (qP 2 be (vd (qB 0) (ic 14))) (qP 2 be (vd (qB 0) (qH xJ (vc (qB 1))))))) (qS (qZ (d2 zB (d2 zB (lz (qB 1) xA (zS (qB 3))) (zM (vc (qP 2 ce (vd (qB 0) (d2 dj (qB 1) (qB 3))))))) (lz (qB 1) (zS (d2 zB (qB 3) (ic 1))) xA)) (bx 4)) (qS (qZ (xN (qA (qB 4) (qA (qB 4) (qA (qH gS (vc (qB 1))) (qA (QQ (qB 1) (d1 kJ (ic 1))) (qA (d2 zB (qB 1) (lz (qB 1) (zS (d1 kJ (ic 1))) xA)) (qA (d2 zB (lz (qB 1) xA (zS (d2 zB (qB 3) (ic 1)))) (lz (qB 1) (zS (qB 3)) xA)) (qA (zM qC) (vg (dC .non) (ic 7) (dC (.str "0,0")) bQ))))))))) (bx 5)) (qS (qZ (qH j9 (vc (zH false [none] (xU (wZ (vc (ic 41)))) (bx 0) xS (zN (zM (vd (d2 kI (qB 0) (ic 8)) (d2 uO (qB 0) (ic 8)))))))) (bx 6)) (qS (qZ (d2 dj (d2 zB (qB 5) (xN (vf (zM (vc (qB 1))) (qB 6) (d2 dj (qB 1) (ic 0))))) (qB 2)) (bx 7)) (qW (yk (ef (qP 1 dy (vc (qB 7)))) (zM qC) (qB 7)))))))
@[irreducible] def dw:DF:=sh (qR 8 ii)
theorem j3:dw=qR 8 ii:=by delta dw;exact zQ _
abbrev lg:DS:=qW (d2 zB (d2 kK (d2 wM (d2 dj (qB 0) (ic 0)) (d2 dj (qB 1) (ic 0))) (ic 2)) (d2 kK (d2 wM (d2 dj (qB 0) (ic 1)) (d2 dj (qB 1) (ic 1))) (ic 2)))
@[irreducible] def fr:DF:=sh (qR 2 lg)
theorem pQ:fr=qR 2 lg:=by delta fr;exact zQ _
abbrev ev:DS:=qS (qZ (xN qC) (bx 1)) (qS (yH (wZ (vc (qH xJ (vc (qB 0))))) (bx 2) (qZ (d2 zB (qB 1) (zH false [none,Ab 2,Ab 0] (mr (lz (qB 0) (zS (d2 zB (qB 2) (ic 1))) xA)) (bx 0) xS (zN (zM (vd (d2 dj (qB 2) (qB 1)) (qB 0)))))) (bx 1))) (qW (qB 1)))
@[irreducible] def df:DF:=sh (qR 3 ev)
theorem jR:df=qR 3 ev:=by delta df;exact zQ _
abbrev cg:DS:=qS (kO 1 2 (vd eB (gO qC))) (qS (yH (wU (qP 1 df (vc (qB 0)))) (mq 2 (zE (bx 3) (zE (bx 4) wB))) (qS (qZ (qP 2 fr (vd (qB 3) (qB 4))) (bx 5)) (gk (ef (d2 mD (qB 5) (qB 1))) (wR (qr "list" xQ (qB 2) (vc (d2 zB (d2 bD (qB 1) (qB 5)) (zM (vd (qB 3) (qB 4))))))) (qZ (zM (vd (qB 3) (qB 4))) (sv (qB 1) (qB 5) yL))))) (qW (mV (vc (qB 2)) (dC .non))))
@[irreducible] def bh:DF:=sh (qR 6 cg)
theorem vH:bh=qR 6 cg:=by delta bh;exact zQ _
abbrev j_:DS:=qS (qZ (zM qC) (bx 1)) (qS (yH (wU (qB 0)) (bx 2) (qS (qZ (qH j9 (vc (qH gA (vc (d2 zB (qB 1) (zM (vc (qB 2)))))))) (bx 3)) (gk (mU (ef (d2 jA (qB 2) (qB 1))) (ef (d2 ul (qP 1 bh (vc (qB 3))) (dC .non)))) (qZ (qB 3) (bx 1)) zP))) (qW (qB 1)))
@[irreducible] def fv:DF:=sh (qR 4 j_)
theorem kU:fv=qR 4 j_:=by delta fv;exact zQ _
abbrev cz (c:Cl):DS:=mL 3 2 (j8 c) (qW (qP 2 (fx c) (vd (qB 0) (qB 1)))) (qW (qP 1 (bq c) (vc (qB 2))))
@[irreducible] def br (c:Cl):DF:=sh (qR 3 (cz c))
theorem vW (c:Cl):br c=qR 3 (cz c):=by delta br;exact zQ _
abbrev rf (c:Cl):DS:=qS (yH (wU (d2 zB (xN (vc (qP 2 d_ (vd (qB 0) (ic 0))))) (lz (qB 0) (zS (ic 1)) (zS (ic 4))))) (bx 1) (qS (qZ (qP 1 gf (vc (qB 1))) (bx 2)) (qS (qZ (zM (vd (qP 2 gg (vd (qB 2) (ic 40))) (d2 dj (xN (vg (ic 2) (ic 5) (ic 20) (ic 1000))) (qP 2 be (vd (qB 2) (ic 4)))))) (mq 2 (zE (bx 3) (zE (bx 4) wB)))) (qS (qZ (qP 1 fv (vc (zH false [none,Ab 2,Ab 4] (xU (wZ (vc (d2 zB (ic 1) (qP 2 be (vd (qB 2) (ic 30))))))) (bx 0) xS (zN (qP 2 (ng bp) (vd (qB 1) (qB 2))))))) (bx 6)) (qS (qZ (zM (vg (d2 dj (qB 6) (ic 0)) (d2 dj (qB 6) (d1 kJ (ic 1))) (qP 2 dw (vd (qB 2) (qB 6))) (qP 2 ce (vd (qB 2) (d2 dj (qB 6) (ic 0)))))) (mq 4 (zE (bx 7) (zE (bx 8) (zE (bx 9) (zE (bx 10) wB)))))) (qS (qZ (gO (qA (qB 7) (vg (zM (vd (d2 dj (qB 8) (ic 0)) (d2 dj (qB 7) (ic 1)))) (zM (vd (d2 dj (qB 7) (ic 0)) (d2 dj (qB 8) (ic 1)))) (qP 2 bp (vd (qB 2) (qB 4))) (qP 2 bp (vd (qB 2) (ic 1000)))))) (bx 11)) (qS (wR (qr "list" xQ (qB 11) (vc (zM (vd (qH bT (vd (d1 kJ (ic 1000)) (qH bU (vd (ic 1000) (d2 wM (d2 wL (ic 2) (d2 dj (qB 7) (ic 0))) (d2 dj (qB 8) (ic 0))))))) (qH bT (vd (d1 kJ (ic 1000)) (qH bU (vd (ic 1000) (d2 wM (d2 wL (ic 2) (d2 dj (qB 7) (ic 1))) (d2 dj (qB 8) (ic 1)))))))))))) (qS (yH (wU (d2 bW (qB 11) (zH false [none,Ab 2,Ab 4] (xU (wZ (vc (ic 4)))) (bx 0) xS (zN (qP 2 (ng bp) (vd (qB 1) (qB 2))))))) (bx 12) (qS (qZ (vX (d2 jA (qB 12) (qB 6)) (d2 ul (qP 1 bh (vc (qH j9 (vc (qH gA (vc (d2 zB (qB 6) (zM (vc (qB 12)))))))))) (dC .non))) (bx 13)) (qS (qZ (qH bV (vc (xN (vd (qB 6) (qB 12))))) (bx 14)) (yH (wZ (vc (ic 2))) (bx 5) (gk (uN (wA (ef (qP 2 cc (vd (qP 2 (br c) (vd (qB 6) (qB 12))) (qB 13))))) (ef (d2 ni (qH bV (vc (xN (vd (qB 6) (qB 12))))) (qB 14)))) (qW (dC (.bl false))) zP))))) (qS (qZ (qP 1 bh (vc (qB 3))) (bx 15)) (qS (yH (wU (xN (vd (qB 7) (qB 10)))) (bx 12) (qS (gk (ef (d2 ni (qP 2 (br c) (vd (qB 9) (qB 12))) (dC (.str "lot")))) (qW (dC (.bl false))) zP) (gk (mU (ef (d2 bC (qB 15) (dC .non))) (wA (ef (qP 2 cc (vd (qP 2 (br c) (vd (qB 3) (qB 12))) (d2 zB (xN (vc (dC (.str "alike")))) (qH gS (vc (qB 15))))))))) (qW (dC (.bl false))) zP))) (gk (ef (d2 ni (qP 2 (br c) (vd (qB 6) (qB 10))) (dC (.str "point")))) (qW (dC (.bl false))) zP))))))))))) (qW (dC (.bl true)))
end _K
namespace _K
open _D
variable {kvs:Aa (_L.bz × D)}{cl:ag}{xs:Aa D}{ps:Aa Pt}{C:Af}{m j:Ai}{hl:Au}{Q:D->aq->Prop}{S:aq}{al:qE}
theorem NY (h:Pn d)(S:aq):ge [d] S=.ok (.bl (G_ d)) S:=by
 rw[pU];obtain⟨p,h⟩:=h;cases d <;> first|kernel_rfl!|simp[kq] at h
theorem GJ (h:Pn d)(a b:Am)(S:aq):ft [d,.int a,.int b] S=.ok (.bl (inR a b d)) S:=by
 rw[kY];refine xD (zI (al:=[Ab d,Ab (.int a),Ab (.int b)]) rfl ?_);rfl';refine kA ?_;rfl';refine qN (NY h S) ⟨_,rfl,λe=>?_,λe=>?_⟩
 .cases d with
  |int i=>exact f9 rfl rfl rfl ⟨rfl,rfl⟩
  |_=>cases e
 .cases d <;> first|exact⟨rfl,rfl⟩|cases e
theorem pG (h:Pn d)(S:aq):fq [d] S=.ok (.bl (x9 d)) S:=by
 rw[pT];refine xD (zI (al:=[Ab d]) rfl ?_);rfl';refine yM ?_;rfl';refine qN (sX h S) ?_;rfl';refine⟨λe=>?_,λe=>?_⟩
 .rfl'
  exact⟨by rw[Y2 (by simpa using e)],rfl⟩
 .cases d with
  |tup xs =>
   rfl';refine xV (λe=>?_) λe=>?_
   .rfl'
    refine yT (cw:=id) (o:=none) xs (λx=>.bl (lx x)) (λal Y=>Y=S/\∃ a,al=[a]) ((Z6 rfl).trans (by rw[Mt])) ⟨rfl,none,rfl⟩ (by unfold bi;lia) (λ_ _ _=>trivial) (λx G al Y ⟨J,a,U⟩=>?_) λal Y ⟨J,_⟩=>?_
    .subst J U
     rfl';exact qN (GJ (tW h x G) _ _ _) ⟨rfl,rfl,_,rfl⟩
    .subst J
     rfl';exact f7 ⟨by rw[Y0 li],rfl⟩
   .rfl'
    exact⟨by rw[Y1 li],rfl⟩
  |_=>cases e
theorem GG (Y:Aa Pt)(hl:Y.length<=1000)(S:aq):fu [zZ Y] S=.ok (.bl (nw (Y.map kP))) S:=by
 rw[kX];refine xD (zI (al:=[Ab (.tup (Y.map ax))]) rfl ?_);rfl';have N:xU (nO (qA (qB 0) (qA (lz (qB 0) (zS (dC (.int 1))) xA) qC))) [Ab (.tup (Y.map ax))] S=.ok (none,(((Y.map kP).zip ((Y.map kP).drop 1)).map λp=>D.tup [kg p.1,kg p.2])) S:=by
  show a_.ok (none,vV (Y.map ax) (zY (Y.map ax) (Ab 1) none)) S=_;rw[IG,jE,<- Tv,IB]
 refine yT _ (λp=>.bl (_H.lexLt p.1 p.2)) (λal J=>J=S/\∃ a b,al=[a,b]) N ⟨rfl,none,none,rfl⟩ ?_ (λ_ _ _=>trivial) (λx O al J ⟨U,a,b,G⟩=>?_) λal J ⟨U,_⟩=>?_
 .rw[Vt,Ap]
  unfold bi
  lia
 .subst U G
  rfl';exact qN (OD _ _ _) ⟨rfl,rfl,_,_,rfl⟩
 .subst U
  rfl';exact f7 ⟨rfl,rfl⟩
theorem cA (h:Pn d)(S:aq):ji [d] S=.ok (.bl (uB d)) S:=by
 rw[fN];refine xD (zI (al:=[Ab d]) rfl ?_);rfl';refine yM ?_;rfl';refine qN (sX h S) ?_;rfl';refine⟨λe=>?_,λe=>?_⟩
 .rfl'
  exact⟨by rw[iI (by simpa using e)],rfl⟩
 .cases d with
  |tup xs =>
   rfl';refine f9 (b:=(xs.length:Am)) rfl rfl rfl ?_;rfl';refine xV (λz=>?_) λz=>?_
   .have hl:1<=xs.length/\xs.length<=40:=by lia
    rfl';refine kA ?_;rfl';refine yT (cw:=id) (o:=none) xs (λx=>.bl (x9 x)) (λal G=>G=S/\∃ a,al=[a]) ((Z6 rfl).trans (by rw[Mt])) ⟨rfl,none,rfl⟩ (by unfold bi;lia) (λ_ _ _=>trivial) (λx O al G ⟨N,a,B⟩=>?_) λal G ⟨N,_⟩=>?_
    .subst N B
     rfl';exact qN (pG (tW h x O) _) ⟨rfl,rfl,_,rfl⟩
    .subst N
     rfl';refine f7 ⟨_,rfl,λU=>?_,λU=>?_⟩
     .obtain⟨Y,rfl,_⟩:=jG U
      rw[Ap] at hl;rfl';refine qN (GG Y li _) ⟨?_,rfl⟩;show _=D.bl (decide (1<=(Y.map ax).length/\(Y.map ax).length<=40)&&(Y.map ax).all x9&&(match wF (Y.map ax) with|some J=>nw J|none=>false))
      rw[U,Ap,Cz hl,jE,uL];rfl
     .refine⟨?_,rfl⟩
      show _=D.bl (decide (1<=xs.length/\xs.length<=40)&&xs.all x9&&(match wF xs with|some J=>nw J|none=>false))
      rw[U,Jx,He]
   .rfl'
    refine⟨?_,rfl⟩;show _=D.bl (decide (1<=xs.length/\xs.length<=40)&&xs.all x9&&(match wF xs with|some J=>nw J|none=>false))
    rw[Dr li,He,He]
  |_=>cases e
theorem aE (c:Cl){d:D}(S:aq)(h:Pn d)(k:uB d=true):fj c [d] S=.ok .non S:=by
 rw[uM];refine xD (zI (al:=[Ab d]) rfl ?_);rfl';refine qN (cA h S) ?_;rw[k];rfl';exact⟨rfl,rfl⟩
theorem ZM (c:Cl){d:D}(S:aq)(h:Pn d)(k:x9 d=true):c_ c [d] S=.ok .non S:=by
 rw[vJ];refine xD (zI (al:=[Ab d]) rfl ?_);rfl';refine qN (pG h S) ?_;rw[k];rfl';exact⟨rfl,rfl⟩
theorem aD (c:Cl){d:D}(S:aq)(h:Pn d)(k:uB d=false):fj c [d] S=.ex (.ref c.NoLot) .non S:=by
 rw[uM];refine cH (al:=[Ab d]) (bo:=[Ab d]) rfl ?_;exact BA (xD (YX (EO (tO (yU (o_v rfl (pB ⟨rfl,qN ((cA h S).trans (by rw[k])) ⟨_,rfl,rfl,rfl⟩⟩))))))) (cB _ _ _ _)
theorem ZL (c:Cl){d:D}(S:aq)(h:Pn d)(k:x9 d=false):c_ c [d] S=.ex (.ref c.NoPoint) .non S:=by
 rw[vJ];refine cH (al:=[Ab d]) (bo:=[Ab d]) rfl ?_;exact BA (xD (YX (EO (tO (yU (o_v rfl (pB ⟨rfl,qN ((pG h S).trans (by rw[k])) ⟨_,rfl,rfl,rfl⟩⟩))))))) (cB _ _ _ _)
theorem wJ {m:Am}(h:y7 S p)(hm:0<m/\m<1073741824)(q:∀ (r:Ai) S1,Kp p S S1->(r:Am)<m->Q (.int r) S1):Ok (be [.loc p,.int m] S) Q:=by
 have J:∀ r v f:Am,0<=r->r<m->Q (.int r) (S.set p (.lst [.int v,.int f])):=λr v f N B=>by
  obtain⟨r,rfl⟩:=Int.eq_ofNat_of_zero_le N;obtain⟨H,E,e⟩:=h;have Y:=(Bd.mp e).1;exact q r _ ⟨⟨v,f,by simp[Y]⟩,by simp,λi I O=>Bz (Dw O)⟩ B
 obtain⟨v,f,e⟩:=h;have Y:=(Bd.mp e).1;rw[kT];refine zI (al:=[Ab (.loc p),Ab (.int m),none]) rfl ?_;rfl';refine uT e (d:=.int f) rfl ?_;rfl';refine xV (λz=>?_) λz=>?_
 .rfl'
  refine uT e (d:=.int v) rfl ?_;rfl';refine uT e (d:=.int v) rfl ?_;rfl';refine YY e rfl ?_;rfl';exact J _ _ _ (NE _ om) (Lu _ hm.1)
 .rfl'
  refine uT e (d:=.int v) rfl ?_;have hv:=NE v (show (2147483629:Am)≠0 by fin2)
  have L:=Lu v (show (0:Am)<2147483629 by fin2)
  rfl';have T:=NE (v % 2147483629*48271+11) (show (2147483629:Am)≠0 by fin2)
  have U:=Lu (v % 2147483629*48271+11) (show (0:Am)<2147483629 by fin2)
  generalize (v % 2147483629*48271+11) % 2147483629=w at T U;refine YY e rfl ?_;have G:(S.set p (MO.lst [.int w,.int f]))[p]? = Ab (.lst [.int w,.int f]):=by simp[Y]
  rfl';refine uT G (d:=.int w) rfl ?_;rfl';refine uT G (d:=.int w) rfl ?_;rfl';refine uT G (d:=.int w) rfl ?_;rfl';exact J _ _ _ (NE _ om) (Lu _ hm.1)
theorem OP (q:∀ p S1,y7 S1 p->Q (.loc p) S1):Ok (gf [.int x] S) Q:=by
 rw[pS];refine zI (al:=[Ab (.int x)]) rfl ?_;rfl';refine qN (d:=.int 1000000000000000000) rfl ?_;rfl';refine qN (d:=.int (yl (decide (1000000000000000000<=x)))) rfl ?_;rfl';exact q _ _ ⟨_,_,kZ _ _⟩
theorem NW (ns:Aa Am)(hl:ns.length<=63)(k:Am){Q:Aa D->aq->Prop}{al:qE}{S:aq}(h0:al[0]? = Ab (Ab (.lst (ns.map D.int))))(q:∀ J:Aa Am,Q (J.map D.int) S):Ok (wU (d2 zB (xN (qA (qP 2 d_ (qA (qB 0) (qA (dC (.int 0)) qC))) qC)) (lz (qB 0) (zS (dC (.int 1))) (zS (dC (.int k))))) al S) Q:=by
 have U:∃ x:Am,d_ [.lst (ns.map D.int),.int 0] S=.ok (.int x) S:=by
  rw[kS];cases ns with
  |nil=>exact⟨0,xD (zI (al:=[Ab (.lst []),Ab (.int 0)]) rfl (by rfl';exact⟨rfl,rfl⟩))⟩
  |cons n ns =>
   refine⟨n,xD (zI (al:=[Ab (.lst ((n::ns).map D.int)),Ab (.int 0)]) rfl ?_)⟩;rfl';refine xV (λ_=>?_) λe=>absurd (by rw[Ap,Ba];fin2) e
   rfl';exact r9 (fW (a:=0) a8) ⟨rfl,rfl⟩
 obtain⟨x,Y⟩:=U;refine TV (o_2 (OO (yU (tO (yU (o_v h0 ?_))))));rfl';refine qN Y ?_;rfl';refine o_v h0 ?_;rfl';have G:zY (ns.map D.int) (Ab 1) (Ab k)=((ns.drop (_H.cf (ns.map D.int).length 0 (Ab 1))).take (_H.cf (ns.map D.int).length (ns.map D.int).length (Ab k)-_H.cf (ns.map D.int).length 0 (Ab 1))).map D.int:=by
  unfold zY;rw[Yp,Tv]
 rw[G];refine wI ?_ ⟨_,rfl,q (x::_)⟩;rw[Ap,Dx,Gg];show 1+_<=bi;unfold bi;fin2
theorem OG (nd:cl.Nodup){i j:Ai}{a b:Af}(U:cl[i]? = Ab a)(J:cl[j]? = Ab b)(h:i≠j):(a == b)=false:=by
 rw[Gj];rintro rfl;obtain⟨O,G⟩:=Bd.mp U;obtain⟨N,Y⟩:=Bd.mp J;exact h ((Pu nd).mp (G.trans Y.symm))
theorem ZP {B:Af}(Y:C∈cl)(J:B∈cl)(q:Q (.bl (C == B)) S):Ok (yW cl [.exn (.ref C),.obj B] S) Q:=by
 refine⟨_,_,?_,q⟩;show (if (cl.contains C&&cl.contains B)=true then a_.ok (D.bl (C == B)) S else .bad)=_
 rw[Fa.mpr Y,Fa.mpr J];rfl
theorem ZQ (Y:C∈cl)(q:Q (.bl true) S):Ok (yW cl [.exn (.ref C),.ty "ValueError"] S) Q:=by
 refine⟨_,_,?_,q⟩;show (if (cl.contains C&&(("ValueError" : Er) == "ValueError"))=true then a_.ok (D.bl true) S else .bad)=_
 rw[Fa.mpr Y];rfl
theorem ZK (nd:cl.Nodup){i j:Ai}{a b:Af}(J:cl[i]? = Ab a)(Y:cl[j]? = Ab b):decide (i=j)=(a == b):=by
 by_cases h:i=j
 .subst h
  cases J.symm.trans Y;rw[Cz rfl,Fg]
 .rw[Dr h,OG nd J Y h]
theorem r8 {i:Ai}(e:al[i]? = Ab (Ab (.exl (.ref C) ns ds)))(h:(ns.zip ds).lookup f=Ab x)(q:Q x S):Ok (mB [C] f (qB i) al S) Q:=by
 refine o_1 (o_v e ?_);show Ok (if [C].contains C=true then (match (ns.zip ds).lookup f with|some x=>a_.ok x S|none=>.bad) else .bad) Q
 rw[Ay a8,h]
 exact⟨_,_,rfl,q⟩
theorem eU (c:Cl)(nd:(zX c).Nodup)(S:aq):bq c [.exn (.ref c.NoPoint)] S=.ok (.str "point") S:=by
 have s:∀ {Q:D->aq->Prop} (j:Ai) {B:Af},(zX c)[j]? = Ab B->Q (.bl (decide (0=j))) S->Ok (xE (zX c) [.exn (.ref c.NoPoint),.obj B] S) Q:=λj B h q=>ZP (Bw (i:=0) rfl) (Bw h) (ZK nd (i:=0) rfl h▸q);have v:∀ {Q:D->aq->Prop},Q (.bl true) S->Ok (xE (zX c) [.exn (.ref c.NoPoint),.ty "ValueError"] S) Q:=λq=>ZQ (C:=c.NoPoint) (Bw (i:=0) rfl) q;rw[w8];refine xD (zI (al:=[Ab (.exn (.ref c.NoPoint)),none,none]) rfl ?_);rfl';refine s 0 rfl ?_;rfl';refine s 1 rfl ?_;rfl';refine s 2 rfl ?_;rfl';refine s 3 rfl ?_;rfl';refine s 4 rfl ?_;rfl';refine s 5 rfl ?_;rfl';refine s 6 rfl ?_;rfl';refine s 7 rfl ?_;rfl';refine wI (De rfl) ?_;rfl';refine s 8 rfl ?_;rfl';refine s 9 rfl ?_;rfl';refine s 10 rfl ?_;rfl';refine wI (De rfl) ?_;rfl';refine yM ?_;rfl';refine v ?_;rfl';refine⟨(λe=>by cases e),λ_=>?_⟩
 rfl';refine qN (d:=.int 1) (S:=S) (by kernel_rfl!) ?_
 rfl';refine xV (λ_=>?_) λe=>absurd rfl e;rfl';refine s 9 rfl ?_;rfl';refine xV (λe=>absurd e da) λ_=>?_
 rfl';refine s 10 rfl ?_;rfl';refine xV (λe=>absurd e da) λ_=>?_
 rfl';refine qN (d:=.int 0) (S:=S) (by kernel_rfl!) ?_
 exact r9 (d:=.str "point") rfl ⟨rfl,rfl⟩
theorem Z9 (c:Cl)(nd:(zX c).Nodup)(S:aq):bq c [.exn (.ref c.NoLot)] S=.ok (.str "lot") S:=by
 have s:∀ {Q:D->aq->Prop} (j:Ai) {B:Af},(zX c)[j]? = Ab B->Q (.bl (decide (1=j))) S->Ok (xE (zX c) [.exn (.ref c.NoLot),.obj B] S) Q:=λj B h q=>ZP (Bw (i:=1) rfl) (Bw h) (ZK nd (i:=1) rfl h▸q);have v:∀ {Q:D->aq->Prop},Q (.bl true) S->Ok (xE (zX c) [.exn (.ref c.NoLot),.ty "ValueError"] S) Q:=λq=>ZQ (C:=c.NoLot) (Bw (i:=1) rfl) q;rw[w8];refine xD (zI (al:=[Ab (.exn (.ref c.NoLot)),none,none]) rfl ?_);rfl';refine s 0 rfl ?_;rfl';refine s 1 rfl ?_;rfl';refine s 2 rfl ?_;rfl';refine s 3 rfl ?_;rfl';refine s 4 rfl ?_;rfl';refine s 5 rfl ?_;rfl';refine s 6 rfl ?_;rfl';refine s 7 rfl ?_;rfl';refine wI (De rfl) ?_;rfl';refine s 8 rfl ?_;rfl';refine s 9 rfl ?_;rfl';refine s 10 rfl ?_;rfl';refine wI (De rfl) ?_;rfl';refine yM ?_;rfl';refine v ?_;rfl';refine⟨(λe=>by cases e),λ_=>?_⟩
 rfl';refine qN (d:=.int 1) (S:=S) (by kernel_rfl!) ?_
 rfl';refine xV (λ_=>?_) λe=>absurd rfl e;rfl';refine s 9 rfl ?_;rfl';refine xV (λe=>absurd e da) λ_=>?_
 rfl';refine s 10 rfl ?_;rfl';refine xV (λe=>absurd e da) λ_=>?_
 rfl';refine qN (d:=.int 1) (S:=S) (by kernel_rfl!) ?_
 exact r9 (d:=.str "lot") rfl ⟨rfl,rfl⟩
theorem Z8 (c:Cl)(nd:(zX c).Nodup)(G J U Y:D)(S:aq):bq c [.exl (.ref c.Alike) ["one","two","three","four"] [G,J,U,Y]] S=.ok (.lst [.str "alike",G,J,U,Y]) S:=by
 have s:∀ {Q:D->aq->Prop} (j:Ai) {B:Af},(zX c)[j]? = Ab B->Q (.bl (decide (9=j))) S->Ok (xE (zX c) [.exl (.ref c.Alike) ["one","two","three","four"] [G,J,U,Y],.obj B] S) Q:=λj B h q=>ZP (Bw (i:=9) rfl) (Bw h) (ZK nd (i:=9) rfl h▸q);have v:∀ {Q:D->aq->Prop},Q (.bl true) S->Ok (xE (zX c) [.exl (.ref c.Alike) ["one","two","three","four"] [G,J,U,Y],.ty "ValueError"] S) Q:=λq=>ZQ (C:=c.Alike) (Bw (i:=9) rfl) q;rw[w8];refine xD (zI (al:=[Ab (.exl (.ref c.Alike) ["one","two","three","four"] [G,J,U,Y]),none,none]) rfl ?_);rfl';refine s 0 rfl ?_;rfl';refine s 1 rfl ?_;rfl';refine s 2 rfl ?_;rfl';refine s 3 rfl ?_;rfl';refine s 4 rfl ?_;rfl';refine s 5 rfl ?_;rfl';refine s 6 rfl ?_;rfl';refine s 7 rfl ?_;rfl';refine wI (De rfl) ?_;rfl';refine s 8 rfl ?_;rfl';refine s 9 rfl ?_;rfl';refine s 10 rfl ?_;rfl';refine wI (De rfl) ?_;rfl';refine yM ?_;rfl';refine v ?_;rfl';refine⟨(λe=>by cases e),λ_=>?_⟩
 rfl';refine qN (d:=.int 1) (S:=S) (by kernel_rfl!) ?_
 rfl';refine xV (λ_=>?_) λe=>absurd rfl e;rfl';refine s 9 rfl ?_;rfl';refine xV (λ_=>?_) λe=>absurd rfl e;rfl';refine r8 (ns:=["one","two","three","four"]) (ds:=[G,J,U,Y]) rfl (x:=G) (by kernel_rfl!) ?_
 rfl';refine r8 (ns:=["one","two","three","four"]) (ds:=[G,J,U,Y]) rfl (x:=J) (by kernel_rfl!) ?_
 rfl';refine r8 (ns:=["one","two","three","four"]) (ds:=[G,J,U,Y]) rfl (x:=U) (by kernel_rfl!) ?_
 rfl';refine r8 (ns:=["one","two","three","four"]) (ds:=[G,J,U,Y]) rfl (x:=Y) (by kernel_rfl!) ?_
 rfl';exact⟨rfl,rfl⟩
theorem RD (x:Ar)(S:aq):mj (.str x) (.str x) S=.ok (.bl true) S:=by
 unfold mj;rw[show (pl zW (.str x))=true from rfl]
 show a_.ok (D.bl (x == x)) S=_;rw[Fg]
def sq (b:Au)(Y:Aa D):D:=match b with
 |true=>.tup Y
 |false=>.lst Y
theorem PL (Y:Aa D):vV Y Y=Y.map λx=>D.tup [x,x]:=by
 induction Y with
 |nil=>rfl
 |cons w Y J=>exact congrArg (D.tup [w,w]::·) J
theorem cI (F:DF)(b:Au)(Y:Aa D)(S:aq)(hw:Y.length<=bi)(L:∀ x∈Y,F [x,x] S=.ok (.bl true) S):qR 4 (cy F) [sq b Y,sq b Y] S=.ok (.bl true) S:=by
 have G:zU [sq b Y,.ty "list"] S=.ok (.bl (!b)) S:=by cases b <;> kernel_rfl!
 have U:zU [sq b Y,.ty "tuple"] S=.ok (.bl b) S:=by cases b <;> kernel_rfl!
 have l:xJ [sq b Y] S=.ok (.int Y.length) S:=by cases b <;> rfl
 have n:∀ x:Au,ni (.bl x) (.bl x) S=.ok (.bl false) S:=λx=>by cases x <;> rfl
 have B:Ok (nO (qA (qB 0) (qA (qB 1) qC)) [Ab (sq b Y),Ab (sq b Y),none,none] S) λO J=>O=Y.map (λx=>D.tup [x,x])/\J=S:=by
  rw[<- PL];cases b <;> exact⟨_,_,rfl,rfl,rfl⟩
 refine xD (zI (al:=[Ab (sq b Y),Ab (sq b Y),none,none]) rfl ?_);rfl';refine qN (d:=.bl false) (S:=S) (by cases b <;> rfl) ?_
 rfl';refine zO (Q:=λd J=>d=true/\J=S) (yM ?_) ?_
 .rfl';refine qN U ?_
  rfl';refine⟨λe=>⟨rfl,rfl⟩,λe=>?_⟩;rfl';refine qN G ?_;rfl';rw[e];exact⟨rfl,rfl⟩
 rintro _ S ⟨rfl,rfl⟩;rfl';refine yM ?_;rfl';refine qN U ?_;rfl';refine qN U ?_;rfl';refine qN (n _) ?_;rfl';refine⟨(λe=>by cases e),λ_=>?_⟩
 rfl';refine qN G ?_;rfl';refine qN G ?_;rfl';refine qN (n _) ?_;rfl';refine qN l ?_;rfl';refine qN l ?_;rfl';refine xV (λ_=>?_) λe=>absurd rfl e;rfl';refine zO B ?_;rintro _ S ⟨rfl,rfl⟩;refine vU (λxs al J=>(∀ x∈xs,x∈Y)/\J=S/\∃ a c,al=[Ab (sq b Y),Ab (sq b Y),a,c]) ?_ ?_ ⟨λ_ h=>h,rfl,_,_,rfl⟩
 .rintro x xs _ S ⟨N,rfl,a,c,rfl⟩
  rfl';refine qN (L x (N x (.head _))) ?_;rfl';exact v7 ⟨λy T=>N y (.tail _ T),rfl,_,_,rfl⟩
 .rintro _ S ⟨_,rfl,a,c,rfl⟩
  rfl';exact⟨rfl,rfl⟩
theorem oJ (F:DF){d:D}(S:aq)(h1:ul d .non S=.ok (.bl false) S)(h2:zU [d,.ty "tuple"] S=.ok (.bl false) S)(Y:zU [d,.ty "list"] S=.ok (.bl false) S)(h3:zU [d,.ty "str"] S=.ok (.bl false) S){b:Au}(J:zU [d,.ty "bool"] S=.ok (.bl b) S)(G:zU [d,.ty "int"] S=.ok (.bl true) S)(U:mj d d S=.ok (.bl true) S):qR 4 (cy F) [d,d] S=.ok (.bl true) S:=by
 refine xD (zI (al:=[Ab d,Ab d,none,none]) rfl ?_);rfl';refine qN h1 ?_;rfl';refine yM ?_;rfl';refine qN h2 ?_;rfl';refine⟨(λe=>by cases e),λ_=>?_⟩
 rfl';refine qN Y ?_;rfl';refine qN h3 ?_;rfl';refine kA ?_;rfl';refine qN J ?_;rfl';refine qN J ?_;rfl';refine qN (d:=.bl true) (S:=S) (by cases b <;> rfl) ⟨_,rfl,λ_=>?_,λe=>by cases e⟩
 rfl';refine kA ?_;rfl';refine qN G ⟨_,rfl,λ_=>?_,λe=>by cases e⟩
 rfl';exact qN U ⟨rfl,rfl⟩
theorem GQ (F:DF)(x:Ar)(S:aq):qR 4 (cy F) [.str x,.str x] S=.ok (.bl true) S:=by
 refine xD (zI (al:=[Ab (.str x),Ab (.str x),none,none]) rfl ?_);rfl';refine qN (d:=.bl false) (S:=S) rfl ?_;rfl';refine yM ?_;rfl';refine qN (d:=.bl false) (S:=S) (by kernel_rfl!) ?_
 rfl';refine⟨(λe=>by cases e),λ_=>?_⟩
 rfl';refine qN (d:=.bl false) (S:=S) (by kernel_rfl!) ?_
 rfl';refine qN (d:=.bl true) (S:=S) (by kernel_rfl!) ?_
 rfl';refine kA ?_;rfl';refine qN (d:=.bl true) (S:=S) (by kernel_rfl!) ⟨_,rfl,λ_=>?_,λe=>by cases e⟩
 rfl';exact qN (RD x S) ⟨rfl,rfl⟩
def wc:Ai->D->Prop
 |n+1,.tup xs=>xs.length<=bi/\∀ x∈xs,wc n x
 |n+1,.lst xs=>xs.length<=bi/\∀ x∈xs,wc n x
 |_,.int _=>Ov
 |_,.bl _=>Ov
 |_,.str _=>Ov
 |_,_=>Fp
theorem n8 (F:DF){d:D}(S:aq)(h:wc 0 d):qR 4 (cy F) [d,d] S=.ok (.bl true) S:=by
 cases d with
 |int i=>exact oJ _ S rfl (by kernel_rfl!) (by kernel_rfl!) (by kernel_rfl!) (b:=false) (by kernel_rfl!) (by kernel_rfl!) (xD (qBI ⟨by rw[Cz rfl],rfl⟩))
 |bl b=>exact oJ _ S rfl (by kernel_rfl!) (by kernel_rfl!) (by kernel_rfl!) (b:=true) (by kernel_rfl!) (by kernel_rfl!) (by cases b <;> rfl)
 |str x=>exact GQ _ x S
 |_=>exact Aq h
theorem VU:∀ (n:Ai) (d:D) (S:aq),wc n d->n6 (n+1) [d,d] S=.ok (.bl true) S:=by
 intro n
 induction n with
 |zero=>exact λd S h=>n8 _ S h
 |succ n U =>
  intro d S h;cases d with
  |tup Y=>exact cI _ true Y S h.1 λx J=>U x S (h.2 x J)
  |lst Y=>exact cI _ false Y S h.1 λx J=>U x S (h.2 x J)
  |int i=>exact n8 _ S trivial
  |bl i=>exact n8 _ S trivial
  |str i=>exact n8 _ S trivial
  |_=>exact Aq h
theorem VL (S:aq)(h:wc 3 d):cc [d,d] S=.ok (.bl true) S:=by
 rw[kW];exact VU 3 d S h
theorem OM (hp:fy 1000 p)(Y:fy 1000 q)(h:Q (.int (oq p q)) S):Ok (dn [ax p,ax q] S) Q:=by
 unfold fy at hp Y;rw[j6];refine zI (al:=[Ab (ax p),Ab (ax q),none,none]) rfl ?_;rfl';exact h
theorem o9 {l:Aa Pt}(o:∀ p∈l,fy 1000 p)(hl:l.length<=41)(q:∀ kvs S',GI qK jv S.length (qY l) kvs S'->(∀ m,m<S.length->S'[m]? = S[m]?)->Q (.loc S.length) S'):Ok (b_ [zZ l] S) Q:=by
 rw[uQ];refine zI (al:=[Ab (.tup (l.map ax)),none,none,none,none]) rfl ?_;rfl';refine lW (λu al S'=>∃ i M w L done kvs,al=[Ab (.tup (l.map ax)),Ab (.loc S.length),M,w,L]/\u=eL i ((l.drop i).map ax)/\GI qK jv S.length done kvs S'/\done++qY (l.drop i)=qY l/\∀ m,m<S.length->S'[m]? = S[m]?) ?_ ?_ ⟨0,_,_,_,[],[],rfl,JB _,⟨kZ _ _,λ_ h=>(by cases h),Pg,rfl⟩,rfl,λm E=>Bo E⟩
 .rintro d u _ S' ⟨i,M,w,L,done,kvs,rfl,N,G,Y,J⟩
  cases U:l.drop i with
  |nil=>rw[U] at N;cases N
  |cons p qG =>
   rw[U] at N Y;injection N with n v
   subst n v;have O:l.drop (i+1)=qG:=by
    have:=congrArg List.tail U;simpa [List.tail_drop] using this
   have B:∀ z∈p::qG,z∈l:=λz H=>Ky (U▸H);rfl';rw[UQ,<- Tv,O];refine vU (λr al S'=>∃ L done kvs,al=[Ab (.tup (l.map ax)),Ab (.loc S.length),Ab (.int (i:Am)),Ab (ax p),L]/\(∀ z∈r,z∈l)/\GI qK jv S.length done kvs S'/\done++(r.map (λz=>(p,z))++qY qG)=qY l/\∀ m,m<S.length->S'[m]? = S[m]?) ?_ ?_ ⟨_,done,kvs,rfl,λz H=>B z (Cd _ H),G,Y,J⟩
   .rintro z r _ S' ⟨L,done,kvs,rfl,I,G,Y,J⟩
    have k:done.length<bi:=by
     have:=congrArg Hv Y;have a:=ZJ hl;simp only[Bb] at this;unfold bi
     lia
    obtain⟨j,s,b,T,g,f,c,t,A⟩:=MR G (p,z) k;rfl';refine⟨U3 G.dict,?_⟩;rfl';refine OM (o p (B p (Dm ..))) (o z (I z (Dm ..))) ?_;rfl';refine qN g ⟨f,?_⟩;rfl';refine qN c ?_;exact v7 ⟨_,done++[(p,z)],T,rfl,λy e=>I y (Cd _ e),t,by rw[<- Y];simp,λm E=>(A m E).trans (J m E)⟩
   .rintro _ S' ⟨L,done,kvs,rfl,I,G,Y,J⟩
    exact v7 ⟨i+1,_,_,_,done,kvs,rfl,by rw[O],G,by rw[O];simpa using Y,J⟩
 .rintro _ S' ⟨i,M,w,L,done,kvs,rfl,N,G,Y,J⟩
  rfl';refine q kvs S' ?_ J;cases U:l.drop i with
  |cons _ _=>rw[U] at N;cases N
  |nil =>
   rw[U] at Y;have:done=qY l:=by simpa [qY] using Y
   rw[<- this];exact G
abbrev PP:=Pt × Pt
noncomputable def fl:Aa PP->Al (PP × PP)
 |[]=>none
 |x::xs=>match xs.find? (λy=>qK y == qK x) with
  |some y=>Ab (x,y)
  |none=>fl xs
def yj (ks:Aa Am):Aa Am:=ks.foldl Bg []
theorem jY (k:Am):∀ (ks l:Aa Am),ks.foldl Bg (k::l)=k::(ks.filter λx=>x != k).foldl Bg l
 |[],l=>rfl
 |x::ks,l=>by
  show ks.foldl Bg (Bg (k::l) x)=_;by_cases Y:x=k
  .subst Y
   rw[fH (.head _),jY x ks l];simp
  .have e:((x::ks).filter λx=>x != k)=x::ks.filter λx=>x != k:=by simp[Y]
   rw[e];show _=k::(ks.filter λx=>x != k).foldl Bg (Bg l x);by_cases hl:x∈l
   .rw[fH (.tail _ hl),fH hl,jY k ks l]
   .rw[pN (by simp[Y,hl]),pN hl]
    exact jY k ks (l++[x])
theorem UY (k:Am)(ks:Aa Am):yj (k::ks)=k::yj (ks.filter λx=>x != k):=by
 show ks.foldl Bg (Bg [] k)=_;rw[pN a8]
 exact jY k ks []
def two (g:Aa PP):Al (PP × PP):=match g with
 |a::b::_=>Ab (a,b)
 |_=>none
theorem eQ {α β:Type}{f g:α->Al β} : ∀ {l:Aa α},(∀ x∈l,f x=g x)->l.findSome? f=l.findSome? g
 |[],_=>rfl
 |x::l,h=>by
  rw[Nr,Nr,h x (.head _),eQ λy Y=>h y (.tail _ Y)]
theorem i8:∀ xs:Aa PP,(yj (xs.map qK)).findSome? (λf=>two (xs.filter λx=>qK x == f))=fl xs
 |[]=>rfl
 |x::xs=>by
  rw[Ds,UY,Nr];have T:((x::xs).filter λz=>qK z == qK x)=x::xs.filter λz=>qK z == qK x:=by simp
  rw[T];unfold fl;cases q:xs.find? (λy=>qK y == qK x) with
  |some y =>
   have:∃ t,(xs.filter λz=>qK z == qK x)=y::t:=by
    rw[<- List.head?_filter] at q;cases z:(xs.filter λz=>qK z == qK x) with
    |nil=>rw[z] at q;cases q
    |cons a t=>rw[z] at q;cases q;exact⟨t,rfl⟩
   obtain⟨t,L⟩:=this;rw[L];rfl
  |none =>
   have J:∀ y∈xs,qK y≠qK x:=λy Y e=>by
    have:=Jz.mp q y Y;exact this (by simpa using e)
   have N:(xs.filter λz=>qK z == qK x)=[]:=Vv.mpr λz U=>by simpa using J z U
   have O:((xs.map qK).filter λz=>z != qK x)=xs.map qK:=List.filter_eq_self.mpr λz U=>by
    obtain⟨y,Y,rfl⟩:=Ci.mp U;simpa using J y Y
   rw[N,O];show (yj (xs.map qK)).findSome? _=fl xs;rw[<- i8 xs];refine eQ λf B=>?_;have G:f∈xs.map qK:=by
    rcases gT.mp B with h|h
    .cases h
    .exact h
   obtain⟨y,Y,rfl⟩:=Ci.mp G;have:(qK x == qK y)=false:=Gj.mpr (Dw (J y Y));rw[Px,this];rfl
def qD (z:PP × PP):D:=.tup [ax z.1.1,ax z.1.2,ax z.2.1,ax z.2.2]
def sw:Al (PP × PP)->D
 |some z=>qD z
 |none=>.non
theorem YW (c:Cl){l:Aa Pt}{M:Ai}(o:M<=40)(h:mx M l){S:aq}(q:∀ S',S<+:S'->Q (sw (fl (qY l))) S'):Ok (dc c [zZ l] S) Q:=by
 have y:=h.len;obtain⟨_,B,A,rfl,kvs,G,I⟩:=o9 (S:=S) (Q:=λd S'=>d=.loc S.length/\∃ kvs,GI qK jv S.length (qY l) kvs S'/\∀ m,m<S.length->S'[m]? = S[m]?) h.box li λkvs S' G I=>⟨rfl,kvs,G,I⟩;have hv:jX (qP 1 b_ (qA (qB 0) qC)) [Ab (zZ l),none] S=.ok (kvs.map (·.2)) (B.set S.length .dead):=by
  unfold jX;rw[(u7 (f1:=qB 0) (al:=[Ab (zZ l),none]) (S:=S) rfl).trans A,a_.bind_ok];show (match B[S.length]? with|some (.dct kvs)=>a_.ok (kvs.map λU:_L.bz × D=>U.2) (B.set S.length .dead)|_=>.bad)=_
  rw[G.dict]
 have J:S<+:B.set S.length .dead:=c7 λm L=>by rw[Bz li];exact I m L
 rw[vI];refine zI (al:=[Ab (zZ l),none]) rfl ?_;array_get_dec;array_get_dec;array_get_dec;array_get_dec;array_get_dec;array_get_dec;array_get_dec;refine qN (aE c S (HQ l) (JT o h)) ?_;array_get_dec;array_get_dec;array_get_dec;refine qN hv ?_;refine vU (λr al S'=>S'=B.set S.length .dead/\∃ (e:Al D) (N:Aa Am),al=[Ab (zZ l),e]/\(∀ U∈r,U∈kvs)/\r.map (·.1)=N.map Im/\N.findSome? (λf=>two ((qY l).filter λx=>qK x == f))=fl (qY l)) ?_ ?_ ⟨rfl,_,_,rfl,λ_ h=>h,G.keys,i8 _⟩
 .rintro U r _ S' ⟨rfl,e,N,rfl,L,O,Y⟩
  obtain⟨f,j,rfl,v,w⟩:=G.lists U (L U (.head _));have E:(B.set S.length .dead)[j]? = Ab (.lst (((qY l).filter λx=>qK x == f).map jv)):=by rw[Bz li];exact w
  cases N with
  |nil=>cases O
  |cons p N =>
   rw[Ds,Ds] at O;injection O with H k
   injection H with H
   subst H;rw[Nr] at Y;rfl';refine YV E ?_;rfl';rw[Ap];refine xV (λz=>?_) λz=>?_
   .cases T:(qY l).filter λx=>qK x == f with
    |nil=>rw[T] at z;simp at z
    |cons a g =>
     cases g with
     |nil=>rw[T] at z;simp at z
     |cons b g =>
      rw[T] at Y E;have Y:fl (qY l)=Ab (a,b):=Y.symm;rfl';refine uT E (d:=jv a) (fW (a:=0) a8) ?_
      rfl';refine uT E (d:=jv b) (fW (a:=1) a8) ?_
      refine yF (De rfl) ?_;refine AM ?_;rfl';have:=q _ J;rw[Y] at this;exact this
   .have u:two ((qY l).filter λx=>qK x == f)=none:=by
     cases T:(qY l).filter λx=>qK x == f with
     |nil=>rfl
     |cons a g =>
      cases g with
      |nil=>rfl
      |cons b g=>rw[T] at z;exact absurd (by simp only[Ba];lia) z
    rw[u] at Y;rfl';exact v7 ⟨rfl,_,N,rfl,λU O=>L U (.tail _ O),k,Y⟩
 .rintro _ S' ⟨rfl,e,N,rfl,L,O,Y⟩
  cases N with
  |cons _ _=>cases O
  |nil =>
   rfl';have:=q _ J;rw[<- Y] at this;exact this
theorem FH (l:Aa Pt)(f:Am):((qY l).filter λx=>qK x == f).length=(eh l).count f:=by
 unfold eh;rw[List.count_eq_length_filter,List.filter_map,Ap];rfl
def qo (l:Aa Pt):Au:=decide (eh l).Nodup
theorem OQ {l:Aa Pt}(w:∀ p∈l,fy 1000 p)(hl:l.length<=41){S:aq}(q:∀ S',S<+:S'->Q (.bl (qo l)) S'):Ok (ez [zZ l] S) Q:=by
 obtain⟨_,J,I,rfl,kvs,G,L⟩:=o9 (S:=S) (Q:=λd S'=>d=.loc S.length/\∃ kvs,GI qK jv S.length (qY l) kvs S'/\∀ m,m<S.length->S'[m]? = S[m]?) w hl λkvs S' G L=>⟨rfl,kvs,G,L⟩;have hv:xU (jX (qP 1 b_ (qA (qB 0) qC))) [Ab (zZ l)] S=.ok (none,kvs.map (·.2)) (J.set S.length .dead):=by
  unfold xU jX;rw[(u7 (f1:=qB 0) (al:=[Ab (zZ l)]) (S:=S) rfl).trans I,a_.bind_ok];show (match J[S.length]? with|some (.dct kvs)=>a_.ok (kvs.map λY:_L.bz × D=>Y.2) (J.set S.length .dead)|_=>.bad).bind _=_
  rw[G.dict];rfl
 have U:kvs.map (·.1)=(yd (eh l)).map Im:=G.keys
 have M:kvs.length<=1681:=by
  have:=congrArg Hv U;rw[Ap,Ap] at this;have O:=eP (ks:=eh l) (l:=[]);have u:(eh l).length=(qY l).length:=Ap _;have g:=Cs (rK l) (Ab9 hl hl);unfold yd at this;simp only[Cu] at O
  lia
 have N:S<+:J.set S.length .dead:=c7 λm E=>by rw[Bz li];exact L m E
 rw[jU];refine zI (al:=[Ab (zZ l)]) rfl ?_;rfl';refine yT (cw:=(·.2)) (o:=none) kvs (λY=>.bl (match Y.1 with|.inl f=>decide ((eh l).count f=1)|_=>true)) (λal S'=>S'=J.set S.length .dead/\∃ a,al=[a]) hv ⟨rfl,none,rfl⟩ (by unfold bi;lia) (λ_ _ _=>trivial) (λY A al S' ⟨T,a,H⟩=>?_) λal S' ⟨T,_⟩=>?_
 .subst T H
  obtain⟨f,j,rfl,z,O⟩:=G.lists Y A;rfl';refine YV (xs:=((qY l).filter λx=>qK x == f).map jv) (by rw[Bz li];exact O) ?_
  rw[Ap,FH];rfl';refine⟨?_,rfl,_,rfl⟩
  congr 1
  rw[Uk]
  lia
 .subst T
  rfl';refine f7 ?_;have:(kvs.all λY=>match Y.1 with|.inl f=>decide ((eh l).count f=1)|_=>true)=qo l:=by
   have y:(kvs.all λY=>match Y.1 with|.inl f=>decide ((eh l).count f=1)|_=>true)=(kvs.map (·.1)).all λk=>match k with|.inl f=>decide ((eh l).count f=1)|_=>true:=by rw[Kl];rfl
   rw[y,U,Kl];unfold qo;rw[Kn,Ca,Ce,List.nodup_iff_count];constructor
   .intro h f
    by_cases B:f∈eh l
    .have:=Cf (h f (iR.mpr B))
     lia
    .rw[List.count_eq_zero_of_not_mem B]
     lia
   .intro h f B
    have z:=List.count_pos_iff.mpr (iR.mp B);have O:=h f;exact Cz li
  rw[this];exact q _ N
theorem WQ:∀ l:Aa PP,fl l=none↔(l.map qK).Nodup
 |[]=>by simp[fl]
 |x::l=>by
  rw[Ds,Jf,<- WQ l];show (match l.find? (λy=>qK y == qK x) with|some y=>Ab (x,y)|none=>fl l)=none↔_
  cases q:l.find? (λy=>qK y == qK x) with
  |some y =>
   have Y:=Og q;refine⟨λh=>(by cases h),λh=>absurd (Ci.mpr ⟨y,Iw q,by simpa using Y⟩) h.1⟩
  |none =>
   refine⟨λh=>⟨λJ=>?_,h⟩,λh=>h.2⟩;obtain⟨y,Y,e⟩:=Ci.mp J;exact Jz.mp q y Y (by simpa using e)
theorem WR (l:Aa Pt):fl (qY l)=none↔(eh l).Nodup:=WQ _
theorem g9 (p q:Pt):fz (ax p) (ax q)=decide (p=q):=by
 show (p.1 == q.1&&(p.2 == q.2&&true))=_;rw[Kn];simp[Prod.ext_iff]
theorem tV (l:Aa Pt):(l.map ax).all (pl zW)=true:=Ca.mpr λx Y=>by
 obtain⟨p,_,rfl⟩:=Ci.mp Y;rfl
theorem MT (l:Aa Pt)(q:Pt):uk (ax q) (.tup (l.map ax))=Ab (decide (q∈l)):=by
 show (if ((l.map ax).all (pl zW)&&pl zW (ax q))=true then Ab ((l.map ax).any λx=>fz x (ax q)) else none)=_
 rw[tV,Ay (show (true&&pl zW (ax q))=true from rfl)]
 congr 1
 rw[Kn,Um,Ce];constructor
 .rintro⟨x,J,e⟩
  obtain⟨p,U,rfl⟩:=Ci.mp J;rw[g9,Ce] at e;rw[<- e];exact U
 .intro Y
  exact⟨ax q,Rk Y,by rw[g9];exact Cz rfl⟩
theorem h9 (l:Aa Pt)(q:Pt)(S:aq):jA (ax q) (.tup (l.map ax)) S=.ok (.bl (!decide (q∈l))) S:=by
 unfold jA;rw[MT]
theorem o7 (c:Cl){l:Aa Pt}{M:Ai}(U:M<=40)(h:mx M l)(nd:(eh l).Nodup){S:aq}(q:∀ S',S<+:S'->Q .non S'):Ok (cb c [zZ l] S) Q:=by
 rw[wK];refine zI (al:=[Ab (zZ l),none,none,none,none,none]) rfl ?_;rfl';refine YW c U h λJ Y=>?_;rw[(WR l).mpr nd];rfl';refine qN (d:=.bl false) (S:=J) rfl ?_;rfl';exact q _ Y
theorem EH (c:Cl){l:Aa Pt}{M:Ai}(N:M<=40)(h:mx M l)(nd:(eh l).Nodup){p:Pt}(hp:fy 1000 p){S:aq}(q:∀ S',S<+:S'->Q (.bl (!decide (p∈l)&&qo (l++[p]))) S'):Ok (fx c [zZ l,ax p] S) Q:=by
 have hl:=h.len;rw[jV];refine zI (al:=[Ab (.tup (l.map ax)),Ab (ax p)]) rfl ?_;rfl';refine o7 c N h nd λY J=>?_;rfl';refine qN (ZM c Y (rA p) (by rw[iJ];exact Cz hp)) ?_
 rfl';refine kA ?_;rfl';refine qN (h9 l p Y) ⟨_,rfl,λe=>?_,λe=>?_⟩
 .rfl'
  refine yF (by rw[Ap];unfold bi;simp only[Ba,Cu];lia) ?_
  rw[show D.tup (l.map ax++[ax p])=zZ (l++[p]) by unfold zZ;rw[Eu];rfl]
  rfl';refine OQ (λx hx=>?_) (by rw[Bb,EQ];lia) λU G=>?_
  .rcases Bv.mp hx with hx|hx
   .exact h.box x hx
   .rw[Cn.mp hx];exact hp
  .have:=q U (J.trans G)
   rw[e,Tl] at this;exact this
 .have:=q Y J
  rw[e,He] at this;exact this
theorem TN (c:Cl){d:D}(S:aq)(h:Pn d)(k:uB d=false):dc c [d] S=.ex (.ref c.NoLot) .non S:=by
 rw[vI];refine gG (al:=[Ab d,none]) rfl (pO (lV (S':=S) (v:=.ref c.NoLot) (x:=.non) ((u7 rfl).trans (aD c S h k)) ?_));exact⟨_,rfl⟩
theorem KH (c:Cl){d:D}(S:aq)(h:Pn d)(k:uB d=false):cb c [d] S=.ex (.ref c.NoLot) .non S:=by
 rw[wK];refine gG (al:=[Ab d,none,none,none,none,none]) rfl (pO (AL (S':=S) (v:=.ref c.NoLot) (x:=.non) ((u7 rfl).trans (TN c S h k)) ?_));exact⟨_,rfl⟩
noncomputable abbrev qA7:Aa Ar:=["one","two","three","four"]
abbrev alk (c:Cl)(z:PP × PP):D:=.exl (.ref c.Alike) qA7 [ax z.1.1,ax z.1.2,ax z.2.1,ax z.2.2]
theorem aF (c:Cl){l:Aa Pt}{M:Ai}(U:M<=40)(h:mx M l){z:PP × PP}(hz:fl (qY l)=Ab z)(S:aq):∃ S',S<+:S'/\cb c [zZ l] S=.ex (.ref c.Alike) (alk c z) S':=by
 obtain⟨_,Y,e,rfl,J⟩:=YW (S:=S) (Q:=λd S'=>d=qD z/\S<+:S') c U h λS' p=>⟨by rw[hz];rfl,p⟩
 refine⟨Y,J,?_⟩;rw[wK];refine gG (al:=[Ab (zZ l),none,none,none,none,none]) rfl ?_;refine pO (qAa (qN ((u7 rfl).trans e) ?_));rfl';refine qN (d:=.bl true) (S:=Y) rfl ?_;rfl';refine qBK (xs:=[ax z.1.1,ax z.1.2,ax z.2.1,ax z.2.2]) ?_;rfl';exact⟨_,rfl⟩
theorem i7 (c:Cl){l p x:D}{C:Af}{S S':aq}(h:cb c [l] S=.ex (.ref C) x S'):fx c [l,p] S=.ex (.ref C) x S':=by
 rw[jV];refine gG (al:=[Ab l,Ab p]) rfl (pO (lV ((u7 rfl).trans h) ?_));exact⟨_,rfl⟩
theorem MM (c:Cl){l:Aa Pt}{M:Ai}(U:M<=40)(h:mx M l)(nd:(eh l).Nodup){d:D}(hp:Pn d)(k:x9 d=false)(S:aq):∃ S',S<+:S'/\fx c [zZ l,d] S=.ex (.ref c.NoPoint) .non S':=by
 obtain⟨_,Y,e,rfl,J⟩:=o7 (S:=S) (Q:=λd S'=>d=.non/\S<+:S') c U h nd λS' p=>⟨rfl,p⟩;refine⟨Y,J,?_⟩;rw[jV];refine gG (al:=[Ab (zZ l),Ab d]) rfl (pO (AN (qN ((u7 rfl).trans e) (qBa (pO (lV ((u7 rfl).trans (ZL c Y hp k)) ?_))))));exact⟨_,rfl⟩
theorem iX (p:Pt):mh p p=false:=_S.yG.irr _
theorem E8 (h1:mh p q=true)(h2:mh q r=true):mh p r=true:=_S.yG.tr h1 h2
theorem YG (h:mh p q=true):p≠q:=λe=>by subst e;rw[iX] at h;cases h
theorem tL (h:mh p q=true):mh q p=false:=by
 cases Y:mh q p with
 |false=>rfl
 |true =>
  have:=E8 h Y;rw[iX] at this;cases this
theorem kB (n:Ai)(p:Pt):Tr (n+1) (ax p):=.tup n _ λx Y=>by
 simp only[Ax,Di,Gk] at Y;rcases Y with rfl|rfl <;> exact .int _ _
theorem nB (n:Ai)(p:Pt):oj (n+1) (ax p)=true:=by cases n <;> rfl
theorem tK (p q:Pt):ltN (ax p) (ax q)=mh p q:=by
 have Y:=@yD 0 0 (.int p.1) (.int q.1) [.int p.2] [.int q.2] (.int _ _) (.int _ _) rfl;have J:=@yD 0 0 (.int p.2) (.int q.2) [] [] (.int _ _) (.int _ _) rfl;unfold ax;rw[lB,Y,J,lA,lA];unfold mh;rw[_H.bb,_H.bb];show (if (p.1 == q.1)=true then if (p.2 == q.2)=true then _ else _ else _)=_
 simp only[Re];rfl
def qw (x y:PP):Au:=if x.1=y.1 then (if x.2=y.2 then false else mh x.2 y.2) else mh x.1 y.1
theorem aP:∀ {l:Aa Pt},Up l->(qY l).Pairwise λx y=>qw x y=true
 |[],_=>.nil
 |p::l,h=>by
  obtain⟨N,J⟩:=Ea.mp h;show (l.map (λq=>(p,q))++qY l).Pairwise _;refine Dz.mpr ⟨?_,aP J,λx U y G=>?_⟩
  .rw[Gp]
   refine J.imp λ{a b} Y=>?_;show (if p=p then (if a=b then false else mh a b) else mh p p)=true
   rw[Ay rfl,AT (YG Y),Y]
  .obtain⟨q,O,rfl⟩:=Ci.mp U
   have:=N _ (rL G).1;show (if p=y.1 then _ else mh p y.1)=true
   rw[AT (YG this),this]
theorem TQ (x:PP):qw x x=false:=by unfold qw;rw[Ay rfl,Ay rfl]
theorem E9 (h:qw x y=true):qw y x=false:=by
 unfold qw at h ⊢;by_cases e:x.1=y.1
 .rw[Ay e] at h
  rw[Ay e.symm];by_cases Y:x.2=y.2
  .rw[Ay Y] at h;cases h
  .rw[AT Y] at h
   rw[AT (Dw Y)];exact tL h
 .rw[AT e] at h
  rw[AT (Dw e)];exact tL h
noncomputable def lw (aw:Aa PP):Aa PP->Aa (PP × PP)
 |[]=>[]
 |x::xs=>(match aw.find? (λy=>qK y == qK x) with|some y=>[(y,x)]|none=>[])++lw (aw++[x]) xs
theorem YH:∀ (xs aw:Aa PP) (z:PP × PP),z∈lw aw xs->z.1∈aw++xs/\z.2∈xs/\qK z.1=qK z.2
 |[],aw,z,h=>by cases h
 |x::xs,aw,z,h=>by
  rcases Bv.mp (show z∈(match aw.find? (λy=>qK y == qK x) with|some y=>[(y,x)]|none=>[])++lw (aw++[x]) xs from h) with h|h
  .cases q:aw.find? (λy=>qK y == qK x) with
   |none=>rw[q] at h;cases h
   |some y =>
    rw[q] at h;have e:z=(y,x):=by simpa using h
    subst e;exact⟨Dp _ (Iw q),.head _,by simpa using Og q⟩
  .obtain⟨U,J,Y⟩:=YH xs (aw++[x]) z h
   exact⟨by simpa using U,.tail _ J,Y⟩
theorem BJ:∀ (xs aw:Aa PP) (a y:PP),y∈xs->qK y=qK a->(a,y)∈lw (a::aw) xs
 |[],aw,a,y,h,_=>by cases h
 |x::xs,aw,a,y,h,e=>by
  show (a,y)∈(match (a::aw).find? (λy=>qK y == qK x) with|some y=>[(y,x)]|none=>[])++lw (a::aw++[x]) xs
  rcases Ax.mp h with h|h
  .subst h
   refine Dp _ ?_;have:(a::aw).find? (λz=>qK z == qK y)=Ab a:=by
    rw[Ia,e];simp
   rw[this];exact .head _
  .exact Cj _ (BJ xs (aw++[x]) a y h e)
theorem lC (a:PP):∀ (xs aw Y:Aa PP),(∀ y∈xs,qK y≠qK a)->lw (aw++a::Y) xs=lw (aw++Y) xs
 |[],aw,Y,_=>rfl
 |x::xs,aw,Y,h=>by
  have J:(qK a == qK x)=false:=Gj.mpr (Dw (h x (.head _)));have e:(aw++a::Y).find? (λy=>qK y == qK x)=(aw++Y).find? (λy=>qK y == qK x):=by
   rw[Mu,Mu,Ia,J]
  have t:=lC a xs aw (Y++[x]) λy U=>h y (.tail _ U);show (match (aw++a::Y).find? (λy=>qK y == qK x) with|some y=>[(y,x)]|none=>[])++lw (aw++a::Y++[x]) xs=(match (aw++Y).find? (λy=>qK y == qK x) with|some y=>[(y,x)]|none=>[])++lw (aw++Y++[x]) xs
  rw[e,show aw++a::Y++[x]=aw++a::(Y++[x]) by simp,show aw++Y++[x]=aw++(Y++[x]) by simp,t]
theorem tM:∀ xs:Aa PP,fl xs=none->lw [] xs=[]
 |[],_=>rfl
 |x::xs,h=>by
  unfold fl at h;cases q:xs.find? (λy=>qK y == qK x) with
  |some y=>rw[q] at h;cases h
  |none =>
   rw[q] at h;have Y:∀ y∈xs,qK y≠qK x:=λy J e=>by
    have:=Jz.mp q y J;exact this (by simpa using e)
   show [] ++ lw ([] ++ x::[]) xs=[];rw[lC x xs [] [] Y];exact tM xs h
theorem IX:∀ {R:PP->PP->Prop} {xs:Aa PP} {a b:PP},xs.Pairwise R->fl xs=Ab (a,b)->R a b/\qK a=qK b/\a∈xs/\b∈xs
 |R,[],a,b,_,h=>by cases h
 |R,x::xs,a,b,u,h=>by
  obtain⟨U,O⟩:=Ea.mp u;unfold fl at h;cases q:xs.find? (λy=>qK y == qK x) with
  |some y =>
   rw[q] at h;have e:x=a/\y=b:=by simpa using h
   obtain⟨rfl,rfl⟩:=e;have Y:=Iw q;have N:qK y=qK x:=by simpa using Og q
   exact⟨U y Y,N.symm,.head _,.tail _ Y⟩
  |none =>
   rw[q] at h;obtain⟨G,J,B,L⟩:=IX O h;exact⟨G,J,.tail _ B,.tail _ L⟩
theorem BI:∀ {R:PP->PP->Prop} {xs:Aa PP} {a b:PP},xs.Pairwise R->fl xs=Ab (a,b)->(a,b)∈lw [] xs/\∀ z∈lw [] xs,R a z.1\/z.1=a/\(z.2=b\/R b z.2)
 |R,[],a,b,_,h=>by cases h
 |R,x::xs,a,b,u,h=>by
  obtain⟨O,J⟩:=Ea.mp u;unfold fl at h;cases q:xs.find? (λy=>qK y == qK x) with
  |some y =>
   rw[q] at h;have e:x=a/\y=b:=by simpa using h
   obtain⟨rfl,rfl⟩:=e;have U:=Iw q;have L:qK y=qK x:=by simpa using Og q
   refine⟨BJ xs [] x y U L,λz N=>?_⟩;obtain⟨h1,h2,E⟩:=YH xs [x] z N;rcases Ax.mp (show z.1∈x::xs from h1) with h1|h1
   .refine .inr ⟨h1,?_⟩
    obtain⟨H,I,T,B⟩:=List.find?_eq_some_iff_append.mp q |>.2
    rw[T] at h2 J;have Y:(qK z.2 == qK x)=true:=by rw[<- E,h1];exact Fg _
    rcases Bv.mp h2 with h2|h2
    .have:=B z.2 h2
     rw[Y] at this;cases this
    .rcases Ax.mp h2 with h2|h2
     .exact .inl h2
     .exact .inr ((Ea.mp (Dz.mp J).2.1).1 _ h2)
   .exact .inl (O _ h1)
  |none =>
   rw[q] at h;have G:∀ y∈xs,qK y≠qK x:=λy U e=>by
    have:=Jz.mp q y U;exact this (by simpa using e)
   have e:lw [] (x::xs)=lw [] xs:=by
    show [] ++ lw ([] ++ x::[]) xs=_;rw[lC x xs [] [] G];rfl
   rw[e];exact BI J h
theorem X8 (z:PP × PP):oj 6 (qD z)=true:=by
 show (oj 5 (ax z.1.1)&&(oj 5 (ax z.1.2)&&(oj 5 (ax z.2.1)&&(oj 5 (ax z.2.2)&&true))))=true;rw[nB 4,nB 4,nB 4,nB 4];rfl
theorem _O (x y:PP × PP):ltN (qD x) (qD y)=if x.1.1=y.1.1 then (if x.1.2=y.1.2 then qw x.2 y.2 else mh x.1.2 y.1.2) else mh x.1.1 y.1.1:=by
 unfold qD qw;rw[lB,yD (kB 0 x.1.1) (kB 0 y.1.1) rfl,yD (kB 0 x.1.2) (kB 0 y.1.2) rfl,yD (kB 0 x.2.1) (kB 0 y.2.1) rfl,yD (kB 0 x.2.2) (kB 0 y.2.2) rfl,g9,g9,g9,g9,tK,tK,tK,tK];simp only[Ce];rfl
theorem OE {z a:PP × PP}(h:qw a.1 z.1=true\/z.1=a.1/\(z.2=a.2\/qw a.2 z.2=true)):ltN (qD z) (qD a)=false:=by
 rw[_O];rcases h with h|⟨e,h⟩
 .unfold qw at h
  by_cases e:a.1.1=z.1.1
  .rw[Ay e] at h
   rw[Ay e.symm];by_cases Y:a.1.2=z.1.2
   .rw[Ay Y] at h;cases h
   .rw[AT Y] at h
    rw[AT (Dw Y)];exact tL h
  .rw[AT e] at h
   rw[AT (Dw e)];exact tL h
 .rw[e,Ay rfl,Ay rfl]
  rcases h with h|h
  .rw[h];exact TQ _
  .exact E9 h
theorem K6 {a b:D}(J:Tr n a)(Y:Tr m b)(h1:ltN a b=false)(h2:ltN b a=false):a=b:=by
 rcases _S.yG.tri h1 with e|e
 .exact UO J Y e
 .exact absurd e (by unfold ltN at h2;rw[h2];simp)
theorem OF {l:Aa Pt}(h:Up l)(S:aq){n:Ai}(T:S[n]? = Ab (.lst ((lw [] (qY l)).map qD))):yc [.loc n] .non S=.ok (sw (fl (qY l))) S:=by
 have L:wd (.loc n) S=Ab ((lw [] (qY l)).map qD):=by
  show (match S[n]? with|some (.lst xs)=>Ab xs|_=>none)=_
  rw[T]
 show (match wd (.loc n) S with|some [] => a_.ok D.non S|some (x::xs)=>if uh (x::xs)=true then a_.ok (lD (x::xs)) S else a_.bad|none=>a_.bad)=_
 rw[L];cases q:fl (qY l) with
 |none =>
  rw[tM _ q];rfl
 |some z =>
  obtain⟨a,b⟩:=z;obtain⟨J,G⟩:=BI (aP h) q;cases Y:(lw [] (qY l)).map qD with
  |nil =>
   have:lw [] (qY l)=[]:=Yq.mp Y;rw[this] at J;cases J
  |cons x xs =>
   have N:uh (x::xs)=true:=by
    rw[<- Y];refine Ca.mpr λu E=>?_;obtain⟨u,_,rfl⟩:=Ci.mp E;rw[X8,Tl];refine Ca.mpr λv hv=>?_;obtain⟨v,_,rfl⟩:=Ci.mp hv;rfl
   show (if uh (x::xs)=true then a_.ok (lD (x::xs)) S else .bad)=_
   rw[Ay N,<- Y];have O:0<((lw [] (qY l)).map qD).length:=by rw[Y];exact Pc _
   obtain⟨B,I⟩:=YL O;obtain⟨m,H,em⟩:=Ci.mp B;have A:ltN (qD m) (qD (a,b))=false:=OE (G m H);have U:ltN (qD (a,b)) (qD m)=false:=by rw[em];exact I _ (Ci.mpr ⟨(a,b),J,rfl⟩)
   rw[<- em,K6 (X7 (X8 m)) (X7 (X8 (a,b))) A U];rfl
theorem RN (C:Am->Am->Au)(f:Am->Am->D)(i j:Am)(S:aq):i2 C f (.int i) (.int j) S=if C i j=true then .ok (f i j) S else .bad:=rfl
theorem JK (i j:Am)(S:aq):zB (.int i) (.int j) S=.ok (.int (i+j)) S:=rfl
theorem K1 (xs:Aa D)(S:aq):xJ [.tup xs] S=.ok (.int xs.length) S:=rfl
theorem JL {ys:Aa D}(h:xs.length+ys.length<=bi)(S:aq):zB (.lst xs) (.lst ys) S=.ok (.lst (xs++ys)) S:=Ay h
theorem qAY (h:S[j]? = Ab (.lst xs)):mf (.loc j) S=Ab "list":=by
 show (match S[j]? with|some (.lst _)=>Ab "list" | some (.dct _)=>Ab "dict" | _=>none)=_
 rw[h]
theorem DC (h:S[j]? = Ab (.lst xs))(hl:xs.length<bi)(d:D):xQ (.loc j) [d] S=.ok .non (S.set j (.lst (xs++[d]))):=by
 show (match S[j]? with|some (.lst xs)=>(if xs.length<bi then a_.ok D.non (S.set j (.lst (xs++[d]))) else .bad)|_=>.bad)=_
 rw[h];exact Ay hl
theorem JM {ys:Aa D}(h:xs.length+ys.length<=bi)(S:aq):zB (.tup xs) (.tup ys) S=.ok (.tup (xs++ys)) S:=Ay h
theorem T6 {k:Am}(h:_L.io xs k=Ab d)(S:aq):dj (.tup xs) (.int k) S=.ok d S:=by
 show _D.v9 (_L.io xs k) S=_;rw[h];rfl
def iD (n:Ai):D:=.int (n:Am)
theorem qAL (n:Ai)(h:n<=1000000):jJ [.int (n:Am)]=Ab (w4 0 (n:Am).toNat):=by
 unfold jJ;have : -(2 ^ 62)<=(n:Am)/\(n:Am)<2 ^ 62:=⟨by fin2,by fin2⟩
 exact Ay this
theorem GM (n:Ai):w4 0 (n:Am).toNat=(Dd n).map iD:=by
 unfold w4;rw[Fy]
 congr 1
 funext i
 unfold iD;rw[Int.zero_add]
theorem L0 (n:Ai)(h:n<=1000000):jJ [.int (n:Am)]=Ab ((Dd n).map iD):=by
 rw[qAL n h,GM]
theorem VQ {β:Type}(b:β)(S:aq):_D.v9 (Ab b) S=.ok b S:=rfl
def rJ (p:Pt):Prop:=-2000<=p.1/\p.1<=2000 /\ -2000<=p.2/\p.2<=2000
theorem NF (h:fy 1000 p):rJ p:=by
 unfold fy at h;unfold rJ
 lia
theorem Y6 (p:Pt)(S:aq):dj (ax p) (.int 0) S=.ok (.int p.1) S:=rfl
theorem Y7 (p:Pt)(S:aq):dj (ax p) (.int 1) S=.ok (.int p.2) S:=rfl
theorem FK (xs:Aa D)(i:Ai):zY xs (Ab ((i:Am)+1)) none=xs.drop (i+1):=by
 unfold zY;have Y:_H.cf xs.length 0 (Ab ((i:Am)+1))=min (i+1) xs.length:=by
  have:((i:Am)+1)=((i+1:Ai):Am):=by fin2
  rw[this,_H.ol]
 rw[Y,_H.mn];by_cases h:i+1<=xs.length
 .rw[Of h,Fl a8]
 .have:xs.drop (i+1)=[]:=Jp om
  rw[this,Ul om];simp
theorem B7 (i:Am)(h:i.natAbs<2 ^ 64)(S:aq):kK (.int i) (.int 2) S=.ok (.int (i*i)) S:=by
 unfold kK;rw[RN,Ay (by unfold DJ;exact Cz ⟨by fin2,by fin2,h⟩)]
 show a_.ok (D.int (i ^ (0+1+1))) S=_;rw[Int.pow_succ,Int.pow_succ,Int.pow_zero,Int.one_mul]
theorem CT (p q:Pt)(S:aq)(hp:rJ p)(Y:rJ q):fr [ax p,ax q] S=.ok (.int (oq p q)) S:=by
 obtain⟨O,L,T,E⟩:=hp;obtain⟨B,G,I,N⟩:=Y;rw[pQ];have sub:∀ (i j:Am),wM (.int i) (.int j) S=.ok (.int (i-j)) S:=λ_ _=>rfl;have U:d2 kK (d2 wM (d2 dj (qB 0) (dC (.int 0))) (d2 dj (qB 1) (dC (.int 0)))) (dC (.int 2)) [Ab (ax p),Ab (ax q)] S=.ok (.int ((p.1-q.1)*(p.1-q.1))) S:=
  (y8 ((y8 ((y8 (a:=ax p) (b:=.int 0) rfl rfl).trans (Y6 p S)) ((y8 (a:=ax q) (b:=.int 0) rfl rfl).trans (Y6 q S))).trans (sub _ _)) rfl).trans (B7 _ om S)
 have J:d2 kK (d2 wM (d2 dj (qB 0) (dC (.int 1))) (d2 dj (qB 1) (dC (.int 1)))) (dC (.int 2)) [Ab (ax p),Ab (ax q)] S=.ok (.int ((p.2-q.2)*(p.2-q.2))) S:=
  (y8 ((y8 ((y8 (a:=ax p) (b:=.int 1) rfl rfl).trans (Y7 p S)) ((y8 (a:=ax q) (b:=.int 1) rfl rfl).trans (Y7 q S))).trans (sub _ _)) rfl).trans (B7 _ om S)
 exact L5 (al:=[Ab (ax p),Ab (ax q)]) rfl ((y8 U J).trans (JK _ _ S))
inductive V_ (l:Aa Pt)(S0:aq)(ds:Aa D)(env:qE)(S:aq):Prop
 |mk (i m:Ai) (e2:Al D) (done:Aa (Pt × Pt)) (h_0:env=[Ab (.tup (l.map ax)),Ab (.lst (done.map jv)),e2]) (h_1:ds=(List.range' i m).map iD) (h_2:i+m=l.length) (h_3:done++qY (l.drop i)=qY l) (h_4:S=S0):V_ l S0 ds env S
theorem GE (l:Aa Pt)(S:aq)(hl:l.length<=41):df [.tup (l.map ax)] S=.ok (.lst ((qY l).map jv)) S:=by
 have p:=ZJ hl;have L:Rt (ev [Ab (.tup (l.map ax)),none,none] S) λd J=>d=.lst ((qY l).map jv)/\J=S:=by
  unfold ev;refine tZ (lG (d:=.lst []) (S1:=S) rfl rfl ?_);have M:wZ (qA (qH xJ (qA (qB 0) qC)) qC) [Ab (.tup (l.map ax)),Ab (.lst []),none] S=.ok ((List.range' 0 l.length).map iD) S:=by
   have T:qH xJ (qA (qB 0) qC) [Ab (.tup (l.map ax)),Ab (.lst []),none] S=.ok (.int (l.length:Am)) S:=by
    rw[DM (a:=.tup (l.map ax)) rfl,K1,Ap]
   unfold wZ;rw[W5 T,a_.bind_ok,L0 l.length om,VQ,List.range_eq_range']
  refine tZ (YT M ?_);refine lH (V_ l S) ?_ ?_ ⟨0,l.length,none,[],rfl,rfl,by fin2,rfl,rfl⟩
  .rintro d u al J ⟨i,m,E,done,rfl,U,w,Y,rfl⟩
   cases m with
   |zero=>cases U
   |succ m =>
    rw[List.range'_succ,Ds] at U;injection U with y A
    subst y A;have H:i<l.length:=by fin2
    have O:l.drop i=l[i]::l.drop (i+1):=Fi H;rw[O] at Y;refine⟨[Ab (.tup (l.map ax)),Ab (.lst (done.map jv)),Ab (iD i)],J,rfl,?_⟩;have B:mr (lz (qB 0) (zS (d2 zB (qB 2) (dC (.int 1)))) xA) [Ab (.tup (l.map ax)),Ab (.lst (done.map jv)),Ab (iD i)] J=.ok (none,(l.drop (i+1)).map ax) J:=by
     have T:su (.tup (l.map ax)) (Ab ((i:Am)+1)) none J=.ok (.tup ((l.drop (i+1)).map ax)) J:=by
      show a_.ok (D.tup (zY (l.map ax) (Ab ((i:Am)+1)) none)) J=_;rw[FK,<- Tv]
     unfold iD;have E:lz (qB 0) (zS (d2 zB (qB 2) (dC (.int 1)))) xA [Ab (.tup (l.map ax)),Ab (.lst (done.map jv)),Ab (.int (i:Am))] J=.ok (.tup ((l.drop (i+1)).map ax)) J:=by
      exact T
     unfold mr;rw[E];rfl
    have N:_L.io (l.map ax) (i:Am)=Ab (ax l[i]):=_L.F5 (by rw[Ee,An H];rfl)
    have I:=FI (cw:=ax) (cj:=[none,Ab 2,Ab 0]) (g:=bx 0) (t:=xS) (fe:=zM (qA (d2 dj (qB 2) (qB 1)) (qA (qB 0) qC))) B trivial (λ_=>true) (λq=>jv (l[i],q)) (λal=>∃ a,al=[a,Ab (iD i),Ab (.tup (l.map ax))]) ⟨none,rfl⟩ (by rw[Gg];unfold bi;fin2)
     (λq o al ⟨a,z⟩=>by
      subst z;exact⟨[Ab (ax q),Ab (iD i),Ab (.tup (l.map ax))],rfl,⟨_,rfl⟩,rfl,λ_=>VY (eC ((y8 (a:=.tup (l.map ax)) (b:=.int (i:Am)) rfl rfl).trans (T6 N J)) rfl) (by show 2<=bi;decide)⟩)
    rw[WN] at I;have G:done.length+(l.drop (i+1)).length<=bi:=by
     have:=congrArg Hv Y;simp only[qY,Bb,Ap] at this;unfold bi;fin2
    refine lG ((y8 (a:=.lst (done.map jv)) rfl I).trans (JL (by rw[Ap,Ap];exact G) J)) rfl ?_
    refine⟨i+1,m,Ab (iD i),done++(l.drop (i+1)).map λq=>(l[i],q),?_,rfl,by fin2,?_,rfl⟩
    .rw[Eu,Il]
     rfl
    .rw[Cg]
     exact Y
  .rintro al J ⟨i,m,E,done,rfl,U,w,Y,rfl⟩
   have k:m=0:=by
    have:=congrArg Hv U;simpa using this.symm
   rw[Mb om,qY,Gs] at Y;subst Y;exact CU (qN (S:=J) rfl ⟨rfl,rfl⟩)
 obtain⟨d,J,e,rfl,rfl⟩:=L;rw[jR];exact VT rfl e
theorem A0 (h:S[j]? = Ab (.dct kvs))(hl:kvs.length<bi)(n:Am)(d:D):yL (.loc j) (.int n) d S=.ok () (S.set j (.dct (wQ kvs (.inl n) d))):=by
 show (match S[j]? with|some (.dct kvs)=>(match yB (.int n) with|some k=>(if kvs.length<bi then a_.ok () (S.set j (.dct (wQ kvs k d))) else .bad)|none=>.bad)|_=>mE (.loc j) (.int n) d S)=_
 rw[h];exact Ay hl
theorem ID {g:D->Aa D->aq->a_ D}{Y:DE}{J:DA}(h1:Y al S=.ok o S1)(U:mf o S1=Ab ty)(h2:J al S1=.ok ds S2):qr ty g Y J al S=g o ds S2:=by
 unfold qr;rw[h1,a_.bind_ok,U,Ay a8,h2,a_.bind_ok]
theorem qAO {f o i:DE}{h:G3}{d a b:D}(h1:f al S=.ok d S1)(h2:o al S1=.ok a S2)(h3:i al S2=.ok b Y)(U:h a b d Y=.ok () J):qZ f (sv o i h) al S=.nx al J:=by
 simp only[qZ,sv,h1,h2,h3,U,a_.toS,a_.bind]
theorem eD {n:Ai}(h:S[n]? = Ab (.dct kvs)):bR (.loc n) S=Ab kvs:=by
 show (match S[n]? with|some (.dct kvs)=>Ab kvs|_=>none)=_
 rw[h]
theorem RO {n:Ai}(h:S[n]? = Ab (.dct kvs))(f:Am):mD (.int f) (.loc n) S=.ok (.bl (x5 kvs (.inl f)).isSome) S:=by
 unfold mD;rw[eD h];rfl
theorem RV {n:Ai}(h:S[n]? = Ab (.dct kvs))(f:Am){d:D}(hd:x5 kvs (.inl f)=Ab d):bD (.loc n) (.int f) S=.ok d S:=by
 unfold bD;rw[eD h];show (match x5 kvs (.inl f) with|some d=>a_.ok d S|none=>.bad)=_
 rw[hd]
theorem LL (kvs:Aa (_L.bz × D))(f g:Am)(d:D):x5 (kvs++[(.inl f,d)]) (.inl g)=(x5 kvs (.inl g)).or (if f=g then Ab d else none):=by
 unfold x5;rw[Mu];cases q:kvs.find? λY=>decide (Y.1=Im g) with
 |some z=>rfl
 |none =>
  by_cases h:f=g
  .subst h;simp
  .have:(Im f:_L.bz)≠Im g:=λe=>h (by injection e)
   simp[h]
def fb (l:Aa Pt):DS:=qS (qZ (qP 2 fr (qA (qB 3) (qA (qB 4) qC))) (bx 5)) (gk (ef (d2 mD (qB 5) (qB 1))) (wR (qr "list" xQ (qB 2) (qA (d2 zB (d2 bD (qB 1) (qB 5)) (zM (qA (qB 3) (qA (qB 4) qC)))) qC))) (qZ (zM (qA (qB 3) (qA (qB 4) qC))) (sv (qB 1) (qB 5) yL)))
structure zm (l:Aa Pt)(S:aq)(ds:Aa D)(env:qE)(S':aq):Prop where
 ex:∃ (e3 e4 e5:Al D) (done qG:Aa PP) (kvs:Aa (_L.bz × D)) (fnd:Aa (PP × PP)),env=[Ab (.tup (l.map ax)),Ab (.loc S.length),Ab (.loc (S.length+1)),e3,e4,e5]/\ds=qG.map jv/\done++qG=qY l/\S'[S.length]? = Ab (.dct kvs)/\S'[S.length+1]? = Ab (.lst (fnd.map qD))/\(∀ m,m<S.length->S'[m]? = S[m]?)/\fnd++lw done qG=lw [] (qY l)/\(∀ f:Am,x5 kvs (.inl f)=(done.find? λy=>qK y == f).map jv)/\kvs.length<=done.length/\fnd.length<=done.length
theorem XA {l:Aa Pt}(hl:l.length<=40)(I:∀ p∈l,rJ p){S:aq}{d:D}{ds:Aa D}{al:qE}{S':aq}(h:zm l S (d::ds) al S'):∃ O S1,mq 2 (zE (bx 3) (zE (bx 4) wB)) d al S'=.ok O S1/\Nx (fb l O S1) (zm l S ds):=by
 obtain⟨e3,e4,r,done,qG,kvs,T,rfl,Y,N,L,A,w,k,hv,h1,h2⟩:=h.ex;cases qG with
 |nil=>cases Y
 |cons x qG =>
  rw[Ds] at Y;injection Y with g Y
  subst g Y;refine⟨[Ab (.tup (l.map ax)),Ab (.loc S.length),Ab (.loc (S.length+1)),Ab (ax x.1),Ab (ax x.2),r],S',rfl,?_⟩;have u:x∈qY l:=by rw[<- N];simp
  obtain⟨s,c⟩:=rL u;have hz:done.length<4000:=by
   have:=ZJ (l:=l) om;rw[<- N,Bb,Ba] at this;fin2
  unfold fb;refine EF (lG ((QF (a:=ax x.1) (b:=ax x.2) rfl rfl).trans (CT x.1 x.2 S' (I _ s) (I _ c))) rfl ?_);show Nx (gk _ _ _ [Ab (.tup (l.map ax)),Ab (.loc S.length),Ab (.loc (S.length+1)),Ab (ax x.1),Ab (ax x.2),Ab (.int (qK x))] S') _;have E:∀ S1:aq,zM (qA (qB 3) (qA (qB 4) qC)) [Ab (.tup (l.map ax)),Ab (.loc S.length),Ab (.loc (S.length+1)),Ab (ax x.1),Ab (ax x.2),Ab (.int (qK x))] S1=.ok (jv x) S1:=λS1=>VY (eC (a:=ax x.1) (b:=ax x.2) rfl rfl) (show 2<=bi by decide)
  refine OJ (qAW ((y8 (a:=.int (qK x)) (b:=.loc S.length) rfl rfl).trans (RO L (qK x)))) ?_;have G:=hv (qK x);have U:lw done (x::qG)=(match done.find? (λy=>qK y == qK x) with|some y=>[(y,x)]|none=>[])++lw (done++[x]) qG:=rfl
  cases q:done.find? (λy=>qK y == qK x) with
  |some y =>
   rw[q] at G U;have J:x5 kvs (.inl (qK x))=Ab (jv y):=G;rw[J];show Nx (wR _ _ S') _;have i:mf (.loc (S.length+1)) S'=Ab "list":=qAY A;refine TU (qN ((ID (o:=.loc (S.length+1)) rfl i (IH ((y8 ((y8 (a:=.loc S.length) (b:=.int (qK x)) rfl rfl).trans (RV L _ J)) (E S')).trans (JM (xs:=[ax y.1,ax y.2]) (ys:=[ax x.1,ax x.2]) (show 2+2<=bi by decide) S')) rfl)).trans (DC A (by rw[Ap];unfold bi;fin2) _)) ?_)
   refine⟨_,_,_,done++[x],qG,kvs,T++[(y,x)],rfl,rfl,by rw[<- N];simp,?_,?_,λm B=>?_,?_,λf=>?_,?_,?_⟩
   .rw[Bz om];exact L
   .rw[Dv (Bd.mp A).1,Eu];rfl
   .rw[Bz om];exact w m B
   .rw[<- k,U];simp
   .rw[hv f,Mu]
    cases M:done.find? (λy=>qK y == f) with
    |some z=>rfl
    |none =>
     have:(qK x == f)=false:=by
      cases e:qK x == f with
      |false=>rfl
      |true =>
       have t:qK x=f:=by simpa using e
       rw[t] at q;rw[q] at M;cases M
     rw[Ia,this];rfl
   .rw[Bb];fin2
   .rw[Bb,Bb];simp only[EQ];fin2
  |none =>
   rw[q] at G U;have J:x5 kvs (.inl (qK x))=none:=G;rw[J];show Nx (qZ _ _ _ S') _;have H:wQ kvs (.inl (qK x)) (jv x)=kvs++[(.inl (qK x),jv x)]:=by
    unfold wQ;rw[AT];intro z;obtain⟨v,n,h4⟩:=Um.mp z;exact cU J v n (Cf h4)
   refine ZO (qAO (E S') (a:=.loc S.length) (b:=.int (qK x)) rfl rfl (A0 L (by unfold bi;fin2) (qK x) (jv x))) ?_
   rw[H];refine⟨_,_,_,done++[x],qG,kvs++[(.inl (qK x),jv x)],T,rfl,rfl,by rw[<- N];simp,?_,?_,λm B=>?_,?_,λf=>?_,?_,?_⟩
   .rw[Dv (Bd.mp L).1]
   .rw[Bz om];exact A
   .rw[Bz om];exact w m B
   .rw[<- k,U];rfl
   .rw[LL,hv f,Mu]
    cases M:done.find? (λy=>qK y == f) with
    |some z=>rfl
    |none =>
     by_cases e:qK x=f
     .rw[Ay e];simp[e]
     .rw[AT e];simp[e]
   .rw[Bb,Bb];simp only[EQ];fin2
   .rw[Bb];fin2
theorem GD (l:Aa Pt)(h:mx 40 l)(S:aq):∃ S',bh [.tup (l.map ax)] S=.ok (sw (fl (qY l))) S'/\S<+:S':=by
 have hl:=h.len;have B:Rt (cg [Ab (.tup (l.map ax)),none,none,none,none,none] S) λd S'=>d=sw (fl (qY l))/\S<+:S':=by
  unfold cg;refine tZ (EE (a:=.loc S.length) (b:=.loc (S.length+1)) (S1:=S++[.dct []]) (S2:=S++[.dct []] ++ [.lst []]) rfl ?_ ?_)
  .show a_.ok (D.loc (S++[MO.dct []]).length) (S++[MO.dct []] ++ [MO.lst []]) = _
   rw[Bb];rfl
  show Rt (qS (yH _ _ (fb l)) _ [Ab (.tup (l.map ax)),Ab (.loc S.length),Ab (.loc (S.length+1)),none,none,none] _) _;have A:wU (qP 1 df (qA (qB 0) qC)) [Ab (.tup (l.map ax)),Ab (.loc S.length),Ab (.loc (S.length+1)),none,none,none] (S++[.dct []] ++ [.lst []]) = .ok ((qY l).map jv) (S++[.dct []] ++ [.lst []]):=by
   unfold wU;rw[u7 (a:=.tup (l.map ax)) rfl,GE l _ om,a_.bind_ok];rfl
  refine tZ (YT A (lH (zm l S) (λd k al S' O=>XA hl (λp Y=>NF (h.box p Y)) O) (λal S' O=>?_) ⟨none,none,none,[],qY l,[],[],rfl,rfl,rfl,?_,?_,λm N=>?_,rfl,λf=>rfl,Av _,Av _⟩))
  .obtain⟨T,L,E,done,qG,kvs,U,rfl,J,M,z,I,N,w,hv,u,y⟩:=O.ex
   have H:qG=[]:=Yq.mp J.symm;subst H;have G:U=lw [] (qY l):=by rw[<- w];simp[lw]
   rw[G] at I;refine qAM (d:=sw (fl (qY l))) (S:=S') ?_ ⟨rfl,c7 N⟩;show (mV (qA (qB 2) qC) (dC .non) [Ab (.tup (l.map ax)),Ab (.loc S.length),Ab (.loc (S.length+1)),T,L,E] S').toS _ _=_;have:mV (qA (qB 2) qC) (dC .non) [Ab (.tup (l.map ax)),Ab (.loc S.length),Ab (.loc (S.length+1)),T,L,E] S'=yc [.loc (S.length+1)] .non S':=rfl;rw[this,OF h.up S' I];rfl
  .simp
  .simp
  .rw[Cg,Bo N]
 obtain⟨d,S',e,rfl,Y⟩:=B;refine⟨S',?_,Y⟩;rw[vH];exact VT rfl e
theorem Y4 (z:Al (PP × PP))(S:aq):ul (sw z) .non S=.ok (.bl z.isNone) S:=by cases z <;> rfl
theorem MY (z:Al (PP × PP))(S:aq):bC (sw z) .non S=.ok (.bl (!z.isNone)) S:=by cases z <;> rfl
theorem iK (l:Aa Pt):(fl (qY l)).isNone=qo l:=by
 rw[Kn,Option.isNone_iff_eq_none,WR];unfold qo;exact Zi.symm
theorem mK {l:Aa Pt}(h:mx 40 l){S:aq}(q:∀ S',S<+:S'->Q (sw (fl (qY l))) S'):Ok (bh [.tup (l.map ax)] S) Q:=by
 obtain⟨S',e,p⟩:=GD l h S;exact⟨_,_,e,q S' p⟩
theorem oV (l:Aa Pt):qo l=true↔(eh l).Nodup:=by unfold qo;exact Zi
theorem YZ (l:ps.length<=100000)(h:Q (.lst ((uP ps).map ax)) S):Ok (gA [.tup (ps.map ax)] S) Q:=by
 refine⟨_,_,?_,h⟩;show (match (Ab (ps.map ax)).bind pM with|some Y=>a_.ok (D.lst Y) S|none=>.bad)=_
 rw[Qj,GW ps l]
theorem EJ (H:∀ x∈ps,fy 1000 x)(hl:ps.length<=30)(I:ps≠[]){S:aq}(q:∀ l S',S<+:S'->mx 30 l->(eh l).Nodup->Q (zZ l) S'):Ok (fv [.lst (ps.map ax)] S) Q:=by
 rw[kU];refine zI (al:=[Ab (.lst (ps.map ax)),none,none,none]) rfl ?_;rfl';refine vU (λr al S'=>∃ l A M done,al=[Ab (.lst (ps.map ax)),Ab (.tup (l.map ax)),A,M]/\S<+:S'/\done++r=ps/\l.length<=done.length/\(∀ x∈l,fy 1000 x)/\Up l/\(eh l).Nodup/\(done≠[]->l≠[])) ?_ ?_ ⟨[],_,_,[],rfl,Br _,rfl,Av _,(λ_ h=>by cases h),.nil,Pg,λz=>absurd rfl z⟩
 .rintro p r _ S' ⟨l,A,M,done,rfl,N,J,G,Y,O,B,k⟩
  have d:done.length<30:=by
   have:=congrArg Hv J;rw[Bb,Ba] at this
   lia
  have T:fy 1000 p:=H p (by rw[<- J];exact Cj _ (.head _))
  have E:∀ x∈l++[p],fy 1000 x:=λx hx=>by
   rcases Bv.mp hx with hx|hx
   .exact Y x hx
   .rw[Cn.mp hx];exact T
  rfl';refine yF (by rw[Ap];unfold bi;simp only[Ba,Cu];lia) ?_
  rw[show l.map ax++[ax p]=(l++[p]).map ax by rw[Eu];rfl]
  rfl';refine YZ (by rw[Bb,EQ];lia) ?_
  rfl';refine YU ?_;rfl';refine qN (h9 l p S') ?_;rfl';refine⟨λe=>?_,λe=>?_⟩
  .have U:p ∉ l:=by simpa using e
   have c:(l++[p]).Nodup:=Kr.mpr ⟨F0 O,Ln _ _,λa g b H z=>U (by rw[Cn.mp H] at z;rw[<- z];exact g)⟩
   have L:mx 40 (uP (l++[p])):=BF a8 (by rw[Bb,EQ];lia) c E
   rfl';refine mK L λu y=>?_;rfl';refine qN (Y4 _ u) ?_;rw[iK];cases w:qo (uP (l++[p])) with
   |true =>
    rfl';refine v7 ⟨uP (l++[p]),_,_,done++[p],rfl,N.trans y,by rw[<- J];simp,?_,L.box,L.up,(oV _).mp w,λ_=>L.ne⟩
    rw[(uJ _).length_eq,Bb,Bb];simpa using G
   |false =>
    rfl';refine v7 ⟨l,_,_,done++[p],rfl,N.trans y,by rw[<- J];simp,by rw[Bb];lia,Y,O,B,λ_ o=>?_⟩
    subst o;have:qo (uP ([] ++ [p]))=true:=(oV _).mpr ((dJ (uJ _)).nodup_iff.mpr Pg);rw[this] at w;cases w
  .have U:p∈l:=by simpa using e
   rfl';exact v7 ⟨l,_,_,done++[p],rfl,N,by rw[<- J];simp,by rw[Bb];lia,Y,O,B,λ_ z=>by rw[z] at U;cases U⟩
 .rintro _ S' ⟨l,A,M,done,rfl,N,J,G,Y,O,B,k⟩
  have J:done=ps:=by simpa using J
  subst J;rfl';exact q l S' N ⟨k I,Cs G hl,O,Y⟩ B
theorem O9 {i n:Ai}(e:al[i]? = Ab (Ab (.int (n:Am))))(h:n<=1000000):xU (wZ (qA (qB i) qC)) al S=.ok (none,(Dd n).map λ(i:Ai)=>D.int (i:Am)) S:=xD (z9 (ZR (yU (o_v e (pB ⟨_,ZX n h,_,_,rfl,rfl,rfl⟩)))))
theorem Z5 {i:Ai}{k:Am}(e:al[i]? = Ab (Ab (.int k)))(h:0<=k/\k<=1000000):xU (wZ (qA (qB i) qC)) al S=.ok (none,(Dd k.toNat).map λ(i:Ai)=>D.int (i:Am)) S:=O9 (by rw[Yo h.1];exact e) li
def Bx (w:Am)(x:Pt):Prop:=-w<=x.1/\x.1<=w /\ -w<=x.2/\x.2<=w
theorem gE {w:Am}(hw:1<=w/\w<=1000){S:aq}(h:y7 S p)(q:∀ x S1,Kp p S S1->Bx w x->Q (ax x) S1):Ok (bp [.loc p,.int w] S) Q:=by
 rw[jS];refine zI (al:=[Ab (.loc p),Ab (.int w)]) rfl ?_;rfl';refine wJ h li λr S1 Y N=>?_;rfl';refine wJ Y.pen li λt J U G=>?_;rfl';exact q ((r:Am)-w,(t:Am)-w) J (Y.trans U) ⟨by dsimp only;lia,by dsimp only;lia,by dsimp only;lia,by dsimp only;lia⟩
structure yq (n:Ai)(ps:Aa Pt):Prop where
 ne:ps≠[]
 len:ps.length<=n
 box:∀ x∈ps,fy 1000 x
theorem jG:∀ {ds:Aa D},(∀ d∈ds,∃ x,d=ax x/\fy 1000 x)->∃ ps:Aa Pt,ds=ps.map ax/\∀ x∈ps,fy 1000 x
 |[],_=>⟨[],rfl,λ_ h=>by cases h⟩
 |d::ds,h=>by
  obtain⟨x,rfl,Y⟩:=h d (.head _);obtain⟨ps,rfl,U⟩:=jG λd J=>h d (.tail _ J);exact⟨x::ps,rfl,λy hy=>by
   rcases Ax.mp hy with rfl|hy
   .exact Y
   .exact U y hy⟩
theorem XZ (xs:Aa D)(n:Ai):zY xs none (Ab (n:Am))=xs.take n:=by
 unfold zY;have J:_H.cf xs.length 0 none=0:=rfl;have Y:_H.cf xs.length xs.length (Ab (n:Am))=min n xs.length:=by
  show (if (n:Am)<0 then ((n:Am)+(xs.length:Am)).toNat else min (n:Am).toNat xs.length)=_
  rw[AT li,Fy]
 rw[J,Y,Nat.sub_zero,List.drop_zero];rcases Nat.le_total n xs.length with h|h
 .rw[Of h]
 .rw[Ul h,Fl h,Fl (Av _)]
theorem lI {fe:DE}(g:Pt->Pt)(e:al[8]? = Ab (Ab (.lst (ps.map ax))))(hl:ps.length<=100)(step:∀ x:Pt,Ok (fe [Ab (.int x.1),Ab (.int x.2)] S) λd U=>d=ax (g x)/\U=S)(q:Q (.lst ((ps.map g).map ax)) S):Ok (zH false [none,none] (mr (qB 8)) (mq 2 (zE (bx 0) (zE (bx 1) wB))) xS (zN fe) al S) Q:=by
 refine yT (cw:=ax) (o:=none) ps (λx=>ax (g x)) (λal Y=>Y=S/\∃ a b,al=[a,b]) (_R e) ⟨rfl,none,none,rfl⟩ (by unfold bi;lia) (λ_ _ _=>trivial) (λx O al Y ⟨J,a,b,G⟩=>?_) λal Y ⟨J,_⟩=>?_
 .subst J G
  obtain⟨d,U,N,rfl,rfl⟩:=step x;exact⟨_,_,rfl,_,_,rfl,rfl,_,_,N,rfl,rfl,_,_,rfl⟩
 .subst J
  rw[Il] at q;exact q
theorem ON (h:y7 S p)(q:∀ (l:Aa Pt) S',y7 S' p->mx 40 l->Q (zZ l) S'):Ok (gg [.loc p,.int 40] S) Q:=by
 rw[pR];refine zI (al:=[Ab (.loc p),Ab (.int 40),none,none,none,none,none,none,none]) rfl ?_;rfl';refine wJ h li λA S1 k1 s=>?_;rfl';refine wJ k1.pen li λm S2 k2 n=>?_;obtain⟨Y,em,hm⟩:∃ Y:Am,1+(m:Am)=Y/\1<=Y/\Y<=40:=⟨_,rfl,by lia,by lia⟩
 rfl';rw[em];refine wJ k2.pen li λr S3 k3 h3=>?_;refine tP (show r<5 by lia) λd c=>?_
 obtain⟨wide,rfl,hw⟩:∃ w:Am,d=.int w/\1<=w/\w<=1000:=by
  simp only[Ax,Di,Gk] at c;rcases c with rfl|rfl|rfl|rfl|rfl <;> exact⟨_,rfl,by lia⟩
 rfl';refine gE (w:=400) li k3.pen λa S4 e ha=>?_;rfl';refine wJ e.pen li λst S5 k5 h5=>?_;rfl';have t:1<=1+(st:Am)/\1+(st:Am)<=9:=by lia
 generalize 1+(st:Am)=st at t;have v:=k5.pen;clear k1 k2 k3 e k5 s n h3 h5 c em;refine o6 (cw:=λ(i:Ai)=>D.int (i:Am)) (o:=none) (Dd Y.toNat) (λd=>∃ x,d=ax x/\fy 1000 x) (λal S'=>y7 S' p/\∃ z,al=[z,Ab (.loc p),Ab (.int wide)]) (Z5 rfl li) ⟨v,none,rfl⟩ (by rw[Ev];unfold bi;lia) (λ_ _ _=>trivial) (λx J al S' ⟨T,z,u⟩=>?_) λds al S6 hl hR ⟨v,_⟩=>?_
 .subst u
  rfl';refine gE (w:=wide) li T λy S7 k7 g=>?_;unfold Bx at g;exact⟨⟨y,rfl,by unfold fy;lia⟩,k7.pen,_,rfl⟩
 obtain⟨ps,rfl,b⟩:=jG hR;rw[Ap,Ev] at hl;have N:yq 80 ps:=⟨λz=>(by rw[z] at hl;simp only[Cu] at hl;lia),by lia,b⟩
 clear hR hl b;unfold Bx at ha;have zb:Y.toNat<=40:=by lia
 array_get_dec;array_get_dec;refine XF (λal S'=>S'=S6/\∃ E H,al=[Ab (.loc p),Ab (.int 40),Ab (.int A),Ab (.int Y),Ab (.int wide),Ab (ax a),Ab (.int st),Ab (.lst (E.map ax)),H]/\yq 80 E) (λP' I=>?_) ?_
 .rfl'
  refine xV (λz=>?_) λz=>?_
  .rfl'
   refine yT (cw:=λ(i:Ai)=>D.int (i:Am)) (o:=none) (Dd Y.toNat) (λ(i:Ai)=>ax (a.1+(i:Am) % 4,a.2+(i:Am)/4)) (λal S'=>S'=S6/\∃ z,al=[z,Ab (ax a)]) (Z5 rfl li) ⟨rfl,none,rfl⟩ (by rw[Ev];unfold bi;lia) (λ_ _ _=>trivial) (λx J al S' ⟨T,z,u⟩=>?_) λal S' ⟨T,_⟩=>?_
   .subst T u
    rfl';exact⟨_,rfl⟩
   .subst T
    rfl';refine I _ _ ⟨rfl,(Dd Y.toNat).map λ(i:Ai)=>(a.1+(i:Am) % 4,a.2+(i:Am)/4),_,by rw[Il];rfl,⟨λz=>?_,by rw[Ap,Ev];lia,λx J=>?_⟩⟩
    .have:=congrArg Hv z
     rw[Ap,Ev] at this;simp only[Cu] at this
     lia
    .obtain⟨i,k,rfl⟩:=Ci.mp J
     have k:=Fe.mp k;unfold fy;dsimp only
     lia
  .rfl'
   exact I _ _ ⟨rfl,ps,_,rfl,N⟩
 clear N;rintro _ S' ⟨rfl,ps,H,rfl,N⟩;refine XF (λal G=>G=S'/\∃ E H,al=[Ab (.loc p),Ab (.int 40),Ab (.int A),Ab (.int Y),Ab (.int wide),Ab (ax a),Ab (.int st),Ab (.lst (E.map ax)),H]/\yq 80 E) (λP' I=>?_) ?_
 .rfl'
  refine xV (λz=>?_) λz=>?_
  .rfl'
   refine yT (cw:=λ(i:Ai)=>D.int (i:Am)) (o:=none) (Dd Y.toNat) (λ(i:Ai)=>ax (a.1+st*(i:Am),a.2-(i:Am))) (λal G=>G=S'/\∃ z,al=[z,Ab (ax a),Ab (.int st)]) (Z5 rfl li) ⟨rfl,none,rfl⟩ (by rw[Ev];unfold bi;lia) (λ_ _ _=>trivial) (λx J al G ⟨T,z,u⟩=>?_) λal G ⟨T,_⟩=>?_
   .subst T u
    rfl';exact⟨_,rfl⟩
   .subst T
    rfl';refine I _ _ ⟨rfl,(Dd Y.toNat).map λ(i:Ai)=>(a.1+st*(i:Am),a.2-(i:Am)),_,by rw[Il];rfl,⟨λz=>?_,by rw[Ap,Ev];lia,λx J=>?_⟩⟩
    .have:=congrArg Hv z
     rw[Ap,Ev] at this;simp only[Cu] at this
     lia
    .obtain⟨i,k,rfl⟩:=Ci.mp J
     have k:=Fe.mp k;have s:=Int.mul_le_mul (show st<=9 by lia) (show (i:Am)<=40 by lia) li li
     have n:=Int.mul_nonneg (show 0<=st by lia) (show 0<=(i:Am) by lia)
     unfold fy;dsimp only
     lia
  .rfl'
   exact I _ _ ⟨rfl,ps,_,rfl,N⟩
 clear N;rintro _ S' ⟨rfl,ps,H,rfl,N⟩;refine XF (λal G=>G=S'/\∃ E H,al=[Ab (.loc p),Ab (.int 40),Ab (.int A),Ab (.int Y),Ab (.int wide),Ab (ax a),Ab (.int st),Ab (.lst (E.map ax)),H]/\yq 80 E) (λP' I=>?_) ?_
 .rfl'
  refine xV (λz=>?_) λz=>?_
  .rfl'
   obtain⟨U,hk,f⟩:∃ U:Ai,1+Y/4=((U:Ai):Am)/\1<=U/\U<=11:=⟨(1+Y/4).toNat,by lia,by lia,by lia⟩
   rw[hk,XZ,<- Yp];have L:(ps.take U).length<=11:=by rw[Dx];lia
   have O:∀ x∈ps.take U,fy 1000 x:=λx J=>N.box x (Jc J);have B:ps.take U≠[]:=λz=>by
    have:=congrArg Hv z;rw[Dx] at this;have:=Jn.mpr N.ne;simp only[Cu] at *
    lia
   generalize ps.take U=M at L O B;rfl';refine lI (λx=>(0-x.2,x.1)) rfl li (λx=>by rfl';exact rfl) ?_
   refine wI (by rw[Ap,Ap,Ap];unfold bi;lia) ?_
   rw[<- Eu];rfl';refine lI (λx=>(0-x.1,0-x.2)) rfl li (λx=>by rfl';exact rfl) ?_
   refine wI (by simp only[Ap,Bb];unfold bi;lia) ?_
   rw[<- Eu];rfl';refine lI (λx=>(x.2,0-x.1)) rfl li (λx=>by rfl';exact rfl) ?_
   refine wI (by simp only[Ap,Bb];unfold bi;lia) ?_
   rw[<- Eu];rfl';refine I _ _ ⟨rfl,_,_,rfl,⟨λz=>?_,by simp only[Ap,Bb];lia,λx J=>?_⟩⟩
   .have:=congrArg Hv z
    have:=Jn.mpr B;simp only[Ap,Bb,Cu] at *
    lia
   .simp only[Bv,Ci] at J
    rcases J with ((J|⟨y,g,rfl⟩)|⟨y,g,rfl⟩)|⟨y,g,rfl⟩
    .exact O x J
    all_goals
     have:=O y g;unfold fy at *;dsimp only
     lia
  .rfl'
   exact I _ _ ⟨rfl,ps,_,rfl,N⟩
 clear N;rintro _ S' ⟨rfl,ps,H,rfl,N⟩;obtain⟨U,rfl,f⟩:∃ U:Ai,Y=((U:Ai):Am)/\1<=U/\U<=40:=⟨Y.toNat,by lia,by lia,by lia⟩
 rfl';refine EM ?_;rfl';rw[XZ,<- Yp];have L:(ps.take U).length<=40:=by rw[Dx];lia
 have O:∀ x∈ps.take U,fy 1000 x:=λx J=>N.box x (Jc J);have B:ps.take U≠[]:=λz=>by
  have:=congrArg Hv z;rw[Dx] at this;have:=Jn.mpr N.ne;simp only[Cu] at *
  lia
 generalize ps.take U=M at L O B;refine⟨M,rfl,by lia,?_⟩
 rfl';refine q (jN M) S' v ⟨λz=>?_,Cs (GY M) L,oS M,λx J=>O x ((cM M x).mp J)⟩;obtain⟨x,r,rfl⟩:=List.exists_cons_of_ne_nil B;have:=(cM (x::r) x).mpr (.head _);rw[z] at this;cases this
theorem GF (h:Pn d)(S:aq):e_ [d] S=.ok (.bl (G_ d)) S:=by
 rw[jT];obtain⟨p,h⟩:=h;cases d <;> first|kernel_rfl!|simp[kq] at h
theorem aI (h:Pn d)(S:aq):cx [d] S=.ok (.bl (x9 d)) S:=by
 rw[uE];refine xD (zI (al:=[Ab d]) rfl ?_);rfl';refine yM ?_;rfl';refine qN (sX h S) ?_;rfl';refine⟨λe=>?_,λe=>?_⟩
 .rfl'
  exact⟨by rw[Y2 (by simpa using e)],rfl⟩
 .cases d with
  |tup xs =>
   rfl';refine xV (λe=>?_) λe=>?_
   .rfl'
    refine yT (cw:=id) (o:=none) xs (λx=>.bl (lx x)) (λal Y=>Y=S/\∃ a,al=[a]) ((Z6 rfl).trans (by rw[Mt])) ⟨rfl,none,rfl⟩ (by unfold bi;lia) (λ_ _ _=>trivial) (λx G al Y ⟨J,a,U⟩=>?_) λal Y ⟨J,_⟩=>?_
    .subst J U
     rfl';refine kA ?_;rfl';refine qN (GF (tW h x G) _) ⟨_,rfl,λe=>?_,λe=>?_⟩
     .cases x with
      |int i=>exact f9 rfl rfl rfl ⟨rfl,rfl,_,rfl⟩
      |_=>cases e
     .cases x <;> first|exact⟨rfl,rfl,_,rfl⟩|cases e
    .subst J
     rfl';exact f7 ⟨by rw[Y0 li],rfl⟩
   .rfl'
    exact⟨by rw[Y1 li],rfl⟩
  |_=>cases e
theorem AK (Y:Aa Pt):nw (Y.map kP)=decide (Y=jN Y):=by
 rw[Kn,Ce,cR];constructor
 .intro h
  have e:=_S.fJ _S.yG h (_S.gH _S.yG (Y.map kP)) λx=>(_S.vG _S.yG x _).symm;unfold jN;rw[<- e,Il];exact(Mt Y).symm
 .intro h
  have u:=oS Y;rw[<- h] at u;exact Gp.mpr u
theorem VJ (h:Pn d)(S:aq):dy [d] S=.ok (.bl (uB d)) S:=by
 rw[uZ];refine xD (zI (al:=[Ab d]) rfl ?_);rfl';refine yM ?_;rfl';refine qN (sX h S) ?_;rfl';refine⟨λe=>?_,λe=>?_⟩
 .rfl'
  exact⟨by rw[iI (by simpa using e)],rfl⟩
 .cases d with
  |tup xs =>
   have G:uB (.tup xs)=(decide (1<=xs.length/\xs.length<=40)&&xs.all x9&&(match wF xs with|some L=>nw L|none=>false)):=rfl
   refine yM ?_;rfl';refine f9 (b:=(xs.length:Am)) rfl rfl rfl ?_;rfl';refine⟨λz=>?_,λz=>?_⟩
   .have z:¬(1<=xs.length/\xs.length<=40):=by simp at z;lia
    rfl';exact⟨by rw[G,Dr z];rfl,rfl⟩
   .have hl:1<=xs.length/\xs.length<=40:=by simp at z;lia
    rfl';refine yT (cw:=id) (o:=none) xs (λx=>.bl (x9 x)) (λal Y=>Y=S/\∃ a,al=[a]) ((Z6 rfl).trans (by rw[Mt])) ⟨rfl,none,rfl⟩ (by unfold bi;lia) (λ_ _ _=>trivial) (λx N al Y ⟨U,a,B⟩=>?_) λal Y ⟨U,_⟩=>?_
    .subst U B
     rfl';exact qN (aI (tW h x N) _) ⟨rfl,rfl,_,rfl⟩
    .subst U
     rfl';refine f7 ?_;cases J:xs.all x9 with
     |true =>
      obtain⟨O,rfl,_⟩:=_D.jG J;rw[Ap] at hl;rfl';refine EM (o_v rfl ⟨O,rfl,by lia,?_⟩)
      refine OL ⟨?_,rfl⟩;rw[G,J,Ap,Cz hl,jE,uL,<- AK];rfl
     |false =>
      rfl';exact⟨by rw[G,J,Jx,He],rfl⟩
  |_=>cases e
noncomputable def KP:Aa D:=[.int 1001,.int (-1001),.bl true,.bl false,.non,.str "0",.tup [.int 0],.int 100000000000000000000000000000,.lst [.int 0],.dct0]
theorem N0:∀ d∈KP,Pn d/\lx d=false:=by
 intro d Y;simp only[KP,Ax,Di,Gk] at Y;rcases Y with rfl|rfl|rfl|rfl|rfl|rfl|rfl|rfl|rfl|rfl <;> exact⟨⟨_,rfl⟩,rfl⟩
def ZN (q:Pt)(b:D):Aa D:=[b,b,b,b,.tup [.int q.1],.tup [.int q.1,.int q.2,.int 0],.lst [.int q.1,.int q.2],.non,.int 7,.str "0,0"]++[.dct0,.tup [ax q]]
theorem KL (q:Pt){b:D}(Y:Pn b/\x9 b=false):∀ d∈ZN q b,Pn d/\x9 d=false:=by
 intro d J;simp only[ZN,Jv,Ie,Ax,Di,Gk] at J;rcases J with rfl|rfl|rfl|rfl|rfl|rfl|rfl|rfl|rfl|rfl|rfl|rfl
 .exact Y
 .exact Y
 .exact Y
 .exact Y
 all_goals exact⟨⟨_,rfl⟩,rfl⟩
theorem F8 (q:Pt){o:D}(h:Pn o/\lx o=false):(Pn (.tup [o,.int q.2])/\x9 (.tup [o,.int q.2])=false)/\(Pn (.tup [.int q.1,o])/\x9 (.tup [.int q.1,o])=false):=by
 obtain⟨⟨p,J⟩,Y⟩:=h;refine⟨⟨kM λx hx=>?_,?_⟩,⟨kM λx hx=>?_,?_⟩⟩
 .rcases Ax.mp hx with rfl|hx
  .exact⟨p,J⟩
  .rw[Cn.mp hx];exact⟨_,rfl⟩
 .show (lx o&&lx (.int q.2))=false
  rw[Y,He]
 .rcases Ax.mp hx with rfl|hx
  .exact⟨_,rfl⟩
  .rw[Cn.mp hx];exact⟨p,J⟩
 .show (lx (.int q.1)&&lx o)=false
  rw[Y,Jx]
theorem o8 {z:Pt}(h:y7 S p)(q:∀ d S',Kp p S S'->Pn d/\x9 d=false->Q d S'):Ok (ce [.loc p,ax z] S) Q:=by
 rw[uF];refine zI (al:=[Ab (.loc p),Ab (.tup [.int z.1,.int z.2]),none,none,none,none,none]) rfl ?_;rfl';refine wJ h li λw A N l=>?_;rfl';refine wJ N.pen li λa L U k=>?_;rfl';refine qN (d:=.int 100000000000000000000000000000) (S:=L) (by kernel_rfl!) ?_
 rfl';refine wJ U.pen li λb B E M=>?_;refine tP (a:=KP) (show b<10 by lia) λo H=>?_
 have G:=F8 z (N0 o H);rfl';have I:∃ Y,(Pn Y/\x9 Y=false)/\(zY [D.int z.1,.int z.2] none (Ab (a:Am))++[o])++zY [D.int z.1,.int z.2] (Ab ((a:Am)+1)) none=(match Y with|.tup xs=>xs|_=>[])/\(∃ xs,Y=.tup xs/\xs.length=2):=by
  have:a=0\/a=1:=by lia
  rcases this with rfl|rfl
  .exact⟨_,G.1,rfl,_,rfl,rfl⟩
  .exact⟨_,G.2,rfl,_,rfl,rfl⟩
 obtain⟨_,J,T,xs,rfl,u⟩:=I;have y:(zY [D.int z.1,.int z.2] none (Ab (a:Am))).length<=2:=by
  have:a=0\/a=1:=by lia
  rcases this with rfl|rfl <;> exact De rfl
 have g:(zY [D.int z.1,.int z.2] (Ab ((a:Am)+1)) none).length<=2:=by
  have:a=0\/a=1:=by lia
  rcases this with rfl|rfl <;> exact De rfl
 refine yF (by simp only[Ba,Cu];unfold bi;lia) ?_
 rfl';refine yF (by simp only[Bb,Ba,Cu];unfold bi;lia) ?_
 rw[T];rfl';refine yF (De rfl) ?_;rfl';refine wI (De rfl) ?_;rfl';refine tP (a:=ZN z (.tup xs)) (show w<12 by lia) λd O=>?_
 rfl';exact q d B ((N.trans U).trans E) (KL z J d O)
theorem EI (q:Q (.lst ((Dd 41).map λ(i:Ai)=>D.tup [.int ((i:Am)/8),.int ((i:Am) % 8)])) S):Ok (zH false [none] (xU (wZ (qA (dC (.int 41)) qC))) (bx 0) xS (zN (zM (qA (d2 kI (qB 0) (dC (.int 8))) (qA (d2 uO (qB 0) (dC (.int 8))) qC)))) al S) Q:=by
 refine yT (cw:=λ(i:Ai)=>D.int (i:Am)) (o:=none) (Dd 41) (λ(i:Ai)=>D.tup [.int ((i:Am)/8),.int ((i:Am) % 8)]) (λal Y=>Y=S/\∃ z,al=[z]) (RU (n:=41) li) ⟨rfl,none,rfl⟩ (by rw[Ev];unfold bi;lia) (λ_ _ _=>trivial) (λx G al Y ⟨J,z,U⟩=>?_) λal Y ⟨J,_⟩=>?_
 .subst J U
  rfl';exact⟨_,rfl⟩
 .subst J
  exact q
theorem KM {p M:Ai}(t:M<=40){l:Aa Pt}(L:mx M l){S:aq}(h:y7 S p)(q:∀ d S',Kp p S S'->U_ d->Q d S'):Ok (dw [.loc p,zZ l] S) Q:=by
 rw[j3];refine zI (al:=[Ab (.loc p),Ab (.tup (l.map ax)),none,none,none,none,none,none]) rfl ?_;have N:0<l.length:=Jn.mpr L.ne;have u:=L.len;have Y:∀ x∈l.map ax,Pn x:=λx hx=>by
  obtain⟨z,_,rfl⟩:=Ci.mp hx;exact rA z
 rfl';refine wJ h li λw c O v=>?_;rfl';refine wJ O.pen (by rw[Ap];lia) λa f E A=>?_
 rw[Ap] at A;have I:_L.io (l.map ax) (a:Am)=Ab (ax (l[a]' li)):=by
  rw[fW (by rw[Ap];lia),Ng]
 have H:_L.io (l.map ax) 0=Ab (ax (l[0]'N)):=by
  have:=fW (xs:=l.map ax) (a:=0) (by rw[Ap];exact N)
  rw[Ng] at this;exact this
 rfl';refine tQ I ?_;generalize l[a]' li=z;rfl';refine o8 E.pen λo g y k=>?_;rfl';rw[W0 _ a (by rw[Ap];lia)]
 refine yF (by simp only[Ap,Dx,Ba,Cu];unfold bi;lia) ?_
 rfl';rw[show (a:Am)+1=((a+1:Ai):Am) by lia,XY _ (a+1) (by rw[Ap];lia)]
 refine yF (by simp only[Bb,Ap,Dx,Gg,Ba,Cu];unfold bi;lia) ?_
 have U:Pn (.tup ((l.map ax).take a++[o]++(l.map ax).drop (a+1))):=kM λx hx=>by
  rcases Bv.mp hx with hx|hx
  .rcases Bv.mp hx with hx|hx
   .exact Y x (Jc hx)
   .rw[Cn.mp hx];exact k.1
  .exact Y x (Ky hx)
 have J:((l.map ax).take a++[o]++(l.map ax).drop (a+1)).length<=100:=by simp only[Bb,Ap,Dx,Gg,Ba,Cu];lia
 generalize (l.map ax).take a++[o]++(l.map ax).drop (a+1)=bn at U J;rfl';refine o_2 ?_;rfl';refine EN (by rw[Ap];lia) ?_
 rfl';have r:(zY (l.map ax) (Ab (-1)) none).length<=40:=by
  unfold zY;rw[Dx,Gg,Ap]
  lia
 refine yF (by rw[Ap];unfold bi;lia) ?_
 rfl';rw[show (a:Am)+1=((a+1:Ai):Am) by lia,W0 _ (a+1) (by rw[Ap];lia),XY _ a (by rw[Ap];lia)]
 refine yF (by simp only[Ap,Dx,Gg];unfold bi;lia) ?_
 rfl';refine EI ?_;rfl';refine tQ H ?_;rfl';refine wI (De rfl) ?_;rfl';refine tP (show w<14 by lia) λd B=>?_
 have G:Pn d:=by
  simp only[Jv,Ie,Ax,Di,Gk] at B;rcases B with rfl|rfl|rfl|rfl|rfl|rfl|rfl|rfl|rfl|rfl|rfl|rfl|rfl|rfl
  .exact U
  .exact U
  .exact _F Y
  .exact kM λx hx=>Y x (VW hx)
  .refine kM λx hx=>?_
   rcases Bv.mp hx with hx|hx
   .exact Y x hx
   .unfold zY at hx
    exact Y x (Ky (Jc hx))
  .refine kM λx hx=>?_
   rcases Bv.mp hx with hx|hx
   .exact Y x (Jc hx)
   .exact Y x (Ky hx)
  .exact⟨_,rfl⟩
  .exact⟨_,rfl⟩
  .exact⟨_,rfl⟩
  .exact⟨_,rfl⟩
  .exact⟨_,rfl⟩
  .exact kM λx hx=>by rw[Cn.mp hx];exact kM Y
  .refine kM λx hx=>?_
   obtain⟨i,_,rfl⟩:=Ci.mp hx;exact⟨.tuple [.int ((i:Am)/8),.int ((i:Am) % 8)],rfl⟩
  .exact rA _
 have T:=(O.trans E).trans y;rfl';refine _M ?_;rfl';refine qN (VJ G _) ?_;refine⟨_,rfl,λe=>?_,λe=>?_⟩
 .rfl'
  exact q _ _ T ⟨⟨_,rfl⟩,rfl⟩
 .rfl'
  exact q _ _ T ⟨G,e⟩
structure Nc (k b:Ai)(hl hd:Au)(d:D)(p:Yv):Prop where
 py:kq d=Ab p
 sh:p.showable=true
 lv:p.leavesShort 40=true
 bu:p.bulk<=b
 de:p.depth<=k
 di:p.hasDict=true->hd=true
 li:uS d=false->hl=true
def yO (k b:Ai)(hl hd:Au)(d:D):Prop:=∃ p,Nc k b hl hd d p
theorem yO.mono {k b U G:Ai}{hd Y J:Au}(h:yO k b hl hd d)(h1:k<=U)(h2:b<=G)(h3:hl=true->Y=true)(N:hd=true->J=true):yO U G Y J d:=by
 obtain⟨p,h⟩:=h;exact⟨p,h.py,h.sh,h.lv,Cs h.bu h2,Cs h.de h1,λz=>N (h.di z),λz=>h3 (h.li z)⟩
theorem yO.repr {k b:Ai}(h:yO k b hl hd d)(h1:k<=60)(h2:b<=65536)(h3:(hl&&hd)=false):∃ x,pJ d=Ab x:=by
 obtain⟨p,h⟩:=h;refine⟨p.shown,?_⟩;unfold pJ;rw[h.py];have Y:bJ d p=true:=by
  unfold bJ;rw[h.sh,h.lv,Cz (show p.bulk<=2 ^ 16 by have:=h.bu;lia),Cz (show p.depth<=60 by have:=h.de;lia)]
  cases U:p.hasDict with
  |false=>rfl
  |true =>
   have:=h.di U;subst this;cases J:uS d with
   |true=>rfl
   |false =>
    have:=h.li J;subst this;cases h3
 show (if bJ d p=true then Ab p.shown else none)=_
 rw[Ay Y]
theorem EB (h:(PyData.shown (.int i)).length<=40)(h2:i.natAbs.log2<1920):yO 0 0 false false (.int i):=
 ⟨.int i,rfl,Cz h2,Cz h,Av _,Av _,(λz=>by cases z),(λz=>by cases z)⟩
theorem KG {i:Am}(h:i.natAbs<10 ^ 12):yO 0 0 false false (.int i):=by
 refine EB (Cs (PyData.shown_int_le h) li) ?_;have:i.natAbs<2 ^ 1920:=Bi h kd;by_cases Y:i.natAbs=0
 .rw[Y];decide
 .exact(Nat.log2_lt Y).mpr this
theorem ze {k b:Ai}:∀ (xs:Aa D),(∀ x∈xs,yO k b hl hd x)->∃ ps,jH xs=Ab ps/\Zj ps=true/\Wt 40 ps=true/\AbA ps<=xs.length*(b+1)/\AaY ps<=k/\(Aa6 ps=true->hd=true)/\(gC xs=false->hl=true)
 |[],_=>⟨[],rfl,rfl,rfl,Hi _,Hi _,(λz=>by cases z),(λz=>by cases z)⟩
 |d::U,h=>by
  obtain⟨p,n⟩:=h d a8
  obtain⟨ps,N,B,O,T,Y,L,G⟩:=ze U λx J=>h x (by simp[J])
  refine⟨p::ps,?_,?_,?_,?_,?_,?_,?_⟩
  .simp only[jH,n.py,N,Qj,Ko]
  .simp only[Zj,n.sh,B,Yh]
  .simp only[Wt,n.lv,O,Yh]
  .have:=n.bu
   rw[Ba,Nat.succ_mul];simp only[AbA]
   lia
  .simp only[AaY]
   exact Nat.max_le.mpr ⟨n.de,Y⟩
  .intro z
   simp only[Aa6,Ny] at z;rcases z with z|z
   .exact n.di z
   .exact L z
  .intro z
   simp only[gC,Bool.and_eq_false_iff] at z;rcases z with z|z
   .exact n.li z
   .exact G z
theorem YS {k b:Ai}(h:∀ x∈xs,yO k b hl hd x)(hm:xs.length<=m):yO (k+1) (m*(b+1)) hl hd (.tup xs):=by
 obtain⟨ps,G,N,Y,U,B,O,J⟩:=ze xs h;refine⟨.tuple ps,by simp only[kq,G,Ko],by simpa only [Vu] using N,by simpa only [Zk] using Y,?_,?_,by simpa only [AbB] using O,by simpa only [uS] using J⟩
 .simp only[AbS]
  exact Cs U (Xm _ hm)
 .simp only[AbP]
  lia
theorem ED {k b:Ai}(h:∀ x∈xs,yO k b hl hd x)(hm:xs.length<=m):yO (k+1) (m*(b+1)) true hd (.lst xs):=by
 obtain⟨ps,U,G,Y,J,O,N,B⟩:=ze xs h;refine⟨.list ps,by simp only[kq,U,Ko],by simpa only [Vu] using G,by simpa only [Zk] using Y,?_,?_,by simpa only [AbB] using N,λ_=>rfl⟩
 .simp only[AbS]
  exact Cs J (Xm _ hm)
 .simp only[AbP]
  lia
theorem iZ {z:Pt}(h:fy 1000 z):yO 1 2 false false (ax z):=by
 have i:∀ x:Am,-1000<=x->x<=1000->yO 0 0 false false (.int x):=λx J Y=>KG li;refine YS (k:=0) (b:=0) (m:=2) (hl:=false) (hd:=false) (xs:=[.int z.1,.int z.2]) (λx hx=>?_) (Av _);rcases Ax.mp hx with rfl|hx
 .exact i _ h.1 h.2.1
 .rw[Cn.mp hx];exact i _ h.2.2.1 h.2.2.2
theorem GP {l:Aa Pt}(hl:l.length<=40)(U:∀ x∈l,fy 1000 x){z:Pt}(hz:fy 1000 z):∃ x,∀ S,bV [.lst [zZ l,ax z]] S=.ok (.str x) S:=by
 have Y:yO 2 200 false false (zZ l):=(YS (m:=40) (b:=2) (λx hx=>by
  obtain⟨y,G,rfl⟩:=Ci.mp hx;exact iZ (U y G)) (by rw[Ap];exact hl)).mono li li id id
 have J:yO 3 500 true false (.lst [zZ l,ax z]):=(ED (m:=2) (b:=200) (k:=2) (hl:=false) (λx hx=>by
  rcases Ax.mp hx with rfl|hx
  .exact Y
  .rw[Cn.mp hx];exact(iZ hz).mono li li id id) (Av _)).mono li li id id
 obtain⟨x,e⟩:=J.repr li li rfl;refine⟨x,λS=>?_⟩;show (match pJ (.lst [zZ l,ax z]) with|some x=>a_.ok (D.str x) S|none=>.bad)=_
 rw[e]
theorem eZ (x:Ar)(S:aq):ni (.str x) (.str x) S=.ok (.bl false) S:=by
 unfold ni;rw[show (pl zW (.str x))=true from rfl]
 show a_.ok (D.bl (!(x == x))) S=_;rw[Fg];rfl
theorem F9 (c:Cl){l p:D}{S:aq}(h:Ok (fx c [l,p] S) Q):Ok (br c [l,p] S) Q:=by
 obtain⟨d,Y,e,q⟩:=h;refine⟨d,Y,?_,q⟩;rw[vW];have J:qW (qP 2 (fx c) (qA (qB 0) (qA (qB 1) qC))) [Ab l,Ab p,none] S=.rt d Y:=by
  unfold qW;rw[(QF (a:=l) (b:=p) rfl rfl).trans e];rfl
 show KQ (cz c [Ab l,Ab p,none] S)=_;unfold cz mL;rw[J];rfl
theorem nK (c:Cl){l p x r:D}{C:Af}{S S':aq}(h:fx c [l,p] S=.ex (.ref C) x S')(U:(j8 c).contains (.ref C)=true)(J:bq c [bB (.ref C) x] S'=.ok r S')(q:Q r S'):Ok (br c [l,p] S) Q:=by
 refine⟨r,S',?_,q⟩;rw[vW];have G:qW (qP 2 (fx c) (qA (qB 0) (qA (qB 1) qC))) [Ab l,Ab p,none] S=.ex (.ref C) x [Ab l,Ab p,none] S':=by
  unfold qW;rw[(QF (a:=l) (b:=p) rfl rfl).trans h];rfl
 have Y:qW (qP 1 (bq c) (qA (qB 2) qC)) ((Ja 3 none).set 2 (Ab (bB (.ref C) x))) S'=.rt r S':=by
  unfold qW;rw[(u7 (a:=bB (.ref C) x) rfl).trans J];rfl
 show KQ (cz c [Ab l,Ab p,none] S)=_;unfold cz mL;rw[G];simp only[U,Ef,Y];rfl
theorem ca (c:Cl):(j8 c).contains (.ref c.NoLot)=true/\(j8 c).contains (.ref c.NoPoint)=true/\(j8 c).contains (.ref c.Alike)=true:=by
 simp only[Fa];simp[j8]
theorem UM (c:Cl)(nd:(zX c).Nodup){d p:D}{S:aq}(h:U_ d)(q:Q (.str "lot") S):Ok (br c [d,p] S) Q:=nK c (i7 c (KH c S h.1 h.2)) (ca c).1 (Z9 c nd S) q
theorem QJ (c:Cl)(nd:(zX c).Nodup){l:Aa Pt}{M:Ai}(J:M<=40)(h:mx M l){z:PP × PP}(hz:fl (qY l)=Ab z){p:D}{S:aq}(q:∀ S',S<+:S'->Q (.lst [.str "alike",ax z.1.1,ax z.1.2,ax z.2.1,ax z.2.2]) S'):Ok (br c [zZ l,p] S) Q:=by
 obtain⟨S',Y,e⟩:=aF c J h hz S;exact nK c (i7 c e) (ca c).2.2 (Z8 c nd _ _ _ _ S') (q S' Y)
theorem FA (c:Cl)(nd:(zX c).Nodup){l:Aa Pt}{M:Ai}(U:M<=40)(h:mx M l)(Y:(eh l).Nodup){d:D}(hp:Pn d/\x9 d=false){S:aq}(q:∀ S',S<+:S'->Q (.str "point") S'):Ok (br c [zZ l,d] S) Q:=by
 obtain⟨S',J,e⟩:=MM c U h Y hp.1 hp.2 S;exact nK c e (ca c).2.1 (eU c nd S') (q S' J)
theorem IC (h:xs≠[]):_L.io xs (-1)=Ab (xs.getLast h):=by
 rcases List.eq_nil_or_concat xs with z|⟨a,l,rfl⟩
 .exact absurd z h
 have Y:_L.nh (a++[l]).length (-1)=Ab a.length:=by simp[_L.nh];lia
 simp only[List.concat_eq_append] at *;unfold _L.io;rw[Y];simp
theorem qA6 {l:Aa Pt}(L:mx M l):∃ u v,fy 1000 u/\fy 1000 v/\_L.io (l.map ax) 0=Ab (ax u)/\_L.io (l.map ax) (-1)=Ab (ax v):=by
 have Y:0<l.length:=Jn.mpr L.ne;refine⟨l[0],l.getLast L.ne,L.box _ (Jq Y),L.box _ (List.getLast_mem _),?_,?_⟩
 .have:=fW (xs:=l.map ax) (a:=0) (by rw[Ap];exact Y)
  rw[Ng] at this;exact this
 .rw[IC (by simpa using L.ne),List.getLast_map]
def IvL (ns:Aa Am)(_:Aa Am)(al:qE)(_:aq):Prop:=∃ w B I M H L E A T J G Y O U N,al=[Ab (.lst (ns.map D.int)),w,B,I,M,H,L,E,A,T,J,G,Y,O,U,N]
def wx (l:Aa Pt)(p:Pt):Au:=!decide (p∈l)&&qo (l++[p])
theorem PX {a:Am}(h : -4000<=a/\a<=4000):∃ b Y:Am,-1000<=b/\b<=1000/\∀ S,bU [.int 1000,.int a] S=.ok (.int Y) S/\bT [.int (-1000),.int Y] S=.ok (.int b) S:=by
 refine⟨if (if a<1000 then a else 1000) > -1000 then (if a<1000 then a else 1000) else -1000,if a<1000 then a else 1000,?_,?_,λS=>⟨rfl,rfl⟩⟩
 .split <;> lia
 .split <;> split <;> lia
theorem BN {Y:qm}{wide:Am}(hw:1<=wide/\wide<=1000)(I:y7 S1 p)(hi:Y al S=.ok (none,(Dd n).map λ(i:Ai)=>D.int (i:Am)) S1)(A:n<=40)(G:xK [none,Ab 2,Ab 4] al=[none,Ab (.loc p),Ab (.int wide)])
  (q:∀ (ps:Aa Pt) S',ps.length=n->(∀ x∈ps,fy 1000 x)->Kp p S1 S'->Q (.lst (ps.map ax)) S'):Ok (zH false [none,Ab 2,Ab 4] Y (bx 0) xS (zN (qP 2 (ng bp) (qA (qB 1) (qA (qB 2) qC)))) al S) Q:=by
 refine o6 (cw:=λ(i:Ai)=>D.int (i:Am)) (o:=none) (Dd n) (λd=>∃ x,d=ax x/\fy 1000 x) (λal S'=>Kp p S1 S'/\∃ z,al=[z,Ab (.loc p),Ab (.int wide)]) hi ⟨.refl I,none,G⟩ (by rw[Ev];unfold bi;lia) (λ_ _ _=>trivial) (λx H al S' ⟨J,z,U⟩=>?_) λk al O hl E ⟨N,_⟩=>?_
 .subst U
  rfl';refine gE (w:=wide) hw J.pen λy M B T=>?_;unfold Bx at T;exact⟨⟨y,rfl,by unfold fy;lia⟩,J.trans B,_,rfl⟩
 .obtain⟨ps,rfl,L⟩:=jG E
  rw[Ap,Ev] at hl;exact q ps O hl L N
theorem EZ (z:Pt):wc 2 (ax z):=⟨De rfl,λx hx=>by
 rcases Ax.mp hx with rfl|hx
 .trivial
 .rw[Cn.mp hx];trivial⟩
theorem K0 (c:Cl)(nd:(zX c).Nodup)(ns:Aa Am)(hl:ns.length<=63):∃ S,qR 16 (rf c) [.lst (ns.map D.int)] [] = .ok (.bl true) S:=by
 have zb:Ok (qR 16 (rf c) [.lst (ns.map D.int)] []) λd _=>d=.bl true:=by
  refine zI (al:=[Ab (.lst (ns.map D.int)),none,none,none,none,none,none,none,none,none,none,none,none,none,none,none]) rfl ?_;unfold rf;array_get_dec;refine qAb (NW ns hl 4 rfl λms=>?_);refine vU (IvL ns) ?_ ?_ ⟨_,_,_,_,_,_,_,_,_,_,_,_,_,_,_,rfl⟩
  .rintro y xs _ S ⟨e1,e2,e3,e4,N,e6,e7,e8,e9,zs,z5,Y,G,U,T,rfl⟩
   rfl';refine OP λp S0 p0=>?_;rfl';refine ON p0 λm S1 zl Lm=>?_;rfl';refine wJ zl li λr g k2 h2=>?_;refine tP (show r<4 by lia) λd hd=>?_
   obtain⟨wide,rfl,hw⟩:∃ w:Am,d=.int w/\1<=w/\w<=1000:=by
    simp only[Ax,Di,Gk] at hd;rcases hd with rfl|rfl|rfl|rfl <;> exact⟨_,rfl,by lia⟩
   rfl';obtain⟨_,S3,ed,t,rfl,ht,k3⟩:=wJ (S:=g) (p:=p) (m:=30) (Q:=λd O=>∃ t:Ai,d=.int (t:Am)/\(t:Am)<30/\Kp p g O) k2.pen li λt O k h=>⟨t,rfl,h,k⟩;refine BN (p:=p) (wide:=wide) (n:=1+t) (S1:=S3) hw k3.pen ?_ li rfl λps S4 I hb k4=>?_
   .have:∀ z:Am,z=1+(t:Am)->z.toNat=1+t:=λz o=>by lia
    rw[<- this (1+(t:Am)) rfl];exact xD (z9 (EL (o_2 (o_c (tO (yU (o_v rfl (yU (o_c (pB ⟨rfl,qN ed (OK ⟨_,rfl,by lia,by lia,_,_,rfl,rfl,rfl⟩)⟩))))))))))
   rfl';refine EJ hb li (λz=>by rw[z] at I;simp only[Cu] at I;lia) λl S5 p5 J nu=>?_
   have y0:mx 40 l:=⟨J.ne,Cs J.len li,J.up,J.box⟩;have z3:=oB k4.pen p5;obtain⟨u,v,E,hv,e0,em⟩:=qA6 J;unfold zZ;rfl';refine tQ e0 ?_;rfl';refine tQ em ?_;rfl';refine KM (l:=l) (M:=30) li J z3 λL S6 k6 A=>?_;rfl';refine tQ e0 ?_;rfl';refine o8 k6.pen λB S7 k7 H=>?_;rfl';refine gE (w:=wide) hw k7.pen λp4 S8 k8 h4=>?_;rfl';refine gE (w:=1000) li k8.pen λzy f k9 h5=>?_;rfl';refine⟨XD (kZ _ _),?_⟩;rfl';unfold fy at E hv;obtain⟨b1,y2,l1,zx,c1⟩:=PX (a:=2*u.1-v.1) li;obtain⟨b2,z8,l2,zc,c2⟩:=PX (a:=2*u.2-v.2) li;refine qN (c1 _).1 ?_;rfl';refine qN (c1 _).2 ?_;rfl';refine qN (c2 _).1 ?_;rfl';refine qN (c2 _).2 ?_;rfl';refine BM (kZ _ _) (De rfl) ?_;rw[GU];rfl';refine BN (p:=p) (wide:=wide) (n:=4) hw (oB k9.pen (Lr _ _)) (RU li) li rfl λqs y1 hq s z4=>?_;have pl:=HN k9.pen;refine EG (OA ((z4.same f.length a8 li).trans (kZ _ _))) rfl (by rw[Ap,hq];exact De rfl) ?_
   rfl';unfold Bx at h4 h5;refine lW (λq al O=>(∀ d∈q,∃ x,d=ax x/\fy 1000 x)/\∃ N Y G U,al=[Ab (.lst (ns.map D.int)),Ab (.int y),Ab (.loc p),Ab (.tup (m.map ax)),Ab (.int wide),N,Ab (.tup (l.map ax)),Ab (ax u),Ab (ax v),Ab L,Ab B,Ab (.loc f.length),Y,G,U,T]) ?_ ?_ ⟨λd hd=>?_,_,_,_,_,rfl⟩
   .rintro _ q _ O ⟨hd,N,Y,G,U,rfl⟩
    obtain⟨z,rfl,o⟩:=hd _ (.head _);obtain⟨x,hr⟩:=GP (l:=l) (Cs J.len li) J.box o;rfl';refine zO (Q:=λd S1=>d=.bl (wx l z)) (kA ?_) ?_
    .rfl'
     refine qN (h9 l z O) ⟨_,rfl,λe=>?_,λe=>?_⟩
     .have z7:=J.len
      have z6:z ∉ l:=by simpa using e
      have z1:(l++[z]).Nodup:=Kr.mpr ⟨F0 J.up,Ln _ _,λa ha b hb w=>z6 (by rw[Cn.mp hb] at w;rw[<- w];exact ha)⟩
      have z2:∀ x∈l++[z],fy 1000 x:=λx hx=>by
       rcases Bv.mp hx with hx|hx
       .exact J.box x hx
       .rw[Cn.mp hx];exact o
      rfl';refine yF (by rw[Ap];unfold bi;simp only[Ba,Cu];lia) ?_
      rw[show l.map ax++[ax z]=(l++[z]).map ax by rw[Eu];rfl]
      rfl';refine YZ (by rw[Bb,EQ];lia) ?_
      rfl';refine mK (BF a8 (by rw[Bb,EQ];lia) z1 z2) λS1 p1=>?_
      rfl';refine qN (Y4 _ S1) ?_;rw[iK];unfold wx qo;rw[e,Tl]
      congr 1
      exact Uk.mpr (dJ (uJ _)).nodup_iff
     .unfold wx
      rw[e,He]
    rintro _ S1 rfl;rfl';refine qN (hr _) ?_;rfl';refine⟨by lia,by lia,?_⟩
    refine vU (cw:=λ(i:Ai)=>D.int (i:Am)) (λ_ al O=>∃ N,al=[Ab (.lst (ns.map D.int)),Ab (.int y),Ab (.loc p),Ab (.tup (m.map ax)),Ab (.int wide),N,Ab (.tup (l.map ax)),Ab (ax u),Ab (ax v),Ab L,Ab B,Ab (.loc f.length),Ab (ax z),Ab (.bl (wx l z)),Ab (.str x),T]) ?_ ?_ ⟨_,rfl⟩
    .rintro i _ _ g ⟨N,rfl⟩
     rfl';refine yM ?_;rfl';refine F9 c (EH c (M:=30) li J nu o λS3 p3=>?_);rfl';refine qN (VL (d:=.bl (wx l z)) _ trivial) ?_;rfl';refine⟨(λe=>by cases e),λ_=>?_⟩
     rfl';refine qN (hr _) ?_;rfl';refine qN (eZ x _) ?_;rfl';exact v7 ⟨_,rfl⟩
    .rintro _ g ⟨N,rfl⟩
     exact v7 ⟨λd h=>hd d (.tail _ h),_,_,_,_,rfl⟩
   .rintro _ y4 ⟨_,N,Y,G,U,rfl⟩
    rfl';refine mK Lm λy5 y3=>?_;rfl';refine lW (λq al O=>∃ Y,al=[Ab (.lst (ns.map D.int)),Ab (.int y),Ab (.loc p),Ab (.tup (m.map ax)),Ab (.int wide),N,Ab (.tup (l.map ax)),Ab (ax u),Ab (ax v),Ab L,Ab B,Ab (.loc f.length),Y,G,U,Ab (sw (fl (qY m)))]) ?_ ?_ ⟨_,rfl⟩
    .rintro d q _ O ⟨Y,rfl⟩
     rfl';refine UM c nd A ?_;rfl';refine qN (eZ "lot" _) ?_;rfl';refine YU ?_;rfl';refine qN (MY _ _) ?_;cases hf:fl (qY m) with
     |none =>
      rfl';refine⟨(λe=>by cases e),λ_=>?_⟩
      rfl';exact v7 ⟨_,rfl⟩
     |some z =>
      rfl';refine⟨λ_=>?_,(λe=>by cases e)⟩
      rfl';refine QJ c nd (M:=40) (Av _) Lm hf λyv ys=>?_;rfl';refine EK (a:=[ax z.1.1,ax z.1.2,ax z.2.1,ax z.2.2]) ?_;refine wI (De rfl) ?_;rfl';refine qN (VL _ ⟨De rfl,λx hx=>?_⟩) ?_
      .simp only[Jv,Ie,Ax,Di,Gk] at hx
       rcases hx with rfl|rfl|rfl|rfl|rfl
       .trivial
       all_goals exact EZ _
      rfl';exact v7 ⟨_,rfl⟩
    .rintro _ O ⟨Y,rfl⟩
     rfl';refine FA c nd (M:=30) li J nu H λxd y6=>?_;rfl';refine qN (eZ "point" _) ?_;rfl';exact v7 ⟨_,_,_,_,_,_,_,_,_,_,_,_,_,_,_,rfl⟩
   .rcases Bv.mp hd with hd|hd
    .simp only[Jv,Ie,Ax,Di,Gk] at hd
     rcases hd with rfl|rfl|rfl|rfl|rfl|rfl
     .exact⟨u,rfl,E⟩
     .exact⟨(v.1,u.2),rfl,hv.1,hv.2.1,E.2.2.1,E.2.2.2⟩
     .exact⟨(u.1,v.2),rfl,E.1,E.2.1,hv.2.2.1,hv.2.2.2⟩
     .exact⟨p4,rfl,by unfold fy;lia⟩
     .exact⟨zy,rfl,by unfold fy;lia⟩
     .exact⟨(b1,b2),rfl,l1,zx,l2,zc⟩
    .obtain⟨x,hx,rfl⟩:=Ci.mp hd
     exact⟨x,rfl,s x hx⟩
  .rintro _ S ⟨e1,e2,e3,e4,N,e6,e7,e8,e9,zs,z5,Y,G,U,T,rfl⟩
   rfl';rfl
 obtain⟨d,S,e,rfl⟩:=zb;exact⟨S,e⟩
end _K
namespace _K
open _L _D
variable {mg:ah}
theorem vR {P:Bc}{K:Ah}{base:Bk}(T:Txt K mg c){k:Ai}{F:DF}(d:t_ F P w K mg base true k "_law_same" 2):t_ (qR 4 (cy F)) P w K mg base true (k+1) "_law_same" 2:=by
 refine dq P w base k 17 T rfl ck rfl ?_
 intros
 repeat' first
  |with_reducible exact ck
  |((with_reducible show QE _ _ _);with_reducible first|apply aV|apply BQ|apply V9|apply N_|apply aN|(apply aB;first|apply F3|apply F2)|apply V8|apply VA|apply V6)
  |((with_reducible show _=_);first|exact T.nb ck|exact gD _|exact rfl|with_unfolding_all rfl)
  |((with_reducible show js _ _ _);with_reducible first|apply AR|apply AY|apply AS)
  |((with_reducible show ay _ _ _);first|assumption|exact ay.mono (by assumption)|exact ay.mono (ay.any (by assumption))|exact ay.mark (by assumption) _|exact ay.mono (ay.mark (by assumption) _))
  |((with_reducible show uo _ _ _ _);exact⟨rfl,rfl⟩)
  |((with_reducible show t_ _ _ _ _ _ _ _ _ _ _);assumption)
  |with_reducible first|apply V5|apply tX|apply fG|apply oE|apply V4|apply VG|apply VF|(apply BS;first|apply tY|apply rC)|apply VH|apply tY|apply rC|apply M_|apply VB|apply c9|apply oF|apply VC|apply VE|apply BR|apply VD|apply B8
  |((with_reducible apply L_);case hs=>exact rfl)
  |((with_reducible show v_ _ _ _ _);first|assumption|exact v_.tr (by assumption))
  |((with_reducible show Y _ _ _ _ _ _ _ _ _ _);assumption)
  |((with_reducible show J _ _ _ _ _ _ _ _ _ _ _ _ _);assumption)
  |((with_reducible show G _ _);refine lmK hT (by assumption) ?_ rfl)
  |((with_reducible show N _ _ _ _);first|apply U|apply Q)
  |exact λ_=>⟨rfl,rfl,rfl⟩
  |(intro h;cases h;done)
  |((with_reducible show me _);first|assumption|exact oZ)
  |exact⟨rfl,rfl⟩
  |exact⟨rfl,rfl,rfl⟩
  |apply tX
  |apply fG
  |(intros;rfl)
  |(intro _ h;cases h <;> rfl)
  |decide
  |intro _
theorem TJ {P:Bc}{K:Ah}{base:Bk}(T:Txt K mg c)(nd:(zX c).Nodup)(U:wl K mg (J_ c))(hT:(E5.all λy=>(Ey K y).isSome)=true):∃ F,rG P w K mg base true 10 "law" ["_law_script"] F/\∀ ns:Aa Am,ns.length<=63->∃ S,F [.lst (ns.map D.int)] [] = .ok (.bl true) S:=by
 refine hv (λ_=>?_) (dq (cm:=true) P w base 0 0 T rfl ck pU ?_);refine hv (λ_=>?_) (dq (cm:=true) P w base 1 1 T rfl ck kY ?_);refine hv (λ_=>?_) (dq (cm:=true) P w base 0 2 T rfl ck kX ?_);refine hv (λ_=>?_) (dq (cm:=true) P w base 2 3 T rfl ck pT ?_);refine hv (λ_=>?_) (dq (cm:=true) P w base 3 4 T rfl ck fN ?_);refine hv (λ_=>?_) (dq (cm:=true) P w base 3 5 T rfl ck (vJ c) ?_);refine hv (λ_=>?_) (dq (cm:=true) P w base 4 6 T rfl ck (uM c) ?_);refine hv (λ_=>?_) (dq (cm:=true) P w base 0 7 T rfl ck j6 ?_);refine hv (λ_=>?_) (dq (cm:=true) P w base 1 8 T rfl ck uQ ?_);refine hv (λ_=>?_) (dq (cm:=true) P w base 5 9 T rfl ck (vI c) ?_);refine hv (λ_=>?_) (dq (cm:=true) P w base 6 10 T rfl ck (wK c) ?_);refine hv (λ_=>?_) (dq (cm:=true) P w base 2 11 T rfl ck jU ?_);refine hv (λ_=>?_) (dq (cm:=true) P w base 7 12 T rfl ck (jV c) ?_);refine hv (λ_=>?_) (dq (cm:=true) P w base 0 13 T rfl ck kS ?_);refine hv (λ_=>?_) (dq (cm:=true) P w base 0 14 T rfl ck pS ?_);refine hv (λ_=>?_) (dq (cm:=true) P w base 0 15 T rfl ck kT ?_);refine hv (λ_=>?_) (dq (cm:=true) P w base 0 16 T rfl ck jT ?_);have s0:t_ (n6 0) P w K mg base true 0 "_law_same" 2:=⟨FS (T.src 17 rfl)⟩;have d__law_same:t_ cc P w K mg base true 4 "_law_same" 2:=kW▸vR T (vR T (vR T (vR T s0)));refine hv (λ_=>?_) (dq (cm:=false) P w base 0 18 T rfl ck (w8 c) ?_);refine hv (λ_=>?_) (dq (cm:=true) P w base 1 19 T rfl ck jS ?_);refine hv (λ_=>?_) (dq (cm:=true) P w base 2 20 T rfl ck pR ?_);refine hv (λ_=>?_) (dq (cm:=true) P w base 1 21 T rfl ck uE ?_);refine hv (λ_=>?_) (dq (cm:=true) P w base 2 22 T rfl ck uZ ?_);refine hv (λ_=>?_) (dq (cm:=true) P w base 1 23 T rfl ck uF ?_);refine hv (λ_=>?_) (dq (cm:=true) P w base 3 24 T rfl ck j3 ?_);refine hv (λ_=>?_) (dq (cm:=true) P w base 0 25 T rfl ck pQ ?_);refine hv (λ_=>?_) (dq (cm:=true) P w base 0 26 T rfl ck jR ?_);refine hv (λ_=>?_) (dq (cm:=true) P w base 1 27 T rfl ck vH ?_);refine hv (λ_=>?_) (dq (cm:=true) P w base 2 28 T rfl ck kU ?_);refine hv (λ_=>?_) (dq (cm:=true) P w base 8 29 T rfl ck (vW c) ?_);refine⟨_,dqP 9 30 T rfl ck ?_,K0 c nd⟩
 all_goals
  intros
  repeat' first
   |with_reducible exact ck
   |((with_reducible show QE _ _ _);with_reducible first|apply aV|apply CB|apply BQ|apply CG|apply V9|apply N_|apply aGi|apply aCl|apply aO|apply aN|(apply aB;first|apply F3|apply F2|apply qAe|apply AW|apply AX|apply AZ|apply PF|apply AU)|(apply aT;first|apply LY|apply AV|apply qAh)|apply aC|apply CH|apply CD|apply NK|apply CC|apply qAF|apply G8|apply NM|apply qAG|apply V8|apply G6|apply CF|apply qAH|apply VA|apply V6|apply qAE|apply NI|apply HZ|apply aH|apply NL|(apply rB;(case slot=>apply Rg);(case' hm=>first|apply PD))|(apply rB;(case slot=>apply PySem.F.slot_list_append);(case' hm=>first|apply PC))|(apply rB;(case slot=>apply Us);(case' hm=>first|apply LU))|(apply rB;(case slot=>apply Ut);(case' hm=>first|apply LV))|apply CA|apply HX)
   |((with_reducible show _=_);first|exact T.nb ck|with_reducible apply Pa|with_reducible apply Ux|with_reducible apply Rl|with_reducible apply Uc|with_reducible apply Uy|with_reducible apply Uz|exact gD _|exact rfl|with_unfolding_all rfl)
   |((with_reducible show js _ _ _);with_reducible first|apply qAd|apply AQ|apply qAo|apply qAk|apply qAf|apply qAj|apply qAm|apply _n|apply _o|apply _q|apply _r|apply AR|apply AY|apply AS|apply LW|apply qAi|apply qAg|apply LX)
   |((with_reducible show ay _ _ _);first|assumption|exact ay.mono (by assumption)|exact ay.mono (ay.any (by assumption))|exact ay.mark (by assumption) _|exact ay.mono (ay.mark (by assumption) _))
   |((with_reducible show uo _ _ _ _);exact⟨rfl,rfl⟩)
   |((with_reducible show t_ _ _ _ _ _ _ _ _ _ _);assumption)
   |with_reducible first|apply V5|apply tX|apply fG|apply oE|apply V4|apply NR|apply NS|apply VG|apply VF|apply GC|(apply BS;first|apply oG|apply tY|apply VI|apply rC)|apply VH|apply oG|apply tY|apply VI|apply rC|apply M_|apply VB|apply CJ|apply c9|apply oF|apply CM|apply G9|apply VC|apply NO|apply NP|apply CL|apply CK|apply NU|apply NQ|apply aRf|apply VE|apply BR|apply NT|apply VD|apply aP2|apply aRs|apply aTr|apply qAl|apply _p|apply qAn|apply B8|apply Pa|apply Ux|apply Rl|apply Uc|apply Uy|apply Uz
   |((with_reducible apply aCs);case hsw=>exact rfl)
   |((with_reducible apply L_);case hs=>exact rfl)
   |with_reducible apply CN
   |exact T.cl (by kernel_rfl)
   |exact T.rz (by kernel_rfl)
   |exact T.ct
   |exact T.gi (by kernel_rfl)
   |((with_reducible show v_ _ _ _ _);first|assumption|exact v_.tr (by assumption))
   |((with_reducible show LmX _ _ _ _ _ _ _ _ _ _);assumption)
   |((with_reducible show DfL _ _ _ _ _ _ _ _ _ _ _ _ _);assumption)
   |((with_reducible show LmK _ _);refine lmK hT (by assumption) ?_ rfl)
   |((with_reducible show ZF _ _ _ _);first|apply aFn|apply aFn0)
   |exact λ_=>⟨rfl,rfl,rfl⟩
   |(intro h;cases h;done)
   |((with_reducible show tz _ _ _ _ _);exact(U _ (.head _)).totz)
   |exact IW U (.head _) ck
   |exact T.cls
   |((with_reducible show me _);first|assumption|exact oZ)
   |exact⟨rfl,rfl⟩
   |exact⟨rfl,rfl,rfl⟩
   |apply tX
   |apply fG
   |decide
   |(intros;rfl)
   |(intro _ h;cases h <;> rfl)
   |intro _
end _K
namespace _K
open _L _D
variable {K:Ah}
theorem bdf:yy top tab:=by
 repeat (refine⟨?_,?_⟩;(intro _ _ _ _ _ _ Q h;first|(obtain⟨_,rfl⟩:=z_ h;rfl)|(obtain⟨_,_,rfl⟩:=zz h;rfl)|(obtain⟨_,_,_,rfl⟩:=zw h;rfl)))
 exact trivial
theorem IE (q0:Do K Ct "FarError" = Ab (Ab (.ref G)))(q1:Do K Ct "NoPoint" = Ab (Ab (.ref T)))(q2:Do K Ct "NoLot" = Ab (Ab (.ref L)))(q3:Do K Ct "NoNumber" = Ab (Ab (.ref U)))(q4:Do K Ct "NoCircle" = Ab (Ab (.ref O)))(q5:Do K Ct "NoMarks" = Ab (Ab (.ref N)))(q6:Do K Ct "NoFars" = Ab (Ab (.ref C)))(q7:Do K Ct "NoText" = Ab (Ab (.ref J)))(q8:Do K Ct "NoLine" = Ab (Ab (.ref E)))(q9:Do K Ct "NoDeed" = Ab (Ab (.ref B)))(q10:Do K Ct "Alike" = Ab (Ab (.ref Q)))(q11:Do K Ct "TooMany" = Ab (Ab (.ref Y))):Q0 K (pr ⟨G,T,L,U,O,N,C,J,E,B,Q,Y⟩):=⟨q0,q1,q2,q3,q4,q5,q6,q7,q8,q9,q10,q11,trivial⟩
theorem IF (Q:Do K Ct "LEAST_NUMBER" = Ab (Ab (.int (-1000) k0)))(Y:Do K Ct "MOST_NUMBER" = Ab (Ab (.int (1000) k1)))(J:Do K Ct "MOST_POINTS" = Ab (Ab (.int (40) k2))):Q1 K sk:=⟨⟨_,Q⟩,⟨_,Y⟩,⟨_,J⟩,trivial⟩
theorem E6 {P:Bc}{w:Bu}(T:Txt K mg c)(nd:(zX c).Nodup)(U:wl K mg (J_ c))(hT:(E5.all λy=>(Ey K y).isSome)=true)(hfa:mg "law" = Ab (.ref fa)) :
  ∃ fd:Gd,(∀ (s:Ag) (v:Ad),Pv s fd ⟨[v],[]⟩ [("_law_script",v)])/\∀ base:Bk,K.In base->base.Ns Ct mg->my P w K mg base (m_ P w) 10 fa fd ["_law_script"] (rD K):=
 TK (T.src 30 rfl) hfa (λkV doc pm an cdv ct s v=>.of_eq rfl) λbase=>TJ T nd U hT
end _K
namespace PySem.W.Fast
theorem tw5155590038908498735:True:=⟨⟩
theorem tw7620280413484268534:True:=⟨⟩
theorem tw2054806036186974903:True:=⟨⟩
theorem tw10541516573631146286:True:=⟨⟩
theorem tw5406348769718176782:True:=⟨⟩
theorem tw17334546962895219059:True:=⟨⟩
theorem tw4921304241204193597:True:=⟨⟩
theorem tw16803483251905771116:True:=⟨⟩
theorem tw4464373476307344843:True:=⟨⟩
theorem tw5016834718003516942:True:=⟨⟩
theorem tw67904793154579966:True:=⟨⟩
theorem tw5898176455840403374:True:=⟨⟩
theorem tw18273264654281199882:True:=⟨⟩
theorem tw3095190973065040198:True:=⟨⟩
theorem tw2470032072566818954:True:=⟨⟩
theorem tw3134298313467648193:True:=⟨⟩
theorem tw11453656076218650904:True:=⟨⟩
theorem tw3151506516741935165:True:=⟨⟩
theorem tw13655246358702262427:True:=⟨⟩
theorem tw6401171062212835528:True:=⟨⟩
theorem tw10781211660140798967:True:=⟨⟩
theorem tw10172569506755622377:True:=⟨⟩
theorem tw7669336484441789777:True:=⟨⟩
theorem tw12582318605314172414:True:=⟨⟩
theorem tw18415889421408142770:True:=⟨⟩
theorem tw1083539048950036167:True:=⟨⟩
theorem tw17714843497702687390:True:=⟨⟩
theorem tw6588439839613829296:True:=⟨⟩
theorem tw14679889959682892325:True:=⟨⟩
theorem tw322712016742887626:True:=⟨⟩
theorem tw17123089496522249254:True:=⟨⟩
theorem tw9982265254020734803:True:=⟨⟩
theorem tw2550118328388697855:True:=⟨⟩
theorem tw13695427917540732704:True:=⟨⟩
theorem tw2968974123044912899:True:=⟨⟩
theorem tw9901288464696569812:True:=⟨⟩
theorem tw15630847420071306591:True:=⟨⟩
theorem tw3712522503913684921:True:=⟨⟩
theorem tw7072473111165273991:True:=⟨⟩
theorem tw1828589760900742686:True:=⟨⟩
theorem tw2870679411270234252:True:=⟨⟩
theorem tw7299595868029988200:True:=⟨⟩
theorem tw8330819784118006092:True:=⟨⟩
theorem tw1654383204911297986:True:=⟨⟩
theorem tw15698710873447738152:True:=⟨⟩
theorem tw3387206319854886463:True:=⟨⟩
theorem tw4814085033417004291:True:=⟨⟩
theorem tw7038773487768301715:True:=⟨⟩
theorem tw15570586047245601210:True:=⟨⟩
theorem tw42074596244847921:True:=⟨⟩
theorem tw4230522995169630430:True:=⟨⟩
theorem tw1074460919066373508:True:=⟨⟩
theorem tw3604733694993736006:True:=⟨⟩
theorem tw7252460967999274289:True:=⟨⟩
theorem tw6970116943767714676:True:=⟨⟩
theorem tw11956445662904463309:True:=⟨⟩
theorem tw919335450720343136:True:=⟨⟩
theorem tw687716071723999142:True:=⟨⟩
theorem tw11743627123361438448:True:=⟨⟩
theorem tw17341910376228967180:True:=⟨⟩
theorem tw2660465352042891534:True:=⟨⟩
theorem tw889658378027596802:True:=⟨⟩
theorem tw17124540964052815636:True:=⟨⟩
theorem tw2274097105950354069:True:=⟨⟩
theorem tw16439335392716636429:True:=⟨⟩
theorem tw1027717517957660038:True:=⟨⟩
theorem tw2247150554888747205:True:=⟨⟩
theorem tw10023575849188345523:True:=⟨⟩
theorem tw15403035348029004843:True:=⟨⟩
theorem tw9490755995151405331:True:=⟨⟩
theorem tw5188838667781381767:True:=⟨⟩
theorem tw13326292798323432080:True:=⟨⟩
theorem tw17057514549722945609:True:=⟨⟩
theorem tw18327052192222364061:True:=⟨⟩
theorem tw16161216364817170553:True:=⟨⟩
theorem tw10448376915952912936:True:=⟨⟩
theorem tw8777276661231987817:True:=⟨⟩
theorem tw2363106646157955396:True:=⟨⟩
theorem tw15791680250552897319:True:=⟨⟩
theorem tw10208542736578170699:True:=⟨⟩
theorem tw76263155394304516:True:=⟨⟩
theorem tw2349933732590346241:True:=⟨⟩
theorem tw15336239659368113575:True:=⟨⟩
theorem tw9065765023386805993:True:=⟨⟩
theorem tw2968317399697028325:True:=⟨⟩
theorem tw3922879462566666535:True:=⟨⟩
theorem tw8431319970499619867:True:=⟨⟩
theorem tw5375940956426866366:True:=⟨⟩
theorem tw15846328156765458335:True:=⟨⟩
theorem tw5468761501260752262:True:=⟨⟩
theorem tw6458343097692612052:True:=⟨⟩
theorem tw11649714253745812324:True:=⟨⟩
end PySem.W.Fast
open PySem.W
set_option maxRecDepth 100000 in
set_option maxHeartbeats 0 in
theorem PySem.Challenge.cw_fewdistances_k31_points_that_fit_holds : PySem.Challenge.rw_fewdistances_k31_points_that_fit.Holds := by
 w_on;o_law;k_head;(case hw=>w_witness2)
 k_fill
 refine _D.qAc (l:=Sn) (k:=10) (x:="_law_script") rfl rfl ⟨rfl,by decide,by decide,rfl⟩ (λ_=>by kernel_rfl) (λw h Y=>Y) ?F
 case F =>
  intro w mg fa h KX G hmg
  refine' _K.E6 (_D.qAX _K.bdf ?hp rfl KX G ?s ?z (_K.IE ?q0 ?q1 ?q2 ?q3 ?q4 ?q5 ?q6 ?q7 ?q8 ?q9 ?q10 ?q11) (_K.IF ?gi0 ?gi1 ?gi2) ?e1 ?e2 ?e3 ?e4 ?e5 ?e6) ?nd (_D.JI _K.WM KX G ?qx0 ?gx0 (_D.yu.mk ?bx0 ?ix0 ?lx0 ?cx0 ?kx0 ?ex0) _D.MK) ?hT hmg
  (case s=>(repeat (refine' ⟨_D.vo.mk ?a ?l ?c ?k,?_⟩;(case a=>k_is);(case l=>k_is);(case c=>k_is);(case k=>k_is)));exact trivial)
  (case z=>rfl)
  (case q0=>k_is)
  (case q1=>k_is)
  (case q2=>k_is)
  (case q3=>k_is)
  (case q4=>k_is)
  (case q5=>k_is)
  (case q6=>k_is)
  (case q7=>k_is)
  (case q8=>k_is)
  (case q9=>k_is)
  (case q10=>k_is)
  (case q11=>k_is)
  (case gi0=>k_is)
  (case gi1=>k_is)
  (case gi2=>k_is)
  (case hp=>intro y hy;revert hy;simp;grind)
  (case e1=>rfl)
  (case e2=>rfl)
  (case e3=>rfl)
  (case e4=>rfl)
  (case e5=>rfl)
  (case e6=>rfl)
  (case nd=>decide)
  (case qx0=>k_is)
  (case gx0=>rfl)
  (case bx0=>k_is)
  (case ix0=>k_is)
  (case lx0=>k_is)
  (case cx0=>k_is)
  (case kx0=>k_is)
  (case ex0=>rfl)
  (case hT=>rfl)
