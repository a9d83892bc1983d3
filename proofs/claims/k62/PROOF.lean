import PyProof.Rows.All
import Wide.All
import OpenK.AllK
import Wide.FinOn
import Lean
import PyProof.EqAt
import PyProof.EqKinds
import PyProof.TupleCall
import KE.KLam
import KE.KTryMore
import KE.KIsAll
import PyProof.NeKinds
import PyProof.Rows.CountFlat
import PyProof.Rows.FStr
import PyProof.ZipIter
import PyProof.EnumMake
import PyProof.EnumStmt
import KE.KDictLaws
import PyProof.DictWalks
import PyProof.Rows.SetFrom
import PyProof.SumWalkG
import PyProof.Rows.SumGenD
import PyProof.SeqI2
import KE.KItemsList
import PyProof.SetKind
import PyProof.TupleKey
import KE.KSortTup
import PyProof.ReprRoads
import PyProof.ReprBulk
import PyProof.TupleOfSeq
import PyProof.WalkInts
import PyProof.SeqI3
import PyProof.Rows.RuleDivmod
import PyProof.ListRange
import KE.KPairComp
import KE.KMinKey
import PyProof.Rows.CallKwBuiltin
import KE.KDictList
import PyProof.DictTruth
import PyProof.DictRoadsH
import PySem.Challenge.RW_fewdistances_k62_lots_on_circles
set_option Elab.async false
set_option linter.all false
set_option maxRecDepth 100000
set_option maxHeartbeats 0
set_option tactic.hygienic false
set_option bootstrap.genMatcherCode false
set_option genSizeOf false
set_option compiler.extract_closed false
open Array renaming getElem?_toList->Bo,length_toList->Bu,getElem?_eq_getElem->Dp,toList_append->Dw,getElem?_eq_some_iff->Ec,toList_push->Ff,getD_eq_getD_getElem?->Fm,getD->Hc,toList_extract->Kb,size_extract->Kz,toList_reverse->Mr,getElem?_eq_none->Pp,mem_toList_iff->Qp,getElem?_eq_none_iff->Sx,perm_iff_toList_perm->Sy,size_map->Xz,forIn_toList->f8,toList->sK,toList_inj->AaY
open Bool renaming and_eq_true->Aw,false_eq_true->Bx,noConfusion->Dl,false_ne_true->En,and_eq_true_iff->Fz,false_and->Hs,and_false->Kh,not_true->Li,not_eq_true'->Lv,eq_iff_iff->NE,or_eq_true->Ra,not_false->XV,and_true->Ze
open Classical renaming byContradiction->Gf,choose_spec->Lx,choose->Qb
open False renaming elim->Ao
open ForInStep renaming yield->Lg
open Int renaming toNat_natCast->Em,le_trans->Gi,le_of_lt->Hq,mul_zero->Je,mul_ediv_cancel_left->Ke,sub_self->Ku,emod_lt_of_pos->Ky,gcd->Ln,mul_eq_zero->Lo,eq_of_mul_eq_mul_right->Mx,mul_fdiv_cancel->Nm,emod_nonneg->Nu,mul_nonneg_of_nonpos_of_nonpos->Ot,le_refl->Qg,natAbs_mul->Sd,mul_nonneg->Se,lt_of_lt_of_le->Sj,natAbs_natCast->Sk,mul_comm->Vv,natAbs_dvd_natAbs->Xs,natAbs_of_nonneg->Yp,mul_neg->Ab2,natCast_mul->AbG,not_lt->AbK,natAbs_neg->AbR
open List renaming length_map->Ap,getElem?_eq_getElem->Ar,getElem?_eq_some_iff->Ay,prefix_refl->AT,mem_cons->Ba,getElem?_append_left->Bb,size_toArray->Be,length_append->Bj,all_eq_true->Bn,mem_append->Bq,mem_map->Br,length_cons->Bs,mem_of_getElem?->Bw,mem_append_right->Ca,append_assoc->Cd,range->Cf,getElem?_set_ne->Ci,getElem?_append_right->Cq,mem_cons_of_mem->Cs,mem_iff_getElem->Ct,map_cons->Cu,mem_singleton->Cw,mem_append_left->Dg,pairwise_append->Dh,map_append->Di,getElem?_set_self->Dj,replicate->Dk,getElem?_map->Do,pairwise_map->Dq,map_map->Ds,mem_range->Dt,not_mem_nil->Dv,mem_cons_self->DL,pairwise_cons->Ea,map_congr_left->Er,length_filter_le->Fa,length_nil->Fc,prefix_append->Fh,append_nil->Fk,length_eq_zero_iff->Fu,flatMap_cons->Fx,find?_cons->Ge,length_take->Gh,contains_iff_mem->Gm,length_drop->Gs,filterMap_cons->Gw,replicate_succ->Gy,nodup_append->Gz,drop_eq_getElem_cons->Ha,nil_append->Hi,mem_filterMap->Hj,filter_cons_of_neg->Hr,getD->Hv,extract_eq_take_drop->Io,nodup_cons->Iy,flatten_cons->IN,lookup->Jd,filter_cons_of_pos->Jf,lookup_cons->Ji,range_succ_eq_map->Jj,zip_cons_cons->Jm,all_map->Jr,pairwise_iff_getElem->Jx,length_range->Jy,mem_of_find?_eq_some->Jz,cons_append->Kn,any_eq_true->Kq,filter_eq_self->Kr,mem_filter->La,any_cons->Lf,take_of_length_le->Ll,filter_eq_nil_iff->Lp,length_singleton->Lr,getElem?_eq_none->Lu,mem_iff_getElem?->Lw,perm_append_comm->Mb,reverse_append->Nj,length_pos_iff->Nl,of_mem_zip->No,length->Np,forIn_cons->Nr,getElem?_take_of_lt->Ob,find?_eq_none->Oh,filter_append->Oo,getElem?_replicate->Op,forIn_nil->Ov,drop_eq_nil_of_le->Pj,drop_of_length_le->Pq,getElem_inj->Pu,ext_getElem->Qe,countP_mono_left->Qf,take_append_drop->Qh,map_id->Qi,sum_cons->Ql,mem_of_mem_drop->Qu,mem_of_mem_take->Qv,eq_nil_of_length_eq_zero->Re,map->Rh,find?_some->Ri,append_toArray->Rr,filter_filter->Sl,perm_ext_iff_of_nodup->Sv,getD_eq_getElem?_getD->Sz,any_eq_false->Th,getElem?_zip_eq_some->Ts,all_cons->Tt,getElem_take->Tw,getElem_drop->Tx,ext_getElem?->Ua,getElem?_eq_none_iff->Ue,map_drop->Uf,length_erase_of_mem->Ul,length_filterMap_le->Uq,prefix_iff_getElem?->Us,getElem_mem->Uz,zipIdx_cons->Vb,Nodup->Vc,map_fst_zip->Ve,getElem_map->Vf,map_flatMap->Vg,getElem?_cons_succ->Vn,pairwise_mergeSort->Vp,pairwise_singleton->Vr,length_set->Wh,foldl_cons->Wi,find?_cons_of_neg->Wn,length_pos_of_mem->Wr,length_zip->Ww,filter_map->Wz,singleton_append->Xi,set_append_right->Xl,eq_nil_or_concat->Xq,concat_eq_append->Xr,mem_erase_of_ne->Yi,length_eraseIdx->Yj,reverse_reverse->Ym,range_eq_range'->Yo,mem_map_of_mem->Zm,lookup_append->ZB,getElem?_drop->dL,set_cons_zero->sB,map_nil->u8,take_sublist->Aa4,nodup_range->AaV,countP_cons->AaX,range'_succ->Ab0,filter->Ab4,flatMap_map->Ab5,zipIdx_nil->AbC,range_succ->AbF,foldl->AbH,nodup_nil->AbM,take_zero->AbP,map_take->Ac4
open List.Pairwise renaming nil->Pa,imp_of_mem->Uk
open List.Perm renaming append_left->Im,append_right->Lj,refl->Ml,trans->Rg,swap->AbN
open Nat renaming le_refl->Ax,lt_of_lt_of_le->Bh,le_trans->Cg,ne_of_lt->Cn,le_of_ble_eq_true->Dz,le_of_lt->Eo,lt_irrefl->Fe,exists_eq_add_of_le->Fw,add_sub_cancel_left->Gq,zero_le->Hg,lt_trans->Ie,zero_add->Ig,lt_of_le_of_ne->Iq,add_sub_cancel->Ir,ne_of_gt->Jc,add_le_add_left->Jh,lt_or_ge->Js,lt_succ_self->Kk,lt_of_le_of_lt->Kw,eq_zero_of_not_pos->Lm,le_of_lt_succ->Ly,lt_trichotomy->Ma,add_lt_of_lt_sub'->Mc,one_pos->Md,le_add_right->Mv,add_assoc->Nh,sub_lt->Nk,min_eq_left->Oa,pos_of_ne_zero->Om,not_lt->Pk,mod_lt->Po,succ_pos->Rl,add_right_comm->Si,le_succ->Ss,mul_lt_mul_of_lt_of_le->Tc,lt_of_succ_lt->Ub,sub_pos_of_lt->Uc,le_of_not_lt->Uv,add_comm->Vi,min_self->Vk,sub_self->Vs,le_antisymm->Wt,le_add_left->Wv,le_mul_of_pos_left->Wy,add_le_of_le_sub'->Xj,le_of_sub_eq_zero->Xk,ble_eq_true_of_le->Xo,eq_of_beq_eq_true->Xp,mul_le_mul->Ye,lt_sub_of_add_lt->Yk,add_le_add_right->Yl,pow_le_pow_right->Yq,add_sub_cancel'->Zj,gcd->Zn,le_of_eq->wT,lt_succ_of_lt->AaG,min_eq_right->Ab1,add_mul->Ab3,not_lt_zero->AbA,add_le_add->AbO
open Ne renaming symm->Gj
open Option renaming some->Ab,map_eq_some_iff->Dn,bind_eq_some_iff->Ft,isSome_iff_exists->Iw,getD_some->Py,map_some->Rc,isSome_map->Tl,isSome_some->Zx,getD_none->AaM,bind_some->AaZ,none->AcB
open Option.some renaming inj->Dd
open Or renaming inr->Zr,inl->AaO
open Prod renaming ext->Zq
open PyProof.Rows renaming wpS_bind->Bc,Keyed->Bm,wpS_pure->Bv,slot_tuple_getitem->Du,seqObj->Ew,SortSt->Fq,wpS_forRange->Fv,envOfC->Gu,callWith_type1->Ht,wpS_mono->Ia,wpS_modify->Jt,IntsAre->Mi,SortKind->Nw,get?_update_seq->Ny,wpS_get->Os,AllBare->Ps,callWith_builtin1->Qm,lt_int->Rp,entry_tuple_getitem->Rq,IsTup->Rw,slicePart_none->Ry,assignInOrder_cons->Sf,args_tuple_getitem->Sg,wpS_lift->Te,subscriptTail->Tk,subscriptTail_builtinR->Wg,isBoolOf->Wp,gallopOf->Wu,tupleItemsOf_->Yz,Subscript_->Zb,assignInOrder_nil->x0
open PyProof.Rows.F renaming plain_set_update_loop->Jl,entry_set_update_loop->Nv
open PyProof.Rows.IsTup renaming new->Aa0
open PyProof.Rows.SortSt renaming mk'->Df
open PySem renaming Value->Ac,wpAny_bind->Ad,Addr->Af,Shared->Ag,wpAny_pure->Am,wpAny->Aq,Str->As,model->Av,Program->Bi,starEach->Bk,Around->Bp,Heap->Bt,Expr->By,World->Bz,mainGlobals->Ch,Obj->Cp,compareOp->Cy,wpAny_newObj_type->De,wpAny_callSpecial?_slot->Ed,wpAny_holding->Ee,wpAny_call_entry->Ef,Comprehension->Eg,binaryOp->Ej,intKind->Ek,foldedSetIterable->El,Scope->Ep,cLine->Eu,Pos->Ev,tupleKind->Ey,wpAny_field->Ez,Stmt->Fb,mem_of_lookup->Fn,backTo->Ga,sizeLine_eq->Gb,FuncData->Gc,SetTable->Gg,rawInt->Gk,bootBuiltins->Gn,wpAny_mono->Gr,wpAny_setState_of->Hd,wpAny_Call_Name_kw->Hk,assignEach->Hn,wpAny_rule->Ho,wpAny_seqItems->Hu,sysModules->Hx,Builtin->Hz,codeAny->Ik,cellsFrom->Il,NameKind->Ip,Env->Ix,wpAny_pyIter_list->Ja,wpAny_typeNameOfWhole_valiter->Jb,wpAny_attempt->Jg,wpAny_pyIter_tuple->Jn,wpAny_setField_rec->Jo,wpAny_passesOwn->Ju,codeAny_builtin->Jv,wpAny_typeNameOf_valiter->Kc,wpAny_setField->Ki,Sem->Kj,wpAny_askSetting->Kl,IsPair->Kx,Model->Lb,letOwnedTupleGo->Lc,atKey->Ls,ofAClassStatement->Lz,getItem->Mj,firstArgMember->Mk,wpAny_typeOf->Mn,codeAny_mono->Mp,pyNext->Ms,wpAny_forIn_list->Mt,swappedStores->Mz,swapsWithSole->Na,wpAny_standAt->Nb,behindInMarks->Nc,TriplesOk->Nd,attributeBase->Ng,wpAny_execs_nil->Nn,sliceBounds->Nq,PassesOwn->Ow,swapsWith->Pb,wpAny_dictEntries->Pe,Operator->Pg,call_meets->Pi,BindsTo->Pv,wpAny_of_eq->Px,wpAny_isInstance->Qc,wpAny_isOneOf_valiter->Qk,codeAny_call_builtin->Qs,wpAny_updateSeq_pair->Qt,Arguments->Qy,codeAmong->Qz,pickOrder->Rf,pyIter->Rj,builtinsNs->Rm,recursionLimit->Rx,IsZip->Sa,tupleKind_room_in1->Sh,wpAny_newFunctionEnv_cells->So,IsPart->Sr,hashByValue->Sw,Tok->Tf,wpAny_sequenceKey->Tj,callerA->Tn,standAt->To,noteFrame->Tp,Keyword->Tu,wpAny_onRaise->Tv,setSearchFrom->T0,plainId_quiet->TD,wpAny_pyIter_slot->TW,wpAny_comprehension_free->Ui,noFill_tuple_add->Uu,wpAny_call->Uw,checkBuiltinCall->Ux,closureFor->Uy,IsTupleKey->Vd,tupleKeyHash->Vo,bindArgs->Wd,richCompare_meets_room->We,valueAt->Wj,wpAny_specialOf->Wk,wpAny_Call_method_late->Wm,codeAny_of_tree->Wq,wpAny_ite_split->Ws,wpAny_dictEpoch->Wx,codeAny_call_function->Xa,keywordEach->Xc,builtinLookup_eq_fast->Xg,wpAny_notOrdered_dict->Xm,isSubtype_stop->Xx,newFunctionEnv->Xy,isSubtype_type->Ya,wpAny_fieldsOf->Yb,dictSetDefault->Yd,wpAny_loadName_local->Yf,wpAny_loadName_cell->Ys,assignInOrder->Yt,CmpOp->Yu,bindL->Yw,bindC->Yx,seq_tuple_add->Yy,evalPart_none->Za,wpAny_handled->Zf,wpAny_setEntries_of->Zi,wpAny_newList->Zk,bindName->Zo,Result->Zp,setState->Zs,concat_meets->t0,wpAny_assign_Name->xL,seqIndex?->Aa5,list_append->Aa6,lastMarks->Aa7,ClassData->Aa8,setFlight->Aa9,pushCells->AaC,unaryOp->AaH,seqIndex_of->AaL,newExc->AaQ,wpAny_throw->AaR,wpAny_letGo->AaS,argsOk->AaU,GenState->Ab7,backToKw->Ab9,raiseNew->AbB,compTurn->AbD,call->AbI,Within->Ac6,isTrue->Ac8
open PySem.Around renaming under_plainId->Ka,frames_deeper->Qq
open PySem.AutoSeq1 renaming sub_tuple_tuple->Ug
open PySem.Builtin.Dict renaming showsAll->Xn
open PySem.Builtin.Dict_items renaming ownsTuple->Lq,newIterator->Ab6,dictOf->Ac3
open PySem.Builtin.Frozenset renaming sizeOf->Um,updateFrom->AbJ,newClass->AbT
open PySem.Builtin.Getset_descriptor renaming descrCheckInstance->Vz,descrNameAndClass->Wl,descrGetter->Zd,descrGet->wE
open PySem.Builtin.List renaming listTooLong->Od,listLengthHint->Sb,listExtendWith->Sc,listSameRef->Uo
open PySem.Builtin.ObjectAttr renaming bindTo->Tq,dataDescriptor?->v6,getOf->Ac5,find->Ac7
open PySem.Builtin.Slice renaming sliceAdjust->Gd,slicePlaces->Gx,sliceApplied->Jp,sliceFields->Ti
open PySem.Builtin.SmallTypes renaming nextOf->Eh,ownedTupleIsFree->Hl,ownedTupleHandOut->Nt
open PySem.Builtin.Tuple renaming tupleExact->Fj,tupleItemsOf->Mu,tupleCompareSizes->Pw
open PySem.Calls renaming spliced_cons->Kv,spliced_nil->Oy,callWith_builtin->Pm,evalArgs_plain->Qr,Name_function_global->Sn,call_function_entry->Ud
open PySem.Challenge renaming pw_fewdistances_k62_lots_on_circles->Ta,rw_fewdistances_k62_lots_on_circles->Td
open PySem.Code renaming quiet_builtin->Zz,compLoop->AbY
open PySem.F renaming slot_dict_valueiterator_next->Gv,called_set->Hm,slot_tuple_iterator_next->Jq,args_tuple_add_2->Oc,entry_tuple_add->Oq,slot_tuple_add->Ph,args_dict_valueiterator_next_1->Pr,entry_dict_valueiterator_next->Qj,slot_zip_next->Rb,args_tuple_iterator_next_1->Ru,slot_dict_setdefault->Rv,entry_tuple_iterator_next->Rz,excBase_ValueError->Su,slot_dict_values->Ur,type_list_append->Ut,args_tuple_lt_2->Vh,attr_ValueError->Vj,slot_list_count->Vl,slot_list_index->Vm,plain_list_iadd->Vq,plainAttrs_dict->Vt,slot_dict_values_iter->Vu,plainAttrs_list->Vw,type_list_count->Vx,type_list_index->Vy,entry_tuple_lt->Wf,slot_tuple_lt->Xb,plain_set_new->Xf,slot_set_iter->Xh,type_list_pop->Xt,args_list_append_2->Yh,entry_list_append->Zc,slot_list_append->Zw,args_zip_next_1->AaB,entry_zip_next->AaT
open PySem.Heap renaming get?_push_of_some->Aj,lt_size->Bf,get?_push_size->Bl,get?_update_other->Dm,get?_update_self->EQ,size_push->Fl,SameBut->Go,get?_none_of_le->Qo,FlyingW->Rk,MadeExcOf->Xw,ExtBut->AaP
open PySem.Heap.IsSliceOf renaming new->Zv
open PySem.Heap.SameBut renaming update->Fp,refl->AaD
open PySem.IsL renaming update->AaN
open PySem.MeetsSeq renaming list_index->AbX,EqGives->AcA
open PySem.NameKind renaming free->Hb,cell->Pz
open PySem.Obj renaming mapSeq->Fg,mapFields->Ni,data_mapFields->Og,isFreed_of_fields->Xd,data_mapDictKeys->Yn,cls_mapFields->AaA
open PySem.P renaming add_list->Va
open PySem.SeqAt.EqAt renaming bool_bool->AbS,same->AbW
open PySem.SetTable renaming below->Cj,insertAt->Ei,sizeAbove->Fi,runEnd->Ib,grown->Iu,insertAt_perm->Lh,Probe->Pc,fill->Tz,toList_insertAt->Uj,laid->Zg,has->wP,layClean->AaF,tooFull->AaW,slot->AbZ,fits->Ac0
open PySem.SetTable.below renaming go->AaE
open PySem.SetTable.layClean renaming free->Jk
open PySem.SetTable.probe renaming go->Pd
open PySem.Shared renaming heap->Xe,TypeIs->Zh
open PySem.Str renaming ofString->Ic
open PySem.Value renaming ref->Cb,none->Cz,bool->Fy,type->Hw,int->Qw,isInt->WF,str->WP,notImplemented->Yg,isStrOf->AbU,builtin->AbV
open PySem.W renaming Frag->Ai,nsIn->Dr,tabIn->Dy,kia_one->Et,keepIn->Fd,fnOf->He,kitx_list->Jw,exmOne->Kg,cellsFrom_some->Ld,kitOne->Me,codeIn->Mf,tabObj->Mm,envX->Mq,kla_obj->Nz,kitx_tuple->Oe,callWith_K->Of,findIn->Ou,kitx_dict->Ox,hideAll->Qx,methodObj->Tg,nsMap_none_of_in->Uh,instObj->Wc,CodeHd->Xu,lookIn->Xv,kitAny->Yc,hideAll_get->Yr,mroIn->Yv,mg_of->Zl,of_hideAll->Zt,codeRec_of->Zu,isNs_of_in->Zy,looks_findIn->v4,specialIn->Aa1,kitx_none->Aa2,kitx_bool->Aa3,plainGet->AaI,kitx_int->AaJ,kitx_str->AaK,takesIn->Ab8,OpenLaw->AbE,nsOkIn->AbL,kla_fn->AbQ,WalkO->Ac2
open PySem.W.KatTups renaming cons->Ac9
open PySem.W.Looks renaming of_pure->Ac1
open PySem.pickOrder renaming go->wS
open Sum renaming inl->Wa,inr->Wb
open True renaming intro->Hy
open _root_ renaming List->Aa,Nat->Ah,Option->Ak,Int->An,Bool->Au,Array->Az,if_neg->Bd,if_pos->Bg,decide_eq_true_eq->Cc,of_decide_eq_true->Ce,decide_eq_false->Co,decide_eq_true->Dc,if_false->Dx,if_true->Eb,String->Es,False->Ex,beq_self_eq_true->Fo,or_false->HT,Decidable->Ih,decide_true->Km,decide_eq_decide->Ko,decide_false->Ks,decide_eq_false_iff_not->Kt,StateT->Mw,beq_eq_false_iff_ne->My,of_decide_eq_false->Ol,beq_iff_eq->Pl,True->Qn,Unit->Ro,DecidableEq->Sm
open PySem PySem.Spec PyProof.Rows
local macro_rules|`(tactic|fin2)=>`(tactic|omega)
abbrev aa:=Aa (Af × Cp)
abbrev ae:=Ac->Ag->Prop
abbrev ag:=Aa Af
abbrev ah:=As->Ak Ac
abbrev ai:=Aa Ac
noncomputable section
def om {p:Prop}(h:p:=by fin2):p:=h
def bU {p:Prop}[Decidable p](h:p:=by decide):p:=h
def bA {p:Prop}(h:p:=by lia):p:=h
def bB {p:Prop}(h:p:=by simp):p:=h
def li {p:Prop}(h:p:=by lia):p:=h
def kd {p:Prop}[Ih p](h:p:=by decide +kernel):p:=h
section
namespace _L
abbrev c_:=Sum An As
def bY:c_->Ac->Au
 |.inl k,v=>WF k v
 |.inr x,v=>AbU x v
noncomputable def qBj (w:Bz):c_->An
 |.inl k=>hashInt k
 |.inr x=>hashStr w x
theorem xJ:∀ {k:c_} {v:Ac},bY k v=true->(∃ i t,k=Wa i/\v=Qw i t)\/(∃ x t,k=Wb x/\v=WP x t)
 |.inl i,v,h=>by
  obtain⟨t,e⟩:=Value.isInt_shape (k:=i) (v:=v) h;exact .inl ⟨i,t,rfl,e⟩
 |.inr x,v,h=>by
  obtain⟨t,e⟩:=Value.isStrOf_shape (x:=x) (v:=v) h;exact .inr ⟨x,t,rfl,e⟩
def Y3 (i:An)(t:Tf):bY (.inl i) (.int i t)=true:=by simp[bY,WF]
def Y4 (x:As)(t:Tf):bY (.inr x) (.str x t)=true:=by simp[bY,AbU]
def EB (a b:An):decide ((Wa a:c_)=Wa b)=(a == b):=by
 by_cases e:a=b
 .subst e;simp
 .have h:¬ (Wa a:c_)=Wa b:=λq=>e (Sum.inl.inj q)
  rw[Co h];exact(My.mpr e).symm
def EE (a b:As):decide ((Wb a:c_)=Wb b)=decide (a=b):=by
 by_cases e:a=b
 .subst e;simp
 .have h:¬ (Wb a:c_)=Wb b:=λq=>e (Sum.inr.inj q)
  rw[Co h,Co e]
def EC (a:An)(b:As):decide ((Wa a:c_)=Wb b)=false:=Co (λq=>nomatch q)
def ED (a:As)(b:An):decide ((Wb a:c_)=Wa b)=false:=Co (λq=>nomatch q)
def xQ (prog:Bi)(w:Bz):PySem.KeyKind prog w c_ where
 is:=bY
 hash:=qBj w
 inj:=λv a b J Y=>by
  rcases xJ J with⟨i,t,rfl,rfl⟩|⟨x,t,rfl,rfl⟩
  .rcases xJ Y with⟨j,u,rfl,e⟩|⟨y,u,rfl,e⟩
   .injection e with Q _;rw[Q]
   .exact nomatch e
  .rcases xJ Y with⟨j,u,rfl,e⟩|⟨y,u,rfl,e⟩
   .exact nomatch e
   .injection e with Q _;rw[Q]
 byValue:=λk v h=>by
  rcases xJ h with⟨i,t,rfl,rfl⟩|⟨x,t,rfl,rfl⟩ <;> rfl
 pyHash:=λhv h=>by
  rcases xJ hv with⟨i,t,rfl,rfl⟩|⟨x,t,rfl,rfl⟩
  .exact wpAny_pyHash_int h
  .exact wpAny_pyHash_str h
 eqBool:=λU hv h=>by
  rcases xJ U with⟨i,t,rfl,rfl⟩|⟨x,t,rfl,rfl⟩
  .rcases xJ hv with⟨j,u,rfl,rfl⟩|⟨y,u,rfl,rfl⟩
   .rw[EB] at h;exact wpAny_eqBool_int h
   .rw[EC] at h;exact SeqAt.EqAt.int_str i t y u _ _ _ _ h
  .rcases xJ hv with⟨j,u,rfl,rfl⟩|⟨y,u,rfl,rfl⟩
   .rw[ED] at h;exact SeqAt.EqAt.str_int x t j u _ _ _ _ h
   .rw[EE] at h;exact wpAny_eqBool_str h
 «strs»:=λk x t v h=>by
  rcases xJ h with⟨i,u,rfl,e⟩|⟨y,u,rfl,e⟩
  .exact nomatch e
  .injection e with Q _
   subst Q;cases v <;> rfl
def iG (prog:Bi)(w:Bz)(i:An)(t:Tf):(xQ prog w).is (.inl i) (.int i t)=true:=Y3 i t
def iH (prog:Bi)(w:Bz)(x:As)(t:Tf):(xQ prog w).is (.inr x) (.str x t)=true:=Y4 x t
end _L
namespace _L
inductive V where
 |non|bl (b:Au)|int (i:An)|str (x:As)|byt (b:Az UInt8)|flt (b:UInt64)|ref (a:Af)|ty (n:Es)
 deriving Sm
def qJ:V->Ac->Prop
 |.non,u=>u=Cz
 |.bl b,u=>u=Fy b
 |.int i,u=>∃ t,u=Qw i t
 |.str x,u=>∃ t,u=WP x t
 |.byt b,u=>∃ t,u=Value.bytes b t
 |.flt b,u=>∃ t,u=Value.float b t
 |.ref a,u=>u=Cb a
 |.ty n,u=>u=Hw n
abbrev qM:Aa V->Aa Ac->Prop:=Paired qJ
def qM.length (r:qM xs us):xs.length=us.length:=Paired.length r
theorem qM.get:∀ {xs:Aa V} {us:ai} {i:Ah} {x:V},qM xs us->xs[i]? = Ab x->∃ u,us[i]? = Ab u/\qJ x u
 |_,_,_,_,.nil,e=>by simp at e
 |_,_,0,_,.cons r _,e=>by simp at e;subst e;exact⟨_,rfl,r⟩
 |_,_,i+1,x,.cons _ t,e=>by
  obtain⟨u,Y,Q⟩:=qM.get (i:=i) (x:=x) t (by simpa using e)
  exact⟨u,by simpa using Y,Q⟩
theorem qM.set (r:qJ x u):∀ {xs:Aa V} {us:ai} (i:Ah),qM xs us->qM (xs.set i x) (us.set i u)
 |_,_,_,.nil=>.nil
 |_,_,0,.cons _ t=>.cons r t
 |_,_,i+1,.cons q t=>.cons q (qM.set r i t)
def qM.append (h:qM xs us)(s:qM Q Y):qM (xs++Q) (us++Y):=by
 induction h with
 |nil=>exact s
 |cons r t J=>exact .cons r J
theorem qM.take:∀ {xs:Aa V} {us:ai} (n:Ah),qM xs us->qM (xs.take n) (us.take n)
 |_,_,0,_=>.nil
 |_,_,_+1,.nil=>.nil
 |_,_,n+1,.cons r t=>.cons r (qM.take n t)
theorem qM.drop:∀ {xs:Aa V} {us:ai} (n:Ah),qM xs us->qM (xs.drop n) (us.drop n)
 |_,_,0,r=>r
 |_,_,_+1,.nil=>.nil
 |_,_,n+1,.cons _ t=>qM.drop n t
def vK:Ak V->Ak Ac->Prop
 |some v,Ab u=>qJ v u
 |none,none=>Qn
 |_,_=>Ex
def KV {κ : Type}:Aa (κ × V)->Aa (κ × Ac)->Prop:=Paired λ(p:κ × V) (q:κ × Ac)=>p.1=q.1/\qJ p.2 q.2
def kV:c_->V
 |.inl i=>.int i
 |.inr x=>.str x
inductive HO where
  |lst (xs:Aa V)
  |tup (xs:Aa V)
  |dK (kvs:Aa (c_ × V))|dT (kvs:Aa (Aa c_ × V))
  |set (S:An->Au) (n:Ah)
  |ins (C dx:Af) (fs:Aa (As × V))
  |own (x:Af)
  |xd (fs:Aa (As × V))
  |met (f x:Af)
  |rng (lo hi:An)
  |frz (o:Cp) (u:HO)
  |tbl (ps:Az Ac)
  |ext (φ : Bt->Prop)
abbrev Hp:=Af->Ak HO
noncomputable def cc (H:Hp)(a:Af)(o:HO):Hp:=λb=>if b=a then Ab o else H b
def qV {a:Af}:cc H a o a=Ab o:=by unfold cc;rw[Bg rfl]
def qL {a b:Af}(h:b≠a):cc H a o b=H b:=by unfold cc;rw[Bd h]
def qAB {H:Hp}{a b:Af}(h:H a=Ab o)(h':H b=Ab u)(d:o≠u):a≠b:=by
 intro e;subst e;rw[h] at h';exact d (Dd h')
def qT {H:Hp}{a b:Af}(h:H a=Ab o)(h':H b=none):a≠b:=by
 intro e;subst e;rw[h] at h';cases h'
section
variable (P:Bi)(w:Bz)
def zE (H:Hp)(h:Bt)(a:Af):HO->Prop
 |.lst Y=>Y.length<=sizeLine/\∃ (Q:ai) (n:Ah),qM Y Q/\h.get? a=Ab { cls:=.type "list",data:=.seq Q.toArray n }
 |.tup Y=>Y.length<=sizeLine/\∃ Q:Aa Ac,qM Y Q/\Rw h a Q.toArray
 |.dK J=>J.length<=sizeLine/\(a == Hx)=false/\∃ B,KV J B/\h.DictOf (xQ P w) a B
 |.dT J=>J.length<=sizeLine/\(a == Hx)=false/\∃ Y:Aa (Aa c_ × Af × Ac),
   Paired (λ(p:Aa c_ × V) (q:Aa c_ × Af × Ac)=>p.1=q.1/\H q.2.1=Ab (.tup (p.1.map kV))/\qJ p.2 q.2.2) J Y /\
   ∃ o O E,h.get? a=Ab o/\o.ExactDict/\o.data=.dict O E/\O.toList=Y.map (entryOfKey (Ey (xQ P w)))/\(Y.map (·.1)).Nodup
 |.set S n=>h.SetOf (Ek P w) a S n
 |.ins C G U=>H G=Ab (.own a)/\U.length<=1000/\G≠a/\h.get? a=Ab (Wc C G) /\
   ∃ mA,h.Ns1 G mA/\(∀ f,vK (U.lookup f) (mA f))/\Ac6 mA (U.map (·.1))
 |.own _=>∃ o,h.get? a=Ab o
 |.xd U=>∃ mA,h.Ns1 a mA/\∀ f,vK (U.lookup f) (mA f)
 |.rng lo I=>∃ t u v,h.get? a=Ab { cls:=.type "range",data:=.fields #[.int lo t,.int I u,.int 1 v] }
 |.frz o u=>h.get? a=Ab o/\zE H h a u
 |.tbl T=>h.get? a=Ab { cls:=.none,data:=.fields T }
 |.met f x=>h.get? a=Ab (Tg (.ref f) (.ref x))
 |.ext φ => φ h/\(∃ o,h.get? a=Ab o)/\∀ L N:Bt,φ L->(∀ o,L.get? a=Ab o->N.get? a=Ab o)->φ N
def gw (H:Hp)(h:Bt):Prop:=∀ a o,H a=Ab o->zE P w H h a o
end
section
variable {P:Bi}{w:Bz}{H H':Hp}{h h':Bt}{a:Af}{o:HO}
def zE.lt (x:zE P w H h a o):a<h.objs.size:=by
 cases o with
 |lst J=>obtain⟨_,_,_,_,e⟩:=x;exact Bf e
 |tup J=>obtain⟨_,_,_,p⟩:=x;exact p.lt
 |dK Q=>obtain⟨_,_,_,_,o,_,_,e,_⟩:=x;exact Bf e
 |dT Q=>obtain⟨_,_,_,_,o,_,_,e,_⟩:=x;exact Bf e
 |set S n=>obtain⟨o,_,_,_,e,_⟩:=x;exact Bf e
 |ins C U Y=>obtain⟨_,_,_,e,_⟩:=x;exact Bf e
 |own y=>obtain⟨_,e⟩:=x;exact Bf e
 |xd Y=>obtain⟨_,⟨_,_,_,e,_⟩,_⟩:=x;exact Bf e
 |rng lo O=>obtain⟨_,_,_,e⟩:=x;exact Bf e
 |frz N u=>obtain⟨e,_⟩:=x;exact Bf e
 |tbl G=>exact Bf (show h.get? a=Ab _ from x)
 |met f y=>exact Bf (show h.get? a=Ab _ from x)
 |ext φ => obtain⟨_,⟨_,e⟩,_⟩:=x;exact Bf e
def Paired.mapP {α β:Type}{F G:α->β->Prop}{Q:Aa α}{Y:Aa β}(h:Paired F Q Y)(f:∀ a b,F a b->G a b):Paired G Q Y:=by
 induction h with
 |nil=>exact .nil
 |cons r t J=>exact .cons (f _ _ r) J
theorem zE.stay (x:zE P w H h a o)(k:∀ b u,(b=a\/H b=Ab (.own a))->h.get? b=Ab u->h'.get? b=Ab u)
  (E:∀ b,H b=Ab (.own a)->H' b=Ab (.own a)) (I:∀ b xs,H b=Ab (.tup xs)->H' b=Ab (.tup xs)):zE P w H' h' a o:=by
 induction o with
 |lst xs=>obtain⟨z,U,n,r,e⟩:=x;exact⟨z,U,n,r,k _ _ (.inl rfl) e⟩
 |tup xs=>obtain⟨z,U,r,Q,e,c⟩:=x;exact⟨z,U,r,Q,k _ _ (.inl rfl) e,c⟩
 |dK A=>obtain⟨z,y,L,r,Q,Y,J,e,c⟩:=x;exact⟨z,y,L,r,Q,Y,J,k _ _ (.inl rfl) e,c⟩
 |dT A =>
  obtain⟨z,y,xs,r,Q,Y,J,e,c⟩:=x;exact⟨z,y,xs,Paired.mapP r λp q z=>⟨z.1,I _ _ z.2.1,z.2.2⟩,Q,Y,J,k _ _ (.inl rfl) e,c⟩
 |set S n=>obtain⟨Q,Y,J,t,e,c⟩:=x;exact⟨Q,Y,J,t,k _ _ (.inl rfl) e,c⟩
 |ins C l M =>
  obtain⟨d,z,B,e,mA,⟨G,Y,J,T,c⟩,r⟩:=x;exact⟨E _ d,z,B,k _ _ (.inl rfl) e,mA,⟨G,Y,J,k _ _ (.inr d) T,c⟩,r⟩
 |own y=>obtain⟨Q,e⟩:=x;exact⟨Q,k _ _ (.inl rfl) e⟩
 |xd M=>obtain⟨mA,⟨G,Y,J,e,c⟩,r⟩:=x;exact⟨mA,⟨G,Y,J,k _ _ (.inl rfl) e,c⟩,r⟩
 |rng lo j=>obtain⟨t,u,v,e⟩:=x;exact⟨t,u,v,k _ _ (.inl rfl) e⟩
 |frz Q u O=>obtain⟨e,q⟩:=x;exact⟨k _ _ (.inl rfl) e,O q⟩
 |tbl N =>
  have e:h.get? a=Ab { cls:=.none,data:=.fields N }:=x;show h'.get? a=Ab { cls:=.none,data:=.fields N };exact k a _ (.inl rfl) e
 |met f y =>
  have e:h.get? a=Ab (Tg (.ref f) (.ref y)):=x;show h'.get? a=Ab (Tg (.ref f) (.ref y));exact k a _ (.inl rfl) e
 |ext φ => obtain⟨p,⟨o,e⟩,st⟩:=x;exact⟨st _ _ p λo q=>k _ _ (.inl rfl) q,⟨o,k _ _ (.inl rfl) e⟩,st⟩
def gw.lt (x:gw P w H h)(e:H a=Ab o):a<h.objs.size:=(x a o e).lt
def gw.fresh (x:gw P w H h)(e:h.objs.size<=a):H a=none:=by
 cases q:H a with
 |none=>rfl
 |some u=>exact absurd (Bh (x.lt q) e) (Fe _)
def gw.kept (x:gw P w H h)(k:∀ b u,h.get? b=Ab u->h'.get? b=Ab u):gw P w H h':=λa o e =>
 (x a o e).stay (λb u _ q=>k b u q) (λ_ q=>q) λ_ _ q=>q
def gw.laid (x:gw P w H h)(k:∀ b u,h.get? b=Ab u->h'.get? b=Ab u)(hp:h.objs.size<=a)(Q:zE P w (cc H a o) h' a o):gw P w (cc H a o) h':=λb u e=>by
 have Y:=x.fresh hp;by_cases J:b=a
 .subst J;rw[qV] at e;cases e;exact Q
 .rw[qL J] at e
  exact(x b u e).stay (λc v _ q=>k c v q) (λc q=>by rw[qL (qT q Y)];exact q) λc U q=>by rw[qL (qT q Y)];exact q
end
def Rd (H:Hp)(a:Af)(u:HO):Prop:=H a=Ab u\/∃ o,H a=Ab (.frz o u)
def Rd.of {H:Hp}{a:Af}(h:H a=Ab u):Rd H a u:=.inl h
def Rd.ok {P:Bi}{a:Af}(r:Rd H a u)(x:gw P w H h):zE P w H h a u:=by
 rcases r with r|⟨o,r⟩
 .exact x a u r
 .obtain⟨_,q⟩:=x a _ r
  exact q
def yc:Ak HO->Prop
 |some (.lst _)=>Qn
 |some (.dK _)=>Qn
 |some (.dT _)=>Qn
 |some (.set _ _)=>Qn
 |some (.ins _ _ _)=>Qn
 |some (.ext _)=>Qn
 |_=>Ex
section
variable {P:Bi}{w:Bz}{H:Hp}{h h':Bt}{x e:Af}{o':HO}
def gw.write (ok:gw P w H h)(G:yc (H x))(L:e=x\/H e=Ab (.own x))(k:∀ b u,b≠e->h.get? b=Ab u->h'.get? b=Ab u)(O:∃ u,h'.get? e=Ab u)
  (C:zE P w (cc H x o') h' x o'):gw P w (cc H x o') h':=λb u q=>by
 have Y:∀ c y,H c=Ab (.own y)->c≠x:=λc y r z=>by subst z;rw[r] at G;exact G
 have J:∀ c N,H c=Ab (.tup N)->c≠x:=λc N r z=>by subst z;rw[r] at G;exact G
 by_cases U:b=x
 .subst U;rw[qV] at q;cases q;exact C
 .rw[qL U] at q
  by_cases Q:b=e
  .have B:H b=Ab (.own x):=by
    rcases L with z|z
    .exact absurd (Q.trans z) U
    .rw[Q];exact z
   rw[q] at B;cases B;obtain⟨v,hv⟩:=O;exact⟨v,by rw[Q];exact hv⟩
  .refine(ok b u q).stay (λc v hc r=>k c v ?_ r) (λc r=>by rw[qL (Y c b r)];exact r) λc N r=>by rw[qL (J c N r)];exact r
   rcases hc with rfl|hc
   .exact Q
   .rintro rfl
    rcases L with z|z
    .exact Y c b hc z
    .rw[hc] at z;cases z;exact U rfl
end
structure Un (fs ex:ag)(H H':Hp)(h h':Bt):Prop where
 keep:∀ b o,h.get? b=Ab o->H b=none->b ∉ fs->b ∉ ex->h'.get? b=Ab o
 slot:∀ b o,h.get? b=Ab o->H b=none->b∈fs->b ∉ ex->∃ sl,h'.get? b=Ab { o with slots:=sl }
 free:∀ b o,h.get? b=Ab o->H b=none->b ∉ ex->H' b=none
 there:∀ b o,h.get? b=Ab o->b ∉ ex->∃ o',h'.get? b=Ab o'
 tups:∀ b xs,H b=Ab (.tup xs)->H' b=Ab (.tup xs)
 frzs:∀ b o u,H b=Ab (.frz o u)->H' b=Ab (.frz o u)
 tbls:∀ b ps,H b=Ab (.tbl ps)->∃ more,H' b=Ab (.tbl (ps++more))
section
variable {fs ex:ag}{H H1:Hp}{h h1 h':Bt}{a x e:Af}{o:HO}
def Un.any (u:Un fs ex H H1 h h1){b:Af}{Q:Cp}(q:h.get? b=Ab Q)(n:H b=none)(Y:b ∉ ex):∃ sl,h1.get? b=Ab { Q with slots:=sl }:=by
 by_cases J:b∈fs
 .exact u.slot b Q q n J Y
 .exact⟨Q.slots,u.keep b Q q n J Y⟩
def Un.kept (k:∀ b u,h.get? b=Ab u->h'.get? b=Ab u):Un fs ex H H h h':=
 ⟨λb Q q _ _ _=>k b Q q,λb Q q _ _ _=>⟨Q.slots,k b Q q⟩,λ_ _ _ n _=>n,λb Q q _=>⟨Q,k b Q q⟩,λ_ _ q=>q,λ_ _ _ q=>q,λ_ Y q=>⟨#[],by rw[q];simp⟩⟩
def Un.refl:Un fs ex H H h h:=Un.kept λ_ _ q=>q
def Un.laid (k:∀ b u,h.get? b=Ab u->h'.get? b=Ab u)(hp:h.objs.size<=a)(Q:H a=none):Un fs ex H (cc H a o) h h' where
 keep:=λb u q _ _ _=>k b u q
 slot:=λb u q _ _ _=>⟨u.slots,k b u q⟩
 free:=λb u q n _=>by rw[qL (Cn (Bh (Bf q) hp))];exact n
 there:=λb u q _=>⟨u,k b u q⟩
 tups:=λb Y q=>by rw[qL (qT q Q)];exact q
 frzs:=λb u Y q=>by rw[qL (qT q Q)];exact q
 tbls:=λb J q=>⟨#[],by rw[qL (qT q Q),q];simp⟩
def Un.write (Y:yc (H x))(O:e=x\/H e=Ab (.own x))(k:∀ b u,b≠e->h.get? b=Ab u->h'.get? b=Ab u)(J:∃ u,h'.get? e=Ab u):Un fs ex H (cc H x o) h h':=by
 have G:∀ b,H b=none->b≠x:=λb n z=>by subst z;rw[n] at Y;exact Y
 have N:∀ b,H b=none->b≠e:=λb n z=>by
  subst z;rcases O with r|r
  .exact G b n r
  .rw[n] at r;cases r
 have U:∀ b u,H b=Ab u->¬ yc (Ab u)->b≠x:=λb u q nm z=>by subst z;rw[q] at Y;exact nm Y
 refine⟨λb u q n _ _=>k b u (N b n) q,λb u q n _ _=>⟨u.slots,k b u (N b n) q⟩,λb u q n _=>by rw[qL (G b n)];exact n,λb u q _=>?_,
  λb C q=>by rw[qL (U b _ q λz=>z)];exact q,λb u C q=>by rw[qL (U b _ q λz=>z)];exact q,λb B q=>⟨#[],by rw[qL (U b _ q λz=>z),q];simp⟩⟩
 by_cases Q:b=e
 .subst Q;exact J
 .exact⟨u,k b u Q q⟩
end
noncomputable def yt (h:Bt)(H:Hp):Aa Af:=(Cf h.objs.size).filter λa=>(H a).isSome
def gV (h:Bt)(H:Hp):Bt:=Qx h (yt h H)
def WX (h:Bt)(H:Hp):(gV h H).objs.size=h.objs.size:=PySem.W.hideAll_size _ _
def JP {h:Bt}{H:Hp}{b:Af}(e:h.get? b=Ab o)(n:H b=none):(gV h H).get? b=Ab o:=
 Yr _ e λQ=>by
  have q:(H b).isSome=true:=(La.mp Q).2;rw[n] at q;simp at q
def TR {b:Af}(e:(gV h H).get? b=Ab o):h.get? b=Ab o/\H b=none:=by
 have Q:h.get? b=Ab o:=Zt (yt h H) e;refine⟨Q,?_⟩;cases q:H b with
 |none=>rfl
 |some x =>
  have Y:b∈yt h H:=La.mpr ⟨Dt.mpr (Bf Q),by simp[q]⟩
  have z:(gV h H).get? b=none:=PySem.W.hideAll_none (yt h H) Y;rw[z] at e;cases e
end _L
namespace _L
variable {E:ae}{t':Ah}{g':Az Ab7}{d':Drawn}{M:Lb}{Q:Ro->Ag->Prop}
noncomputable def wQ:Aa As:=["law","_law_right","by_hull","pair_bound","hub","greatest_often"]
def D0 (mg:ah)(h:Bt):Prop:=∃ Y o,mg "__builtins__" = Ab (.ref Y)/\Y≠Rm/\h.get? Y=Ab o/\o.cls=.type "module" /\ o.dict=Ab Rm/\o.data=.plain
structure Mod (K:Ai)(mg:ah)(base:Bt):Prop where
 kin:K.In base
 glob:base.Ns Ch mg
 blt:∃ mb,base.Ns Rm mb/\∀ x:As,x ≠ "__name__" -> mb x=Gn x
 nolimit:base.NoLimit
 bm:D0 mg base
 code:∀ x∈wQ,∀ c T,Dy K x=Ab (c,T)->Xu base c T
 inj:∀ x∈wQ,∀ y∈wQ,∀ c d T,Dy K x=Ab (c,T)->Dy K y=Ab (d,T)->x=y
structure Cx where
 prog:Bi
 w:Bz
 K:Ai
 mg:As->Ak Ac
 base:Bt
 A:Bp
 N:Aa As
 s₀:Ag
 H₀:Hp
 env:Ix
 outer:Aa Ix
 stack:Aa Ix
 ex:Aa Af
 fn:As->Au
 calm:Au
 pn:Aa (Af × Cp)
 xe:Ac->Ag->Prop
noncomputable def il (l:Aa Ix):Aa Af:=l.filterMap (·.frame)
abbrev Cx.fs (X:Cx):Aa Af:=il X.outer
def oy (Y:Ep)(x:As):Prop:=Y.names.lookup x=Ab .local \/ Y.names.lookup x=Ab .cell\/Y.names.lookup x=Ab .free
def Loc (Y:Ep)(x:As):Prop:=Y.names.lookup x=Ab .local \/ Y.names.lookup x=Ab .cell
def D5 (ak:Ix)(h:Bt)(m:ah)(x:As)(u:Ac):Prop:=
 (ak.kindOf x=Ab .local /\ m x=Ab u)\/((ak.kindOf x=Ab .cell\/ak.kindOf x=Ab .free)/\∃ c,ak.cells.lookup x=Ab c/\h.IsCell c (Ab u))
structure Cx.Ok (X:Cx):Prop where
 mod:Mod X.K X.mg X.base
 kind:X.env.scope.kind=.function
 glob:X.env.globals=Ch
 blt:X.env.builtins=Rm
 above:X.s₀.heap.objs.size<=X.env.locals
 inj:∀ x y c,X.env.cells.lookup x=Ab c->X.env.cells.lookup y=Ab c->x=y
 has:∀ x,(X.env.kindOf x=Ab .cell\/X.env.kindOf x=Ab .free)->∃ c,X.env.cells.lookup x=Ab c
 cab:∀ x c,X.fn x=true->X.env.cells.lookup x=Ab c->X.s₀.heap.objs.size<=c
 hd:X.calm=true->X.A.handled=none
 frames:X.A.frames=Ab X.stack
 stk:X.stack=X.outer\/(X.stack=X.env::X.outer/\X.env.frame=Ab X.env.locals)
 exf:∀ b∈X.ex,b≠X.env.locals/\∀ x c,X.env.cells.lookup x=Ab c->c≠b
 bs:∀ b o,X.base.get? b=Ab o->X.s₀.heap.get? b=Ab o/\X.H₀ b=none
 bsz:X.base.objs.size<=X.s₀.heap.objs.size
 noex:∀ b o,X.base.get? b=Ab o->b ∉ X.ex
 exfs:∀ b∈X.ex,b ∉ X.fs
 funs:X.s₀.heap.FunFrames X.base X.outer
 frf:∀ b∈X.fs,X.H₀ b=none
structure Inv (X:Cx)(pins:aa)(σ : Aa (Ak V))(H:Hp)(s:Ag):Prop where
 ok:X.Ok
 os:s.os=X.s₀.os
 bare:Ps s.gens
 base:Un X.fs X.ex X.H₀ H X.s₀.heap s.heap
 loc:∃ m,s.heap.Ns X.env.locals m/\∀ (i:Ah) (x:As) (v:V),X.N[i]? = Ab x->σ[i]? = Ab (Ab v)->oy X.env.scope x->∃ u,qJ v u/\D5 X.env s.heap m x u
 cell:∀ x c,X.env.cells.lookup x=Ab c->∃ v,s.heap.IsCell c v
 free:H X.env.locals=none
 freeC:∀ x c,X.env.cells.lookup x=Ab c->H c=none
 pin:∀ p∈X.pn++pins,s.heap.get? p.1=Ab p.2/\H p.1=none/\p.1≠X.env.locals/\p.1 ∉ X.fs/\∀ v,p.2.data≠.cell v
 hok:gw X.prog X.w H s.heap
 len:σ.length=X.N.length
section
variable {X:Cx}{aj:aa}{σ: Aa (Ak V)}{H H':Hp}{s:Ag}{h':Bt}
def Cx.Ok.nofr (ok:X.Ok){b:Af}{o:Cp}(e:X.base.get? b=Ab o):b ∉ X.fs:=λY=>by
 have:=(ok.funs.mem Y).1;rw[e] at this;cases this
def Inv.bs (I:Inv X aj σ H s):∀ b o,X.base.get? b=Ab o->s.heap.get? b=Ab o/\H b=none:=λb o e =>
 ⟨I.base.keep b o (I.ok.bs b o e).1 (I.ok.bs b o e).2 (I.ok.nofr e) (I.ok.noex b o e),I.base.free b o (I.ok.bs b o e).1 (I.ok.bs b o e).2 (I.ok.noex b o e)⟩
def Inv.bk (I:Inv X aj σ H s):∀ b o,X.base.get? b=Ab o->s.heap.get? b=Ab o:=λb o e=>(I.bs b o e).1
def Inv.mod (I:Inv X aj σ H s):Mod X.K X.mg X.base:=I.ok.mod
def Inv.kIn (I:Inv X aj σ H s):X.K.In s.heap:=I.ok.mod.kin.keeps I.bk
def Inv.nolimit (I:Inv X aj σ H s):s.heap.NoLimit:=I.ok.mod.nolimit.keeps I.bk
def Inv.lt (I:Inv X aj σ H s):X.env.locals<s.heap.objs.size:=let ⟨_,Y,_⟩:=I.loc;Y.lt
def Inv.sz (I:Inv X aj σ H s):X.s₀.heap.objs.size<=s.heap.objs.size:=Cg I.ok.above (Eo I.lt)
def Inv.nofs (I:Inv X aj σ H s){a:Af}(h:s.heap.objs.size<=a):a ∉ X.fs:=λY=>by
 obtain⟨_,o,J,_⟩:=I.ok.funs.mem Y;exact absurd (Bh (Bf J) (Cg I.sz h)) (Fe _)
def Inv.cne (I:Inv X aj σ H s):∀ x c,X.env.cells.lookup x=Ab c->c≠X.env.locals:=λx c e z=>by
 obtain⟨v,o,G,U⟩:=I.cell x c e;obtain⟨m,⟨C,N,O,J,Y,_⟩,_⟩:=I.loc;rw[z,J] at G;cases G;rw[Y] at U;cases U
def Inv.funs (I:Inv X aj σ H s):s.heap.FunFrames X.base X.outer:=by
 have Y:∀ (l:Aa Ix),(∀ b∈il l,b∈X.fs)->X.s₀.heap.FunFrames X.base l->s.heap.FunFrames X.base l:=by
  intro l
  induction l with
  |nil=>intro _ _;trivial
  |cons j r O =>
   intro hs A;obtain⟨B,⟨L,o,U,N,w,T⟩,C⟩:=A;have G:L∈X.fs:=hs L (by unfold il;rw[Gw,U];exact DL)
   obtain⟨sl,e⟩:=I.base.slot L o w (I.ok.frf L G) G λz=>I.ok.exfs L z G;exact⟨B,⟨L,_,U,N,e,T⟩,O (λb J=>hs b (by unfold il;rw[Gw,U];exact Cs _ J)) C⟩
 exact Y X.outer (λ_ J=>J) I.ok.funs
def Inv.stack (I:Inv X aj σ H s):s.heap.FunFrames X.base X.stack:=by
 rcases I.ok.stk with e|⟨e,J⟩
 .rw[e];exact I.funs
 .rw[e]
  obtain⟨m,Y,_⟩:=I.loc;refine .cons (by rw[I.ok.kind];decide) J Y ?_ I.funs
  exact Qo (Cg I.ok.bsz I.ok.above)
def Inv.stkSub (I:Inv X aj σ H s):∀ b∈il X.stack,b∈X.env.locals::X.fs:=λb Y=>by
 rcases I.ok.stk with e|⟨e,J⟩
 .rw[e] at Y;exact Cs _ Y
 .rw[e] at Y
  unfold il at Y;rw[Gw,J] at Y;exact Y
def Inv.stkFree (I:Inv X aj σ H s):∀ b∈il X.stack,H b=none:=λb hb=>by
 rcases Ba.mp (I.stkSub b hb) with e|hb
 .rw[e];exact I.free
 .obtain⟨_,o,Y,_⟩:=I.ok.funs.mem hb
  exact I.base.free b o Y (I.ok.frf b hb) λz=>I.ok.exfs b z hb
def Inv.step {g':Az Ab7}{t':Ah}{d':Drawn}{ch:ag}(I:Inv X aj σ H s)
  (G:∀ b∈ch,(b∈X.ex\/X.s₀.heap.objs.size<=b)/\b≠X.env.locals/\(∀ x c,X.env.cells.lookup x=Ab c->c≠b)/\∀ p∈X.pn++aj,p.1≠b)
  (N:∀ b o,b≠X.env.locals->b ∉ X.fs->b ∉ ch->s.heap.get? b=Ab o->H b=none->h'.get? b=Ab o)
  (slot:∀ b o,b≠X.env.locals->b∈X.fs->b ∉ ch->s.heap.get? b=Ab o->H b=none->∃ sl,h'.get? b=Ab { o with slots:=sl }) (J:∀ b o,b ∉ ch->s.heap.get? b=Ab o->H b=none->H' b=none)
  (T:∀ b o,b ∉ ch->s.heap.get? b=Ab o->∃ o',h'.get? b=Ab o')
  (j:∀ b xs,H b=Ab (.tup xs)->H' b=Ab (.tup xs)) (w:∀ b o u,H b=Ab (.frz o u)->H' b=Ab (.frz o u)) (g:∀ b ps,H b=Ab (.tbl ps)->∃ gx,H' b=Ab (.tbl (ps++gx)))
  (ns:∀ m,s.heap.Ns X.env.locals m->h'.Ns X.env.locals m) (h:gw X.prog X.w H' h') (hg:Ps g') :
  Inv X aj σ H' { s with heap:=h',gens:=g',drawn:=d',toks:=t' }:=by
 have f:∀ b o,X.s₀.heap.get? b=Ab o->b≠X.env.locals:=λb o e=>Cn (Bh (Bf e) I.ok.above);have C:∀ b o,X.s₀.heap.get? b=Ab o->b ∉ X.ex->b ∉ ch:=λb o e Y L=>by
  rcases (G b L).1 with z|z
  .exact Y z
  .exact absurd (Bh (Bf e) z) (Fe _)
 have U:∀ x c,X.env.cells.lookup x=Ab c->∀ v,s.heap.IsCell c v->h'.IsCell c v:=λx c e v ⟨o,A,a⟩=>by
  have O:c ∉ ch:=λz=>(G c z).2.2.1 x c e rfl;by_cases hc:c∈X.fs
  .obtain⟨sl,q⟩:=slot c o (I.cne x c e) hc O A (I.freeC x c e)
   exact⟨_,q,a⟩
  .exact⟨o,N c o (I.cne x c e) hc O A (I.freeC x c e),a⟩
 refine⟨I.ok,I.os,hg,⟨λb o e n L Y=>?_,λb o e n L Y=>?_,λb o e n Y=>?_,λb o e Y=>?_,λb xs e=>j b xs (I.base.tups b xs e),λb o xs e=>w b o xs (I.base.frzs b o xs e),λb ps e=>?_⟩,?_,λx c e=>?_,?_,λx c e=>?_,λp hp=>?_,h,I.len⟩
 .exact N b o (f b o e) L (C b o e Y) (I.base.keep b o e n L Y) (I.base.free b o e n Y)
 .obtain⟨sl,B⟩:=I.base.slot b o e n L Y
  obtain⟨t,y⟩:=slot b _ (f b o e) L (C b o e Y) B (I.base.free b o e n Y);exact⟨t,y⟩
 .obtain⟨o',B⟩:=I.base.there b o e Y
  exact J b o' (C b o e Y) B (I.base.free b o e n Y)
 .obtain⟨o',B⟩:=I.base.there b o e Y
  exact T b o' (C b o e Y) B
 .obtain⟨m1,B⟩:=I.base.tbls b ps e
  obtain⟨m2,y⟩:=g b _ B;exact⟨m1++m2,by rw[y,Array.append_assoc]⟩
 .obtain⟨m,hn,hl⟩:=I.loc
  refine⟨m,ns m hn,λi x v B y e3=>?_⟩;obtain⟨u,r,l⟩:=hl i x v B y e3;refine⟨u,r,?_⟩;rcases l with l|⟨k,c,e,z⟩
  .exact .inl l
  .exact .inr ⟨k,c,e,U x c e _ z⟩
 .obtain⟨v,z⟩:=I.cell x c e
  exact⟨v,U x c e v z⟩
 .obtain⟨m,⟨o,_,_,A,_⟩,_⟩:=I.loc
  exact J _ o (λz=>(G _ z).2.1 rfl) A I.free
 .obtain⟨v,o,A,a⟩:=I.cell x c e
  exact J c o (λz=>(G c z).2.2.1 x c e rfl) A (I.freeC x c e)
 .obtain⟨e,n,ne,nf,d⟩:=I.pin p hp
  have O:p.1 ∉ ch:=λz=>(G p.1 z).2.2.2 p hp rfl;exact⟨N p.1 p.2 ne nf O e n,J p.1 p.2 O e n,ne,nf,d⟩
def Inv.un {t':Ah}(I:Inv X aj σ H s)(u:Un X.fs [] H H' s.heap h')(U:gw X.prog X.w H' h'):Inv X aj σ H' { s with heap:=h',toks:=t' }:=by
 obtain⟨m,⟨o,A,w,N,r⟩,_⟩:=id I.loc;obtain⟨sl,L⟩:=u.any N I.free bB
 exact I.step (g':=s.gens) (d':=s.drawn) (ch:=[]) (λ_ z=>nomatch z) (λb o _ J _ e n=>u.keep b o e n J bB) (λb o _ J _ e n=>u.slot b o e n J bB) (λb o _ e n=>u.free b o e n bB) (λb o _ e=>u.there b o e bB) u.tups u.frzs u.tbls (λT C=>by
  obtain⟨j,O,G,Y,B⟩:=C;rw[N] at Y;cases Y;exact⟨_,O,G,L,B⟩) U I.bare
def Inv.call {t':Ah}{d':Drawn}{ch:ag}(I:Inv X aj σ H s)(u:Un (il X.stack) ch H H' s.heap h')(N:gw X.prog X.w H' h')(w:Ps g')
  (J:∀ b∈ch,(b∈X.ex\/X.s₀.heap.objs.size<=b)/\b≠X.env.locals/\(∀ x c,X.env.cells.lookup x=Ab c->c≠b)/\∀ p∈X.pn++aj,p.1≠b) :
  Inv X aj σ H' { s with heap:=h',gens:=g',drawn:=d',toks:=t' }:=by
 obtain⟨m,⟨o,k,q,C,r⟩,_⟩:=id I.loc;obtain⟨sl,G⟩:=u.any C I.free λz=>(J _ z).2.1 rfl;exact I.step (ch:=ch) J (λb o G B Y e n=>u.keep b o e n (λz=>(Ba.mp (I.stkSub b z)).elim G B) Y) (λb o _ _ Y e n=>u.any e n Y) (λb o Y e n=>u.free b o e n Y) (λb o Y e=>u.there b o e Y) u.tups u.frzs u.tbls (λy A=>by
  obtain⟨j,L,O,U,T⟩:=A;rw[C] at U;cases U;exact⟨_,L,O,G,T⟩) N w
def Inv.turned {t':Ah}{it:Af}(I:Inv X aj σ H s)(k:∀ b o,b≠it->s.heap.get? b=Ab o->h'.get? b=Ab o)(G:H it=none)(U:it≠X.env.locals)
  (h1:it∈X.ex\/X.s₀.heap.objs.size<=it) (h2:∀ x c,X.env.cells.lookup x=Ab c->c≠it) (h3:∀ p∈X.pn++aj,p.1≠it):Inv X aj σ H { s with heap:=h',toks:=t' }:=by
 have J:∀ b u,H b=Ab u->b≠it:=λb u e z=>by rw[z,G] at e;cases e
 refine I.step (g':=s.gens) (d':=s.drawn) (ch:=[it]) (λb N=>?_) (λb o _ _ Y e _=>k b o (λz=>Y (by simp[z])) e) (λb o _ _ Y e _=>⟨o.slots,k b o (λz=>Y (by simp[z])) e⟩) (λ_ _ _ _ n=>n)
  (λb o Y e=>⟨o,k b o (λz=>Y (by simp[z])) e⟩) (λ_ _ e=>e) (λ_ _ _ e=>e) (λb T e=>⟨#[],by rw[e];simp⟩) (λm O=>?_) (λb u e=>?_) I.bare
 .have e:b=it:=by simpa using N
  subst e;exact⟨h1,U,h2,h3⟩
 .obtain⟨o,C,B,L,r⟩:=O
  exact⟨o,C,B,k _ o (Gj U) L,r⟩
 .refine(I.hok b u e).stay (λc v Y q=>k c v ?_ q) (λ_ q=>q) λ_ _ q=>q
  rcases Y with z|z
  .rw[z];exact J b u e
  .exact J c _ z
def Inv.tok (I:Inv X aj σ H s)(t:Ah):Inv X aj σ H { s with toks:=t }:=I.un (h':=s.heap) (t':=t) Un.refl I.hok
def Inv.kept {t':Ah}(I:Inv X aj σ H s)(k:∀ b u,s.heap.get? b=Ab u->h'.get? b=Ab u):Inv X aj σ H { s with heap:=h',toks:=t' }:=I.un (Un.kept k) (I.hok.kept k)
def Inv.laid {a:Af}{t':Ah}(I:Inv X aj σ H s)(k:∀ b u,s.heap.get? b=Ab u->h'.get? b=Ab u)(hp:s.heap.objs.size<=a)(Y:zE X.prog X.w (cc H a o) h' a o) :
  Inv X aj σ (cc H a o) { s with heap:=h',toks:=t' }:=I.un (Un.laid k hp (I.hok.fresh hp)) (I.hok.laid k hp Y)
def Inv.write {x e:Af}{o:HO}{t':Ah}(I:Inv X aj σ H s)(G:yc (H x))(U:e=x\/H e=Ab (.own x))(k:∀ b u,b≠e->s.heap.get? b=Ab u->h'.get? b=Ab u)(Y:∃ u,h'.get? e=Ab u)
  (J:zE X.prog X.w (cc H x o) h' x o):Inv X aj σ (cc H x o) { s with heap:=h',toks:=t' }:=I.un (Un.write G U k Y) (I.hok.write G U k Y J)
def Inv.pins_of {Y:aa}(I:Inv X aj σ H s)(h:∀ p∈Y,s.heap.get? p.1=Ab p.2/\H p.1=none/\p.1≠X.env.locals/\p.1 ∉ X.fs/\∀ v,p.2.data≠.cell v):Inv X Y σ H s:=
 ⟨I.ok,I.os,I.bare,I.base,I.loc,I.cell,I.free,I.freeC,λp J=>(Bq.mp J).elim (λz=>I.pin p (Dg _ z)) (h p),I.hok,I.len⟩
def t7 {N:Aa As}(J:N.Nodup){i j:Ah}{x:As}(a:N[i]? = Ab x)(b:N[j]? = Ab x):i=j:=by
 obtain⟨O,U⟩:=Ay.mp a;obtain⟨G,Y⟩:=Ay.mp b;exact(Pu J).mp (U.trans Y.symm)
def rA {A:Bp}{i:Ah}(I:Inv X aj σ H s)(hN:X.N.Nodup)(hi:X.N[i]? = Ab x)(U:Loc X.env.scope x)(r:qJ v u)
  (h:∀ s',Inv X aj (σ.set i (Ab v)) H s'->(∃ a,Go a s.heap s'.heap/\(a=X.env.locals\/X.env.cells.lookup x=Ab a))->Q () s') (hf:X.fn x=true\/X.env.scope.names.lookup x=Ab .local:=by first|exact .inl rfl|exact .inr rfl|assumption):Aq M A (storeName X.env x u) Q E s:=by
 obtain⟨m,hn,hl⟩:=id I.loc;have t:(X.env.scope.kind == .class||(X.env.scope.kind == .module&&X.env.locals != X.env.globals))=false:=by rw[I.ok.kind];rfl
 have O:i<σ.length:=by rw[I.len];exact(Ay.mp hi).1
 have C:=I.cne;have J:∀ {a:Af} {h':Bt},(∃ o,s.heap.get? a=Ab o/\H a=none)->Go a s.heap h'->gw X.prog X.w H h':=λ{a h'} ha hs b ob e=>by
  obtain⟨_,_,G⟩:=ha;refine(I.hok b ob e).stay (λc w' hc q=>(hs.2 c ?_).trans q) (λ_ q=>q) λ_ _ q=>q;rintro rfl;rcases hc with rfl|hc
  .rw[G] at e;cases e
  .rw[G] at hc;cases hc
 rcases U with hk|hk
 .refine wpAny_storeName_local hk hn (λh' zb hs=>?_) t
  obtain⟨oL,_,_,zc,_⟩:=id hn;refine h _ ⟨I.ok,I.os,I.bare,⟨λb o e n L U=>?_,λb o e n L U=>?_,I.base.free,λb o e U=>?_,I.base.tups,I.base.frzs,I.base.tbls⟩,⟨_,zb,λj y v' Y N e3=>?_⟩,λy c e=>?_,I.free,I.freeC,λp hp=>?_,J ⟨oL,zc,I.free⟩ hs,by simpa using I.len⟩ ⟨_,hs,.inl rfl⟩
  .exact(hs.2 b (Cn (Bh (Bf e) I.ok.above))).trans (I.base.keep b o e n L U)
  .obtain⟨sl,Y⟩:=I.base.slot b o e n L U
   exact⟨sl,(hs.2 b (Cn (Bh (Bf e) I.ok.above))).trans Y⟩
  .obtain⟨o',Y⟩:=I.base.there b o e U
   exact⟨o',(hs.2 b (Cn (Bh (Bf e) I.ok.above))).trans Y⟩
  .by_cases T:j=i
   .subst T
    rw[hi] at Y;cases Y;rw[Dj O] at N;cases N;exact⟨u,r,.inl ⟨hk,by simp⟩⟩
   .rw[Ci (Gj T)] at N
    obtain⟨u',r',q⟩:=hl j y v' Y N e3;refine⟨u',r',?_⟩;rcases q with⟨k,e⟩|⟨k,c,e,z⟩
    .refine .inl ⟨k,?_⟩
     have:y≠x:=λe=>T (t7 hN Y (e▸hi));simp[this,e]
    .exact .inr ⟨k,c,e,z.sameBut hs (C y c e)⟩
  .obtain⟨w',z⟩:=I.cell y c e
   exact⟨w',z.sameBut hs (C y c e)⟩
  .obtain⟨e,n,ne,nf,d⟩:=I.pin p hp
   exact⟨(hs.2 p.1 ne).trans e,n,ne,nf,d⟩
 .have B:X.fn x=true:=by
   rcases hf with z|z
   .exact z
   .rw[z] at hk;cases hk
  obtain⟨c,hc⟩:=I.ok.has x (.inl hk);obtain⟨w',z⟩:=I.cell x c hc;refine wpAny_storeName_cell I.ok.kind hk hc z (λh' w hs=>?_);obtain⟨oc,g,l⟩:=id z;refine h { s with heap:=h' } ⟨I.ok,I.os,I.bare,⟨λb o e n L U=>?_,λb o e n L U=>?_,I.base.free,λb o e U=>?_,I.base.tups,I.base.frzs,I.base.tbls⟩,⟨m,hn.sameBut hs (Gj (C x c hc)),λj y v' Y N e3=>?_⟩,λy c' e=>?_,I.free,I.freeC,λp hp=>?_,J ⟨oc,g,I.freeC x c hc⟩ hs,by simpa using I.len⟩ ⟨c,hs,.inr hc⟩
  .exact(hs.2 b (Cn (Bh (Bf e) (I.ok.cab x c B hc)))).trans (I.base.keep b o e n L U)
  .obtain⟨sl,Y⟩:=I.base.slot b o e n L U
   exact⟨sl,(hs.2 b (Cn (Bh (Bf e) (I.ok.cab x c B hc)))).trans Y⟩
  .obtain⟨o',Y⟩:=I.base.there b o e U
   exact⟨o',(hs.2 b (Cn (Bh (Bf e) (I.ok.cab x c B hc)))).trans Y⟩
  .by_cases T:j=i
   .subst T
    rw[hi] at Y;cases Y;rw[Dj O] at N;cases N;exact⟨u,r,.inr ⟨.inl hk,c,hc,w⟩⟩
   .rw[Ci (Gj T)] at N
    obtain⟨u',r',q⟩:=hl j y v' Y N e3;refine⟨u',r',?_⟩;rcases q with q|⟨k,c',e,z'⟩
    .exact .inl q
    .refine .inr ⟨k,c',e,z'.sameBut hs ?_⟩
     rintro rfl;exact T (t7 hN Y (I.ok.inj _ _ _ e hc▸hi))
  .by_cases f:c'=c
   .subst f;exact⟨_,w⟩
   .obtain⟨w2,z2⟩:=I.cell y c' e
    exact⟨w2,z2.sameBut hs f⟩
  .obtain⟨e,n,ne,nf,d⟩:=I.pin p hp
   refine⟨(hs.2 p.1 ?_).trans e,n,ne,nf,d⟩;intro q;rw[q,g] at e;have q':oc=p.2:=Dd e;exact d w' (by rw[<- q'];exact l)
def vQ {A:Bp}{i:Ah}(I:Inv X aj σ H s)(J:X.N.Nodup)(hi:X.N[i]? = Ab x)(Y:Loc X.env.scope x)(r:qJ v u)
  (h:∀ s',Inv X aj (σ.set i (Ab v)) H s'->Q () s') (U:X.fn x=true\/X.env.scope.names.lookup x=Ab .local:=by first|exact .inl rfl|exact .inr rfl|assumption):Aq M A (storeName X.env x u) Q E s:=
 rA I J hi Y r (λs' G _=>h s' G) U
def Inv.call' {s':Ag}{ch:ag}(I:Inv X aj σ H s)(G:s'.os=s.os)(u:Un (il X.stack) ch H H' s.heap s'.heap)(Y:gw X.prog X.w H' s'.heap)(U:Ps s'.gens)
  (J:∀ b∈ch,(b∈X.ex\/X.s₀.heap.objs.size<=b)/\b≠X.env.locals/\(∀ x c,X.env.cells.lookup x=Ab c->c≠b)/\∀ p∈X.pn++aj,p.1≠b):Inv X aj σ H' s':=by
 obtain⟨h',g',d',t',N⟩:=s';have e:N=s.os:=G;subst e;exact I.call (g':=g') (t':=t') (d':=d') u Y U J
end
abbrev XK:=Ac->Ak Af->Hp->Prop
abbrev St:=Aa (Ak V)
abbrev VK:=V->Hp->Prop
abbrev TE:=St->Hp->VK->Prop
abbrev TT:=St->Hp->(Au->Hp->Prop)->Prop
abbrev TA:=St->Hp->(Aa V->Hp->Prop)->Prop
structure Ends where
 nx:St->Hp->Prop
 rt:VK
 bk:St->Hp->Prop:=λ_ _=>Ex
 ct:St->Hp->Prop:=λ_ _=>Ex
abbrev TS:=Ends->St->Hp->Prop
inductive EP (X:Cx)(pins:aa)(σ : St)(Q:VK)(u:Ac)(s':Ag):Prop
 |mk (v:V) (H':Hp) (I:Inv X pins σ H' s') (r:qJ v u) (q:Q v H'):EP X pins σ Q u s'
inductive TP (X:Cx)(pins:aa)(σ : St)(Q:Au->Hp->Prop)(b:Au)(s':Ag):Prop
 |mk (H':Hp) (I:Inv X pins σ H' s') (q:Q b H'):TP X pins σ Q b s'
inductive AP (X:Cx)(pins:aa)(σ : St)(Q:Aa V->Hp->Prop)(us:ai)(s':Ag):Prop
 |mk (vs:Aa V) (H':Hp) (I:Inv X pins σ H' s') (r:qM vs us) (q:Q vs H'):AP X pins σ Q us s'
def SP (X:Cx)(aj:aa)(D:Ends)(f:Flow)(s':Ag):Prop:=
 match f with
 |.next=>∃ Y J,Inv X aj Y J s'/\D.nx Y J
 |.brk=>∃ Y J,Inv X aj Y J s'/\D.bk Y J
 |.cont=>∃ Y J,Inv X aj Y J s'/\D.ct Y J
 |.ret u=>∃ v Y J,Inv X aj Y J s'/\qJ v u/\D.rt v J
abbrev ce (X:Cx){α:Type}(m:PySem.Sem α):=Aq (Av X.prog X.w) X.A m
def PE (X:Cx)(e:By)(t:TE):Prop:=
 ∀ (Y:aa) (s:Ag) (σ : St) (H:Hp) (Q:VK),Inv X Y σ H s->t σ H Q->ce X (eval e X.env) (EP X Y σ Q) X.xe s
def PT (X:Cx)(e:By)(t:TT):Prop:=
 ∀ (Y:aa) (s:Ag) (σ : St) (H:Hp) (Q:Au->Hp->Prop),Inv X Y σ H s->t σ H Q->ce X (isTrue e X.env (eval e X.env)) (TP X Y σ Q) X.xe s
def PW (X:Cx)(e:By)(t:TT):Prop:=
 ∀ (Y:Kj Ac) (J:aa) (s:Ag) (σ : St) (H:Hp) (Q:Au->Hp->Prop),Inv X J σ H s->t σ H Q->ce X (isTrue e X.env Y) (TP X J σ Q) X.xe s
def PA (X:Cx)(es:Aa By)(t:TA):Prop:=
 ∀ (J:Ev) (Y:aa) (s:Ag) (σ : St) (H:Hp) (Q:Aa V->Hp->Prop),Inv X Y σ H s->t σ H Q->ce X (spliced (Ga J (Bk es X.env))) (AP X Y σ Q) X.xe s
def PS (X:Cx)(st:Fb)(t:TS):Prop:=
 ∀ (Y:aa) (s:Ag) (σ : St) (H:Hp) (D:Ends),Inv X Y σ H s->t D σ H->ce X (exec st X.env) (SP X Y D) X.xe s
def im (X:Cx)(st:Aa Fb)(t:TS):Prop:=
 ∀ (Y:aa) (s:Ag) (σ : St) (H:Hp) (D:Ends),Inv X Y σ H s->t D σ H->ce X (execs st X.env) (SP X Y D) X.xe s
def bv {α:Type}{t:Kj α}{Q Y:α->Ag->Prop}(h:Aq M A t Q E s)(J:∀ a s,Q a s->Y a s):Aq M A t Y E s:=Gr h J λ_ _ x=>x
end _L
namespace _L
variable {aj:aa}{u:Ac}{E Q:ae}
section
variable {X:Cx}
def z_ {a b:By}(B:PE X a O)(A:PE X b C){aj:aa}{s:Ag}{σ : St}{H:Hp}{R:V->V->Hp->Prop}(I:Inv X aj σ H s)(h:O σ H λx N=>C σ N λy Y=>R x y Y)
  {α:Type} {Q:α->Ag->Prop} {f:Ac->Ac->Kj α}
  (M:∀ v u G x y Y,Inv X aj σ Y G->qJ x v->qJ y u->R x y Y->ce X (f v u) Q X.xe G) :
  ce X (eval a X.env) (λv J=>ce X (eval b X.env) (λu U=>ce X (f v u) Q X.xe U) X.xe J) X.xe s:=by
 refine bv (B aj s σ H _ I h) λv k ⟨x,N,L,z,w⟩=>?_;refine bv (A aj k σ N _ L w) λu G ⟨y,Y,T,q,j⟩=>?_;exact M v u G x y Y T z q j
def AR (i:Ah):TE:=λσ H Q=>∃ v,σ[i]? = Ab (Ab v)/\Q v H
def tC (v:V):TE:=λ_ H Q=>Q v H
def cZ {i:Ah}(B:X.N[i]? = Ab x)(hv:oy X.env.scope x)(G:(x == ("__debug__" : As))=false:=by decide)(U:(x == ("__classdict__" : As))=false:=by decide):PE X (.Name x T) (AR i):=by
 intro aj s σ H Q I h;obtain⟨v,e,h⟩:=h;obtain⟨m,O,C⟩:=I.loc;obtain⟨u,r,l⟩:=C i x v B e hv;have J:EP X aj σ Q u s:=⟨v,H,I,r,h⟩;rcases l with⟨hk,L⟩|⟨hk,c,N,Y⟩
 .exact wpAny_Name (Yf I.ok.kind hk O L J) G
 .rcases hk with hk|hk
  .exact wpAny_Name (Ys I.ok.kind hk N Y J) G
  .exact wpAny_Name (wpAny_loadName_free I.ok.kind hk N Y J U) G
def CC:PE X (.Constant (.int i) j aq) (tC (.int i)):=λ_ _ _ H _ I h=>wpAny_Constant_int ⟨.int i,H,I.tok _,⟨_,rfl⟩,h⟩
def qAZ:PE X (.Constant (.bool b) j aq) (tC (.bl b)):=λ_ _ _ H _ I h=>Constant_bool ⟨.bl b,H,I,rfl,h⟩
def CD:PE X (.Constant .none j aq) (tC .non):=λ_ _ _ H _ I h=>Constant_none ⟨.non,H,I,rfl,h⟩
def CG:PE X (.Constant (.str x) j aq) (tC (.str x)):=λ_ _ _ H _ I h=>Calls.Constant_str ⟨.str x,H,I.tok _,⟨_,rfl⟩,h⟩
def Gl (X:Cx)(x:As):Prop:=X.env.kindOf x=Ab .globalImplicit
def uS {σ:St}{J:Ev}(I:Inv X aj σ H s)(Y:Gl X x)(hm:X.mg x=Ab u)(h:Q u s)
  (U:(x == ("__debug__" : As))=false:=by decide):ce X (eval (.Name x J) X.env) Q E s:=
 Sn I.ok.kind Y (Calls.loadGlobal_global (by rw[I.ok.glob];exact I.mod.glob.keeps I.bk) hm h) U
def u7 {σ:St}{G:Ev}(I:Inv X aj σ H s)(U:Gl X x)(hm:X.mg x=none)(hv:Gn x=Ab u)(h:Q u s)
  (Y:x ≠ "__name__":=by decide) (N:(x == ("__debug__" : As))=false:=by decide):ce X (eval (.Name x G) X.env) Q E s:=by
 obtain⟨C,O,J⟩:=I.mod.blt;exact Sn I.ok.kind U (Calls.loadGlobal_builtin (by rw[I.ok.glob];exact I.mod.glob.keeps I.bk) hm (by rw[I.ok.blt];exact O.keeps I.bk) ((J x Y).trans hv) h) N
def N0 (Y:Gl X x)(hm:X.mg x=Ab u)(r:qJ v u)(U:(x == ("__debug__" : As))=false:=by decide):PE X (.Name x J) (tC v):=
 λ_ _ _ H _ I h=>uS I Y hm ⟨v,H,I,r,h⟩ U
def TZ (J:Gl X x)(hm:X.mg x=none)(hv:Gn x=Ab u)(r:qJ v u)(Y:x ≠ "__name__":=by decide)(G:(x == ("__debug__" : As))=false:=by decide):PE X (.Name x U) (tC v):=
 λ_ _ _ H _ I h=>u7 I J hm hv ⟨v,H,I,r,h⟩ Y G
variable {a:By}{aq:Ev}
def tB (t:TE):TT:=λσ H Q=>t σ H λx Y=>∃ c,x=.bl c/\Q c Y
variable {tA:TT}
def NA (Y:PT X a tA):PW X (.BoolOp .And [a] aq) tA:=by
 intro U aj s σ H Q I h;refine isTrue_and (bv (Y aj s σ H Q I h) λc J e=>?_);cases c with
 |true=>exact isTrue_and_nil e
 |false=>exact e
def CO (Y:PT X a tA):PW X (.BoolOp .Or [a] aq) tA:=by
 intro U aj s σ H Q I h;refine isTrue_or (bv (Y aj s σ H Q I h) λc J e=>?_);cases c with
 |false=>exact isTrue_or_nil e
 |true=>exact e
def CF {t:TE}(h:PE X a t):PE X (.BoolOp op [a] aq) t:=λaj s σ H Q I Y=>BoolOp_one (h aj s σ H Q I Y)
end
end _L
namespace _L
variable {es:Aa By}{i:Ah}{K:Ai}{x:As}{P:Bi}{tg:By}{w:Bz}
def jw (K:Ai)(H:Hp)(a:Af)(xs:Aa V):Prop:=
 Rd H a (.lst xs) \/
  ∃ (o:Cp) (Q:Az Ac) (n:Ah),K.lookup a=Ab o/\o.cls=.type "list" /\ o.dict=none/\o.data=.seq Q n/\Q.size<=sizeLine/\qM xs Q.toList
def jh (K:Ai)(H:Hp)(a:Af)(xs:Aa V):Prop:=
 Rd H a (.tup xs) \/
  ∃ (o:Cp) (Q:Az Ac) (n:Ah),K.lookup a=Ab o/\o.cls=.type "tuple" /\ o.data=.seq Q n/\Q.size<=sizeLine/\qM xs Q.toList
noncomputable def UH:Ac->Ak V
 |.none=>Ab .non
 |.bool b=>Ab (.bl b)
 |.int i _=>Ab (.int i)
 |.str x _=>Ab (.str x)
 |.bytes b _=>Ab (.byt b)
 |.float b _=>Ab (.flt b)
 |.ref a=>Ab (.ref a)
 |.type n=>Ab (.ty n)
 |_=>none
def qJ.abs {x:V}(r:qJ x u):UH u=Ab x:=by
 cases x with
 |non=>cases r;rfl
 |bl _=>cases r;rfl
 |int _=>obtain⟨t,rfl⟩:=r;rfl
 |str _=>obtain⟨t,rfl⟩:=r;rfl
 |byt _=>obtain⟨t,rfl⟩:=r;rfl
 |flt _=>obtain⟨t,rfl⟩:=r;rfl
 |ref _=>cases r;rfl
 |ty _=>cases r;rfl
def qJ.inj {x y:V}(r:qJ x u)(q:qJ y u):x=y:=Dd (r.abs.symm.trans q.abs)
def qM.inj (h:qM xs us)(k:qM Q us):xs=Q:=by
 induction h generalizing Q with
 |nil=>cases k;rfl
 |cons r t Y =>
  cases k with
  |cons U J=>rw[r.inj U,Y J]
section
variable {X:Cx}{aj:aa}{σ: St}{H:Hp}{s:Ag}{a:Af}{xs ys:Aa V}
def jw.of (h:H a=Ab (.lst xs)):jw K H a xs:=.inl (.inl h)
def jh.of (h:H a=Ab (.tup xs)):jh K H a xs:=.inl (.inl h)
def Inv.list (I:Inv X aj σ H s)(h:jw X.K H a xs):∃ its:Aa Ac,qM xs its/\PlainL s.heap a its.toArray/\xs.length<=sizeLine:=by
 rcases h with h|⟨o,its,n,Y,Q,J,hs,U,r⟩
 .obtain⟨z,its,n,r,e⟩:=h.ok I.hok
  exact⟨its,r,⟨_,n,e,rfl,rfl,rfl⟩,z⟩
 .refine⟨its.toList,r,⟨o,n,I.kIn a o Y,Q,J,by simpa using hs⟩,?_⟩
  have e:=r.length;simp only[Bu] at e
  lia
def Inv.tuple (I:Inv X aj σ H s)(h:jh X.K H a xs):∃ its:Aa Ac,qM xs its/\Rw s.heap a its.toArray/\xs.length<=sizeLine:=by
 rcases h with h|⟨o,its,n,Y,Q,hs,J,r⟩
 .obtain⟨z,its,r,p⟩:=h.ok I.hok
  exact⟨its,r,p,z⟩
 .refine⟨its.toList,r,⟨o,I.kIn a o Y,Q,n,by simpa using hs⟩,?_⟩
  have e:=r.length;simp only[Bu] at e
  lia
def Inv.list_inj (I:Inv X aj σ H s)(h:jw X.K H a xs)(h':jw X.K H a ys):xs=ys:=by
 obtain⟨Q,r,⟨o,n,e,_,_,d⟩,_⟩:=I.list h;obtain⟨U,G,⟨O,N,J,_,_,Y⟩,_⟩:=I.list h';rw[e] at J;cases J;rw[d] at Y;injection Y with d1 _
 have:Q=U:=by simpa using congrArg sK d1
 subst this;exact r.inj G
def Inv.tuple_inj (I:Inv X aj σ H s)(h:jh X.K H a xs)(h':jh X.K H a ys):xs=ys:=by
 obtain⟨Q,r,⟨o,e,_,n,d⟩,_⟩:=I.tuple h;obtain⟨U,G,⟨O,J,_,N,Y⟩,_⟩:=I.tuple h';rw[e] at J;cases J;rw[d] at Y;injection Y with d1 _
 have:Q=U:=by simpa using congrArg sK d1
 subst this;exact r.inj G
end
noncomputable abbrev Cx.wish (X:Cx)(E:ae):Cx:={ X with xe:=E }
abbrev Cx.nox (X:Cx):Cx:=X.wish λ_ _=>Ex
def Cx.Ok.wish {X:Cx}(ok:X.Ok)(E:ae):(X.wish E).Ok:=
 ⟨ok.mod,ok.kind,ok.glob,ok.blt,ok.above,ok.inj,ok.has,ok.cab,ok.hd,ok.frames,ok.stk,ok.exf,ok.bs,ok.bsz,ok.noex,ok.exfs,ok.funs,ok.frf⟩
def Cx.Ok.unwish {X:Cx}(ok:(X.wish E).Ok):X.Ok:=
 ⟨ok.mod,ok.kind,ok.glob,ok.blt,ok.above,ok.inj,ok.has,ok.cab,ok.hd,ok.frames,ok.stk,ok.exf,ok.bs,ok.bsz,ok.noex,ok.exfs,ok.funs,ok.frf⟩
section
variable {X:Cx}{aj:aa}{σ: St}{H:Hp}{s:Ag}{E:ae}
def Inv.wish (I:Inv X aj σ H s)(E:ae):Inv (X.wish E) aj σ H s:=⟨I.ok.wish E,I.os,I.bare,I.base,I.loc,I.cell,I.free,I.freeC,I.pin,I.hok,I.len⟩
def Inv.unwish (I:Inv (X.wish E) aj σ H s):Inv X aj σ H s:=⟨I.ok.unwish,I.os,I.bare,I.base,I.loc,I.cell,I.free,I.freeC,I.pin,I.hok,I.len⟩
def SP.unwish {D:Ends}(h:SP (X.wish E) aj D f s'):SP X aj D f s':=by
 cases f with
 |next=>obtain⟨Q,Y,I,q⟩:=h;exact⟨Q,Y,I.unwish,q⟩
 |brk=>obtain⟨Q,Y,I,q⟩:=h;exact⟨Q,Y,I.unwish,q⟩
 |cont=>obtain⟨Q,Y,I,q⟩:=h;exact⟨Q,Y,I.unwish,q⟩
 |ret u=>obtain⟨v,Q,Y,I,r,q⟩:=h;exact⟨v,Q,Y,I.unwish,r,q⟩
def PE.nox {t:TE}(h:PE X.nox e t):PE X e t:=λaj s σ H Q I U =>
 Gr (h aj s σ H Q (I.wish _) U) (λ_ _ ⟨v,J,Y,r,q⟩=>⟨v,J,Y.unwish,r,q⟩) λ_ _ z=>Ao z
def PT.nox {t:TT}(h:PT X.nox e t):PT X e t:=λaj s σ H Q I U =>
 Gr (h aj s σ H Q (I.wish _) U) (λ_ _ ⟨J,Y,q⟩=>⟨J,Y.unwish,q⟩) λ_ _ z=>Ao z
def im.nox {st:Aa Fb}{t:TS}(h:im X.nox st t):im X st t:=λaj s σ H D I Q =>
 Gr (h aj s σ H D (I.wish _) Q) (λ_ _ q=>q.unwish) λ_ _ z=>Ao z
end
section
variable {X:Cx}{st:Fb}{ay:Aa Fb}{t u:TS}
def qAs:TS:=λD σ H=>D.nx σ H
def qB6 (t u:TS):TS:=λD σ H=>t { D with nx:=u D } σ H
def N6:im X [] qAs:=λ_ _ σ H _ I h=>Nn ⟨σ,H,I,h⟩
def GD (h1:PS X st t)(h2:im X ay u):im X (st::ay) (qB6 t u):=by
 intro Y s σ H D I h;refine wpAny_execs_cons (bv (h1 Y s σ H { D with nx:=u D } I h) λf U q=>?_)
 cases f with
 |next =>
  obtain⟨Q,J,G,q⟩:=q;exact h2 Y U Q J D G q
 |ret v=>exact q
 |brk=>exact q
 |cont=>exact q
def N7 (h1:PS X st t):im X [st] t:=by
 intro Q s σ H D I h;refine wpAny_execs_cons (bv (h1 Q s σ H D I h) λf Y q=>?_);cases f with
 |next=>exact Nn q
 |ret v=>exact q
 |brk=>exact q
 |cont=>exact q
def Inv.quiet {σ:St}(I:Inv X aj σ H s):interactive X.env=false:=by simp[interactive,I.ok.kind]
end
abbrev TG:=V->St->Hp->(St->Hp->Prop)->Prop
abbrev uz:=Aa V->St->Hp->(St->Hp->Prop)->Prop
def PG (X:Cx)(Y:By)(t:TG):Prop:=
 ∀ (G:aa) (s:Ag) (σ : St) (H:Hp) (v:V) (u:Ac) (Q:St->Hp->Prop),Inv X G σ H s->qJ v u->t v σ H Q ->
  ce X (assign Y X.env u) (λ_ N=>∃ J U,Inv X G J U N/\Q J U) X.xe s
def tx (X:Cx)(O:Aa By)(t:uz):Prop:=
 ∀ (U:aa) (s:Ag) (σ : St) (H:Hp) (J:Aa V) (G:ai) (Q:St->Hp->Prop),Inv X U σ H s->qM J G->t J σ H Q ->
  ce X (Yt ((Hn O X.env).map (·.2)) G) (λ_ C=>∃ Y N,Inv X U Y N C/\Q Y N) X.xe s
abbrev D6:=V->V->V->Hp->(Hp->Prop)->Prop
def eF (X:Cx)(t:D6):Prop:=
 ∀ (G:aa) (s:Ag) (σ : St) (H:Hp) (o i v:V) (Y U u:Ac) (Q:Hp->Prop),Inv X G σ H s->qJ o Y->qJ i U->qJ v u->t o i v H Q ->
  ce X (setItem Y U u) (λ_ N=>∃ J,Inv X G σ J N/\Q J) X.xe s
abbrev x_:=V->V->Hp->VK->Prop
def F_ (X:Cx)(op:Pg)(t:x_):Prop:=
 ∀ (Y:aa) (s:Ag) (σ : St) (H:Hp) (x y:V) (v u:Ac) (Q:VK),Inv X Y σ H s->qJ x v->qJ y u->t x y H Q ->
  ce X (inplaceOp op v u) (EP X Y σ Q) X.xe s
section
variable {X:Cx}{aq:Ev}
def OJ (i:Ah):TG:=λv σ H Q=>Q (σ.set i (Ab v)) H
def N1 (J:X.N.Nodup)(hi:X.N[i]? = Ab x)(Y:Loc X.env.scope x)(U:X.fn x=true\/X.env.scope.names.lookup x=Ab .local:=by first|exact .inl rfl|exact .inr rfl|assumption):PG X (.Name x aq) (OJ i):=by
 intro O s σ H v u Q I r h;exact xL (vQ I J hi Y r (λN G=>⟨_,H,G,h⟩) U)
def qBa:uz:=λY σ H Q=>Y=[]/\Q σ H
def OI (t:TG)(u:uz):uz:=λU σ H Q=>∃ v r,U=v::r/\t v σ H λY J=>u r Y J Q
def N2:tx X [] qBa:=by
 intro U s σ H J Y Q I r h;obtain⟨e,h⟩:=h;subst e;cases r;exact x0 ⟨σ,H,I,h⟩
theorem G9 {t:TG}(h1:PG X e t)(h2:tx X es u)
  (hs:(Hn (e::es) X.env).map (·.2)=assign e X.env::(Hn es X.env).map (·.2):=by rfl):tx X (e::es) (OI t u):=by
 intro J s σ H L T Q I r h;obtain⟨v,E,C,h⟩:=h;subst C;cases r with
 |cons r G =>
  rw[hs];refine Sf (bv (h1 J s σ H _ _ _ I r h) λ_ O ⟨Y,B,U,N⟩=>?_);exact h2 J O Y B _ _ Q U G N
def qBb (K:Ai)(n:Ah)(t:uz):TG:=λv σ H Q=>∃ a Y,v=.ref a/\jh K H a Y/\Y.length=n/\t Y σ H Q
def CI {k:Ah}{t:uz}{n:Ah}(N:X.calm=true)(h:tx X es t)
  (C:(Hn es X.env).length=n:=by rfl) (J:(Hn es X.env).findIdx? (·.1)=none:=by rfl):PG X (.Tuple es k aq) (qBb X.K n t):=by
 intro U s σ H v u Q I r Y;obtain⟨a,j,M,L,E,Y⟩:=Y;subst M;cases r;obtain⟨z,G,O,y⟩:=I.tuple L;refine assign_Tuple_tuple (I.ok.hd N) O (by simp[C,<- E,G.length]) J λA T=>?_
 have B:Inv X U σ H { s with heap:=A }:=I.kept (t':=s.toks) λb o e=>T b o (Cn (Bf e)) e
 exact h U _ σ H j _ Q B (by simpa using G) Y
def qB5 (i j:Ah)(Q:TA):TS:=λD σ H=>Q σ H λY J=>∃ v w,Y=[v,w]/\D.nx ((σ.set i (Ab v)).set j (Ab w)) J
def CL {j:Ah}{a b:By}{z:TA}{L G C:Ev}{kt k2 pt2}(m:X.calm=true) (M:X.N.Nodup) (hi:X.N[i]? = Ab x) (r:X.N[j]? = Ab y) (N:i≠j)
  (A:X.env.scope.names.lookup x=Ab .local) (T:X.env.scope.names.lookup y=Ab .local) (l:PA X [a,b] z)
  (hw:Mz [.Tuple [.Name x L,.Name y G] kt C] (.Tuple [a,b] k2 pt2) X.env=pure (Ab [x,y]))
  (hs:Na [.Tuple [.Name x L,.Name y G] kt C] (.Tuple [a,b] k2 pt2) aq.line X.env=pure false:=by rfl) :
  PS X (.Assign [.Tuple [.Name x L,.Name y G] kt C] (.Tuple [a,b] k2 pt2) aq) (qB5 i j z):=by
 intro k s σ H D I h;rw[exec_Assign_arm];refine Ad (Nb ?_);rw[hs];refine Ad (Am ?_);rw[Bd bU]
 refine Ad (Tuple_ (bv (l _ k s σ H _ I h) λd J ⟨vs,u,n,r1,O⟩=>?_));obtain⟨v,w,t,O⟩:=O;subst t;obtain⟨Q,Y,rfl,rv,B⟩:∃ Q Y,d=[Q,Y]/\qJ v Q/\qJ w Y:=by
  cases r1 with
  |cons p q =>
   cases q with
   |cons c f =>
    cases f;exact⟨_,_,rfl,p,c⟩
 refine De ?_ (by show 2<=sizeLine;decide)
 have g:Inv X k σ u { J with heap:=J.heap.push { cls:=.type "tuple",data:=.seq [Q,Y].toArray } }:=n.kept (t':=J.toks) λb o e=>Aj _ e
 rw[hw];refine Ad (Am ?_);show ce X (do rule "assign.swapped-stores";let items <- unpackItems (.ref J.heap.objs.size) 2 none;Yt [λv=>Zo X.env y v,λv=>Zo X.env x v] items.reverse;pure Flow.next) _ _ _
 refine Ad (Ho (Ad (unpackItems_tuple (items:=#[Q,Y]) (I.ok.hd m) (Aa0 J.heap _) λh' U=>?_)));have I3:=g.kept (h':=h') (t':=J.toks) λb o e=>U b o (Cn (Bf e)) e;show Aq _ _ (Yt [λv=>Zo X.env y v,λv=>Zo X.env x v] [Y,Q] >>= λ_=>pure Flow.next) _ _ _;refine Ad (Sf (wpAny_bindName (vQ I3 M r (.inl T) B (λs2 I4=>?_) (.inr T))));refine Sf (wpAny_bindName (vQ I4 M hi (.inl A) rv (λs3 E=>x0 (Am ?_)) (.inr A)));rw[List.set_comm _ _ (Gj N)] at E;exact⟨_,u,E,O⟩
def qB0 (i:Ah)(te:TE)(Q:x_):TS:=λD σ H=>∃ x,σ[i]? = Ab (Ab x)/\te σ H λy J=>Q x y J λz Y=>D.nx (σ.set i (Ab z)) Y
def CK {U:Ev}(E:X.N.Nodup)(hi:X.N[i]? = Ab x)(G:Loc X.env.scope x)(b:PE X e te)(d:F_ X op B)(f:X.fn x=true\/X.env.scope.names.lookup x=Ab .local:=by first|exact .inl rfl|exact .inr rfl|assumption) :
  PS X (.AugAssign (.Name x U) op e aq) (qB0 i te B):=by
 intro N s σ H D I h;obtain⟨v,q,h⟩:=h;obtain⟨m,T,t⟩:=I.loc;have O:oy X.env.scope x:=by rcases G with k|k;exact .inl k;exact .inr (.inl k)
 obtain⟨u,r,l⟩:=t i x v hi q O;refine wpAny_AugAssign_Name ?_;have C:ce X (eval e X.env) (λw Y=>ce X (inplaceOp op u w) (λr J=>ce X (storeName X.env x r) (λ_=>SP X N D .next) X.xe J) X.xe Y) X.xe s:=by
  refine bv (b N s σ H _ I h) λw s1 ⟨y,H1,p,a,A⟩=>?_;refine bv (d N s1 σ H1 v y u w _ p r a A) λz s2 ⟨zv,g,L,j,q2⟩=>?_;exact vQ L E hi G j (λs3 n=>⟨_,g,n,q2⟩) f
 rcases l with⟨hk,M⟩|⟨hk,c,o,Q⟩
 .exact Yf I.ok.kind hk T M C
 .rcases hk with hk|hk
  .exact Ys I.ok.kind hk o Q C
  .rcases G with k|k
   .have:X.env.scope.names.lookup x=Ab .free:=hk
    rw[k] at this;cases this
   .have:X.env.scope.names.lookup x=Ab .free:=hk
    rw[k] at this;cases this
def ipI (f:An->An->An):x_:=λx y H Q=>∃ i j,x=.int i/\y=.int j/\Q (.int (f i j)) H
def E0:F_ X .Add (ipI λi j=>i+j):=by
 intro N s σ H x y v u Q I G Y h;obtain⟨i,j,J,U,q⟩:=h;subst J;subst U;obtain⟨t,rfl⟩:=G;obtain⟨O,rfl⟩:=Y;exact iadd_int ⟨.int _,H,I.tok _,⟨_,rfl⟩,q⟩
end
section
variable {X:Cx}{aq:Ev}
def AS (c:TT)(G:TS):TS:=λD σ H=>∃ W:Ah->St->Hp->Prop,(∃ m,W m σ H)/\∀ m σ H,W m σ H ->
 c σ H λb U=>if b=true then ∃ N:St->Hp->Prop,(∀ Q Y,N Q Y->∃ J,J<m/\W J Q Y)/\G { D with nx:=N,ct:=N,bk:=D.nx } σ U else D.nx σ U
def GC (hp:Ow (Av X.prog X.w) X.A X.env X.xe)(d:PT X c y)(l:im X j u):PS X (.While c j [] aq) (AS y u):=by
 intro A s σ H D I h;obtain⟨W,⟨e,w0⟩,G⟩:=h;refine wpAny_While (codeAny_whileLoop (λn g=>∃ U z,Inv X A U z g/\W n U z) ?_ e ⟨σ,H,I,w0⟩);rintro n t ⟨Y,p,r,m⟩;refine Ju hp (bv (d A t Y p _ r (G n Y p m)) λb a ⟨o,k,O⟩=>?_);cases b with
 |true =>
  obtain⟨N,q,O⟩:=O;rw[Bg rfl];refine Ju hp (bv (l A a Y o _ k O) λf s3 C=>?_);cases f with
  |next =>
   obtain⟨Q,J,M,B⟩:=C;obtain⟨T,E,L⟩:=q Q J B;exact⟨T,E,Q,J,M,L⟩
  |cont =>
   obtain⟨Q,J,M,B⟩:=C;obtain⟨T,E,L⟩:=q Q J B;exact⟨T,E,Q,J,M,L⟩
  |brk=>exact C
  |ret v=>exact C
 |false =>
  rw[Bd En];exact Nn ⟨Y,o,k,O⟩
end
structure It where
 go:Ah->Hp->Prop
 yld:Ah->Hp->V->Hp->Prop
 stop:Ah->Hp->Prop
def xR (X:Cx)(aj:aa)(H:Hp)(b:Af):Prop:=
 H b=none/\b≠X.env.locals/\b ∉ X.fs/\(b∈X.ex\/X.s₀.heap.objs.size<=b)/\(∀ x c,X.env.cells.lookup x=Ab c->c≠b)/\∀ p∈X.pn++aj,p.1≠b
def Inv.fpOk {X:Cx}{σ:St}{H Y:Hp}{b:Af}(I:Inv X aj σ H s)(Q:s.heap.objs.size<=b)(J:Y b=none):xR X aj Y b:=by
 refine⟨J,Jc (Bh I.lt Q),I.nofs Q,.inr (Cg I.sz Q),λx c e z=>?_,λp U z=>?_⟩
 .obtain⟨v,q⟩:=I.cell x c e
  exact absurd (Bh q.lt (by rw[z];exact Q)) (Fe _)
 .exact absurd (Bh (Bf (I.pin p U).1) (by rw[z];exact Q)) (Fe _)
structure mw (P:Bi)(w:Bz)(K:Ai)(tg:By)(J:It)(fp:ag)(it:Af)(tn:Ah->Bt->Prop):Prop where
 mem:it∈fp
 obj:∀ i h,tn i h->∀ b∈fp,∃ o,h.get? b=Ab o/\∀ v,o.data≠.cell v
 keep:∀ i h h',tn i h->(∀ b∈fp,∀ o,h.get? b=Ab o->h'.get? b=Ab o)->tn i h'
 item:∀ (X:Cx),X.prog=P->X.w=w->X.K=K->X.calm=true->∀ (i:Ah) (pins:aa) (s:Ag) (σ : St) (H:Hp) (E:ae),Inv X pins σ H s->(∀ b∈fp,xR X pins H b)->tn i s.heap->J.go i H ->
  Aq (Av P w) X.A (Ms (.ref it)) (λr s1=>∃ u,r=Ab u /\
   Aq (Av P w) X.A (Lc tg (.ref it) u) (λ_ s2=>∃ x H',Inv X pins σ H' s2/\qJ x u/\J.yld i H x H'/\tn (i+1) s2.heap/\∀ b∈fp,H' b=none) E s1) E s
 done:∀ (X:Cx),X.prog=P->X.w=w->X.K=K->X.calm=true->∀ (i:Ah) (pins:aa) (s:Ag) (σ : St) (H:Hp) (E:ae),Inv X pins σ H s->(∀ b∈fp,xR X pins H b)->tn i s.heap->J.stop i H ->
  Aq (Av P w) X.A (Ms (.ref it)) (λr s1=>r=none/\Inv X pins σ H s1) E s
 self:∀ (A:Bp) (i:Ah) (s:Ag) (Q:ae) (E:ae),tn i s.heap->Q (.ref it) s->Aq (Av P w) A (Rj (.ref it)) Q E s
abbrev TI:=St->Hp->(It->Hp->Prop)->Prop
inductive wu (X:Cx)(pins:aa)(σ : St)(tg:By)(R:It->Hp->Prop)(itv:Ac)(s2:Ag):Prop
 |mk (it:Af) (fp:ag) (tn:Ah->Bt->Prop) (J:It) (H':Hp) (e:itv=.ref it) (I:Inv X pins σ H' s2) (t:mw X.prog X.w X.K tg J fp it tn) (z:tn 0 s2.heap) (f:∀ b∈fp,xR X pins H' b) (q:R J H'):wu X pins σ tg R itv s2
def PI (X:Cx)(tg U:By)(Y:TI):Prop:=
 ∀ (Q:aa) (s:Ag) (σ : St) (H:Hp) (R:It->Hp->Prop),Inv X Q σ H s->Y σ H R ->
  ce X (eval U X.env) (λv J=>ce X (Rj v) (wu X Q σ tg R) X.xe J) X.xe s
def ZT {M:Lb}{A:Bp}{E:ae}{s:Ag}{it:Af}{u:Ac}{Q:Ro->Ag->Prop}(N:s.heap.get? it=Ab o)(G:o.cls=.type n)(U:o.data=.fields vs)
    (J:["enumerate","zip","dict_itemiterator","dict_reverseitemiterator","odict_iterator","itertools.zip_longest","itertools.pairwise"].contains n=false) (Y:Q () s):Aq M A (Lc tg (.ref it) u) Q E s:=by
  unfold Lc;cases tg <;> first
    |exact Am Y
    |(cases u <;> first
        |exact Am Y
        | (refine Ad (wpAny_load N ?_)
           rw[G,U];show Aq M A (if (["enumerate","zip","dict_itemiterator","dict_reverseitemiterator","odict_iterator","itertools.zip_longest","itertools.pairwise"].contains n&&vs[0]? == Ab (Gk _))=true then _ else _) Q E s
           rw[Bd (by intro h;rw[J,Hs] at h;cases h)]
           exact Am Y))
def K_ (K:Ai)(a:Af):It:=
 ⟨λi H=>∃ Q x,jw K H a Q/\Q[i]? = Ab x,λi H x Y=>Y=H/\∀ Q,jw K H a Q->Q[i]? = Ab x,λi H=>∃ Q,jw K H a Q/\Q.length<=i⟩
def _r (K:Ai)(a:Af):It:=
 ⟨λi H=>∃ Q x,jh K H a Q/\Q[i]? = Ab x,λi H x Y=>Y=H/\∀ Q,jh K H a Q->Q[i]? = Ab x,λi H=>∃ Q,jh K H a Q/\Q.length<=i⟩
def yg (lo:An)(n:Ah):It:=⟨λi _=>i<n,λi H x Q=>Q=H/\x=.int (lo+i),λi _=>n<=i⟩
def rB (a it:Af):mw P w K tg (K_ K a) [it] it (λi h=>h.IsListIter it a i) where
 mem:=by simp
 obj:=λi h st b Q=>by
  have e:b=it:=by simpa using Q
  subst e;obtain⟨o,e,c,d⟩:=st;exact⟨o,e,λv z=>by rw[d] at z;cases z⟩
 keep:=λi h J st k=>st.at λo e=>k it bB o e
 item:=by
  intro X O L C g i f s σ H E I G st A;subst O L C;obtain⟨xs,x,U,N⟩:=A;obtain⟨T,l,p,m⟩:=I.list U;obtain⟨u,hu,n⟩:=l.get N;obtain⟨q,j,f2,y,B,M⟩:=G it bB
  refine wpAny_pyNext_list_item st p.isList (x:=u) (by simpa using hu) λJ Y sb=>?_
  have I1:Inv X f σ H { s with heap:=J }:=I.turned (t':=s.toks) (λb o Q e=>(sb.2 b Q).trans e) q j y B M
  obtain⟨o,e,c,d⟩:=id Y;exact⟨u,rfl,ZT (s:={ s with heap:=J }) e c d bU ⟨x,H,I1,n,⟨rfl,λys r=>by rw[I.list_inj r U];exact N⟩,Y,λb Q=>(G b Q).1⟩⟩
 done:=by
  intro X O L C g i f s σ H E I G st A;subst O L C;obtain⟨xs,U,N⟩:=A;obtain⟨T,l,p,m⟩:=I.list U;obtain⟨q,j,f2,y,B,M⟩:=G it bB
  have hl:=l.length;exact wpAny_pyNext_list_end (I.ok.hd g) st p.isList (by simp;lia) λJ t=>⟨rfl,I.turned (t':=s.toks) (λb o Q e=>t b o Q e) q j y B M⟩
 self:=λ_ _ _ _ _ st h=>wpAny_pyIter_listiter st h
def XQ (a it:Af):mw P w K tg (_r K a) [it] it (λi h=>h.IsTupleIter it a i) where
 mem:=by simp
 obj:=λi h st b Q=>by
  have e:b=it:=by simpa using Q
  subst e;obtain⟨o,e,c,d⟩:=st;exact⟨o,e,λv z=>by rw[d] at z;cases z⟩
 keep:=λi h U st k=>st.at λo e=>k it bB o e
 item:=by
  intro X C T B g i f s σ H E I N st A;subst C T B;obtain⟨xs,x,G,O⟩:=A;obtain⟨Y,l,p,m⟩:=I.tuple G;obtain⟨u,hu,n⟩:=l.get O;obtain⟨q,j,f2,y,L,M⟩:=N it bB
  refine wpAny_pyNext_tuple_item st (show s.heap.IsTuple a Y.toArray from p) (x:=u) (by simpa using hu) λU J sb=>?_
  have I1:Inv X f σ H { s with heap:=U }:=I.turned (t':=s.toks) (λb o Q e=>(sb.2 b Q).trans e) q j y L M
  obtain⟨o,e,c,d⟩:=id J;exact⟨u,rfl,ZT (s:={ s with heap:=U }) e c d bU ⟨x,H,I1,n,⟨rfl,λys r=>by rw[I.tuple_inj r G];exact O⟩,J,λb Q=>(N b Q).1⟩⟩
 done:=by
  intro X C T B g i f s σ H E I N st A;subst C T B;obtain⟨xs,G,O⟩:=A;obtain⟨Y,l,p,m⟩:=I.tuple G;obtain⟨q,j,f2,y,L,M⟩:=N it bB
  have hl:=l.length;exact wpAny_pyNext_tuple_end (I.ok.hd g) st (show s.heap.IsTuple a Y.toArray from p) (by simp;lia) λU t=>⟨rfl,I.turned (t':=s.toks) (λb o Q e=>t b o Q e) q j y L M⟩
 self:=λ_ _ _ _ _ st h=>wpAny_pyIter_tupleiter st h
def XO (it:Af)(lo:An)(n:Ah):mw P w K tg (yg lo n) [it] it (λi h=>IsRangeIter h it (lo+(i:Ah)*1) ((n:An)-(i:Ah)) 1) where
 mem:=by simp
 obj:=λi h st b Q=>by
  have e:b=it:=by simpa using Q
  subst e;exact⟨_,st,λv z=>by
   have g:Data.fields _=Data.cell v:=z;cases g⟩
 keep:=λi h J st k=>k it bB _ st
 item:=by
  intro X G C N B i y s σ H E I U st L;subst G C N;obtain⟨j,A,c,M,O,T⟩:=U it bB
  have W:=Walks.range (prog:=X.prog) (w:=X.w) (I.ok.hd B) it lo 1 n;refine W.item i s _ _ L st λv J u hv Y l=>?_;obtain⟨t,rfl⟩:=hv;have p:Inv X y σ H { s with heap:=J,toks:=u }:=I.turned (λb o Q e=>l b o (by simpa using Q) e) j A M O T
  refine⟨_,rfl,ZT (s:={ s with heap:=J,toks:=u }) (n:="range_iterator") Y rfl rfl bU ⟨.int (lo+i),H,p,⟨t,?_⟩,⟨rfl,rfl⟩,Y,λb Q=>(U b Q).1⟩⟩
  rw[Int.mul_one]
 done:=by
  intro X G C N B i y s σ H E I U st L;subst G C N;obtain⟨j,A,c,M,O,T⟩:=U it bB
  exact wpAny_pyNext_range_end (I.ok.hd B) st (by have:n<=i:=L;lia) λJ q=>⟨rfl,I.turned (t':=s.toks) (λb o Q e=>q b o Q e) j A M O T⟩
 self:=λ_ _ _ _ _ st h=>wpAny_pyIter_rangeiter st h
end _L
namespace _L
variable {aj:aa}{fp:ag}{s:Ag}{H:Hp}{σ:St}
section
variable {X:Cx}{tg:By}
def aH {R:It->Hp->Prop}{E:ae}{lo hi:An}{t u v:Tf}{tk:Ah}(I:Inv X aj σ H s)(h1 : -(2 ^ 62)<=lo)(h2:lo<2 ^ 62)(h3 : -(2 ^ 62)<=hi)(Y:hi<2 ^ 62)
  (q:R (yg lo (hi-lo).toNat) H):ce X (Rj (.ref s.heap.objs.size)) (wu X aj σ tg R) E { s with heap:=s.heap.push { cls:=.type "range",data:=.fields #[.int lo t,.int hi u,.int 1 v] },toks:=tk }:=by
 refine wpAny_pyIter_range (IsRange.new ..) (small_one h1 h2 h3 Y) ?_;have Q:Inv X aj σ H { s with heap:=s.heap.push { cls:=.type "range",data:=.fields #[.int lo t,.int hi u,.int 1 v] },toks:=tk }:=I.kept λb o e=>Aj _ e
 refine⟨(s.heap.push { cls:=.type "range",data:=.fields #[.int lo t,.int hi u,.int 1 v] }).objs.size,[(s.heap.push { cls:=.type "range",data:=.fields #[.int lo t,.int hi u,.int 1 v] }).objs.size],_,_,H,rfl,
  Q.kept (t':=tk) λb o e=>Aj _ e,XO _ lo (hi-lo).toNat,?_,λb J=>?_,q⟩
 .have U:lo+((0:Ah):An)*1=lo:=by simp
  have G:(((hi-lo).toNat:Ah):An)-((0:Ah):An)=Builtin.Range.rangeSize lo hi 1:=by rw[rangeSize_one];split <;> lia
  show IsRangeIter _ _ (lo+((0:Ah):An)*1) ((((hi-lo).toNat:Ah):An)-((0:Ah):An)) 1;rw[U,G];exact Bl _ rfl
 .have e:b=(s.heap.push { cls:=.type "range",data:=.fields #[.int lo t,.int hi u,.int 1 v] }).objs.size:=by simpa using J
  subst e;exact Q.fpOk (Ax _) (Q.hok.fresh (Ax _))
def qB1 (C:TI)(g:TG)(O:TS):TS:=λD σ H=>C σ H λJ L=>∃ W:Ah->Ah->St->Hp->Prop,(∃ m,W 0 m σ L)/\∀ i m σ H,W i m σ H ->
 (J.stop i H/\D.nx σ H)\/(J.go i H/\∃ N:St->Hp->Prop,(∀ Y Q,N Y Q->∃ G,G<m/\W (i+1) G Y Q)/\∀ x Q,J.yld i H x Q->g x σ Q λU B=>O { D with nx:=N,ct:=N,bk:=D.nx } U B)
def vF (fp:ag)(h:Bt):Aa (Af × Cp):=fp.filterMap λb=>(h.get? b).map λo=>(b,o)
def uQ {h:Bt}{b:Af}(Q:b∈fp)(e:h.get? b=Ab o):(b,o)∈vF fp h:=Hj.mpr ⟨b,Q,by rw[e];rfl⟩
def sW {p:Af × Cp}(hp:p∈vF fp h):p.1∈fp/\h.get? p.1=Ab p.2:=by
 obtain⟨b,Y,e⟩:=Hj.mp hp;cases q:h.get? b with
 |none=>rw[q] at e;cases e
 |some o =>
  rw[q] at e;have Q:(b,o)=p:=Dd e;subst Q;exact⟨Y,q⟩
def Inv.pinned (I:Inv X aj σ H s)(J:∀ b∈fp,xR X aj H b)(U:∀ b∈fp,∃ o,s.heap.get? b=Ab o/\∀ v,o.data≠.cell v):Inv X (aj++vF fp s.heap) σ H s:=
 I.pins_of λp O=>(Bq.mp O).elim (λz=>I.pin p (Ca _ z)) λz=>by
  obtain⟨Y,e⟩:=sW z;obtain⟨C,G,N,_⟩:=J p.1 Y;obtain⟨o,Q,d⟩:=U p.1 Y;rw[e] at Q;cases Q;exact⟨e,C,G,N,d⟩
def Inv.unpinned {pl:aa}(I:Inv X (aj++pl) σ H s):Inv X aj σ H s:=I.pins_of λp Q=>I.pin p (Ca _ (Dg _ Q))
inductive wj (X:Cx)(pins:aa)(fp:ag)(tn:Ah->Bt->Prop)(W:Ah->Ah->St->Hp->Prop)(n:Ah)(s':Ag):Prop
 |mk (i:Ah) (σ' : St) (H':Hp) (I:Inv X pins σ' H' s') (t:tn i s'.heap) (f:∀ b∈fp,H' b=none) (w:W i n σ' H'):wj X pins fp tn W n s'
def V4 {l:By}{aq:Ev}(hp:Ow (Av X.prog X.w) X.A X.env X.xe)(hc:X.calm=true)(hi:PI X tg l wi)(hg:PG X tg g)(G:im X bo tb)
  (hs:∀ x,El l X.env x=pure x:=by intro _;rfl):PS X (.For tg l bo [] aq) (qB1 wi g tb):=by
 intro aj s σ H D I h;refine wpAny_For (bv (hi aj s σ H _ I h) λv s1 h1=>bv h1 λzb s2 h2=>?_) hs;obtain⟨it,fp,t,J,H2,e,I2,T,q,f2,W,⟨m0,w0⟩,A⟩:=h2;subst e;have C:∀ {H':Hp},(∀ b∈fp,H' b=none)->∀ b∈fp,xR X aj H' b:=λhn b G=>⟨hn b G,(f2 b G).2⟩;refine codeAny_forLoop_any (wj X aj fp t W) ?_ m0 ⟨0,σ,H2,I2,q,λb G=>(f2 b G).1,w0⟩;rintro n s3 ⟨i,Y,j,I3,E,w,w3⟩;rcases A i n Y j w3 with⟨M,qn⟩|⟨go,N,hN,step⟩
 .refine Ju hp (bv (T.done X rfl rfl rfl hc i aj s3 Y j X.xe I3 (C w) E M) λr s4 ⟨c,I4⟩=>?_)
  subst c;exact Nn ⟨Y,j,I4,qn⟩
 .refine Ju hp (bv (T.item X rfl rfl rfl hc i aj s3 Y j X.xe I3 (C w) E go) λr s4 ⟨u,c,h4⟩=>?_)
  subst c;refine Ju hp (bv h4 λ_ s5 ⟨x,H5,I5,r5,y5,L,y⟩=>?_);have k:=I5.pinned (C y) (T.obj _ _ L);refine Ju hp (bv (hg _ s5 Y H5 x u _ k r5 (step x H5 y5)) λ_ s6 ⟨p,H6,I6,q6⟩=>?_);refine Ju hp (bv (G _ s6 p H6 _ I6 q6) λf a B=>?_);have again:∀ {Q:St} {U:Hp},Inv X (aj++vF fp s5.heap) Q U a->N Q U->∃ m,m<n/\wj X aj fp t W m a:=λ{Q U} O z=>by
   obtain⟨m',hm,w7⟩:=hN Q U z;refine⟨m',hm,i+1,Q,U,O.unpinned,T.keep _ _ _ L λb G o e=>(O.pin (b,o) (Ca _ (Ca _ (uQ G e)))).1,λb G=>?_,w7⟩;obtain⟨o,e,d⟩:=T.obj _ _ L b G;exact(O.pin (b,o) (Ca _ (Ca _ (uQ G e)))).2.1
  cases f with
  |next=>obtain⟨Q,U,O,z⟩:=B;exact again O z
  |cont=>obtain⟨Q,U,O,z⟩:=B;exact again O z
  |brk=>obtain⟨Q,U,O,B⟩:=B;exact⟨Q,U,O.unpinned,B⟩
  |ret v=>obtain⟨x7,Q,U,O,r7,B⟩:=B;exact⟨x7,Q,U,O.unpinned,r7,B⟩
end
end _L
namespace _L
variable {us:ai}{f:Ac->Ac->Kj Ac}{g:An->An->An}
abbrev R2:=V->V->Hp->VK->Prop
def kz (X:Cx)(f:Ac->Ac->Kj Ac)(r:R2):Prop:=
 ∀ (Y:aa) (s:Ag) (σ : St) (H:Hp) (x y:V) (v u:Ac) (Q:VK),Inv X Y σ H s->qJ x v->qJ y u->r x y H Q ->
  ce X (f v u) (EP X Y σ Q) X.xe s
def _k (X:Cx)(f:Ac->Kj Ac)(r:V->Hp->VK->Prop):Prop:=
 ∀ (Y:aa) (s:Ag) (σ : St) (H:Hp) (x:V) (v:Ac) (Q:VK),Inv X Y σ H s->qJ x v->r x H Q ->
  ce X (f v) (EP X Y σ Q) X.xe s
def jN (X:Cx)(f:Ac)(r:Aa V->Hp->VK->Prop):Prop:=
 ∀ (Y:aa) (s:Ag) (σ : St) (H:Hp) (J:Aa V) (us:ai) (Q:VK),Inv X Y σ H s->qM J us->r J H Q ->
  ce X (call f us) (EP X Y σ Q) X.xe s
def qBK (X:Cx)(r:V->Hp->(Au->Hp->Prop)->Prop):Prop:=
 ∀ (Y:aa) (s:Ag) (σ : St) (H:Hp) (x:V) (v:Ac) (Q:Au->Hp->Prop),Inv X Y σ H s->qJ x v->r x H Q ->
  ce X (truthy v) (TP X Y σ Q) X.xe s
def _B (r:R2)(Y J:TE):TE:=λσ H Q=>Y σ H λx G=>J σ G λy U=>r x y U Q
def rI (C:An->An->Prop)(g:An->An->V):R2:=λx y H Q=>∃ i j,x=.int i/\y=.int j/\C i j/\Q (g i j) H
def s_ (g:An->An->V):R2:=λx y H Q=>∃ i j,x=.int i/\y=.int j/\Q (g i j) H
def rU (g:An->V):V->Hp->VK->Prop:=λx H Q=>∃ i,x=.int i/\Q (g i) H
section
variable {X:Cx}{a b:By}{ta tb:TE}
def qBO (O:PE X a ta)(B:PE X b tb){aj:aa}{s:Ag}{σ : St}{H:Hp}{R:V->V->Hp->Prop}(I:Inv X aj σ H s)
  (h:ta σ H λx N=>tb σ N λy Y=>R x y Y) {Q:ae} {f:Ac->Ac->Kj Ac}
  (A:∀ v u G x y Y,Inv X aj σ Y G->qJ x v->qJ y u->R x y Y->ce X (f v u) Q X.xe G) :
  ce X (eval a X.env) (λv J=>ce X (eval b X.env) (λu U=>ce X (f v u) Q X.xe U) X.xe J) X.xe s:=by
 refine bv (O aj s σ H _ I h) λv z ⟨x,N,E,M,L⟩=>?_;refine bv (B aj z σ N _ E L) λu G ⟨y,Y,C,T,w⟩=>?_;exact A v u G x y Y C M T w
def xh {f:Ac->Ac->Kj Ac}{C:An->An->Prop}
  (rule:∀ (i j:An) (t u:Tf) (s:Ag) (Q:ae) (E:ae),C i j->Q (.int (g i j) s.toks) { s with toks:=s.toks+1 } -> ce X (f (.int i t) (.int j u)) Q E s) :
  kz X f (rI C λi j=>.int (g i j)):=by
 intro N s σ H x y v u Q I G U h;obtain⟨i,j,rfl,rfl,Y,q⟩:=h;obtain⟨t,rfl⟩:=G;obtain⟨J,rfl⟩:=U;exact rule i j t J s _ _ Y ⟨.int (g i j),H,I.tok _,⟨_,rfl⟩,q⟩
def HU {f:Ac->Ac->Kj Ac}
  (rule:∀ (i j:An) (t u:Tf) (s:Ag) (Q:ae) (E:ae),Q (.int (g i j) s.toks) { s with toks:=s.toks+1 } -> ce X (f (.int i t) (.int j u)) Q E s) :
  kz X f (s_ λi j=>.int (g i j)):=by
 intro G s σ H x y v u Q I U J h;obtain⟨i,j,rfl,rfl,q⟩:=h;obtain⟨t,rfl⟩:=U;obtain⟨Y,rfl⟩:=J;exact rule i j t Y s _ _ ⟨.int (g i j),H,I.tok _,⟨_,rfl⟩,q⟩
def XA {g:An->An->Au}
  (rule:∀ (i j:An) (t u:Tf) (s:Ag) (Q:ae) (E:ae),Q (.bool (g i j)) s->ce X (f (.int i t) (.int j u)) Q E s) :
  kz X f (s_ λi j=>.bl (g i j)):=by
 intro G s σ H x y v u Q I U J h;obtain⟨i,j,rfl,rfl,q⟩:=h;obtain⟨t,rfl⟩:=U;obtain⟨Y,rfl⟩:=J;exact rule i j t Y s _ _ ⟨.bl (g i j),H,I,rfl,q⟩
def qBH (i j:An):Prop:=0<j/\j<1073741824
def qBI (i j:An):Prop:=0<=j/\j<=1000000/\i.natAbs<2 ^ 64
def UE (i j:An):Prop:=(-(2 ^ 64)<i/\i<2 ^ 64)\/(-(2 ^ 64)<j/\j<2 ^ 64)
def UE.ok (h:UE i j):IntMulOk i j:=by
 rcases h with⟨Y,Q⟩|⟨Y,Q⟩
 .exact .of_left (intBits_le_64 Y Q)
 .exact .of_right (intBits_le_64 Y Q)
def HV:kz X (Ej .Add) (s_ λi j=>.int (i+j)):=HU λ_ _ _ _ _ _ _ q=>add_int q
def CA:kz X (Ej .Sub) (s_ λi j=>.int (i-j)):=HU λ_ _ _ _ _ _ _ q=>sub_int q
def HY:kz X (Ej .Mult) (rI UE λi j=>.int (i*j)):=xh λ_ _ _ _ _ _ _ Q q=>mul_int q Q.ok
def TV:kz X (Ej .FloorDiv) (rI qBH λi j=>.int (i/j)):=xh λi j _ _ _ _ _ Q q=>by
 have J:(0:An)<j:=Q.1;have Y:j<1073741824:=Q.2;exact floordiv_int li (by rw[Int.fdiv_eq_ediv_of_nonneg i li];exact q) (.inl (PyProof.noPylong_small li))
def HX:kz X (Ej .Mod) (rI (λ_ j=>0<j) λi j=>.int (i % j)):=xh λi j _ _ _ _ _ Q q=>by
 have Y:(0:An)<j:=Q;exact mod_int' li (by rw[Int.fmod_eq_emod_of_nonneg i li];exact q)
def HZ:kz X (Ej .Pow) (rI qBI λi j=>.int (i ^ j.toNat)):=xh λ_ _ _ _ _ _ _ Q q=>pow_int_small Q.1 Q.2.1 Q.2.2 q
def _y {f:Ac->Kj Ac}{g:An->An}
  (rule:∀ (i:An) (t:Tf) (s:Ag) (Q:ae) (E:ae),Q (.int (g i) s.toks) { s with toks:=s.toks+1 } -> ce X (f (.int i t)) Q E s) :
  _k X f (rU λi=>.int (g i)):=by
 intro J s σ H x v Q I Y h;obtain⟨i,rfl,q⟩:=h;obtain⟨t,rfl⟩:=Y;exact rule i t s _ _ ⟨.int (g i),H,I.tok _,⟨_,rfl⟩,q⟩
def IB:_k X (AaH .USub) (rU λi=>.int (-i)):=_y λ_ _ _ _ _ q=>neg_int q
end
section
variable {X:Cx}{b:By}
def WT {σ:St}{Q:VK}{k Y:Au}(I:Inv X aj σ H s)(q:Q (.bl k) H)(e:k=Y):EP X aj σ Q (.bool Y) s:=by
 subst e;exact⟨.bl k,H,I,rfl,q⟩
def qAY:kz X (Cy .Lt) (s_ λi j=>.bl (decide (i<j))):=XA λ_ _ _ _ _ _ _ q=>lt_int q
def qAX:kz X (Cy .LtE) (s_ λi j=>.bl (decide (i<=j))):=XA λ_ _ _ _ _ _ _ q=>le_int q
def qAW:kz X (Cy .Gt) (s_ λi j=>.bl (decide (j<i))):=XA λ_ _ _ _ _ _ _ q=>gt_int q
def qAV:kz X (Cy .GtE) (s_ λi j=>.bl (decide (j<=i))):=XA λ_ _ _ _ _ _ _ q=>ge_int q
def HW:kz X (Cy .Is) (λx y H Q=>y=.non/\Q (.bl (decide (x=.non))) H):=by
 intro U s σ H x y v u Q I Y J h;obtain⟨rfl,q⟩:=h;cases J;refine is_none_gen (WT I q ?_);cases x <;> first
  |(cases Y;rfl)
  |(obtain⟨t,rfl⟩:=Y;rfl)
def TX:kz X (Cy .IsNot) (λx y H Q=>y=.non/\Q (.bl (!decide (x=.non))) H):=by
 intro U s σ H x y v u Q I Y J h;obtain⟨rfl,q⟩:=h;cases J;refine isnot_none_gen (WT I q ?_);cases x <;> first
  |(cases Y;rfl)
  |(obtain⟨t,rfl⟩:=Y;rfl)
def kz.or (h:kz X f r)(h':kz X f G):kz X f (λx y H Q=>r x y H Q\/G x y H Q):=by
 intro Y s σ H x y v u Q I U J q;rcases q with q|q
 .exact h Y s σ H x y v u Q I U J q
 .exact h' Y s σ H x y v u Q I U J q
def kY (b:By){op:Yu}(h:op≠.In:=by decide)(h2:op≠.NotIn:=by decide):Nc op b=false:=by
 have Q:(op == CmpOp.In)=false:=by cases op <;> first|rfl|exact absurd rfl h
 have Y:(op == CmpOp.NotIn)=false:=by cases op <;> first|rfl|exact absurd rfl h2
 cases b <;> simp[Nc,Q,Y]
def Z9 (K:Ai)(x:V)(H:Hp)(k:Au):Prop:=
 match x with
 |.non=>k=false
 |.bl b=>k=b
 |.int i=>k=(i != 0)
 |.str y=>y.length<=sizeLine/\k=((y.length:An) != 0)
 |.byt y=>y.size<=sizeLine/\k=((y.size:An) != 0)
 |.ref p=>(∃ Q,jw K H p Q/\k=!Q.isEmpty)\/(∃ Q,jh K H p Q/\k=!Q.isEmpty)\/∃ Y,H p=Ab (.dK Y)/\k=!Y.isEmpty
 |_=>Ex
def ZY {κ:Type}{Q:Aa (κ × V)}{vs:Aa (κ × Ac)}(r:KV Q vs):(!vs.isEmpty)=!Q.isEmpty:=by
 cases r <;> rfl
def nB (r:qM xs its):(!its.toArray.isEmpty)=!xs.isEmpty:=by
 cases r <;> simp
def bF:(sizeLine:Ah)<2 ^ 63:=by rw[Gb];decide
def bM:qBK X (λx H Q=>∃ k,Z9 X.K x H k/\Q k H):=by
 intro A s σ H x v Q I N h;obtain⟨k,e,q⟩:=h;have M:=bF;have hs:sizeLine=16777216:=Gb;cases x with
 |non =>
  cases N;have Y:k=false:=e;subst Y;exact truthy_none ⟨H,I,q⟩
 |bl b =>
  cases N;have Y:k=b:=e;subst Y;exact wpAny_truthy_bool ⟨H,I,q⟩
 |int i =>
  obtain⟨t,rfl⟩:=N;have Y:k=(i != 0):=e;subst Y;exact PySem.P.truthy_int ⟨H,I,q⟩
 |str y =>
  obtain⟨t,rfl⟩:=N;obtain⟨T,Y⟩:y.length<=sizeLine/\k=((y.length:An) != 0):=e;subst Y;exact PySem.P.truthy_str li ⟨H,I.tok _,q⟩
 |byt y =>
  obtain⟨t,rfl⟩:=N;obtain⟨T,Y⟩:y.size<=sizeLine/\k=((y.size:An) != 0):=e;subst Y;exact PySem.W.truthy_bytes li ⟨H,I.tok _,q⟩
 |ref p =>
  cases N;have Y:(∃ U,jw X.K H p U/\k=!U.isEmpty)\/(∃ U,jh X.K H p U/\k=!U.isEmpty)\/∃ G,H p=Ab (.dK G)/\k=!G.isEmpty:=e;rcases Y with⟨U,O,Y⟩|⟨U,O,Y⟩|⟨G,O,Y⟩
  .subst Y
   obtain⟨B,r,pl,L⟩:=I.list O;have J:=r.length;exact wpAny_truthy_list pl.isList (by simp only[Be];lia) ⟨H,I.tok _,by rw[nB r];exact q⟩
  .subst Y
   obtain⟨B,r,pl,L⟩:=I.tuple O;have J:=r.length;exact truthy_tuple pl (by simp only[Be];lia) ⟨H,I.tok _,by rw[nB r];exact q⟩
  .subst Y
   obtain⟨L,E,C,r,m⟩:G.length<=sizeLine/\(p == Hx)=false/\∃ C,KV G C/\s.heap.DictOf (xQ X.prog X.w) p C:=I.hok p _ O;have J:G.length=C.length:=Paired.length r;exact wpAny_truthy_dict E m li ⟨H,I.tok _,by rw[ZY r];exact q⟩
 |_=>exact(show Ex from e).elim
def XB:kz X (Ej .Add) (λx y H Q=>∃ i j,x=.str i/\y=.str j/\i.length+j.length<=sizeLine/\Q (.str (i++j)) H):=by
 intro N s σ H x y v u Q I G U h;obtain⟨i,j,rfl,rfl,Y,q⟩:=h;obtain⟨t,rfl⟩:=G;obtain⟨J,rfl⟩:=U;exact add_str (λJ O=>⟨.str (i++j),H,I.tok _,⟨_,rfl⟩,q⟩) Y
def k8 {x:V}(r:qM [x] us):∃ u,us=[u]/\qJ x u:=by
 cases r with
 |cons Q Y=>cases Y;exact⟨_,rfl,Q⟩
def eA {x y:V}(r:qM [x,y] us):∃ u Q,us=[u,Q]/\qJ x u/\qJ y Q:=by
 cases r with
 |cons Y J =>
  cases J with
  |cons G U=>cases U;exact⟨_,_,rfl,Y,G⟩
def sC:jN X (.type "int") (λxs H Q=>(∃ i,xs=[.int i]/\Q (.int i) H)\/∃ k,xs=[.bl k]/\Q (.int (if k then 1 else 0)) H):=by
 intro J s σ H xs us Q I r h;rcases h with⟨i,rfl,q⟩|⟨k,rfl,q⟩
 .obtain⟨u,rfl,t,rfl⟩:=k8 r
  exact call_int_int ⟨.int i,H,I,⟨_,rfl⟩,q⟩
 .obtain⟨u,rfl,Y⟩:=k8 r
  cases Y;exact call_int_bool ⟨.int (if k then 1 else 0),H,I.tok _,⟨_,rfl⟩,q⟩
def D4 (K:Ai)(x:V)(H:Hp)(n:Ah):Prop:=
 match x with
 |.str y=>y.length<=sizeLine/\n=y.length
 |.byt y=>y.size<=sizeLine/\n=y.size
 |.ref p=>(∃ Q,jw K H p Q/\n=Q.length)\/∃ Q,jh K H p Q/\n=Q.length
 |_=>Ex
def UL:jN X (.builtin "len") (λxs H Q=>∃ x n,xs=[x]/\D4 X.K x H n/\Q (.int n) H):=by
 intro L s σ H xs us Q I r h;obtain⟨x,n,rfl,e,q⟩:=h;obtain⟨u,rfl,O⟩:=k8 r;have T:=bF;have hs:sizeLine=16777216:=Gb;cases x with
 |str y =>
  obtain⟨t,rfl⟩:=O;obtain⟨C,J⟩:y.length<=sizeLine/\n=y.length:=e;subst J;exact len_str li ⟨.int _,H,I.tok _,⟨_,rfl⟩,q⟩
 |byt y =>
  obtain⟨t,rfl⟩:=O;obtain⟨C,J⟩:y.size<=sizeLine/\n=y.size:=e;subst J;exact PySem.W.len_bytes li ⟨.int _,H,I.tok _,⟨_,rfl⟩,q⟩
 |ref p =>
  cases O;have J:(∃ xs,jw X.K H p xs/\n=xs.length)\/∃ xs,jh X.K H p xs/\n=xs.length:=e;rcases J with⟨xs,U,J⟩|⟨xs,U,J⟩
  .subst J
   obtain⟨N,G,pl,B⟩:=I.list U;have Y:=G.length;exact Calls.call_len_list pl.isList (by simp only[Be];lia) ⟨.int xs.length,H,I.tok _,⟨_,by simp only[Be];rw[Y]⟩,q⟩
  .subst J
   obtain⟨N,G,pl,B⟩:=I.tuple U;have Y:=G.length;exact len_tuple pl (by simp only[Be];lia) ⟨.int xs.length,H,I.tok _,⟨_,by simp only[Be];rw[Y]⟩,q⟩
 |_=>exact(show Ex from e).elim
end
end _L
namespace _L
structure wf (h:Bt)(x dx C:Af)(mA:ah):Prop where
 obj:h.get? x=Ab (Wc C dx)
 ns:h.Ns1 dx mA
 ne:dx≠x
set_option tactic.hygienic true in
def YA {h:Bt}{mA:ah}(n:h.Ns1 Y mA):∃ U,h.get? Y=Ab U/\∀ name,Xv name U=Ab (mA name):=by
 obtain⟨o,J,T,B,C,N,_,O⟩:=n;refine⟨o,B,λname=>?_⟩;have e:=O name;unfold nsFind findBy at e;rw[<- Array.find?_toList] at e;unfold Xv;rw[C];dsimp only
 split
 .rename_i y q
  rw[q] at e;exact congrArg Ab e
 .rename_i q
  rw[q] at e;have a:J.toList.any (·.refKey)=false:=by
   rw[Th];intro y G;obtain⟨z,t,Q⟩:=N y (Qp.mp G);simp[DictEntry.refKey,Q]
  have L:¬ J.toList.any (·.refKey)=true:=by rw[a];exact En
  rw[Bd L];exact congrArg Ab e
def wf.look {mA:ah}(I:wf h x Y C mA):∃ Q,PySem.W.InstAt h x (Wc C Y) C (Ab Q)/\∀ name,Xv name Q=Ab (mA name):=
 let ⟨Q,J,U⟩:=YA I.ns
 ⟨Q,⟨I.obj,rfl,rfl,J⟩,U⟩
def vK.some_of (r:vK (Ab v) o):∃ u,o=Ab u/\qJ v u:=by
 cases o with
 |none=>exact(show Ex from r).elim
 |some u=>exact⟨u,rfl,r⟩
section
variable {P:Bi}{w:Bz}{H:Hp}{h:Bt}{a C dx:Af}{fs:Aa (As × V)}
def MA (Q:gw P w H h)(e:H a=Ab (.ins C dx fs)):∃ mA,wf h a dx C mA/\(∀ f,vK (fs.lookup f) (mA f))/\Ac6 mA (fs.map (·.1))/\fs.length<=1000/\H dx=Ab (.own a):=by
 obtain⟨d,z,J,Y,mA,n,r,q⟩:=(show zE P w H h a (.ins C dx fs) from Q a _ e)
 exact⟨mA,⟨Y,n,J⟩,r,q,z,d⟩
end
structure Q_ (K:Ai)(C:Af):Prop where
 pg:AaI K C Str.empty=true
 hd:PySem.W.hasDictIn K C=true
 po:PySem.W.plainOver K C=true
 sa:Ou K (.ref C) "__setattr__" = Ab (Ab (.builtin "object.__setattr__"))
def Q_.get {K:Ai}(c:Q_ K C)(f:As):AaI K C f=true:=c.pg
section
variable {X:Cx}{aj:aa}{σ: St}{H:Hp}{s:Ag}{A:Bp}{E:ae}{Q:ae}{c:Ac}{b:Au}
inductive jv (K:Ai)(H:Hp):V->Ac->Prop where
 |non:jv K H .non (.type "NoneType")
 |bl (x:Au):jv K H (.bl x) (.type "bool")
 |int (i:An):jv K H (.int i) (.type "int")
 |str (x:As):jv K H (.str x) (.type "str")
 |flt (x:UInt64):jv K H (.flt x) (.type "float")
 |lst {a:Af} {xs:Aa V} (e:H a=Ab (.lst xs)):jv K H (.ref a) (.type "list")
 |frz {a:Af} {o:Cp} {xs:Aa V} (e:H a=Ab (.frz o (.lst xs))):jv K H (.ref a) (.type "list")
 |tup {a:Af} {xs:Aa V} (e:H a=Ab (.tup xs)):jv K H (.ref a) (.type "tuple")
 |dK {a:Af} {kvs:Aa (c_ × V)} (e:H a=Ab (.dK kvs)):jv K H (.ref a) (.type "dict")
 |dT {a:Af} {kvs:Aa (Aa c_ × V)} (e:H a=Ab (.dT kvs)):jv K H (.ref a) (.type "dict")
 |ins {a C dx:Af} {fs:Aa (As × V)} (e:H a=Ab (.ins C dx fs)) (cl:Q_ K C) (ha:Ou K (.ref C) "__class__" = Ab (Ab (.builtin "object.__class__")))
   (hn:Aa1 K (.builtin "object.__class__") "__get__" = Ab (Ab (.builtin "getset_descriptor.__get__"))) (htk:Ab8 K (.builtin "object.__class__")=Ab true)
   (hm:Yv K C (.type "object")=Ab true):jv K H (.ref a) (.ref C)
def Y0 {u t:Ac}(I:Inv X aj σ H s)(U:qJ x u)(ty:jv X.K H x t)(e:Me X.K t c=Ab b)(h:∀ tk,Q (.bool b) { s with toks:=tk }) :
  Aq (Av X.prog X.w) A (call (.builtin "isinstance") [u,c]) Q E s:=by
 cases ty with
 |non=>cases (show u=Cz from U);exact Et Aa2 I.kIn Hy e (λz=>nomatch z) h
 |bl y=>cases (show u=Fy y from U);exact Et Aa3 I.kIn Hy e (λz=>nomatch z) h
 |int i=>obtain⟨t,q⟩:=(show ∃ t,u=Qw i t from U);cases q;exact Et AaJ I.kIn Hy e (λz=>nomatch z) h
 |str y=>obtain⟨t,q⟩:=(show ∃ t,u=WP y t from U);cases q;exact Et AaK I.kIn Hy e (λz=>nomatch z) h
 |flt y=>obtain⟨t,q⟩:=(show ∃ t,u=Value.float y t from U);cases q;exact Et PySem.W.kitx_float I.kIn Hy e (λz=>nomatch z) h
 |@lst a N Y =>
  cases (show u=Cb a from U)
  obtain⟨_,_,n,_,G⟩:=(show zE X.prog X.w H s.heap a (.lst N) from I.hok a _ Y)
  exact Et Jw I.kIn ⟨_,G,rfl⟩ e (λz=>nomatch z) h
 |@frz a d N Y =>
  cases (show u=Cb a from U)
  obtain⟨_,_,_,n,_,G⟩:=(show zE X.prog X.w H s.heap a (.frz d (.lst N)) from I.hok a _ Y)
  exact Et Jw I.kIn ⟨_,G,rfl⟩ e (λz=>nomatch z) h
 |@tup a N Y =>
  cases (show u=Cb a from U)
  obtain⟨_,_,_,p⟩:=(show zE X.prog X.w H s.heap a (.tup N) from I.hok a _ Y)
  obtain⟨o,G,B,_⟩:=p;exact Et Oe I.kIn ⟨o,G,B⟩ e (λz=>nomatch z) h
 |@dK a L Y =>
  cases (show u=Cb a from U)
  obtain⟨_,_,v,_,p⟩:=(show zE X.prog X.w H s.heap a (.dK L) from I.hok a _ Y)
  obtain⟨o,l,g,G,B,_⟩:=p;exact Et Ox I.kIn ⟨o,G,B.1⟩ e (λz=>nomatch z) h
 |@dT a L Y =>
  cases (show u=Cb a from U)
  obtain⟨_,_,N,_,o,l,g,G,B,_⟩:=(show zE X.prog X.w H s.heap a (.dT L) from I.hok a _ Y)
  exact Et Ox I.kIn ⟨o,G,B.1⟩ e (λz=>nomatch z) h
 |@ins a C f m Y M w j T k =>
  cases (show u=Cb a from U)
  obtain⟨mA,O,_⟩:=MA I.hok Y;obtain⟨r,J,_⟩:=O.look;exact Et (PySem.W.kitx_own (M.get _) M.hd w j T k) I.kIn J e (λz=>nomatch z) h
end
end _L
namespace _L
variable {ps:Aa As}{K:Ai}{mg:ah}{kindOf:As->Ak Ip}{A:Bp}{am:Ep}
structure jt (k:Ah)(A:Bp):Prop where
 hd:A.handled=none
 dp:A.depth+3*k+5<Rx
 un:A.units+16*k+200<Eu
 gd:A.guards=Ab []
def jt.deeper {k:Ah}(r:jt (k+1) A)(ak:Ix):jt k (A.deeper ak):=
 ⟨r.hd,by have:=r.dp;show A.depth+1+3*k+5<_;lia,by have:=r.un;show A.units+3+16*k+200<_;lia,r.gd⟩
def jt.depth {k:Ah}(r:jt k A):A.depth<Rx:=by have:=r.dp;lia
def jt.units {k:Ah}(r:jt k A):A.units+64<Eu:=by have:=r.un;lia
def qB4:TA:=λ_ H Q=>Q [] H
section
variable {X:Cx}{e:By}{es:Aa By}{t:TA}{aq:Ev}
def CB:PA X [] qB4:=λ_ _ _ _ H Q I h=>Oy ⟨[],H,I,.nil,h⟩
def qB7 (t:TA):TE:=λσ H Q=>t σ H λJ Y=>J.length<=sizeLine/\∀ p,Y p=none->Q (.ref p) (cc Y p (.tup J))
def qB3 (t:TA):TE:=λσ H Q=>t σ H λJ Y=>J.length<=sizeLine/\∀ p,Y p=none->Q (.ref p) (cc Y p (.lst J))
def CH  (h:PA X es t):PE X (.Tuple es x1 aq) (qB7 t):=by
 intro O s σ H Q I N;refine wpAny_Tuple_spliced (bv (h aq O s σ H _ I N) λG Y ⟨B,U,J,r,z,q⟩=>⟨by rw[<- r.length];exact z,?_⟩)
 have C:U Y.heap.objs.size=none:=J.hok.fresh (Ax _);refine⟨.ref Y.heap.objs.size,cc U Y.heap.objs.size (.tup B),J.laid (t':=Y.toks) (λb u e=>Aj _ e) (Ax _) ?_,rfl,q _ C⟩;exact⟨z,G,r,⟨_,Bl _ rfl,rfl,_,rfl⟩⟩
def YX (h:PA X es t):PE X (.List es aq) (qB3 t):=by
 intro O s σ H Q I N;refine wpAny_List_spliced (bv (h aq O s σ H _ I N) λG Y ⟨B,U,J,r,z,q⟩=>⟨by rw[<- r.length];exact z,?_⟩)
 have C:U Y.heap.objs.size=none:=J.hok.fresh (Ax _);refine⟨.ref Y.heap.objs.size,cc U Y.heap.objs.size (.lst B),J.laid (t':=Y.toks) (λb u e=>Aj _ e) (Ax _) ?_,rfl,q _ C⟩;exact⟨z,G,0,r,Bl _ rfl⟩
end
abbrev Sp:=Aa V->Hp->VK->XK->Prop
abbrev uh:=Aa Ix->Hp->Ag->XK->Ac->Ag->Prop
structure mx (P:Bi)(w:Bz)(K:Ai)(mg:ah)(base:Bt)(A:Bp)(outer:Aa Ix)(s:Ag)(H:Hp):Prop where
 frames:A.frames=Ab outer
 mod:Mod K mg base
 bs:∀ b o,base.get? b=Ab o->s.heap.get? b=Ab o/\H b=none
 bsz:base.objs.size<=s.heap.objs.size
 funs:s.heap.FunFrames base outer
 frf:∀ b∈il outer,H b=none
 hok:gw P w H s.heap
 bare:Ps s.gens
def CE (J:Aa Ix)(P:Bi)(w:Bz)(H:Hp)(s:Ag)(Q:VK)(u:Ac)(s':Ag):Prop:=
 ∃ v Y,s'.os=s.os/\Ps s'.gens/\Un (il J) [] H Y s.heap s'.heap/\gw P w Y s'.heap/\qJ v u/\Q v Y
def CR (CX:uh)(Y:Aa Ix)(P:Bi)(w:Bz)(H:Hp)(s:Ag)(Q:VK)(E:XK)(r:Zp)(s':Ag):Prop:=
 match r with
 |.ok (.ret u)=>CE Y P w H s Q u s'
 |.ok _=>Ex
 |.error e=>CX Y H s E e s'
structure nk (P:Bi)(w:Bz)(K:Ai)(mg:ah)(base:Bt)(CX:uh)(k:Ah)(f:Af)(fd:Gc)(ps:Aa As)(sp:Sp):Prop where
 len:∀ vs H Q E,sp vs H Q E->vs.length=ps.length
 run:∀ (A:Bp) (outer:Aa Ix) (s:Ag) (H:Hp) (args:Args) (us:ai) (vs:Aa V) (Q:VK) (E:XK),jt k A->mx P w K mg base A outer s H->Pv s fd args (ps.zip us)->qM vs us->sp vs H Q E ->
  Ik (Av P w) A (.call (.ref f) args) (CR CX outer P w H s Q E) s
section
variable {X:Cx}{aj:aa}{σ: St}{H:Hp}{s s':Ag}
def Inv.env0 (I:Inv X aj σ H s):mx X.prog X.w X.K X.mg X.base X.A X.stack s H:=
 ⟨I.ok.frames,I.ok.mod,I.bs,Cg I.ok.bsz I.sz,I.stack,I.stkFree,I.hok,I.bare⟩
def Inv.after (I:Inv X aj σ H s)(h:CE X.stack X.prog X.w H s Q u s'):EP X aj σ Q u s':=by
 obtain⟨v,G,os,Y,N,U,r,q⟩:=h;obtain⟨O,g,d,t,J⟩:=s';obtain rfl:J=s.os:=os;exact⟨v,G,I.call (h':=O) (g':=g) (d':=d) (t':=t) (ch:=[]) N U Y (λb z=>absurd z bB),r,q⟩
end
def vS (K:Ai)(fd:Gc)(ps:Aa As)(ds:ai):Prop:=
 ∀ (s:Ag) (Q:ai),K.In s.heap->(Q++ds).length=ps.length->Pv s fd ⟨Q,[]⟩ (ps.zip (Q++ds))
def vS.all (h:∀ us:Aa Ac,us.length=ps.length->Wd fd ⟨us,[]⟩=pure (ps.zip us)):vS K fd ps []:=λs us _ Q=>by
 rw[Fk] at Q ⊢;exact .of_eq (h us Q)
structure dc (N P:Aa As)(sc:Ep):Prop where
 kind:sc.kind=.function
 co:sc.isCoroutine=false
 gen:sc.isGenerator=false
 nd:N.Nodup
 pre:N.take P.length=P
 par:∀ x∈P,sc.names.lookup x=Ab .local \/ sc.names.lookup x=Ab .cell
 nofree:∀ y∈sc.names,y.2≠.free
theorem dZ {x:As}:∀ {Q:Aa (As × Ac)} {m:ah},(∀ v,(x,v) ∉ Q)->Yw kindOf Q m x=m x
 |[],_,_=>rfl
 |(n,v)::r,m,h=>by
  unfold Yw;rw[dZ λw Y=>h w (Cs _ Y)]
  split
  .have:x≠n:=by rintro rfl;exact h v DL
   simp[this]
  .rfl
theorem dX {x:As}:∀ {Q:Aa (As × Ac)} {m:ah},(∀ v,(x,v) ∉ Q)->Yx kindOf Q m x=m x
 |[],_,_=>rfl
 |(n,v)::r,m,h=>by
  unfold Yx;rw[dX λw Y=>h w (Cs _ Y)]
  split
  .rfl
  .have:x≠n:=by rintro rfl;exact h v DL
   simp[this]
theorem dY:∀ {P:Aa As} {vs:ai} {i:Ah} {m:ah},P.Nodup->P[i]? = Ab x->vs[i]? = Ab v->kindOf x=Ab .local ->
  Yw kindOf (P.zip vs) m x=Ab v
 |[],_,_,_,_,h,_,_=>by simp at h
 |_::_,[],_,_,_,_,h,_=>by simp at h
 |p::P,w::vs,0,m,U,Y,Q,J=>by
  simp at Y Q;subst Y;subst Q;show Yw kindOf ((p,w)::P.zip vs) m p=_;unfold Yw;rw[dZ λv hv=>(Iy.mp U).1 (No hv).1,Bg J];simp
 |p::P,w::vs,i+1,m,U,Y,Q,J=>by
  show Yw kindOf ((p,w)::P.zip vs) m x=_;unfold Yw;exact dY (i:=i) (Iy.mp U).2 (by simpa using Y) (by simpa using Q) J
theorem dW:∀ {P:Aa As} {vs:ai} {i:Ah} {m:ah},P.Nodup->P[i]? = Ab x->vs[i]? = Ab v->kindOf x≠Ab .local ->
  Yx kindOf (P.zip vs) m x=Ab v
 |[],_,_,_,_,h,_,_=>by simp at h
 |_::_,[],_,_,_,_,h,_=>by simp at h
 |p::P,w::vs,0,m,U,Y,Q,J=>by
  simp at Y Q;subst Y;subst Q;show Yx kindOf ((p,w)::P.zip vs) m p=_;unfold Yx;rw[dX λv hv=>(Iy.mp U).1 (No hv).1,Bd J];simp
 |p::P,w::vs,i+1,m,U,Y,Q,J=>by
  show Yx kindOf ((p,w)::P.zip vs) m x=_;unfold Yx;exact dW (i:=i) (Iy.mp U).2 (by simpa using Y) (by simpa using Q) J
def wA (N:Aa As)(vs:Aa V):St:=vs.map Ab++Dk (N.length-vs.length) none
noncomputable def lI (CX:uh)(P:Bi)(w:Bz)(K:Ai)(mg:ah)(base:Bt)(N:Aa As)(Y:As)(am:Ep)(f:Af)(cd:Ac)(A:Bp)(J:Aa Ix)(s:Ag)(H:Hp)(E:XK):Cx where
 prog:=P
 w:=w
 K:=K
 mg:=mg
 base:=base
 A:=A.deeper (Gu Y am s.heap.objs.size f cd)
 N:=N
 s₀:=s
 H₀:=H
 env:=Gu Y am s.heap.objs.size f cd
 outer:=J
 stack:=Gu Y am s.heap.objs.size f cd::J
 ex:=[]
 calm:=true
 fn:=λ_=>true
 pn:=[]
 xe:=λe U=>Aq (Av P w) (A.deeper (Gu Y am s.heap.objs.size f cd)) (leaving (Gu Y am s.heap.objs.size f cd) e) (λ_ Q=>CX J H s E e Q) (λG Q=>CX J H s E G Q) U
def eQ {Q:Ep}(h:Q.names.lookup x=Ab .cell):∃ c,(Il n Q.names []).lookup x=Ab c:=by
 have q:=Ld Q.names n [] (.inl h);exact Iw.mp q
def sN {CX:uh}{P:Bi}{w:Bz}{base:Bt}{N:Aa As}{O:As}{f:Af}{cd:Ac}{L:Aa Ix}{s I:Ag}{H:Hp}{E:XK}{us:ai}{vs:Aa V}
  (S:dc N ps am) (g:A.handled=none) (Y:mx P w K mg base A L s H) (d:vs.length=ps.length) (r:qM vs us)
  (x:InCallC s s.heap.objs.size (Yw (Gu O am s.heap.objs.size f cd).kindOf (ps.zip us) λ_=>none) (Il (s.heap.objs.size+1) am.names []) (Yx (Gu O am s.heap.objs.size f cd).kindOf (ps.zip us) λ_=>none) I) :
  Inv (lI CX P w K mg base N O am f cd A L s H E) [] (wA N vs) H I:=by
 have l:ps.length<=N.length:=by have:=congrArg Np S.pre;rw[Gh] at this;lia
 obtain⟨B,t,rfl,M⟩:=x.done;have J:∀ b:Af,b ∉ (lI CX P w K mg base N O am f cd A L s H E).ex:=λb z=>absurd (show b∈([]:ag) from z) bB
 refine⟨⟨Y.mod,S.kind,rfl,rfl,Ax _,λy z c B Q=>?_,λy hy=>?_,λy c _ h=>?_,λ_=>g,Qq Y.frames,.inr ⟨rfl,rfl⟩,λb z=>absurd z (J b),Y.bs,Y.bsz,λb _ _=>J b,λb z=>absurd z (J b),Y.funs,Y.frf⟩,
  rfl,Y.bare,Un.kept M,⟨_,x.toInCall.ns,λi y v B Q m=>?_⟩,λy c h=>⟨_,x.cell y c h⟩,Y.hok.fresh (Ax _),λy c h=>?_,λp G=>absurd (show p∈([]:aa) from G) bB,Y.hok.kept M,?_⟩
 .exact name_of_addr x.apart (Fn B) (Fn Q)
 .have hy:am.names.lookup y=Ab .cell\/am.names.lookup y=Ab .free:=hy
  rcases hy with hy|hy
  .exact eQ hy
  .exact absurd rfl (S.nofree _ (Fn hy))
 .exact Eo (x.above y c (Fn h))
 .have C:i<vs.length:=by
   unfold wA at Q;by_cases C:i<vs.length
   .exact C
   .rw[Cq (by simpa using C)] at Q
    rw[Op] at Q
    split at Q <;> cases Q
  have o:vs[i]? = Ab v:=by
   unfold wA at Q;rw[Bb (by simpa using C),Do] at Q
   cases e:vs[i]? with
   |none=>rw[e] at Q;cases Q
   |some a=>rw[e] at Q;cases Q;rfl
  obtain⟨u,T,j⟩:=r.get o;have G:ps[i]? = Ab y:=by
   rw[<- S.pre,Ob li];exact B
  have U:ps.Nodup:=by rw[<- S.pre];exact S.nd.sublist (Aa4 _ _)
  refine⟨u,j,?_⟩;rcases S.par y (Bw G) with k|k
  .exact .inl ⟨k,dY U G T k⟩
  .obtain⟨c,e⟩:=eQ (n:=s.heap.objs.size+1) k
   refine .inr ⟨.inl k,c,e,?_⟩;have q:=x.cell y c e;rw[dW U G T (by show am.names.lookup y≠_;rw[k];decide)] at q
   exact q
 .exact Y.hok.fresh (Eo (x.above y c (Fn h)))
 .unfold wA
  show _=N.length;rw[Bj,Ap,List.length_replicate]
  lia
theorem OH {CX:uh}{P:Bi}{w:Bz}{base:Bt}{k:Ah}{f:Af}{name O:As}{bp:Qy}{g:Aa Fb}{a kV M pm Y ct oc:Ac}{h od:Ak Af}
  {c:Az (Ak Ac)} {N ps:Aa As} {sp:Sp} (lk:K.lookup f=Ab ⟨oc,od,.func (He name O bp g am a kV M pm h Y ct),c⟩) (i:Mf K Y O=true) (S:dc N ps am)
  (j:∀ vs H Q E,sp vs H Q E->vs.length=ps.length)
  (C:∀ (A:Bp) (L:Aa Ix) (s:Ag) (H:Hp) (vs:Aa V) (Q:VK) (E:XK),jt k (A.deeper (Gu O am s.heap.objs.size f Y))->sp vs H Q E ->
   ∃ t,im (lI CX P w K mg base N O am f Y A L s H E) g t/\t { nx:=λ_ G=>Q .non G,rt:=Q } (wA N vs) H) :
  nk P w K mg base CX (k+1) f (He name O bp g am a kV M pm h Y ct) ps sp:=by
 refine⟨j,λA L s H cb us vs Q E m T hb r z=>?_⟩;have hl:=j _ _ _ _ z;have KX:K.In s.heap:=T.mod.kin.keeps λb o e=>(T.bs b o e).1;have bq:s.heap.NoLimit:=T.mod.nolimit.keeps λb o e=>(T.bs b o e).1;have B:∀ y∈ps.zip us,am.names.lookup y.1=Ab .local \/ (am.names.lookup y.1=Ab .cell/\((Il (s.heap.objs.size+1) am.names []).lookup y.1).isSome=true):=λ⟨n,v⟩ hy=>by
  rcases S.par n (No hy).1 with q|q
  .exact .inl q
  .exact .inr ⟨q,Ld _ _ _ (.inl q)⟩
 refine Xa m.depth (KX _ _ lk) rfl S.co S.gen rfl (Zu KX i) (hb _ _ _ _ ?_);refine So S.kind B λak he s1 x=>?_;subst he;refine⟨bq.keeps x.toInCall.keep,codeAny_func ?_⟩;obtain⟨t,ht,hq⟩:=C A L s H vs Q E (m.deeper _) z;have I:Inv (lI CX P w K mg base N O am f Y A L s H E) [] (wA N vs) H s1:=sN S m.hd T hl r x;refine Gr (ht [] s1 (wA N vs) H _ I hq) (λfl l hs=>?_) λe l hs=>hs;have p:∀ {U : St} {G:Hp} {v:V} {u:Ac},Inv (lI CX P w K mg base N O am f Y A L s H E) [] U G l->qJ v u->Q v G->CE L P w H s Q u l:=
  λ{U G v u} J d q=>⟨v,G,J.os,J.bare,J.base,J.hok,d,q⟩
 cases fl with
 |ret u =>
  obtain⟨v,U,G,J,d,q⟩:=hs;exact p J d q
 |next =>
  obtain⟨U,G,J,q⟩:=hs;exact p (v:=V.non) (u:=Cz) J rfl q
 |brk =>
  obtain⟨_,_,_,q⟩:=hs;exact Ao q
 |cont =>
  obtain⟨_,_,_,q⟩:=hs;exact Ao q
end _L
namespace _H
variable {Q:ae}{lo hi:Ak An}{items:Az Ac}
noncomputable def lexLt:Aa An->Aa An->Au
 |[],[]=>false
 |[],_::_=>true
 |_::_,[]=>false
 |x::J,y::Y=>if x=y then lexLt J Y else decide (x<y)
def ba (x y:An)(xs Y:Aa An):lexLt (x::xs) (y::Y)=if x=y then lexLt xs Y else decide (x<y):=rfl
def ip:lexLt [] []=false:=rfl
def d8 (y:An)(Y:Aa An):lexLt [] (y::Y)=true:=rfl
def d7 (x:An)(xs:Aa An):lexLt (x::xs) [] = false:=rfl
def JF (A:Bp)(s:Ag)(a:An)(t:Tf)(c:An)(u:Tf):∃ e,SeqAt.EqAt A s (.int a t) (.int c u) e/\(e=true↔a=c):=
 ⟨(a == c),SeqAt.EqAt.int_int a t c u,by simp⟩
def GW (A:Bp)(s:Ag)(a:An)(t:Tf)(c:An)(u:Tf)(prog:Bi)(w:Bz)(E:ae)(Q:ae)(h:Q (.bool (decide (a<c))) s) :
  Aq (Av prog w) A (richCompare .Lt (.int a t) (.int c u)) Q E s:=
 (Rp h:Aq (Av prog w) A (Cy .Lt (.int a t) (.int c u)) Q E s)
section
open PySem.SeqAt
open PySem.AutoSeq1 (wpAny_loadPart')
open PySem.MeetsSeq PySem.MeetsSeq2 PySem.MeetsSeq3
def rE (l b:Af)(items Y:Az Ac)(n n2:Ah)(dd r:Ak Af)(sl m:Az (Ak Ac))(z p:Aa An)(hi:Mi items.toList z)(hj:Mi Y.toList p) :
  Meets (Hz.«tuple.__lt__» ⟨[.ref l,.ref b],[]⟩)
   (λ_ R s=>s.heap.get? l=Ab { cls:=.type "tuple",dict:=dd,data:=.seq items n,slots:=sl } /\ s.heap.get? b=Ab { cls:=.type "tuple",dict:=r,data:=.seq Y n2,slots:=m } /\
    R (.ok (.ret (.bool (lexLt z p)))) s):=
 .of_wp λC w A R s h=>by
  obtain⟨v,g,d,o,os⟩:=s;obtain⟨hl,hb,h⟩:=h;have f2:=Ug;have z1:items.size=z.length:=by rw[<- hi.length];simp
  have z2:Y.size=p.length:=by rw[<- hj.length];simp
  wp_walk using wpAny_loadPart' hl,wpAny_loadPart' hb,Mt _ (λay b i=>b.1=none/\i=⟨v,g,d,o,os⟩/\∃ (k j:ai) (U G:Aa An),ay=k.zip j /\
   Mi k U/\Mi j G/\U.length+Y.size=G.length+items.size/\R (.ok (.ret (.bool (lexLt U G)))) ⟨v,g,d,o,os⟩) _
  case turn =>
   rintro⟨y,x⟩ ay b i ⟨T,rfl,k,j,U,G,N,I,O,J,L⟩;cases I with
   |nil=>rw[List.zip_nil_left] at N;cases N
   |cons a t M =>
    cases O with
    |nil=>rw[List.zip_nil_right] at N;cases N
    |cons c u H =>
     rw[Jm] at N;injection N with zb E
     injection zb with hy hx
     subst hy hx;rw[ba] at L;simp only[Bs] at J;obtain⟨e,he,B⟩:=JF A.in1 ⟨v,g,d,o,os⟩ a t c u;refine Ad (he C w _ _ ?_);cases e with
     |true =>
      rw[Bg (B.mp rfl)] at L
      wp_walk
      exact⟨rfl,rfl,_,_,_,_,E,M,H,by lia,L⟩
     |false =>
      rw[Bd (λq=>absurd (B.mpr q) En)] at L;have f:=GW A.in1 ⟨v,g,d,o,os⟩ a t c u C w
      wp_walk using f
      exact⟨_,rfl,by simpa using L⟩
  case fin =>
   rintro⟨b1,b2⟩ i ⟨T,rfl,k,j,U,G,N,I,O,J,L⟩;simp only at T;subst T;have hv:lexLt U G=decide (items.size<Y.size):=by
    cases I with
    |nil =>
     cases O with
     |nil =>
      simp only[Fc] at J;rw[ip];exact(Co li).symm
     |cons c u hw =>
      simp only[Fc,Bs] at J;rw[d8];exact(Dc li).symm
    |cons a t hv =>
     cases O with
     |nil =>
      simp only[Fc,Bs] at J;rw[d7];exact(Co li).symm
     |cons c u hw =>
      rw[Jm] at N;cases N
   rw[hv] at L
   wp_walk
   exact⟨_,rfl,by simpa [Pw] using L⟩
  case h =>
   exact⟨rfl,rfl,items.toList,Y.toList,z,p,rfl,hi,hj,by lia,h⟩
end
section
variable {prog:Bi}{w:Bz}{A:Bp}{E:ae}{s:Ag}
def n_ {l b:Af}(j:Rw s.heap l items)(M:Rw s.heap b Y)(hi:Mi items.toList U)(z:Mi Y.toList G)
  (y:A.units<Eu) (h:Q (.bool (lexLt U G)) s):Aq (Av prog w) A (Cy .Lt (.ref l) (.ref b)) Q E s:=by
 obtain⟨⟨cls,k,data,sl⟩,I,T,n,L⟩:=id j;obtain⟨⟨H,C,data2,B⟩,O,N,u,J⟩:=id M;simp only at T L N J;subst T L N J;exact We (op:=.Lt) ⟨_,I,rfl⟩ ⟨_,O,rfl⟩ Xb Wf (Vh _ _) (rE l b items Y n u k C sl B U G hi z)
  ⟨I,O,show Fy (lexLt U G)≠Yg/\Q (.bool (lexLt U G)) s from⟨(λx=>nomatch x),h⟩⟩ y
def tm {t b:Af}{vs Y:ai}(j:Rw s.heap t vs.toArray)(z:Rw s.heap b Y.toArray)(hv:vs≠[])
  (h1:Y=[]->Q (.ref t) s) (h2:Y≠[]->Q (.ref s.heap.objs.size) { s with heap:=s.heap.push { cls:=.type "tuple",data:=.seq (vs++Y).toArray } })
  (hsz:vs.length+Y.length<=sizeLine):Aq (Av prog w) A (Ej .Add (.ref t) (.ref b)) Q E s:=by
 obtain⟨⟨cls,H,data,sl⟩,B,T,n,L⟩:=id j;obtain⟨⟨I,G,data2,N⟩,J,O,M,U⟩:=id z;simp only at T L O U;subst T L O U;have e:vs.toArray++Y.toArray=(vs++Y).toArray:=by simp
 by_cases C:Y=[]
 .exact t0 ⟨_,B,rfl⟩ ⟨_,J,rfl⟩ Uu Yy Ph Oq (Oc _ _)
   (tuple_addW1 t b vs.toArray Y.toArray n M H G sl N (by simpa using hv) (by simp[C])) ⟨B,J,h1 C⟩
 .refine t0 ⟨_,B,rfl⟩ ⟨_,J,rfl⟩ Uu Yy Ph Oq (Oc _ _)
   (tuple_addW2 t b vs.toArray Y.toArray n M H G sl N (by simpa using hv) (by simpa using C) (by rw[Be,Be];exact hsz)) ⟨B,J,?_⟩
  rw[e];exact h2 C
noncomputable def cy (n d:Ah):Ak An->Ah
 |none=>d
 |some v=>if v<0 then (v+(n:An)).toNat else min v.toNat n
def AJ (n d:Ah)(Y:d<=n)(o:Ak An):cy n d o<=n:=by
 cases o with
 |none=>exact Y
 |some v =>
  show (if v<0 then (v+(n:An)).toNat else min v.toNat n)<=n
  by_cases hv:v<0
  .rw[Bg hv];lia
  .rw[Bd hv];exact Nat.min_le_right _ _
def iV (v:An)(n d:Ah):(if v<0 then max (v+(n:An)) 0 else min v (n:An))=((cy n d (Ab v):Ah):An):=by
 show (if v<0 then max (v+(n:An)) 0 else min v (n:An))=(((if v<0 then (v+(n:An)).toNat else min v.toNat n):Ah):An)
 by_cases hv:v<0
 .simp only[Bg hv];lia
 .simp only[Bd hv];lia
def ZD (lo hi:Ak An)(n:Ah):Gd lo hi 1 (n:An)=(((cy n 0 lo:Ah):An),((cy n n hi:Ah):An)):=by
 have Y:¬ ((1:An)<0):=by lia
 unfold Gd;simp only[Y,Dx];refine Zq ?_ ?_
 .cases lo with
  |none=>rfl
  |some v=>exact iV v n 0
 .cases hi with
  |none=>rfl
  |some v=>exact iV v n n
def XC (i j:Ah):Gx (i:An) (j:An) 1=j-i:=by
 unfold Gx;have Y:(1:An)>0:=by lia
 simp only[Y,Eb,Int.ediv_one]
 split <;> lia
def l8 {Q:Ak An->Ag->Prop}(p:Sr v o)(h:Q o s):Aq (Av prog w) A (Builtin.Slice.slicePartIndex v) Q E s:=by
 cases p with
 |none=>exact Ry h
 |int i t=>exact slicePart_int h
def jJ {sl:Af}{n:Ah}{Q:An × An × Ah->Ag->Prop}(hs:s.heap.IsSliceOf sl G U .none)(pl:Sr G lo)(N:Sr U hi)
  (h:Q (((cy n 0 lo:Ah):An),1,cy n n hi-cy n 0 lo) s):Aq (Av prog w) A (Jp (.ref sl) (pure (n:An))) Q E s:=by
 obtain⟨os,J,O,Y⟩:=id hs;unfold Jp Ti;refine Ad (Ad (Ez J Y (x:=G) rfl (Ad (Ez J Y (x:=U) rfl (Ad (Ez J Y (x:=.none) rfl (Am ?_)))))));refine Ad (Ry ?_);show Aq _ _ (if ((1:An) == 0)=true then _ else _) _ _ s
 rw[Bd bU]
 refine Ad (l8 pl (Ad (l8 N (Ad (Am ?_)))));show Aq _ _ (match Gd lo hi 1 (n:An) with|(lo,hi)=>pure (lo,(1:An),Gx lo hi 1)) _ _ s
 rw[ZD lo hi n];show Aq _ _ (pure (((cy n 0 lo:Ah):An),(1:An),Gx ((cy n 0 lo:Ah):An) ((cy n n hi:Ah):An) 1)) _ _ s;rw[XC];exact Am h
def GB (xs:Az Ac)(i k:Ah):((Cf k).filterMap λ(m:Ah)=>xs[((i:An)+(m:An)*1).toNat]?).toArray=((xs.toList.drop i).take k).toArray:=by
 have e:(λ(m:Ah)=>xs[((i:An)+(m:An)*1).toNat]?)=λm=>xs[i+m]?:=by
  funext m
  have:((i:An)+(m:An)*1).toNat=i+m:=by lia
  rw[this]
 rw[e];have:=pick_run xs i k;rw[List.filterMap_map] at this;have Y:((λx=>xs[x]?)∘λx=>i+x)=λm=>xs[i+m]?:=rfl;rw[Y] at this;rw[this]
def jm {t sl:Af}(J:Rw s.heap t items)(hs:s.heap.IsSliceOf sl B C .none)(pl:Sr B lo)(T:Sr C hi)
  (hw:¬ (cy items.size 0 lo=0/\cy items.size items.size hi=items.size))
  (h:Q (.ref s.heap.objs.size) { s with heap:=s.heap.push { cls:=.type "tuple",data:=.seq ((items.toList.drop (cy items.size 0 lo)).take (cy items.size items.size hi-cy items.size 0 lo)).toArray } })
  (hsz:items.size<=sizeLine):Aq (Av prog w) A (Mj (.ref t) (.ref sl)) Q E s:=by
 have Y:sizeOk (.seq ((items.toList.drop (cy items.size 0 lo)).take (cy items.size items.size hi-cy items.size 0 lo)).toArray):=by
  show ((items.toList.drop (cy items.size 0 lo)).take (cy items.size items.size hi-cy items.size 0 lo)).toArray.size<=sizeLine;rw[Be,Gh,Gs,Bu]
  lia
 have H:cy items.size items.size hi<=items.size:=AJ _ _ (Ax _) hi;obtain⟨os,N,G,L⟩:=id hs;have O:s.TypeIs (.ref sl) "slice":=⟨os,N,G⟩;unfold Mj
 try with_reducible refine Ee ?_
 first|refine Ad (Am ?_)|skip
 refine Ad (Tj J.typeIs bU ?_)
 refine Ad (Ed (name:=Ic "__getitem__") J.typeIs Du
  (Ef Du J.typeIs Rq ?_ (Sg _ _)))
 show Aq _ _ (Mu (.ref t) >>= _) _ _ s;refine Ad (Yz J ?_);refine Ad (Mn O ?_);rw[Bg bU]
 refine Ad (jJ hs pl T ?_);have U:¬ ((((cy items.size 0 lo:Ah):An) == 0&&(1:An) == 1&&(cy items.size items.size hi-cy items.size 0 lo) == items.size)=true):=by
  intro q;rw[Aw,Aw] at q;have I:((cy items.size 0 lo:Ah):An)=0:=eq_of_beq q.1.1;have M:cy items.size items.size hi-cy items.size 0 lo=items.size:=eq_of_beq q.2;exact hw ⟨by lia,by lia⟩
 show Aq _ _ (if (((cy items.size 0 lo:Ah):An) == 0&&(1:An) == 1&&(cy items.size items.size hi-cy items.size 0 lo) == items.size)=true then _ else _) _ _ s
 rw[Bd U,GB]
 first
  |exact Ad (m:=Fj _) (De (Am ⟨_,rfl,Am h⟩) Y)
  |exact Ad (m:=Fj _) (De (Ad (Am (Am ⟨_,rfl,Am h⟩))) Y)
  |exact Ad (Ad (m:=Fj _) (De (Am (Am ⟨_,rfl,Am h⟩)) Y))
  |exact Ad (Ad (m:=Fj _) (De (Am ⟨_,rfl,Am h⟩) Y))
end
end _H
namespace _L
abbrev TO:=St->Hp->(Ak An->Hp->Prop)->Prop
def PO (X:Cx)(e:Ak By)(t:TO):Prop:=
 ∀ (J:aa) (s:Ag) (σ : St) (H:Hp) (Q:Ak An->Hp->Prop),Inv X J σ H s->t σ H Q ->
  ce X (evalPart e X.env) (λu U=>∃ o Y,Inv X J σ Y U/\Sr u o/\Q o Y) X.xe s
def L6:TO:=λ_ H Q=>Q none H
def qAt (t:TE):TO:=λσ H Q=>t σ H λx Y=>∃ i,x=.int i/\Q (Ab i) Y
def ZW {Q:Aa An}:∀ {us:ai},qM (Q.map V.int) us->Mi us Q:=by
 induction Q with
 |nil=>intro us r;rw[u8] at r;cases r;exact .nil
 |cons n Q J =>
  intro us r;rw[Cu] at r;cases r with
  |cons Y U =>
   obtain⟨t,e⟩:=Y;subst e;exact .cons n t (J U)
section
variable {X:Cx}{e:By}{te:TE}{lo hi:Ak By}{tl th:TO}{aq p2:Ev}
def N4:PO X none L6:=by
 intro Y s σ H Q I h;rw[Za];exact Am ⟨none,H,I,.none,h⟩
def N5 (h:PE X e te):PO X (Ab e) (qAt te):=by
 intro G s σ H Q I J;rw[evalPart_some];refine bv (h G s σ H _ I J) λu C ⟨x,O,U,N,Y⟩=>?_;obtain⟨i,rfl,q⟩:=Y;obtain⟨t,rfl⟩:=N;exact⟨Ab i,O,U,.int i t,q⟩
def u_ (X:Cx)(r:V->Ak An->Ak An->Hp->VK->Prop):Prop:=
 ∀ (U:aa) (s:Ag) (σ : St) (H:Hp) (x:V) (v J Y:Ac) (lo hi:Ak An) (sl:Af) (Q:VK),Inv X U σ H s->qJ x v->s.heap.IsSliceOf sl J Y .none->Sr J lo->Sr Y hi->r x lo hi H Q ->
  ∃ T id,typeLookup (.type T) "__getitem__" = pure (Ab (.builtin id))/\s.TypeIs v T/\ce X (Mj v (.ref sl)) (EP X U σ Q) X.xe s
def u_.or {r J:V->Ak An->Ak An->Hp->VK->Prop}(h:u_ X r)(h':u_ X J):u_ X (λx lo hi H Q=>r x lo hi H Q\/J x lo hi H Q):=by
 intro G s σ H x v U Y lo hi sl Q I O hs pl N q;rcases q with q|q
 .exact h G s σ H x v U Y lo hi sl Q I O hs pl N q
 .exact h' G s σ H x v U Y lo hi sl Q I O hs pl N q
def _z (r:V->Ak An->Ak An->Hp->VK->Prop)(te:TE)(tl th:TO):TE:=λσ H Q=>te σ H λx J=>tl σ J λl Y=>th σ Y λu U=>r x l u U Q
def G8 {r:V->Ak An->Ak An->Hp->VK->Prop}(k:u_ X r)(A:PE X e te)(E:PO X lo tl)(M:PO X hi th):PE X (.Subscript e (.Slice lo hi none p2) aq) (_z r te tl th):=by
 intro J s σ H Q I h;refine Zb (bv (A J s σ H _ I h) λv z ⟨x,t,C,f,p⟩=>?_);refine wpAny_Slice (bv (E J z σ t _ C p) λU o ⟨l,g,y,pl,w⟩=>bv (M J o σ g _ y w) λG Y ⟨u,N,d,L,m⟩=>?_);rw[Za];refine Am ?_;have B:Inv X J σ N { Y with heap:=Y.heap.push { cls:=.type "slice",data:=.fields #[U,G,.none] } }:=d.kept (t':=Y.toks) λb n q=>Aj _ q
 obtain⟨T,id,O,j,c⟩:=k J { Y with heap:=Y.heap.push { cls:=.type "slice",data:=.fields #[U,G,.none] } } σ N x v U G l u Y.heap.objs.size Q B f (Zv ..) pl L m
 show ce X (Tk e (.Slice lo hi none p2) v (.ref Y.heap.objs.size)) (EP X J σ Q) X.xe { Y with heap:=Y.heap.push { cls:=.type "slice",data:=.fields #[U,G,.none] } }
 exact tail_any (ops:=[.ref Y.heap.objs.size,v]) j O c (by with_unfolding_all rfl)
def pY (xs:Aa V)(lo hi:Ak An):Aa V:=(xs.drop (_H.cy xs.length 0 lo)).take (_H.cy xs.length xs.length hi-_H.cy xs.length 0 lo)
def fV (xs:Aa V)(lo hi:Ak An):(pY xs lo hi).length<=xs.length:=by
 unfold pY;rw[Gh,Gs]
 lia
def _Q (K:Ai):V->Ak An->Ak An->Hp->VK->Prop:=λx lo hi H Q=>∃ a Y,x=.ref a/\jh K H a Y /\
 ¬ (_H.cy Y.length 0 lo=0/\_H.cy Y.length Y.length hi=Y.length)/\∀ p,H p=none->Q (.ref p) (cc H p (.tup (pY Y lo hi)))
def AM:u_ X (_Q X.K):=by
 intro M s σ H x v E T lo hi sl Q I L hs pl B h;obtain⟨a,J,rfl,O,C,q⟩:=h;cases L;obtain⟨U,r,N,G⟩:=I.tuple O;have Y:U.toArray.size=J.length:=by rw[Be];exact r.length.symm
 refine⟨"tuple",_,Du.lookup,N.typeIs,?_⟩;refine _H.jm N hs pl B (by rw[Y];exact C) ?_ (by rw[Y];exact G)
 rw[Y];refine⟨.ref s.heap.objs.size,_,I.laid (t':=s.toks) (o:=.tup (pY J lo hi)) (λb A q=>Aj _ q) (Ax _) ?_,rfl,q _ (I.hok.fresh (Ax _))⟩;exact⟨Cg (fV J lo hi) G,_,(r.drop (_H.cy J.length 0 lo)).take (_H.cy J.length J.length hi-_H.cy J.length 0 lo),Aa0 _ _⟩
end
end _L
namespace _L
variable {aj:aa}{s:Ag}{H:Hp}{σ:St}
noncomputable def qm (n:Ah)(i:An):Ak Ah:=if 0<=i then (if i<n then Ab i.toNat else none) else if -(n:An)<=i then Ab (i+n).toNat else none
def ml {α:Type}(xs:Aa α)(i:An):Ak α:=(qm xs.length i).bind λj=>xs[j]?
def oJ (h:qm n i=Ab j):Aa5 i n=Ab j/\j<n /\ -(n:An)<=i/\i<n:=by
 unfold qm at h;by_cases Y:0<=i
 .rw[Bg Y] at h
  by_cases Q:i<n
  .rw[Bg Q] at h
   have e:i.toNat=j:=Dd h;exact⟨by rw[AaL Y Q,e],by lia,by lia,Q⟩
  .rw[Bd Q] at h;cases h
 .rw[Bd Y] at h
  by_cases Q : -(n:An)<=i
  .rw[Bg Q] at h
   have e:(i+n).toNat=j:=Dd h;exact⟨by rw[seqIndex_neg li Q,e],by lia,Q,by lia⟩
  .rw[Bd Q] at h;cases h
def iS {α:Type}{xs:Aa α}{v:α}(h:ml xs i=Ab v):∃ j,Aa5 i xs.length=Ab j/\xs[j]? = Ab v/\j<xs.length /\ -(xs.length:An)<=i/\i<xs.length:=by
 unfold ml at h;cases e:qm xs.length i with
 |none=>rw[e] at h;cases h
 |some j =>
  rw[e] at h;obtain⟨U,Y,J,Q⟩:=oJ e;exact⟨j,U,h,Y,J,Q⟩
def lD (b:By):Prop:=∀ o i,subscripted b false o i=operate [o,i] (Mj o i)
def vn (X:Cx)(r:R2):Prop:=
 ∀ (J Y:By) (aj:aa) (s:Ag) (σ : St) (H:Hp) (x y:V) (v u:Ac) (Q:VK),Inv X aj σ H s->qJ x v->qJ y u->r x y H Q ->
  subscripted Y false v u=operate [v,u] (Mj v u)->ce X (Tk J Y v u) (EP X aj σ Q) X.xe s
def yd (X:Cx)(id:Es)(r:V->Aa V->Hp->VK->Prop):Prop:=
 ∀ (aj:aa) (s:Ag) (σ : St) (H:Hp) (x:V) (J:Aa V) (v:Ac) (Y:ai) (Q:VK),Inv X aj σ H s->qJ x v->qM J Y->r x J H Q ->
  ce X (call (.builtin id) (v::Y)) (EP X aj σ Q) X.xe s
section
variable {X:Cx}{a b:By}{ta tb:TE}{aq:Ev}
def vn.or (h:vn X r)(h':vn X U):vn X (λx y H Q=>r x y H Q\/U x y H Q):=by
 intro Y J aj s σ H x y v u Q I N G q hs;rcases q with q|q
 .exact h Y J aj s σ H x y v u Q I N G q hs
 .exact h' Y J aj s σ H x y v u Q I N G q hs
def yd.or {id:Es}{r U:V->Aa V->Hp->VK->Prop}(h:yd X id r)(h':yd X id U):yd X id (λx xs H Q=>r x xs H Q\/U x xs H Q):=by
 intro aj s σ H x xs v Y Q I J rs q;rcases q with q|q
 .exact h aj s σ H x xs v Y Q I J rs q
 .exact h' aj s σ H x xs v Y Q I J rs q
def qAa (G:vn X r)(Y:PE X a ta)(N:PE X b tb)(hs:lD b):PE X (.Subscript a b aq) (_B r ta tb):=by
 intro aj s σ H Q I h;exact Zb (qBO Y N I h λv u O x y U J B C q=>G a b aj O σ U x y v u Q J B C q (hs _ _))
def _V (K:Ai):R2:=λx y H Q=>∃ p Y i v,x=.ref p/\y=.int i/\jw K H p Y/\ml Y i=Ab v/\Q v H
def _U (K:Ai):R2:=λx y H Q=>∃ p Y i v,x=.ref p/\y=.int i/\jh K H p Y/\ml Y i=Ab v/\Q v H
def oK:vn X (_V X.K):=by
 intro U O aj s σ H x y v u Q I c o h hs;obtain⟨p,n,i,z,rfl,rfl,k,g,q⟩:=h;cases c;obtain⟨t,rfl⟩:=o;obtain⟨N,r,pl,m⟩:=I.list k;obtain⟨j,J,E,f,T,A⟩:=iS g;obtain⟨w,B,C⟩:=r.get E;have l:=r.length;have d:=bF;have Y:EP X aj σ Q w s:=⟨z,H,I,C,q⟩;by_cases L:0<=i
 .have G:i.toNat=j:=by
   rw[AaL L A] at J;exact Dd J
  exact item_listR pl.isList L li (by rw[G];simpa using B) Y hs
 .have G:(i+(N.toArray.size:An)).toNat=j:=by
   rw[seqIndex_neg li T] at J;rw[Be,<- l];exact Dd J
  exact Wg (x:=w) pl.isList.typeIs slot_list_getitem.lookup
   (wpAny_getItem_list_neg (Q:=λr M=>r=w/\EP X aj σ Q r M) pl.isList li (by rw[Be] <;> lia) li (by rw[G];simpa using B) ⟨rfl,Y⟩) hs
def E9:vn X (_U X.K):=by
 intro Y U aj s σ H x y v u Q I k T h hs;obtain⟨p,f,i,z,rfl,rfl,L,A,q⟩:=h;cases k;obtain⟨t,rfl⟩:=T;obtain⟨B,r,pl,d⟩:=I.tuple L;obtain⟨j,M,N,c,o,g⟩:=iS A;obtain⟨w,O,G⟩:=r.get N;have E:=r.length;have l:=bF;have J:EP X aj σ Q w s:=⟨z,H,I,G,q⟩;exact Wg (x:=w) pl.typeIs slot_tuple_getitem.lookup
  (getItem_tuple (j:=j) (Q:=λr C=>r=w/\EP X aj σ Q r C) pl li li (by rw[Be,<- E];exact M) (by simpa using O) ⟨rfl,J⟩) hs
def X4 (its:ai)(n j:Ah)(u:Ac):Fg (·.setIfInBounds j u) { cls:=.type "list",data:=.seq its.toArray n } = { cls:=.type "list",data:=.seq (its.set j u).toArray n }:=by
 simp[Fg]
def Inv.lst {p:Af}{xs:Aa V}(I:Inv X aj σ H s)(h:H p=Ab (.lst xs)) :
  ∃ (its:ai) (n:Ah),qM xs its/\s.heap.get? p=Ab { cls:=.type "list",data:=.seq its.toArray n } /\ xs.length<=sizeLine:=by
 obtain⟨z,its,n,r,e⟩:=I.hok p _ h;exact⟨its,n,r,e,z⟩
def Inv.lstUpd {xs Y:Aa V}{its jl:ai}{n Q:Ah}{f:Cp->Cp}(I:Inv X aj σ H s)(h:H p=Ab (.lst xs))
  (G:s.heap.get? p=Ab { cls:=.type "list",data:=.seq its.toArray n }) (J:f { cls:=.type "list",data:=.seq its.toArray n } = { cls:=.type "list",data:=.seq jl.toArray Q }) (r:qM Y jl) (hz:Y.length<=sizeLine) (t:Ah) :
  Inv X aj σ (cc H p (.lst Y)) { s with heap:=s.heap.update p f,toks:=t }:=by
 have e:(s.heap.update p f).get? p=Ab { cls:=.type "list",data:=.seq jl.toArray Q }:=by
  rw[EQ f G (by rw[J] <;> rfl),J]
 refine I.write (x:=p) (e:=p) (by rw[h];trivial) (.inl rfl) (λb u U q=>(Dm _ _ (Gj U)).trans q) ⟨_,e⟩ ?_
 exact⟨hz,jl,Q,r,e⟩
def qAi:V->V->V->Hp->(Hp->Prop)->Prop:=λo i v H Q=>∃ p Y k j,o=.ref p/\i=.int k/\H p=Ab (.lst Y)/\qm Y.length k=Ab j/\Q (cc H p (.lst (Y.set j v)))
def P9:eF X qAi:=by
 intro aj s σ H o i v c d u Q I w E z h;obtain⟨p,y,k,j,rfl,rfl,B,A,q⟩:=h;cases w;obtain⟨t,rfl⟩:=E;obtain⟨Y,n,r,G,M⟩:=I.lst B;obtain⟨J,g,C,O⟩:=oJ A;have N:=r.length;have l:=bF;have T:Inv X aj σ (cc H p (.lst (y.set j v))) { s with heap:=s.heap.update p (Fg (·.setIfInBounds j u)) }:=
  I.lstUpd B G (X4 Y n j u) (r.set z j) (by rw[Wh];exact M) s.toks
 by_cases L:0<=k
 .have U:k.toNat=j:=by
   rw[AaL L O] at J;exact Dd J
  exact PySem.W.ki_setAt G L li (by rw[Be,<- N];exact O) (by rw[U];exact⟨_,T,q⟩)
 .have U:(k+(Y.toArray.size:An)).toNat=j:=by
   rw[seqIndex_neg li C] at J;rw[Be,<- N];exact Dd J
  exact PySem.W.ki_setBack G li (by rw[Be,<- N];exact C) li (by rw[U];exact⟨_,T,q⟩)
def aS (lo hi:Ak An)(n:Ah):(Nq lo hi none n).1=((_H.cy n 0 lo:Ah):An)/\(Nq lo hi none n).2.1=((_H.cy n n hi:Ah):An)/\(Nq lo hi none n).2.2=1:=by
 refine⟨?_,?_,rfl⟩
 .cases lo with
  |none=>simp[Nq,_H.cy]
  |some i =>
   simp only[Nq,_H.cy,AaM,show (1:An)>0 by decide,Eb]
   by_cases h:i<0
   .simp only[h,Eb] <;> lia
   .simp only[h,Dx] <;> lia
 .cases hi with
  |none=>simp[Nq,_H.cy]
  |some i =>
   simp only[Nq,_H.cy,AaM,show (1:An)>0 by decide,Eb]
   by_cases h:i<0
   .simp only[h,Eb] <;> lia
   .simp only[h,Dx] <;> lia
def rD (its:ai)(lo hi:Ak An):slicePick its.toArray lo hi none=((its.drop (_H.cy its.length 0 lo)).take (_H.cy its.length its.length hi-_H.cy its.length 0 lo)).toArray:=by
 obtain⟨J,Y,Q⟩:=aS lo hi its.toArray.size;unfold slicePick;rw[J,Y,Q];simp only[sliceRange_one,pick_run,Be] <;> rfl
def _R (K:Ai):V->Ak An->Ak An->Hp->VK->Prop:=λx lo J H Q=>∃ a Y,x=.ref a/\jw K H a Y/\∀ p,H p=none->Q (.ref p) (cc H p (.lst (pY Y lo J)))
def QJ:u_ X (_R X.K):=by
 intro aj s σ H x v E T lo U sl Q I L hs pl B h;obtain⟨a,Y,rfl,N,q⟩:=h;cases L;obtain⟨C,r,G,O⟩:=I.list N;have J:=r.length;refine⟨"list",_,slot_list_getitem.lookup,G.isList.typeIs,?_⟩;refine wpAny_getItem_list_slice G.isList hs pl B .none bB ?_ (by rw[Be] <;> lia)
 rw[rD,<- J];refine⟨.ref s.heap.objs.size,_,I.laid (t':=s.toks) (o:=.lst (pY Y lo U)) (λb A q=>Aj _ q) (Ax _) ?_,rfl,q _ (I.hok.fresh (Ax _))⟩;exact⟨Cg (fV Y lo U) O,_,0,(r.drop (_H.cy Y.length 0 lo)).take (_H.cy Y.length Y.length U-_H.cy Y.length 0 lo),Bl _ rfl⟩
def jN.or {r J:Aa V->Hp->VK->Prop}(h:jN X f r)(h':jN X f J):jN X f (λxs H Q=>r xs H Q\/J xs H Q):=by
 intro aj s σ H xs Y Q I rs q;rcases q with q|q
 .exact h aj s σ H xs Y Q I rs q
 .exact h' aj s σ H xs Y Q I rs q
def pU:jN X (.type "list") (λxs H Q=>∃ p N,xs=[.ref p]/\(jw X.K H p N\/jh X.K H p N)/\∀ l,H l=none->Q (.ref l) (cc H l (.lst N))):=by
 intro aj s σ H xs z Q I r h;obtain⟨p,N,rfl,hq,q⟩:=h;obtain⟨u,rfl,w⟩:=k8 r;cases w;have L:∀ (Y:ai),qM N Y->N.length<=sizeLine->∀ (J:Bt) (U:Ah),(∀ b M,s.heap.get? b=Ab M->J.get? b=Ab M) ->
   J.get? s.heap.objs.size=Ab { cls:=.type "list",dict:=none,data:=.seq Y.toArray U,slots:=#[] } -> EP X aj σ Q (.ref s.heap.objs.size) { s with heap:=J }:=λY G C J U O e =>
  ⟨.ref s.heap.objs.size,_,I.laid (t':=s.toks) O (Ax _) (show zE X.prog X.w _ J _ (.lst N) from⟨C,Y,U,G,e⟩),rfl,q _ (I.hok.fresh (Ax _))⟩
 rcases hq with hq|hq
 .obtain⟨Y,G,pl,C⟩:=I.list hq
  have B:=G.length;obtain⟨o,A,E,n,T⟩:=pl.isList;exact call_list_seq p (.inl rfl) A E T (λJ U O e=>L Y G C J U O e) (by simp only[Be] <;> lia)
 .obtain⟨Y,G,pl,C⟩:=I.tuple hq
  have B:=G.length;obtain⟨o,A,E,n,T⟩:=pl;exact call_list_seq p (.inr rfl) A E T (λJ U O e=>L Y G C J U O e) (by simp only[Be] <;> lia)
def pO:jN X (.type "tuple") (λxs H Q=>∃ p J,xs=[.ref p]/\((jw X.K H p J/\∀ l,H l=none->Q (.ref l) (cc H l (.tup J)))\/(jh X.K H p J/\Q (.ref p) H))):=by
 intro aj s σ H xs A Q I r h;obtain⟨p,J,rfl,h⟩:=h;obtain⟨u,rfl,E⟩:=k8 r;cases E;rcases h with⟨N,q⟩|⟨N,q⟩
 .obtain⟨Y,G,pl,O⟩:=I.list N
  have B:=G.length;refine call_tuple_list pl.isList (λU T=>?_) (by simp only[Be] <;> lia)
  have C:Inv X aj σ H { s with heap:=U }:=I.kept (t':=s.toks) T
  have L:Inv X aj σ (cc H U.objs.size (.tup J)) { s with heap:=U.push { cls:=.type "tuple",data:=.seq Y.toArray } }:=
   C.laid (t':=s.toks) (λb o e=>Aj _ e) (Ax _) (show zE X.prog X.w _ _ _ (.tup J) from⟨O,Y,G,Aa0 _ _⟩)
  exact⟨.ref U.objs.size,_,L,rfl,q _ (C.hok.fresh (Ax _))⟩
 .obtain⟨Y,G,pl,O⟩:=I.tuple N
  exact call_tuple_same pl ⟨.ref p,H,I,rfl,q⟩
def X_ (K:Ai)(T:Es)(x:V)(H:Hp):Prop:=match x with
 |.str _=>T = "str"
 |.int _=>T = "int"
 |.ref p=>(T = "list" /\ ∃ Y,jw K H p Y)\/(T = "tuple" /\ ∃ o,K.lookup p=Ab o/\o.cls=.type "tuple" /\ o.dict=none) \/
   (T = "dict" /\ ((∃ Q,H p=Ab (.dK Q))\/∃ Q,H p=Ab (.dT Q)))\/(T = "set" /\ ∃ S n,H p=Ab (.set S n))
 |_=>Ex
theorem AY (I:Inv X aj σ H s)(r:qJ x v)(ty:X_ X.K T x H) :
  s.TypeIs v T/\∀ a,v=.ref a->∃ G,s.heap.get? a=Ab G/\G.dict=none:=by
 cases x with
 |str z =>
  obtain⟨t,rfl⟩:=r;cases (show T = "str" from ty)
  exact⟨typeIs_str s z t,λ_ e=>nomatch e⟩
 |int i =>
  obtain⟨t,rfl⟩:=r;cases (show T = "int" from ty)
  exact⟨typeIs_int s i t,λ_ e=>nomatch e⟩
 |ref p =>
  cases r;rcases ty with⟨rfl,L,O⟩|⟨rfl,o,Q,N,U⟩|⟨rfl,Q⟩|⟨rfl,S,n,Q⟩
  .obtain⟨B,_,pl,_⟩:=I.list O
   refine⟨pl.isList.typeIs,λa e=>?_⟩;cases e;obtain⟨o,n,e,c,U,_⟩:=pl;exact⟨o,e,U⟩
  .refine⟨⟨o,I.kIn p o Q,N⟩,λa e=>?_⟩
   cases e;exact⟨o,I.kIn _ o Q,U⟩
  .have z:∃ o,s.heap.get? p=Ab o/\o.ExactDict:=by
    rcases Q with⟨C,Q⟩|⟨C,Q⟩
    .obtain⟨_,_,_,_,o,_,_,e,Y,_⟩:=I.hok p _ Q
     exact⟨o,e,Y⟩
    .obtain⟨_,_,_,_,o,_,_,e,Y,_⟩:=I.hok p _ Q
     exact⟨o,e,Y⟩
   obtain⟨o,e,Y⟩:=z;refine⟨⟨o,e,Y.1⟩,λa J=>?_⟩;cases J;exact⟨o,e,Y.2.1⟩
  .obtain⟨o,_,_,_,e,Y,_⟩:=I.hok p _ Q
   refine⟨⟨o,e,Y.1⟩,λa J=>?_⟩;cases J;exact⟨o,e,Y.2.1⟩
 |_=>exact Ao ty
variable {e:By}
/- xs.append(e),list.index on a module's tuple .. are yd facts of 06m -/
end
end _L
namespace _L
variable {us:ai}
def _n (X:Cx)(id:Es)(r:V->Aa V->Hp->VK->Prop):Prop:=
 ∀ (Y:aa) (s:Ag) (σ : St) (H:Hp) (x:V) (J:Aa V) (v:Ac) (us:ai) (Q:VK),Inv X Y σ H s->qJ x v->qM J us->r x J H Q ->
  ce X (call (.builtin id) (v::us)) (EP X Y σ Q) X.xe s
def qM.one {x:V}(h:qM [x] us):∃ u,us=[u]/\qJ x u:=k8 h
def qM.two {x y:V}(h:qM [x,y] us):∃ u v,us=[u,v]/\qJ x u/\qJ y v:=eA h
theorem qM.eraseIdx:∀ {xs:Aa V} {us:ai} (i:Ah),qM xs us->qM (xs.eraseIdx i) (us.eraseIdx i)
 |_,_,_,.nil=>.nil
 |_,_,0,.cons _ t=>t
 |_,_,i+1,.cons r t=>.cons r (qM.eraseIdx i t)
theorem qM.rep (h:qM xs us):∀ k:Ah,qM (Dk k xs).flatten (Dk k us).flatten
 |0=>.nil
 |k+1=>by
  rw[Gy,Gy,IN,IN];exact qM.append h (qM.rep h k)
theorem sR {α:Type}:∀ (l:Aa α) (i:Ah),(l.eraseIdx i).length<=l.length
 |[],_=>Ax _
 |_::_,0=>Ss _
 |_::r,i+1=>Nat.succ_le_succ (sR r i)
theorem sJ (its:ai):∀ (k:Ah) (aw:ai),
  AbH (λY Q=>Y++Q) aw.toArray (Dk k its.toArray)=(aw++(Dk k its).flatten).toArray
 |0,aw=>by simp
 |k+1,aw=>by
  have e:aw.toArray++its.toArray=(aw++its).toArray:=by simp
  have J:(aw++its)++(Dk k its).flatten=aw++(Dk (k+1) its).flatten:=by
   rw[Gy,IN,Cd]
  rw[<- J,<- sJ its k (aw++its),<- e,Gy,Wi]
section
variable {X:Cx}{aj:aa}{σ: St}{H:Hp}{s:Ag}{l:Af}{xs ys:Aa V}
def Inv.lset {its jl:ai}{n:Ah}{f:Az Ac->Az Ac}{t':Ah}(I:Inv X aj σ H s)(U:H l=Ab (.lst xs))
  (e:s.heap.get? l=Ab { cls:=.type "list",data:=.seq its.toArray n }) (Y:f its.toArray=jl.toArray) (hv:qM ys jl) (hz:ys.length<=sizeLine) :
  Inv X aj σ (cc H l (.lst ys)) { s with heap:=s.heap.update l (Fg f),toks:=t' }:=by
 have q:=AaN e f;rw[Y] at q;refine I.write (x:=l) (e:=l) (by rw[U];exact trivial) (.inl rfl) (λG u Q J=>(Dm s.heap (Fg f) (Gj Q)).trans J) ⟨_,q⟩ ?_
 exact⟨hz,jl,_,hv,q⟩
def Inv.lstM (I:Inv X aj σ H s)(Q:H l=Ab (.lst xs)):xs.length<=sizeLine/\∃ (its:ai) (n:Ah),qM xs its/\xs.length=its.length/\s.heap.get? l=Ab { cls:=.type "list",data:=.seq its.toArray n }:=by
 obtain⟨z,its,n,r,e⟩:=I.hok l _ Q;exact⟨z,its,n,r,r.length,e⟩
def KP {n:Ah}(h:n<=sizeLine):Od n=false:=by
 unfold Od;exact Co li
end
section
variable {X:Cx}
def NN:V->Aa V->Hp->VK->Prop:=λx J H Q=>∃ l Y y,x=.ref l/\J=[y]/\H l=Ab (.lst Y)/\Y.length<sizeLine/\Q .non (cc H l (.lst (Y++[y])))
def YJ:_n X "list.append" NN:=by
 intro B s σ H x C v us Q I G N h;obtain⟨l,T,y,rfl,rfl,J,O,q⟩:=h;cases G;obtain⟨u,rfl,U⟩:=N.one;obtain⟨z,Y,n,r,L,e⟩:=I.lstM J;refine Pi Zw ⟨_,e,rfl⟩ Zc (Yh _ _) (Aa6 l Y.toArray n u (by rw[Be];lia)) ⟨e,?_⟩
 refine⟨.non,_,I.lset (jl:=Y++[u]) J e bB (r.append (.cons U .nil)) ?_,rfl,q⟩
 rw[Bj,Lr]
 lia
def AE:V->Aa V->Hp->VK->Prop:=λx J H Q=>∃ l Y i k y,x=.ref l/\J=[.int i]/\H l=Ab (.lst Y) /\ -(2 ^ 63)<=i/\i<2 ^ 63/\Aa5 i Y.length=Ab k/\Y[k]? = Ab y/\Q y (cc H l (.lst (Y.eraseIdx k)))
def KL:_n X "list.pop" AE:=by
 intro o s σ H x j v us Q I T A h;obtain⟨l,M,i,k,y,rfl,rfl,U,E,N,O,G,q⟩:=h;cases T;obtain⟨u,rfl,C⟩:=A.one;obtain⟨t,rfl⟩:=C;obtain⟨z,Y,n,r,L,e⟩:=I.lstM U;obtain⟨w,B,J⟩:=r.get G;refine Pi F.slot_list_pop ⟨_,e,rfl⟩ F.entry_list_pop (F.args_list_pop_2 _ _)
  (MeetsSeq.list_pop_at l Y.toArray n i t k w (fitsIndex_both E N) (by rw[Be,<- L];exact O) (by rw[<- Bo];exact B) (by rw[Be];lia)) ⟨e,?_⟩
 refine⟨y,_,I.lset (jl:=Y.eraseIdx k) U e ?_ (r.eraseIdx k) ?_,J,q⟩
 .show Y.toArray.eraseIdxIfInBounds k=(Y.eraseIdx k).toArray
  rw[List.eraseIdxIfInBounds_toArray]
 .have:=sR M k
  lia
def MX {α:Type}(xs:Aa α)(k:Ah):(Dk k xs).flatten.length=k*xs.length:=by
 induction k with
 |zero=>simp
 |succ k Q=>rw[Gy,IN,Bj,Q,Nat.succ_mul,Vi]
end
end _L
namespace _L
variable {xs:Aa (Aa c_ × Af × Ac)}{ar:Aa (Aa c_ × V)}{Q:ae}{H':Hp}
section
variable {κ: Type}[Sm κ]
noncomputable def yK (ar:Aa (κ × V))(k:κ):Ak V:=(ar.find? λY=>decide (Y.1=k)).map (·.2)
noncomputable def vG (ar:Aa (κ × V))(k:κ)(v:V):Aa (κ × V):=
 if (ar.any λY=>decide (Y.1=k))=true then ar.map (λY=>if Y.1=k then (Y.1,v) else Y) else ar++[(k,v)]
def tL {p:κ × V}{r:Aa (κ × V)}{k:κ}(e:p.1=k):yK (p::r) k=Ab p.2:=by simp[yK,Ge,e]
def tK {p:κ × V}{r:Aa (κ × V)}{k:κ}(e:¬ p.1=k):yK (p::r) k=yK r k:=by simp[yK,Ge,e]
theorem i7 (k:κ):∀ ar:Aa (κ × V),(ar.any λY=>decide (Y.1=k))=(yK ar k).isSome
 |[]=>rfl
 |p::r=>by
  rw[Lf];by_cases e:p.1=k
  .simp only[tL e,Dc e,Bool.true_or,Zx]
  .rw[tK e,Co e,Bool.false_or];exact i7 k r
def fW (ar:Aa (κ × V))(k:κ)(v:V):(vG ar k v).length<=ar.length+1:=by
 unfold vG
 split
 .rw[Ap];lia
 .rw[Bj,Bs,Fc];lia
def vK.isSome_eq (r:vK o u):o.isSome=u.isSome:=by
 cases o with
 |none=>cases u with
  |none=>rfl
  |some _=>exact(show Ex from r).elim
 |some _=>cases u with
  |none=>exact(show Ex from r).elim
  |some _=>rfl
def vK.getD (r:vK o u)(Y:qJ d d'):qJ (o.getD d) (u.getD d'):=by
 cases o with
 |none=>cases u with
  |none=>exact Y
  |some _=>exact(show Ex from r).elim
 |some _=>cases u with
  |none=>exact(show Ex from r).elim
  |some _=>exact r
def KV.val {ar:Aa (κ × V)}(r:KV ar vs)(k:κ):vK (yK ar k) (Wj vs k):=by
 unfold KV at r
 induction r with
 |nil=>exact Hy
 |@cons p q O J h t G =>
  obtain⟨U,N⟩:=h;by_cases e:p.1=k
  .have Y:q.1=k:=U.symm.trans e
   have b:Wj (q::J) k=Ab q.2:=by simp[Wj,Ge,Y]
   rw[tL e,b];exact N
  .have Y:¬ q.1=k:=λz=>e (U.trans z)
   have b:Wj (q::J) k=Wj J k:=by simp[Wj,Ge,Y]
   rw[tK e,b];exact G
def KV.any {ar:Aa (κ × V)}(r:KV ar vs)(k:κ):(ar.any λY=>decide (Y.1=k))=vs.any λY=>decide (Y.1=k):=by
 unfold KV at r
 induction r with
 |nil=>rfl
 |cons h t J=>rw[Lf,Lf,J,h.1]
theorem KV.repl {ar:Aa (κ × V)}(r:KV ar vs)(k:κ){y:V}{u:Ac}(N:qJ y u) :
  KV (ar.map λY=>if Y.1=k then (Y.1,y) else Y) (vs.map λY=>if Y.1=k then (Y.1,u) else Y):=by
 unfold KV at r ⊢
 induction r with
 |nil=>exact .nil
 |@cons p q O C h t U =>
  rw[Cu,Cu];refine .cons ?_ U;obtain⟨J,G⟩:=h;by_cases e:p.1=k
  .rw[Bg e,Bg (J.symm.trans e)];exact⟨J,N⟩
  .rw[Bd e,Bd (λz=>e (J.trans z))];exact⟨J,G⟩
def KV.put {ar:Aa (κ × V)}(r:KV ar vs)(k:κ){y:V}{u:Ac}(Y:qJ y u):KV (vG ar k y) (stored vs k u):=by
 unfold vG stored;rw[r.any k];by_cases e:(vs.any λJ=>decide (J.1=k))=true
 .rw[Bg e,Bg e];exact r.repl k Y
 .rw[Bd e,Bd e];exact Paired.snoc r ⟨rfl,Y⟩
def KV.length {ar:Aa (κ × V)}(r:KV ar vs):ar.length=vs.length:=Paired.length r
end
def bX {P:Bi}{k:c_}(r:qJ (kV k) u):(xQ P w).is k u=true:=by
 cases k with
 |inl i=>obtain⟨t,e⟩:=(show ∃ t,u=Qw i t from r);subst e;exact iG P w i t
 |inr x=>obtain⟨t,e⟩:=(show ∃ t,u=WP x t from r);subst e;exact iH P w x t
theorem sQ {P:Bi}:∀ {ks:Aa c_} {us:ai},qM (ks.map kV) us->ItemsAre (xQ P w) ks us
 |[],_,r=>by rw[u8] at r;cases r;exact .nil
 |k::ks,_,r=>by
  rw[Cu] at r;cases r with
  |cons h t=>exact .cons (bX h) (sQ t)
abbrev KT (H:Hp):Aa (Aa c_ × V)->Aa (Aa c_ × Af × Ac)->Prop:=Paired λp q=>p.1=q.1/\H q.2.1=Ab (.tup (p.1.map kV))/\qJ p.2 q.2.2
def KT.val (r:KT H ar xs)(k:Aa c_):vK (yK ar k) ((Ls xs k).map (·.2)):=by
 induction r with
 |nil=>exact Hy
 |@cons p q O Y h t G =>
  obtain⟨U,_,N⟩:=h;by_cases e:p.1=k
  .have J:q.1=k:=U.symm.trans e
   have b:Ls (q::Y) k=Ab q.2:=by simp[Ls,Ge,J]
   rw[tL e,b];exact N
  .have J:¬ q.1=k:=λz=>e (U.trans z)
   have b:Ls (q::Y) k=Ls Y k:=by simp[Ls,Ge,J]
   rw[tK e,b];exact G
theorem KT.repl (r:KT H ar xs)(k:Aa c_){y:V}{u:Ac}(N:qJ y u) :
  KT H (ar.map λJ=>if J.1=k then (J.1,y) else J) (xs.map (putAt k u)):=by
 induction r with
 |nil=>exact .nil
 |@cons p q C B h t G =>
  rw[Cu,Cu];refine .cons ?_ G;obtain⟨Y,U,O⟩:=h;unfold putAt;by_cases e:p.1=k
  .rw[Bg e,Bg (Y.symm.trans e)];exact⟨Y,U,N⟩
  .rw[Bd e,Bd (λz=>e (Y.trans z))];exact⟨Y,U,O⟩
def KT.put (r:KT H ar xs)(k:Aa c_){b:Af}{y:V}{u:Ac}(J:H b=Ab (.tup (k.map kV)))(Y:qJ y u) :
  KT H (vG ar k y) (storedH xs k b u):=by
 have e:(ar.any λU=>decide (U.1=k))=(Ls xs k).isSome:=by
  rw[i7,(r.val k).isSome_eq,Tl]
 unfold vG storedH;rw[e];by_cases q:(Ls xs k).isSome=true
 .rw[Bg q,Bg q];exact r.repl k Y
 .rw[Bd q,Bd q];exact Paired.snoc r ⟨rfl,J,Y⟩
def KT.keeps (r:KT H ar xs)(J:∀ b Y,H b=Ab (.tup Y)->H' b=Ab (.tup Y)):KT H' ar xs:=
 Paired.mapP r λ_ _ z=>⟨z.1,J _ _ z.2.1,z.2.2⟩
section
variable {P:Bi}{w:Bz}{H:Hp}{h:Bt}{a:Af}
def BU (ok:gw P w H h)(e:Rd H a u):zE P w H h a u:=e.ok ok
def rO {ar:Aa (c_ × V)}(ok:gw P w H h)(e:Rd H a (.dK ar)):ar.length<=sizeLine/\(a == Hx)=false/\∃ vs,KV ar vs/\h.DictOf (xQ P w) a vs:=
 show zE P w H h a (.dK ar) from BU ok e
def OB {ar:Aa (c_ × V)}(ok:gw P w H h)(e:H a=Ab (.dK ar)):ar.length<=sizeLine/\(a == Hx)=false/\∃ vs,KV ar vs/\h.DictOf (xQ P w) a vs:=rO ok (.inl e)
def nH {ks:Aa c_}(ok:gw P w H h)(e:H a=Ab (.tup (ks.map kV))):(Ey (xQ P w)).is h ks a:=by
 obtain⟨_,Y,r,o,G,U,n,J⟩:=(show zE P w H h a (.tup (ks.map kV)) from ok a _ e)
 exact⟨o,Y.toArray,n,G,U,J,by simpa using sQ r⟩
def rP (ok:gw P w H h)(e:Rd H a (.dT ar)):ar.length<=sizeLine/\(a == Hx)=false /\
  ∃ xs,KT H ar xs/\h.DictOfH (Ey (xQ P w)) a xs:=by
 obtain⟨z,y,xs,r,o,B,L,T,N,C,U,O⟩:=(show zE P w H h a (.dT ar) from BU ok e)
 refine⟨z,y,xs,r,o,B,L,T,N,C,U,λx hx=>?_,O⟩;have Y:∀ {l:Aa (Aa c_ × V)} {m:Aa (Aa c_ × Af × Ac)},KT H l m->∀ x∈m,(Ey (xQ P w)).is h x.1 x.2.1:=by
  intro l m q
  induction q with
  |nil=>intro x hx;exact nomatch hx
  |@cons p q E I J t G =>
   intro x hx;rcases Ba.mp hx with e|hx
   .subst e
    exact nH ok (by rw[<- J.1];exact J.2.1)
   .exact G x hx
 exact Y r x hx
def OD (ok:gw P w H h)(e:H a=Ab (.dT ar)):ar.length<=sizeLine/\(a == Hx)=false /\
  ∃ xs,KT H ar xs/\h.DictOfH (Ey (xQ P w)) a xs:=rP ok (.inl e)
end
def gI (H:Hp)(a:Af)(y:V)(r:Ak V):Prop:=
 (∃ ar k,Rd H a (.dK ar)/\y=kV k/\r=yK ar k)\/∃ ar k b,Rd H a (.dT ar)/\y=.ref b/\H b=Ab (.tup (k.map kV))/\r=yK ar k
def lB (H:Hp)(a:Af)(y v:V)(H':Hp):Prop:=
 (∃ ar k,H a=Ab (.dK ar)/\y=kV k/\ar.length<sizeLine/\H'=cc H a (.dK (vG ar k v))) \/
 ∃ ar k b,H a=Ab (.dT ar)/\y=.ref b/\H b=Ab (.tup (k.map kV))/\ar.length<sizeLine/\H'=cc H a (.dT (vG ar k v))
def gI.k {H:Hp}{a:Af}{ar:Aa (c_ × V)}{k:c_}(e:H a=Ab (.dK ar)):gI H a (kV k) (yK ar k):=.inl ⟨ar,k,.inl e,rfl,rfl⟩
def gI.t {H:Hp}{a b:Af}{k:Aa c_}(e:H a=Ab (.dT ar))(Y:H b=Ab (.tup (k.map kV))):gI H a (.ref b) (yK ar k):=.inr ⟨ar,k,b,.inl e,rfl,Y,rfl⟩
def lB.k {H:Hp}{a:Af}{ar:Aa (c_ × V)}{k:c_}(e:H a=Ab (.dK ar))(Y:ar.length<sizeLine):lB H a (kV k) v (cc H a (.dK (vG ar k v))):=.inl ⟨ar,k,e,rfl,Y,rfl⟩
def lB.t {H:Hp}{a b:Af}{k:Aa c_}{v:V}(e:H a=Ab (.dT ar))(Y:H b=Ab (.tup (k.map kV)))(J:ar.length<sizeLine) :
  lB H a (.ref b) v (cc H a (.dT (vG ar k v))):=.inr ⟨ar,k,b,e,rfl,Y,J,rfl⟩
section
variable {X:Cx}{aj:aa}{σ: St}{H:Hp}{s:Ag}{a:Af}{y v:V}{u r:Ac}{o:Ak V}{A:Bp}{E:ae}
def Inv.big (I:Inv X aj σ H s):Hx<s.heap.objs.size:=by
 have h:Ch<s.heap.objs.size:=(I.mod.glob.keeps I.bk).lt;exact Ie bU h
def WE (M:A.units+1<Eu)(I:Inv X aj σ H s)(g:gI H a y (Ab v))(B:qJ y u)(h:∀ U s',Inv X aj σ H s'->qJ v U->Q U s') :
  Aq (Av X.prog X.w) A (Mj (.ref a) u) Q E s:=by
 rcases g with⟨ar,k,e,G,l⟩|⟨ar,k,b,e,G,T,l⟩
 .subst G
  obtain⟨z,j,L,Y,O⟩:=rO I.hok e;obtain⟨U,C,J⟩:=vK.some_of (v:=v) (o:=Wj L k) (by rw[l];exact Y.val k)
  exact wpAny_getItem_of (bX B) O.mapOf C (h U _ (I.tok _) J)
 .subst G
  cases (show u=Cb b from B)
  obtain⟨z,j,xs,Y,O⟩:=rP I.hok e;obtain⟨U,C,J⟩:=vK.some_of (v:=v) (o:=(Ls xs k).map (·.2)) (by rw[l];exact Y.val k)
  obtain⟨p,w,N⟩:=Dn.mp C;refine wpAny_getItem_heap (Sh M) (nH I.hok T) O w ?_;rw[N];exact h U _ (I.tok _) J
def qBV (C:A.units+1<Eu)(I:Inv X aj σ H s)(g:gI H a y o)(N:qJ y u)(h:∀ s',Inv X aj σ H s'->Q (.bool o.isSome) s') :
  Aq (Av X.prog X.w) A (Cy .In u (.ref a)) Q E s:=by
 rcases g with⟨ar,k,e,J,l⟩|⟨ar,k,b,e,J,O,l⟩
 .subst J
  obtain⟨z,U,B,Y,G⟩:=rO I.hok e;refine wpAny_in_of (bX N) U G.mapOf ?_;rw[<- (Y.val k).isSome_eq,<- l];exact h _ (I.tok _)
 .subst J
  cases (show u=Cb b from N)
  obtain⟨z,U,xs,Y,G⟩:=rP I.hok e;refine wpAny_in_heap (Sh C) (nH I.hok O) U G ?_;have q:=(Y.val k).isSome_eq;rw[Tl] at q;rw[<- q,<- l];exact h _ (I.tok _)
def iZ {t':Ah}(I:Inv X aj σ H s)(G:yc (H a))(hs:Go a s.heap h')(U:∃ q,h'.get? a=Ab q)(J:zE X.prog X.w (cc H a Y) h' a Y) :
  Inv X aj σ (cc H a Y) { s with heap:=h',toks:=t' }:=
 I.write (x:=a) (e:=a) G (.inl rfl) (λb q N z=>(hs.2 b N).trans z) U J
def R4 {P:Bi}{h':Bt}{ar:Aa (c_ × V)}(z:ar.length<=sizeLine)(J:(a == Hx)=false)(Y:KV ar vs)(dd:h'.DictOf (xQ P w) a vs) :
  zE P w H' h' a (.dK ar):=⟨z,J,vs,Y,dd⟩
def WG {Q:Ro->Ag->Prop}(n:A.units+1<Eu)(I:Inv X aj σ H s)(g:lB H a y v H')(j:qJ y u)(p:qJ v r)(h:∀ s',Inv X aj σ H' s'->Q () s') :
  Aq (Av X.prog X.w) A (setItem (.ref a) u r) Q E s:=by
 rcases g with⟨ar,k,e,G,l,N⟩|⟨ar,k,b,e,G,T,l,N⟩
 .subst G N
  obtain⟨z,L,t,Y,C⟩:=OB I.hok e;have B:t.length<=sizeLine:=by rw[<- Y.length];exact z
  have O:(vG ar k v).length<=sizeLine:=by have:=fW ar k v;lia
  refine wpAny_setItem_pairs (hsz:=B) (bX j) C λM J hs=>h _ ?_;have m:∃ q,M.get? a=Ab q:=let ⟨q,_,_,U,_⟩:=J;⟨q,U⟩
  exact iZ I (by rw[e];exact Hy) hs m (R4 O L (Y.put k p) J)
 .subst G N
  cases (show u=Cb b from j)
  obtain⟨z,L,xs,Y,C⟩:=OD I.hok e;have B:xs.length<=sizeLine:=by rw[<- Paired.length Y];exact z
  have O:(vG ar k v).length<=sizeLine:=by have:=fW ar k v;lia
  refine wpAny_setItem_heap (hsz:=B) (Sh n) (nH I.hok T) C λM J hs=>h _ ?_;obtain⟨q,es,ep,U,i,x,d,_,f⟩:=J;refine iZ I (by rw[e];exact Hy) hs ⟨q,U⟩ ⟨O,L,_,(Y.put k T p).keeps λc ys w=>?_,q,es,ep,U,i,x,d,f⟩
  rw[qL (qAB w e (λz=>nomatch z))];exact w
end
def UG (i:By):Prop:=∀ J Y,subscripted i false J Y=operate [J,Y] (Mj J Y)
def L5 {prog:Bi}{w:Bz}{A:Bp}{E:ae}{s:Ag}{ak:Ix}{J Y:By}{H:Ev}{T id:Es}
  (M:typeLookup (.type T) "__getitem__" = pure (Ab (.builtin id))) (hs:UG Y)
  (h:Aq (Av prog w) A (eval J ak) (λo N=>Aq (Av prog w) A (eval Y ak) (λi U=>U.TypeIs o T/\Aq (Av prog w) A (Mj o i) Q E U) E N) E s) :
  Aq (Av prog w) A (eval (.Subscript J Y H) ak) Q E s:=by
 refine Zb (Gr h (λo N B=>Gr B (λi U G=>?_) λ_ _ x=>x) λ_ _ x=>x);obtain⟨I,G⟩:=G;unfold Tk;refine Ad ?_;rw[getitemInPython_of_ne I.not_modules];refine Ad (Wk I M ?_);have C:Aq (Av prog w) A (subscripted Y false o i) (λr O=>Aq (Av prog w) A (letTemporaryGo J o r >>= λ_=>pure r) Q E O) E U:=by
  rw[hs o i];exact wpAny_operating (Gr G (λr O L=>Ad (wpAny_letTemporaryGo (Am L))) λ_ _ x=>x)
 first
  |exact Am (Ad C)
  |exact Ad (Am (Ad C))
  |exact Ad C
def iD {X:Cx}{σ:St}{a:Af}(I:Inv X aj σ H s)(g:gI H a y o):s.TypeIs (.ref a) "dict":=by
 rcases g with⟨ar,k,e,_,_⟩|⟨ar,k,b,e,_,_,_⟩
 .obtain⟨_,_,J,_,Y⟩:=rO I.hok e
  exact Y.typeIs
 .obtain⟨_,_,xs,_,Y⟩:=rP I.hok e
  exact Y.typeIs
def J3 {P:Bi}(h:Bt)(Y:Hx<h.objs.size):zE P w H (h.push { cls:=.type "dict",data:=.dict #[] }) h.objs.size (.dK []):=
 ⟨Hg _,My.mpr (Gj (Cn Y)),[],.nil,Heap.DictOf.new h⟩
def AQ:TE:=λ_ H Q=>∀ p,H p=none->Q (.ref p) (cc H p (.dK []))
section
variable {X:Cx}{aq:Ev}
def cY:PE X (.Dict [] [] aq) AQ:=λY s σ H Q I h =>
 wpAny_Dict_empty ⟨.ref s.heap.objs.size,_,I.laid (a:=s.heap.objs.size) (o:=.dK []) (t':=s.toks) (λ_ _ q=>Aj _ q) (Ax _) (J3 s.heap I.big),rfl,h _ (I.hok.fresh (Ax _))⟩
end
end _L
namespace _A
open PySem.W PySem.Calls
def n9 {P:Params}:∀ (Q:Aa An) (vs:ai),WellAll P h vs (Q.map WData.int)->Mi vs Q:=by
 intro Q
 induction Q with
 |nil =>
  intro vs w;rw[u8] at w;cases w;exact .nil
 |cons n Q Y =>
  intro vs w;rw[Cu] at w;cases w with
  |cons a b =>
   cases a;exact .cons _ _ (Y _ b)
theorem VT {l:OpenLaw}(I:l.most=Ab n){P:Params}{h:Bt}{G:Aa WData}{J:ai}
  (Y:l.row.toRowW.claim.pre G=true) (B:WellAll P h J G) :
  ∃ a vs Q,J=[Cb a]/\G=[WData.list (Q.map WData.int)]/\h.get? a=Ab { cls:=.type "list",data:=.seq vs.toArray } /\ Mi vs Q/\Q.length<=n:=by
 have L:WShape.hasAll [] G [.list .int]=true:=(pre_splitW Y).1;have T:l.pre.holds [] { args:=G } = true:=(pre_splitW Y).2;obtain⟨d,r,rfl,j,H⟩:=hasAllW_cons L;obtain rfl:=hasAllW_nil H;obtain⟨y,rfl,A⟩:=hasW_list j;obtain⟨Q,rfl⟩:=items_int A;have N:Q.length<=n:=by
  unfold OpenLaw.pre at T;have O:(WTm.not (.lt (.lit (.int (n:An))) (.len (.arg 0)))).holds [] { args:=[.list (Q.map .int)] } = true:=by
   have O:=(holds_andW T).1;rw[I] at O;exact O
  have C:=condW_of O (w_not (w_lt w_lit (w_len_list (w_arg rfl))));rw[Ap] at C;refine Uv λq=>?_;have M:(n:An)<((Q.length:Ah):An):=by lia
  first
   |(rw[Dc M] at C;exact absurd C bU)
   |(simp at C;lia)
 cases B with
 |cons z E =>
  cases E;cases z with
  |list w U=>exact⟨_,_,Q,rfl,rfl,w,n9 Q _ U,N⟩
def V0 (l:OpenLaw)(Q:Aa WData):l.row.toRowW.claim.post Q (.bool true) Q=true:=
 postW_of (r:=l.row.toRowW) (X:=(true == true))
  (show WShape.has [] (.bool true) .bool=true by first|rfl|decide|simp[WShape.has,WShape.arms,WShape.armsAll])
  (show (WTm.eq .res (.lit (.bool true))).value [] { args:=Q,res:=Ab (.bool true),after:=Q } = Ab (.bool (true == true)) from w_eq_bool (w_res rfl) w_lit) rfl
def ni {l:OpenLaw}{n:Ah}{q:Bi}{j:Aa As}{p:(As->Ak Ac)->Bt->Prop}{g:Bz->Bt->Prop}{d:DefRec}
  (c:l.most=Ab n) (A:d.params.defaults=[])
  (call:∀ (w:Bz) (J Q:Ag) (mg H:ah) (B:Af) (o:Cp) (z cd N:Ac) (a:Af) (vs:ai) (T:Aa An),
   Ground q j [] p w J mg H Q.heap->g w Q.heap ->
   Q.heap.get? B=Ab o->o.data=.func (docDef d.name d.params d.body d.scope z cd N)->Q.heap.CodeRec cd d.name->mg d.name=Ab (.ref B) ->
   Q.heap.get? a=Ab { cls:=.type "list",data:=.seq vs.toArray } -> Mi vs T->T.length<=n->Q.gens=#[] ->
   Ik (Av l.prog w) Tn (.call (.ref B) ⟨[.ref a],[]⟩) (λr s'=>r=.ok (.ret (.bool true))/\OldK Q.heap s'.heap/\s'.os=Q.os/\Ps s'.gens) Q) :
  WalkO q j p g l.row.toRowW d [] (λf vs=>AbI f vs):=by
 intro w J Q mg H G Y B o z cd N b kV h s M k E x cb u as O y m I zb;obtain rfl:b=.none:=Dflts.none k A;obtain rfl:kV=.none:=Dflts.noKw k;obtain⟨a,vs,T,rfl,rfl,C,U,L⟩:=VT c O I;refine enter_call (Mp (call w J Q mg H B o z cd N a vs T G Y h (fd_plain s) M E C U L x) λr s' hq=>?_);obtain⟨rfl,t,i,v⟩:=hq;exact⟨.inl ⟨.bool true,.bool true,[],rfl,λ_=>rfl,.bool true,V0 l _,λ_=>⟨Pa,λ_ e=>(nomatch e)⟩⟩,t,i,v⟩
end _A
namespace _L
def U4 (h:Mi vs Q):qM (Q.map V.int) vs:=by
 induction h with
 |nil=>exact .nil
 |cons n t h Y=>exact .cons ⟨t,rfl⟩ Y
def pq (K:Ai)(H:Hp)(a:Af)(xs:Aa V):Prop:=
 Rd H a (.lst xs)\/∃ (Q:ai) (n:Ah),K.lookup a=Ab { cls:=.type "list",data:=.seq Q.toArray n } /\ xs.length<=sizeLine/\qM xs Q
def pq.l {K:Ai}{a:Af}(h:pq K H a xs):jw K H a xs:=by
 rcases h with h|⟨Q,n,e,l,v⟩
 .exact .inl h
 .exact .inr ⟨_,Q.toArray,n,e,rfl,rfl,rfl,by rw[Be,<- v.length];exact l,by simpa using v⟩
end _L
namespace _L
variable {ps:Aa As}{f:Af}{x bg:As}{H:Hp}
noncomputable def yF (s:Fb):Qy:=match s with
 |.FunctionDef _ a _ _ _ _ _ _ _ _=>a
 |_=>{ posonlyargs:=[],args:=[],vararg:=none,kwonlyargs:=[],kw_defaults:=[],kwarg:=none,defaults:=[] }
def zR (s:Fb):Aa Fb:=match s with
 |.FunctionDef _ _ b _ _ _ _ _ _ _=>b
 |_=>[]
def qH (s:Fb):Ep:=match s with
 |.FunctionDef _ _ _ _ _ _ Q _ _ _=>Q
 |_=>{ kind:=.function,names:=[],isGenerator:=false,isCoroutine:=false }
abbrev _t:uh:=λ_ _ _ _ _ _=>Ex
structure sx (K:Ai)(x qual:As)(st:Fb)(f:Af)(fd:Gc):Prop where
 ex:∃ (oc:Ac) (od:Ak Af) (kV doc pm:Ac) (an:Ak Af) (cdv ct:Ac) (osl:Az (Ak Ac)),
  fd=He x qual (yF st) (zR st) (qH st) .none kV doc pm an cdv ct/\K.lookup f=Ab ⟨oc,od,.func fd,osl⟩/\Mf K cdv qual=true
 kp:Fd K (.ref f)=true
section
variable {P:Bi}{w:Bz}{K:Ai}{mg:ah}{base:Bt}
def sx.ok {st:Fb}{k:Ah}{sp:Sp}(F:sx K x bg st f fd)(S:dc N ps (qH st))(C:∀ vs H Q E,sp vs H Q E->vs.length=ps.length)
  (J:∀ (Y:Ac) (A:Bp) (U:Aa Ix) (s:Ag) (H:Hp) (vs:Aa V) (Q:VK) (E:XK),jt k (A.deeper (Gu bg (qH st) s.heap.objs.size f Y))->sp vs H Q E ->
   ∃ t,im (lI _t P w K mg base N bg (qH st) f Y A U s H E).nox (zR st) t/\t { nx:=λ_ B=>Q .non B,rt:=Q } (wA N vs) H):nk P w K mg base _t (k+1) f fd ps sp:=by
 obtain⟨M,u,kV,I,j,z,Y,y,L,rfl,lk,O⟩:=F.ex;refine OH lk O S C λA U s H vs Q E T G=>?_;obtain⟨t,h,q⟩:=J Y A U s H vs Q E T G;exact⟨t,h.nox,q⟩
def sx.binds {st:Fb}(F:sx K x bg st f fd)
  (h:∀ (kV Y G:Ac) (U:Ak Af) (Q J:Ac) (us:ai),us.length=ps.length->Wd (He x bg (yF st) (zR st) (qH st) .none kV Y G U Q J) ⟨us,[]⟩=pure (ps.zip us)):vS K fd ps []:=by
 obtain⟨C,B,kV,Y,G,U,Q,J,O,rfl,lk,N⟩:=F.ex;exact .all (h kV Y G U Q J)
def RY {st:Fb}{C:Ac}{O U:Ak Af}{J:Az (Ak Ac)}{kV Y N Q G:Ac}(l:K.lookup f=Ab ⟨C,O,.func (He x bg (yF st) (zR st) (qH st) .none kV Y N U Q G),J⟩)
  (c:Mf K Q bg=true) (k:Fd K (.ref f)=true):sx K x bg st f (He x bg (yF st) (zR st) (qH st) .none kV Y N U Q G):=⟨⟨C,O,kV,Y,N,U,Q,G,J,rfl,l,c⟩,k⟩
end
def qF (H Q:Hp):Prop:=∀ b o,H b=Ab o->Q b=Ab o
def qF.refl (H:Hp):qF H H:=λ_ _ h=>h
def qF.trans (a:qF H Y)(b:qF Y Q):qF H Q:=λc o h=>b c o (a c o h)
def qF.free (e:qF H Q){l:Af}(h:Q l=AcB):H l=AcB:=by
 cases q:H l with
 |none=>rfl
 |some o =>
  rw[e l o q] at h;cases h
def qF.seq {K:Ai}{a:Af}(e:qF H Q)(h:jw K H a xs):jw K Q a xs:=by
 rcases h with (h|⟨o,h⟩)|h
 .exact .inl (.inl (e _ _ h))
 .exact .inl (.inr ⟨o,e _ _ h⟩)
 .exact .inr h
end _L
end
section
namespace _D
open _L
inductive D where
 |non|bl (b:Au)|int (i:An)|str (x:As)|ty (n:Es)|obj (a:Af)|tup (xs:Aa D)|lst (xs:Aa D)|dct0|loc (i:Ah)|exn (c:Ac)|fd (ks:Aa c_) (ds:Aa D)|clo (a:Af) (vs:Aa V) (ds:Aa D)
def c8 (a:Af)(c:Ac):HO:=.ext λh=>∃ Q,h.get? a=Ab Q/\Q.cls=c
inductive MO where
 |dead|lst (xs:Aa D)|dct (kvs:Aa (c_ × D))|dcT (kvs:Aa (Aa An × D))|ins (C:Af) (fs:Aa (As × D))
abbrev ap:=Aa MO
inductive bb (β : Type) where
 |ok (d:β) (S:ap)|ex (c:Ac) (x:D) (S:ap)|bad
@[inline] noncomputable def bb.bind {β γ:Type}(r:bb β)(f:β->ap->bb γ) : bb γ:=
 match r with
 |.ok d S=>f d S
 |.ex c x S=>.ex c x S
 |.bad=>.bad
def bb.bind_ok {β γ:Type}(d:β)(S:ap)(f:β->ap->bb γ) : (bb.ok d S).bind f=f d S:=rfl
section
variable (K:Ai)(P:Hp)(α: Aa Af)
mutual
def au:D->V->Prop
 |.non,v=>v=.non
 |.bl b,v=>v=.bl b
 |.int i,v=>v=.int i
 |.str x,v=>v=.str x
 |.ty n,v=>v=.ty n
 |.obj a,v=>v=.ref a/\Fd K (.ref a)=true
 |.tup Y,v=>∃ a Q,v=.ref a/\jh K P a Q/\qE Y Q
 |.lst Y,v=>∃ a Q,v=.ref a/\pq K P a Q/\qE Y Q
 |.dct0,v=>∃ a,v=.ref a/\P a=Ab (.dK [])
 |.loc i,v=>∃ a,v=.ref a/\α[i]? = Ab a
 |.exn c,v=>∃ a,v=.ref a/\P a=Ab (c8 a c)
 |.fd J Y,v=>∃ a o Q,v=.ref a/\P a=Ab (.frz o (.dK (J.zip Q)))/\J.length=Q.length/\qE Y Q
 |.clo a Q Y,v=>v=.ref a/\qE Y Q
def qE:Aa D->Aa V->Prop
 |[],Q=>Q=[]
 |d::J,Q=>∃ w Y,Q=w::Y/\au d w/\qE J Y
end
end
section
variable {K:Ai}{P P':Hp}{α α':ag}
def wD (e:qF P P'){a:Af}{xs:Aa V}(h:jh K P a xs):jh K P' a xs:=by
 rcases h with (h|⟨o,h⟩)|h
 .exact .inl (.inl (e _ _ h))
 .exact .inl (.inr ⟨o,e _ _ h⟩)
 .exact .inr h
def Q4 (e:qF P P'){a:Af}{u:HO}(h:Rd P a u):Rd P' a u:=by
 rcases h with h|⟨o,h⟩
 .exact .inl (e _ _ h)
 .exact .inr ⟨o,e _ _ h⟩
def xS (e:qF P P'){a:Af}{xs:Aa V}(h:pq K P a xs):pq K P' a xs:=by
 rcases h with h|h
 .exact .inl (Q4 e h)
 .exact .inr h
def fL {i:Ah}{a:Af}(h:α<+:α')(e:α[i]? = Ab a):α'[i]? = Ab a:=by
 obtain⟨r,rfl⟩:=h;rw[Bb (Ay.mp e).1];exact e
mutual
theorem au.mono (e:qF P P')(h:α<+:α'):∀ (d:D) (v:V),au K P α d v->au K P' α' d v
 |.non,_,r=>by simpa only [au] using r
 |.bl _,_,r=>by simpa only [au] using r
 |.int _,_,r=>by simpa only [au] using r
 |.str _,_,r=>by simpa only [au] using r
 |.ty _,_,r=>by simpa only [au] using r
 |.obj _,_,r=>by simpa only [au] using r
 |.tup Y,v,r=>by
  simp only[au] at r ⊢;obtain⟨a,Q,rfl,q,t⟩:=r;exact⟨a,Q,rfl,wD e q,qE.mono e h Y Q t⟩
 |.lst Y,v,r=>by
  simp only[au] at r ⊢;obtain⟨a,Q,rfl,q,t⟩:=r;exact⟨a,Q,rfl,xS e q,qE.mono e h Y Q t⟩
 |.dct0,v,r=>by
  simp only[au] at r ⊢;obtain⟨a,rfl,q⟩:=r;exact⟨a,rfl,e _ _ q⟩
 |.loc i,v,r=>by
  simp only[au] at r ⊢;obtain⟨a,rfl,q⟩:=r;exact⟨a,rfl,fL h q⟩
 |.exn c,v,r=>by
  simp only[au] at r ⊢;obtain⟨a,rfl,q⟩:=r;exact⟨a,rfl,e _ _ q⟩
 |.fd U Y,v,r=>by
  simp only[au] at r ⊢;obtain⟨a,o,Q,rfl,q,J,t⟩:=r;exact⟨a,o,Q,rfl,e _ _ q,J,qE.mono e h Y Q t⟩
 |.clo a Q Y,v,r=>by
  simp only[au] at r ⊢;exact⟨r.1,qE.mono e h Y Q r.2⟩
theorem qE.mono (e:qF P P')(h:α<+:α'):∀ (ds:Aa D) (vs:Aa V),qE K P α ds vs->qE K P' α' ds vs
 |[],vs,r=>by simpa only [qE] using r
 |d::ds,vs,r=>by
  simp only[qE] at r ⊢;obtain⟨w,Q,rfl,Y,J⟩:=r;exact⟨w,Q,rfl,au.mono e h d w Y,qE.mono e h ds Q J⟩
end
def qE.nil:qE K P α [] []:=by simp only[qE]
def qE.cons {d:D}{v:V}{ds:Aa D}{vs:Aa V}(r:au K P α d v)(t:qE K P α ds vs):qE K P α (d::ds) (v::vs):=by
 simp only[qE];exact⟨v,vs,rfl,r,t⟩
def qE.nil_inv {vs:Aa V}(r:qE K P α [] vs):vs=[]:=by simpa only [qE] using r
def qE.cons_inv {d:D}{ds:Aa D}(r:qE K P α (d::ds) vs):∃ w Q,vs=w::Q/\au K P α d w/\qE K P α ds Q:=by simpa only [qE] using r
theorem qE.length:∀ {ds:Aa D} {vs:Aa V},qE K P α ds vs->ds.length=vs.length
 |[],vs,r=>by rw[r.nil_inv];rfl
 |d::ds,vs,r=>by
  obtain⟨w,Q,rfl,_,t⟩:=r.cons_inv;rw[Bs,Bs,t.length]
theorem qE.append:∀ {ds es:Aa D} {vs Q:Aa V},qE K P α ds vs->qE K P α es Q->qE K P α (ds++es) (vs++Q)
 |[],es,vs,Q,r,t=>by rw[r.nil_inv];exact t
 |d::ds,es,vs,Q,r,t=>by
  obtain⟨w,U,rfl,Y,J⟩:=r.cons_inv;exact .cons Y (J.append t)
theorem qE.get:∀ {ds:Aa D} {vs:Aa V} {i:Ah} {d:D},qE K P α ds vs->ds[i]? = Ab d->∃ v,vs[i]? = Ab v/\au K P α d v
 |[],_,_,_,_,e=>by simp at e
 |d::ds,vs,i,Y,r,e=>by
  obtain⟨w,N,rfl,U,J⟩:=r.cons_inv;cases i with
  |zero=>simp at e;subst e;exact⟨w,rfl,U⟩
  |succ i =>
   obtain⟨v,G,Q⟩:=J.get (i:=i) (d:=Y) (by simpa using e)
   exact⟨v,by simpa using G,Q⟩
theorem qE.drop:∀ {ds:Aa D} {vs:Aa V} (n:Ah),qE K P α ds vs->qE K P α (ds.drop n) (vs.drop n)
 |ds,vs,0,r=>by simpa using r
 |[],vs,n+1,r=>by rw[r.nil_inv];exact .nil
 |d::ds,vs,n+1,r=>by
  obtain⟨w,Y,rfl,_,Q⟩:=r.cons_inv;simpa using Q.drop n
theorem qE.take:∀ {ds:Aa D} {vs:Aa V} (n:Ah),qE K P α ds vs->qE K P α (ds.take n) (vs.take n)
 |ds,vs,0,r=>by simpa using qE.nil
 |[],vs,n+1,r=>by rw[r.nil_inv];exact .nil
 |d::ds,vs,n+1,r=>by
  obtain⟨w,J,rfl,Q,Y⟩:=r.cons_inv;simpa using qE.cons Q (Y.take n)
theorem qE.set (q:au K P α d v):∀ {ds:Aa D} {vs:Aa V} (n:Ah),qE K P α ds vs->qE K P α (ds.set n d) (vs.set n v)
 |[],vs,n,r=>by rw[r.nil_inv];exact .nil
 |e::ds,vs,0,r=>by
  obtain⟨w,J,rfl,Y,Q⟩:=r.cons_inv;exact .cons q Q
 |e::ds,vs,n+1,r=>by
  obtain⟨w,J,rfl,Y,Q⟩:=r.cons_inv;exact .cons Y (Q.set q n)
end
abbrev qD:=Aa (Ak D)
def zA (K:Ai)(P:Hp)(α : Aa Af)(σ : _L.St)(ak:qD):Prop:=ak.length=σ.length/\∀ (i:Ah) (d:D),ak[i]? = Ab (Ab d)->∃ v,σ[i]? = Ab (Ab v)/\au K P α d v
def ol (K:Ai)(P:Hp)(α : Aa Af){κ : Type}:Aa (κ × D)->Aa (κ × V)->Prop:=Paired λ(p:κ × D) (q:κ × V)=>p.1=q.1/\au K P α p.2 q.2
def ZU (Q:Aa An):An:=reduceHash (Builtin.Tuple.tupleHashOf (Q.map hashInt))
def eB (a:Af)(xs:Aa (Aa An × Af × V))(h:Bt):Prop:=∃ Q:Aa (Aa An × Af × Ac),Paired (λ(p:Aa An × Af × V) (q:Aa An × Af × Ac)=>p.1=q.1/\p.2.1=q.2.1/\qJ p.2.2 q.2.2) xs Q /\
 ∃ o Y J,h.get? a=Ab o/\o.ExactDict/\o.data=.dict Y J/\Y.toList=Q.map λx=>⟨ZU x.1,.ref x.2.1,x.2.2⟩
abbrev uw (a:Af)(xs:Aa (Aa An × Af × V)):HO:=.ext (eB a xs)
def ud (K:Ai)(P:Hp)(α : Aa Af):Aa (Aa An × D)->Aa (Aa An × Af × V)->Prop:=Paired λ(p:Aa An × D) (q:Aa An × Af × V)=>p.1=q.1/\jh K P q.2.1 (q.1.map V.int)/\au K P α p.2 q.2.2
def sw (K:Ai)(H P:Hp)(α : Aa Af)(a:Af):MO->Prop
 |.dead=>Qn
 |.lst N=>∃ Q,H a=Ab (.lst Q)/\qE K P α N Q
 |.dct J=>∃ Q,H a=Ab (.dK Q)/\ol K P α J Q
 |.dcT J=>∃ Y,H a=Ab (uw a Y)/\(a == Hx)=false/\Y.length<=sizeLine/\(Y.map (·.1)).Nodup/\ud K P α J Y
 |.ins C G=>∃ U Q,H a=Ab (.ins C U Q)/\ol K P α G Q
inductive xy (x:As)(H P:Hp)(α : Aa Af)(T:Af):Prop
 |mk (ps:Az Ac) (e:H T=Ab (.tbl ps)) (pn:P T=none) (an:T ∉ α) (ok:Nd ps.toList) (cd:∀ pos cv,Qz pos ps.toList=Ab cv->∃ c oc vs t,cv=.ref c/\H c=Ab (.frz oc (.frz oc (.own 0)))/\oc.data=.fields vs/\vs[1]? = Ab (.str (x ++ ".<locals>." ++ "<lambda>") t)):xy x H P α T
def Z8 (K:Ai)(H P:Hp)(α : Aa Af):Prop:=∀ x∈wQ,∀ c T,Dy K x=Ab (c,T)->xy x H P α T
def E6 (u:HO):Prop:=(∃ Q,u=.tbl Q)\/∃ o,u=.frz o (.frz o (.own 0))
def Z8.keep {K:Ai}{H J P Y:Hp}{α Q:ag}(r:Z8 K H P α)(e:∀ b u,H b=Ab u->E6 u->J b=Ab u)(hp:∀ b u,H b=Ab u->E6 u->P b=none->b ∉ α->Y b=none/\b ∉ Q):Z8 K J Y Q:=λx N c T h =>
 let ⟨O,U,G,E,ok,A⟩:=r x N c T h
 let z:=hp _ _ U (.inl ⟨_,rfl⟩) G E
 ⟨O,e _ _ U (.inl ⟨_,rfl⟩),z.1,z.2,ok,λC L q=>let ⟨c,B,I,t,a,b,d⟩:=A C L q;⟨c,B,I,t,a,e _ _ b (.inr ⟨_,rfl⟩),d⟩⟩
structure bf (K:Ai)(H P:Hp)(α : Aa Af)(S:ap):Prop where
 tb:Z8 K H P α
 sub:qF P H
 len:α.length=S.length
 nd:α.Nodup
 sep:∀ (i:Ah) (a:Af) (o:MO),α[i]? = Ab a->S[i]? = Ab o->o≠.dead->P a=none
 at':∀ (i:Ah) (a:Af) (o:MO),α[i]? = Ab a->S[i]? = Ab o->sw K H P α a o
 own:∀ (i:Ah) (a:Af),α[i]? = Ab a->H a≠none
section
variable {K:Ai}{H P P':Hp}{α α':ag}{S:ap}
def zA.mono {σ : _L.St}(e:qF P P')(h:α<+:α')(r:zA K P α σ ak):zA K P' α' σ ak:=
 ⟨r.1,λi d q=>let ⟨v,Y,Q⟩:=r.2 i d q;⟨v,Y,au.mono e h d v Q⟩⟩
def ol.mono {κ : Type}(e:qF P P')(h:α<+:α'){Q:Aa (κ × D)}{vs:Aa (κ × V)}(r:ol K P α Q vs):ol K P' α' Q vs:=by
 refine Paired.mapP r λp q z=>⟨z.1,au.mono e h _ _ z.2⟩
def ud.mono (e:qF P P')(h:α<+:α'){Q:Aa (Aa An × D)}{xs:Aa (Aa An × Af × V)}(r:ud K P α Q xs):ud K P' α' Q xs:=
 Paired.mapP r λp q z=>⟨z.1,wD e z.2.1,au.mono e h _ _ z.2.2⟩
theorem sw.mono {a:Af}(e:qF P P')(h:α<+:α'):∀ {o:MO},sw K H P α a o->sw K H P' α' a o
 |.dead,_=>trivial
 |.lst _,⟨Q,q,r⟩=>⟨Q,q,qE.mono e h _ _ r⟩
 |.dct _,⟨Q,q,r⟩=>⟨Q,q,r.mono e h⟩
 |.dcT _,⟨Q,q,d,l,n,r⟩=>⟨Q,q,d,l,n,r.mono e h⟩
 |.ins _ _,⟨Y,Q,q,r⟩=>⟨Y,Q,q,r.mono e h⟩
def bf.grow (r:bf K H P α S)(e:qF H Y):bf K Y P α S where
 tb:=r.tb.keep (λb u q _=>e _ _ q) λ_ _ _ _ p n=>⟨p,n⟩
 sub:=r.sub.trans e
 len:=r.len
 nd:=r.nd
 sep:=r.sep
 at':=λi a o U N=>by
  have m:=r.at' i a o U N;cases o with
  |dead=>trivial
  |lst O=>obtain⟨Q,q,t⟩:=m;exact⟨Q,e _ _ q,t⟩
  |dct G=>obtain⟨Q,q,t⟩:=m;exact⟨Q,e _ _ q,t⟩
  |dcT G=>obtain⟨Q,q,t⟩:=m;exact⟨Q,e _ _ q,t⟩
  |ins C B=>obtain⟨J,Q,q,t⟩:=m;exact⟨J,Q,e _ _ q,t⟩
 own:=λi a q=>by
  have m:=r.own i a q;cases z:H a with
  |none=>exact absurd z m
  |some o=>rw[e _ _ z];intro w;cases w
def tG {H:Hp}{a:Af}(h:H a=none):qF H (cc H a o):=λb u e=>by rw[qL (qT e h)];exact e
def bf.pure {a:Af}(r:bf K H P α S)(h:H a=none):bf K (cc H a o) (cc P a o) α S/\qF P (cc P a o):=by
 have N:P a=none:=by
  cases z:P a with
  |none=>rfl
  |some u=>rw[r.sub _ _ z] at h;cases h
 have U:qF P (cc P a o):=tG N;have G:=r.grow (tG (o:=o) h);refine⟨⟨r.tb.keep (λb u q _=>(qL (qT q h)).trans q) λb u q _ p n=>⟨(qL (qT q h)).trans p,n⟩,λb u e=>?_,r.len,r.nd,λi b u Y J O=>?_,λi b u Y J=>(G.at' i b u Y J).mono U (AT _),G.own⟩,U⟩
 .by_cases Q:b=a
  .subst Q;rw[qV] at e ⊢;exact e
  .rw[qL Q] at e ⊢;exact r.sub _ _ e
 .have Q:b≠a:=by rintro rfl;exact r.own i b Y h
  rw[qL Q];exact r.sep i b u Y J O
def bf.new {a:Af}(r:bf K H P α S)(h:H a=none)(hm:sw K (cc H a o) P (α ++ [a]) a m):bf K (cc H a o) P (α ++ [a]) (S++[m]):=by
 have C:P a=none:=by
  cases z:P a with
  |none=>rfl
  |some u=>rw[r.sub _ _ z] at h;cases h
 have U:=r.grow (tG (o:=o) h);have B:α<+:α++[a]:=Fh _ _;have split:∀ (i:Ah) (b:Af),(α++[a])[i]? = Ab b->(i<α.length/\α[i]? = Ab b)\/(i=α.length/\b=a):=λi b q=>by
  by_cases Q:i<α.length
  .rw[Bb Q] at q;exact .inl ⟨Q,q⟩
  .rw[Cq om] at q
   cases N:i-α.length with
   |zero=>rw[N] at q;simp at q;exact .inr ⟨by fin2,q.symm⟩
   |succ k=>rw[N] at q;simp at q
 refine⟨r.tb.keep (λb u q _=>(qL (qT q h)).trans q) λb u q _ p n=>⟨p,λz=>(Bq.mp z).elim n λw=>qT q h (by simpa using w)⟩,U.sub,by simp[r.len],?_,λi b u J Y L=>?_,λi b u J Y=>?_,λi b q=>?_⟩
 .rw[Gz]
  refine⟨r.nd,by simp,λb O c G e=>?_⟩
  simp at G;subst G;subst e;obtain⟨i,Q,e⟩:=Ct.mp O;exact r.own i b (by rw[Ar Q,e]) h
 .rcases split i b J with⟨Q,z⟩|⟨Q,rfl⟩
  .rw[Bb (by rw[<- r.len];exact Q)] at Y
   exact r.sep i b u z Y L
  .exact C
 .rcases split i b J with⟨Q,z⟩|⟨Q,rfl⟩
  .rw[Bb (by rw[<- r.len];exact Q)] at Y
   exact(U.at' i b u z Y).mono (qF.refl _) B
  .rw[Q,r.len,Cq (Ax _)] at Y
   simp at Y;subst Y;exact hm
 .rcases split i b q with⟨_,z⟩|⟨_,rfl⟩
  .exact U.own i b z
  .rw[qV];intro z;cases z
def YO {N:ag}(Y:N.Nodup){i j:Ah}{x:Af}(a:N[i]? = Ab x)(b:N[j]? = Ab x):i=j:=by
 obtain⟨G,J⟩:=Ay.mp a;obtain⟨U,Q⟩:=Ay.mp b;exact(Pu Y).mp (J.trans Q.symm)
def bf.put {a:Af}{i:Ah}(r:bf K H P α S)(N:α[i]? = Ab a)(hs:S[i]? = Ab m)(E:m≠.dead)(hm:sw K (cc H a o) P α a m'):bf K (cc H a o) P α (S.set i m'):=by
 have T:=r.sep i a m N hs E;have w:i<S.length:=(Ay.mp hs).1;refine⟨r.tb.keep (λb u q O=>?_) λ_ _ _ _ p n=>⟨p,n⟩,λb u e=>?_,by simp[r.len],r.nd,λj b u J U A=>?_,λj b u J U=>?_,λj b q=>?_⟩
 .refine(qL ?_).trans q
  rintro rfl;have z:=r.at' i _ m N hs;cases m with
  |dead=>exact E rfl
  |lst I=>obtain⟨Q,z,_⟩:=z;rw[q] at z;rcases O with⟨_,rfl⟩|⟨_,rfl⟩ <;> cases z
  |dct B=>obtain⟨Q,z,_⟩:=z;rw[q] at z;rcases O with⟨_,rfl⟩|⟨_,rfl⟩ <;> cases z
  |dcT B=>obtain⟨Q,z,_⟩:=z;rw[q] at z;rcases O with⟨_,rfl⟩|⟨_,rfl⟩ <;> cases z
  |ins C M=>obtain⟨L,Q,z,_⟩:=z;rw[q] at z;rcases O with⟨_,rfl⟩|⟨_,rfl⟩ <;> cases z
 .have Y:b≠a:=by rintro rfl;rw[T] at e;cases e
  rw[qL Y];exact r.sub _ _ e
 .by_cases G:j=i
  .subst G;rw[N] at J;cases J;exact T
  .rw[Ci (Gj G)] at U;exact r.sep j b u J U A
 .by_cases G:j=i
  .subst G;rw[N] at J;cases J
   rw[Dj w] at U;cases U;exact hm
  .rw[Ci (Gj G)] at U
   have Y:b≠a:=by rintro rfl;exact G (YO r.nd J N)
   have z:=r.at' j b u J U;cases u with
   |dead=>trivial
   |lst I=>obtain⟨Q,q,t⟩:=z;exact⟨Q,by rw[qL Y];exact q,t⟩
   |dct B=>obtain⟨Q,q,t⟩:=z;exact⟨Q,by rw[qL Y];exact q,t⟩
   |dcT B=>obtain⟨Q,q,t⟩:=z;exact⟨Q,by rw[qL Y];exact q,t⟩
   |ins C M=>obtain⟨L,Q,q,t⟩:=z;exact⟨L,Q,by rw[qL Y];exact q,t⟩
 .by_cases Y:b=a
  .subst Y;rw[qV];intro z;cases z
  .rw[qL Y];exact r.own j b q
end
def nn {β : Type}{a:β}{p:Prop}(h:(none:Ak β) = Ab a):p:=by cases h
def gX {β : Type}{c:Prop}[Ih c]{a b:β}(h:(if c then Ab a else none)=Ab b):c/\a=b:=by
 by_cases z:c
 .rw[Bg z] at h;exact⟨z,Dd h⟩
 .rw[Bd z] at h;exact nn h
end _D
end
namespace _D
open _L
variable {gx:aa}{us cb cs:ai}{bo:Aa Fb}{vs:Aa V}{u vv:Ac}{p C:Af}{od:Ak Af}{np:Ev}{R:It->Hp->Prop}{M:Lb}{sp:Sp}{S S1:ap}{Q:VK}
abbrev DE:=qD->ap->bb D
abbrev DT:=qD->ap->bb Au
abbrev DA:=qD->ap->bb (Aa D)
inductive ja where
 |nx (env:qD) (S:ap)|rt (d:D) (S:ap)|bk (env:qD) (S:ap)|ct (env:qD) (S:ap)|ex (c:Ac) (x:D) (env:qD) (S:ap)|bad
abbrev DS:=qD->ap->ja
def qt (X:Cx)(aj:aa)(H:Hp)(b:Af):Prop:=
 (∃ o,X.s₀.heap.get? b=Ab o)\/H b≠none\/(∃ p∈X.pn++aj,p.1=b)\/∃ x,X.env.cells.lookup x=Ab b
def Cv (X:Cx)(aj:aa)(H:Hp)(B h:Bt):Prop:=∀ b o,h.get? b=Ab o->qt X aj H b->b ∉ il X.stack->B.get? b=Ab o
inductive mf (X:Cx)(pins:aa)(H:Hp)(c:Ac)(e:Af)(h:Bt):Prop where
 |new (g:Bt) (args:ai):Xw g h e c args->g.FunFrames X.base X.stack->(∀ b o,h.get? b=Ab o->qt X pins H b->g.get? b=Ab o)->mf X pins H c e h
 |fly (B:Bt) (a0:Ac):Rk B X.stack e c a0 h->Cv X pins H B h->mf X pins H c e h
inductive wa (X:Cx)(P:Hp)(α : Aa Af)(c:Ac)(x:D)(S:ap)(u:Ac)(s:Ag):Prop
 |mk (e:Af) (pins:aa) (σ : _L.St) (H:Hp) (P':Hp) (α' : Aa Af) (e1:u=.ref e) (I:Inv X pins σ H s) (r:bf X.K H P' α' S) (q1:qF P P') (q2:α<+:α') (q3:X.ex=[]/\X.stack=X.env::X.outer/\X.env.frame=Ab X.env.locals) (q4:mf X pins H c e s.heap):wa X P α c x S u s
def wa.base {X:Cx}{P P1:Hp}{α Y:ag}(e:qF P P1)(h:α<+:Y)(k:wa X P1 Y c x S u s):wa X P α c x S u s:=by
 obtain⟨a,L,σ,H,G,J,O,I,r,N,T,B,U⟩:=k;exact⟨a,L,σ,H,G,J,O,I,r,e.trans N,h.trans T,B,U⟩
section
variable (X:Cx)
def qK {β:Type}(P:Hp)(α : Aa Af)(r:bb β)(Ok:β->ap->Prop):Prop:=
 match r with
 |.ok d Y=>Ok d Y
 |.ex c x Y=>∀ u J,wa X P α c x Y u J->X.xe u J
 |.bad=>Ex
def jf (P:Hp)(α : Aa Af)(Q:VK)(d:D)(G:ap):Prop:=∀ v U J Y,bf X.K U J Y G->qF P J->α<+:Y->au X.K J Y d v->Q v U
def zg (P:Hp)(α : Aa Af)(Q:Au->Hp->Prop)(b:Au)(G:ap):Prop:=∀ U J Y,bf X.K U J Y G->qF P J->α<+:Y->Q b U
def _m (P:Hp)(α : Aa Af)(Q:Aa V->Hp->Prop)(ds:Aa D)(G:ap):Prop:=∀ vs U J Y,bf X.K U J Y G->qF P J->α<+:Y->qE X.K J Y ds vs->Q vs U
abbrev qW (P:Hp)(α : Aa Af)(r:bb D)(Q:VK):Prop:=qK X P α r (jf X P α Q)
abbrev wZ (P:Hp)(α : Aa Af)(r:bb Au)(Q:Au->Hp->Prop):Prop:=qK X P α r (zg X P α Q)
abbrev pS (P:Hp)(α : Aa Af)(r:bb (Aa D))(Q:Aa V->Hp->Prop):Prop:=qK X P α r (_m X P α Q)
def qX (P:Hp)(α : Aa Af)(r:ja)(D:Ends):Prop:=
 match r with
 |.nx O N=>∀ J G U Y,bf X.K G U Y N->zA X.K U Y J O->qF P U->α<+:Y->D.nx J G
 |.bk O N=>∀ J G U Y,bf X.K G U Y N->zA X.K U Y J O->qF P U->α<+:Y->D.bk J G
 |.ct O N=>∀ J G U Y,bf X.K G U Y N->zA X.K U Y J O->qF P U->α<+:Y->D.ct J G
 |.rt d N=>∀ v G U Y,bf X.K G U Y N->qF P U->α<+:Y->au X.K U Y d v->D.rt v G
 |.ex c x _ N=>∀ u B,wa X P α c x N u B->X.xe u B
 |.bad=>Ex
inductive tD (f:DE)(σ : _L.St)(H:Hp)(Q:VK):Prop
 |mk (P:Hp) (α : Aa Af) (env:qD) (S:ap) (r:bf X.K H P α S) (re:zA X.K P α σ env) (af:qW X P α (f env S) Q):tD f σ H Q
inductive mv (f:DT)(σ : _L.St)(H:Hp)(Q:Au->Hp->Prop):Prop
 |mk (P:Hp) (α : Aa Af) (env:qD) (S:ap) (r:bf X.K H P α S) (re:zA X.K P α σ env) (af:wZ X P α (f env S) Q):mv f σ H Q
inductive ku (f:DA)(σ : _L.St)(H:Hp)(Q:Aa V->Hp->Prop):Prop
 |mk (P:Hp) (α : Aa Af) (env:qD) (S:ap) (r:bf X.K H P α S) (re:zA X.K P α σ env) (af:pS X P α (f env S) Q):ku f σ H Q
inductive ii (f:DS)(D:Ends)(σ : _L.St)(H:Hp):Prop
 |mk (P:Hp) (α : Aa Af) (env:qD) (S:ap) (r:bf X.K H P α S) (re:zA X.K P α σ env) (af:qX X P α (f env S) D):ii f D σ H
end
section
variable {X:Cx}{P P1:Hp}{α α1:ag}
def qW.base (e:qF P P1)(h:α<+:α1)(k:qW X P α r Q):qW X P1 α1 r Q:=by
 cases r with
 |ok d S=>exact λv U O Y r B G N=>k v U O Y r (e.trans B) (h.trans G) N
 |ex c x S=>exact λu J q=>k u J (q.base e h)
 |bad=>exact k
def wZ.base {Q:Au->Hp->Prop}(e:qF P P1)(h:α<+:α1)(k:wZ X P α r Q):wZ X P1 α1 r Q:=by
 cases r with
 |ok d S=>exact λN J Y r U O=>k N J Y r (e.trans U) (h.trans O)
 |ex c x S=>exact λu G q=>k u G (q.base e h)
 |bad=>exact k
def pS.base {Q:Aa V->Hp->Prop}(e:qF P P1)(h:α<+:α1)(k:pS X P α r Q):pS X P1 α1 r Q:=by
 cases r with
 |ok d S=>exact λv N J Y r U O B=>k v N J Y r (e.trans U) (h.trans O) B
 |ex c x S=>exact λu G q=>k u G (q.base e h)
 |bad=>exact k
def qX.base {D:Ends}(e:qF P P1)(h:α<+:α1)(k:qX X P α r D):qX X P1 α1 r D:=by
 cases r with
 |nx B S=>exact λv G J Y r O U N=>k v G J Y r O (e.trans U) (h.trans N)
 |bk B S=>exact λv G J Y r O U N=>k v G J Y r O (e.trans U) (h.trans N)
 |ct B S=>exact λv G J Y r O U N=>k v G J Y r O (e.trans U) (h.trans N)
 |rt d S=>exact λv G J Y r U N T=>k v G J Y r (e.trans U) (h.trans N) T
 |ex c x B S=>exact λu L q=>k u L (q.base e h)
 |bad=>exact k
def xr (k:jf X P α Q d S)(r:bf X.K H P α S)(q:au X.K P α d v):Q v H:=k v H P α r (qF.refl _) (AT _) q
end
section
variable {X:Cx}{a b e:By}{aq:Ev}
def ot {t t':TE}(h:PE X e t)(w:∀ σ H Q,t' σ H Q->t σ H Q):PE X e t':=λY s σ H Q I q=>h Y s σ H Q I (w σ H Q q)
def xf {st:Fb}{t t':TS}(h:PS X st t)(w:∀ D σ H,t' D σ H->t D σ H):PS X st t':=λY s σ H D I q=>h Y s σ H D I (w D σ H q)
def CM {st:Aa Fb}{t t':TS}(h:im X st t)(w:∀ D σ H,t' D σ H->t D σ H):im X st t':=λY s σ H D I q=>h Y s σ H D I (w D σ H q)
def paW {t t':TA}(h:PA X es t)(w:∀ σ H Q,t' σ H Q->t σ H Q):PA X es t':=λaq Y s σ H Q I q=>h aq Y s σ H Q I (w σ H Q q)
structure Got (X:Cx)(pins:aa)(σ : _L.St)(env:qD)(P:Hp)(α : Aa Af)(u:Ac)(s1:Ag)(v:V)(H1 P1:Hp)(α1:ag)(d:D)(S1:ap):Prop where
 inv:Inv X pins σ H1 s1
 val:qJ v u
 rel:bf X.K H1 P1 α1 S1
 env:zA X.K P1 α1 σ env
 rep:au X.K P1 α1 d v
 same:qF P P1
 pre:α<+:α1
inductive yl (X:Cx)(pins:aa)(σ : _L.St)(env:qD)(P:Hp)(α : Aa Af)(u:Ac)(s1:Ag){γ : Type}(g:D->ap->bb γ)(Ok:γ->ap->Prop):Prop
 |mk (v:V) (H1 P1:Hp) (α1:ag) (d:D) (S1:ap) (G:Got X pins σ env P α u s1 v H1 P1 α1 d S1) (q:qK X P α (g d S1) Ok):yl X pins σ env P α u s1 g Ok
inductive vp (X:Cx)(pins:aa)(σ : _L.St)(env:qD)(P:Hp)(α : Aa Af)(us:ai)(s1:Ag){γ : Type}(g:Aa D->ap->bb γ)(Ok:γ->ap->Prop):Prop
 |mk (vs:Aa V) (H1 P1:Hp) (α1:ag) (ds:Aa D) (S1:ap) (I:Inv X pins σ H1 s1) (rv:qM vs us) (r:bf X.K H1 P1 α1 S1) (re:zA X.K P1 α1 σ env) (rp:qE X.K P1 α1 ds vs) (e1:qF P P1) (e2:α<+:α1) (q:qK X P α (g ds S1) Ok):vp X pins σ env P α us s1 g Ok
inductive yi (X:Cx)(pins:aa)(σ : _L.St)(env:qD)(P:Hp)(α : Aa Af)(b:Au)(s1:Ag){γ : Type}(g:Au->ap->bb γ)(Ok:γ->ap->Prop):Prop
 |mk (H1 P1:Hp) (α1:ag) (S1:ap) (I:Inv X pins σ H1 s1) (r:bf X.K H1 P1 α1 S1) (re:zA X.K P1 α1 σ env) (e1:qF P P1) (e2:α<+:α1) (q:qK X P α (g b S1) Ok):yi X pins σ env P α b s1 g Ok
theorem zT {γ:Type}{g:D->ap->bb γ}{Ok:γ->ap->Prop}{σ:_L.St}{H P:Hp}{α:ag}{ak:qD}(m:PE X e (tD X f))(I:Inv X aj σ H s)(r:bf X.K H P α S)
  (T:zA X.K P α σ ak) (U:qK X P α ((f ak S).bind g) Ok) :
  ce X (eval e X.env) (λu E=>yl X aj σ ak P α u E g Ok) X.xe s:=by
 refine bv (m aj s σ H (λv N=>∃ J Y d S1,bf X.K N J Y S1/\zA X.K J Y σ ak/\au X.K J Y d v/\qF P J/\α<+:Y/\qK X P α (g d S1) Ok) I ⟨P,α,ak,S,r,T,?_⟩) λu E ⟨v,N,t,i,J,Y,d,S1,j,n,l,w,A,k⟩=>⟨v,N,J,Y,d,S1,⟨t,i,j,n,l,w,A⟩,k⟩;cases q:f ak S with
 |bad=>rw[q] at U;exact U
 |ex c x O=>rw[q] at U;exact U
 |ok d O =>
  rw[q] at U;exact λv h z G o B L y=>⟨z,G,d,O,o,T.mono B L,y,B,L,U⟩
theorem wV {γ:Type}{g:Aa D->ap->bb γ}{Ok:γ->ap->Prop}{σ:_L.St}{H P:Hp}{α:ag}{ak:qD}(n:PA X es (ku X f))(I:Inv X aj σ H s)(r:bf X.K H P α S)
  (E:zA X.K P α σ ak) (U:qK X P α ((f ak S).bind g) Ok) (aq:Ev) :
  ce X (spliced (Ga aq (Bk es X.env))) (λus A=>vp X aj σ ak P α us A g Ok) X.xe s:=by
 refine bv (n aq aj s σ H (λvs N=>∃ J Y L S1,bf X.K N J Y S1/\zA X.K J Y σ ak/\qE X.K J Y L vs/\qF P J/\α<+:Y/\qK X P α (g L S1) Ok) I ⟨P,α,ak,S,r,E,?_⟩) λu A ⟨v,N,m,h,J,Y,d,S1,y,i,t,z,w,o⟩=>⟨v,N,J,Y,d,S1,m,h,y,i,t,z,w,o⟩;cases q:f ak S with
 |bad=>rw[q] at U;exact U
 |ex c x O=>rw[q] at U;exact U
 |ok d O =>
  rw[q] at U;exact λv H' j G l B T k=>⟨j,G,d,O,l,E.mono B T,k,B,T,U⟩
theorem kT {γ:Type}{f:DT}{g:Au->ap->bb γ}{Ok:γ->ap->Prop}{aj:aa}{s:Ag}{σ:_L.St}{H P:Hp}{α:ag}{ak:qD}{m:Kj Au}
  (z:∀ (Q:Au->Hp->Prop),mv X f σ H Q->ce X m (TP X aj σ Q) X.xe s) (r:bf X.K H P α S) (T:zA X.K P α σ ak) (J:qK X P α ((f ak S).bind g) Ok) :
  ce X m (λb E=>yi X aj σ ak P α b E g Ok) X.xe s:=by
 refine bv (z (λb N=>∃ U Y S1,bf X.K N U Y S1/\zA X.K U Y σ ak/\qF P U/\α<+:Y/\qK X P α (g b S1) Ok) ⟨P,α,ak,S,r,T,?_⟩) λb E ⟨N,w,U,Y,S1,o,j,I,y,l⟩=>⟨N,U,Y,S1,w,o,j,I,y,l⟩;cases q:f ak S with
 |bad=>rw[q] at J;exact J
 |ex c x O=>rw[q] at J;exact J
 |ok d O =>
  rw[q] at J;exact λv k G A B L=>⟨k,G,O,A,T.mono B L,B,L,J⟩
def dC (d:D):DE:=λ_ S=>.ok d S
def qB (i:Ah):DE:=λY S=>match Y[i]? with
 |some (Ab d)=>.ok d S
 |_=>.bad
def SM:PE X (.Constant (.int i) j aq) (tD X (dC (.int i))):=ot CC λσ H Q ⟨P,α,U,S,r,J,Y⟩=>xr Y r (by simp only[au])
def IZ:PE X (.Constant (.bool i) j aq) (tD X (dC (.bl i))):=ot qAZ λσ H Q ⟨P,α,U,S,r,J,Y⟩=>xr Y r (by simp only[au])
def SV:PE X (.Constant (.str i) j aq) (tD X (dC (.str i))):=ot CG λσ H Q ⟨P,α,U,S,r,J,Y⟩=>xr Y r (by simp only[au])
def SQ:PE X (.Constant .none j aq) (tD X (dC .non)):=ot CD λσ H Q ⟨P,α,U,S,r,J,Y⟩=>xr Y r (by simp only[au])
set_option tactic.hygienic true in
def L7 {σ:_L.St}(h:tD X (qB i) σ H Q):AR i σ H Q:=by
 obtain⟨P,α,N,S,r,J,Y⟩:=h;unfold qB at Y
 split at Y
 .rename_i d q
  obtain⟨v,G,U⟩:=J.2 i d q;exact⟨v,G,xr Y r U⟩
 .exact Ao Y
def dv (i:Ah){x:As}(U:X.N[i]? = Ab x:=by rfl)(hv:oy X.env.scope x:=by first|exact AaO rfl|exact Zr (AaO rfl)|exact Zr (Zr rfl))(J:(x == ("__debug__" : As))=false:=by decide)
  (Y:(x == ("__classdict__" : As))=false:=by decide):PE X (.Name x aq) (tD X (qB i)):=ot (cZ U hv J Y) λσ H Q h=>L7 h
def o3 (Y:Gl X x)(hm:X.mg x=Ab u)(r:qJ v u)(q:∀ P α,au X.K P α d v)(U:(x == ("__debug__" : As))=false:=by decide):PE X (.Name x aq) (tD X (dC d)):=
 ot (N0 Y hm r U) λσ H Q ⟨P,α,G,S,r,N,J⟩=>xr J r (q _ _)
def FF (U:Gl X x)(hm:X.mg x=none)(hv:Gn x=Ab (.type n))(Y:x ≠ "__name__":=by decide)(G:(x == ("__debug__" : As))=false:=by decide):PE X (.Name x aq) (tD X (dC (.ty n))):=
 ot (TZ (v:=.ty n) U hm hv rfl Y G) λσ H Q ⟨P,α,N,S,r,O,J⟩=>xr J r (by simp only[au])
abbrev G2:=D->D->ap->bb D
def f_ (X:Cx)(f:Ac->Ac->Kj Ac)(g:G2):Prop:=
 ∀ (Y:aa) (σ : _L.St) (H:Hp) (s:Ag) (P:Hp) (α : Aa Af) (S:ap) (v u:V) (vv J:Ac) (a b:D) (Q:VK),Inv X Y σ H s->bf X.K H P α S->qJ v vv->qJ u J->au X.K P α a v->au X.K P α b u->qW X P α (g a b S) Q ->
  ce X (f vv J) (EP X Y σ Q) X.xe s
def f_.of {f:Ac->Ac->Kj Ac}{g:G2}(h:kz X f r)(w:∀ H P α S v u a b Q,bf X.K H P α S->au X.K P α a v->au X.K P α b u->qW X P α (g a b S) Q->r v u H Q):f_ X f g:=
 λJ σ H s P α S v u vv O a b Q I U B L G N Y=>h J s σ H v u vv O Q I B L (w H P α S v u a b Q U G N Y)
def D_ (X:Cx)(f:Ac->Kj Ac)(g:D->ap->bb D):Prop:=
 ∀ (Y:aa) (σ : _L.St) (H:Hp) (s:Ag) (P:Hp) (α : Aa Af) (S:ap) (v:V) (vv:Ac) (a:D) (Q:VK),Inv X Y σ H s->bf X.K H P α S->qJ v vv->au X.K P α a v->qW X P α (g a S) Q ->
  ce X (f vv) (EP X Y σ Q) X.xe s
def J_ (X:Cx)(g:G2):Prop:=
 ∀ (J Y:By) (G:aa) (σ : _L.St) (H:Hp) (s:Ag) (P:Hp) (α : Aa Af) (S:ap) (v u:V) (vv U:Ac) (a b:D) (Q:VK),Inv X G σ H s->bf X.K H P α S->qJ v vv->qJ u U->au X.K P α a v->au X.K P α b u->qW X P α (g a b S) Q ->
  subscripted Y false vv U=operate [vv,U] (Mj vv U)->ce X (Tk J Y vv U) (EP X G σ Q) X.xe s
def wN (X:Cx)(f:Ac)(g:Aa D->ap->bb D):Prop:=
 ∀ (J:aa) (σ : _L.St) (H:Hp) (s:Ag) (P:Hp) (α : Aa Af) (S:ap) (vs:Aa V) (us:ai) (Y:Aa D) (Q:VK),Inv X J σ H s->bf X.K H P α S->qM vs us->qE X.K P α Y vs->qW X P α (g Y S) Q ->
  ce X (call f us) (EP X J σ Q) X.xe s
def d2 (g:G2)(U J:DE):DE:=λY S=>(U Y S).bind λx S1=>(J Y S1).bind λy G=>g x y G
def d1 (g:D->ap->bb D)(J:DE):DE:=λY S=>(J Y S).bind g
variable {fa fb:DE}
def hJ {f:Ac->Ac->Kj Ac}{σ:_L.St}(q:f_ X f g)(E:PE X a (tD X fa))(A:PE X b (tD X fb))(I:Inv X aj σ H s)(h:tD X (d2 g fa fb) σ H Q) :
  ce X (eval a X.env) (λv J=>ce X (eval b X.env) (λu U=>ce X (f v u) (EP X aj σ Q) X.xe U) X.xe J) X.xe s:=by
 obtain⟨P,α,t,S,r,o,k⟩:=h;refine bv (zT E I r o k) λvv m ⟨v,n,T,G,d,S1,Y,O⟩=>?_;refine bv (zT A Y.inv Y.rel Y.env (P:=T) (α:=G) (Ok:=jf X T G Q) (g:=λy L=>g d y L) ?_) λl w ⟨u,j,c,B,z,L,G2,N⟩=>?_
 .exact qW.base Y.same Y.pre O
 .exact q aj σ j w c B L v u vv l d z Q G2.inv G2.rel Y.val G2.val (au.mono G2.same G2.pre _ _ Y.rep) G2.rep (qW.base G2.same G2.pre N)
def O7 (U:f_ X (Ej op) g)(Y:PE X a (tD X fa))(J:PE X b (tD X fb)):PE X (.BinOp a op b aq) (tD X (d2 g fa fb)):=
 λG s σ H Q I h=>wpAny_BinOp (hJ U Y J I h)
def SJ (U:f_ X (Cy op) g)(Y:PE X a (tD X fa))(J:PE X b (tD X fb))(hm:Nc op b=false:=by first|exact kY _|with_unfolding_all rfl):PE X (.Compare a [op] [b] aq) (tD X (d2 g fa fb)):=
 λG s σ H Q I h=>wpAny_Compare1 (hJ U Y J I h) hm
def O8 {g:D->ap->bb D}(L:D_ X (AaH op) g)(G:PE X a (tD X fa)):PE X (.UnaryOp op a aq) (tD X (d1 g fa)):=by
 intro B s σ H Q I h;obtain⟨P,α,w,S,r,T,O⟩:=h;exact UnaryOp_ (bv (zT G I r T O) λvv E ⟨v,A,N,J,d,S1,Y,U⟩=>L B σ A E N J S1 v vv d Q Y.inv Y.rel Y.val Y.rep (qW.base Y.same Y.pre U))
def O6 (ho:J_ X g)(ha:PE X a (tD X fa))(m:PE X b (tD X fb))(hs:lD b:=by intro _ _;rfl):PE X (.Subscript a b aq) (tD X (d2 g fa fb)):=by
 intro l s σ H Q I h;obtain⟨P,α,G,S,r,B,J⟩:=h;have O:vn X (λx y H Q=>∃ P α S a b,bf X.K H P α S/\au X.K P α a x/\au X.K P α b y/\qW X P α (g a b S) Q):=λU N l s σ H x y v u Q I rx ry ⟨P,α,S,a,b,r,n,p2,J⟩ o =>
  ho U N l σ H s P α S x y v u a b Q I r rx ry n p2 J o
 refine ot (qAa O ha m hs) (t':=tD X (d2 g fa fb)) (λσ H Q h=>?_) l s σ H Q I ⟨P,α,G,S,r,B,J⟩;obtain⟨P,α,G,S,r,B,J⟩:=h;refine⟨P,α,G,S,r,B,?_⟩;unfold d2 at J;cases q:fa G S with
 |bad=>rw[q] at J;exact J
 |ex c x i=>rw[q] at J;exact J
 |ok d S1 =>
  rw[q] at J;intro v H1 P1 L r1 T A rp;refine⟨P1,L,G,S1,r1,B.mono T A,?_⟩;have Y:qW X P α ((fb G S1).bind λy k=>g d y k) Q:=J;cases j:fb G S1 with
  |bad=>rw[j] at Y;exact Y
  |ex c x i=>rw[j] at Y;exact λu s' z=>Y u s' (z.base T A)
  |ok d' k =>
   rw[j] at Y;intro u H2 P2 E r2 f t w;exact⟨P2,E,k,d,d',r2,au.mono f t _ _ rp,w,qW.base (T.trans f) (A.trans t) Y⟩
def qC:DA:=λ_ S=>.ok [] S
def qA (f:DE)(g:DA):DA:=λY S=>(f Y S).bind λx S1=>(g Y S1).bind λU J=>.ok (x::U) J
def SD:PA X [] (ku X qC):=paW CB λσ H Q ⟨P,α,U,S,r,J,Y⟩=>Y [] H P α r (qF.refl _) (AT _) .nil
def FE (j:PE X e (tD X fa))(k:PA X es (ku X g))(hs:Bk (e::es) X.env=(false,eval e X.env)::Bk es X.env:=by rfl):PA X (e::es) (ku X (qA fa g)):=by
 intro aq i s σ H Q I h;obtain⟨P,α,v,S,r,w,o⟩:=h;rw[hs];show Aq _ _ (spliced ((false,eval e X.env)::Ga aq (Bk es X.env))) _ _ s;refine Kv (bv (zT j I r w o) λu f ⟨x,H1,L,J,d,S1,Y,N⟩=>?_);refine bv (wV k Y.inv Y.rel Y.env (P:=L) (α:=J) (Ok:=_m X L J Q) (pS.base Y.same Y.pre N) aq) λus n ⟨l,q,m,A,c,t,y,z,E,T,U,O,B,G⟩=>?_;exact⟨x::l,q,y,.cons Y.val z,G _ _ _ _ E O B (.cons (au.mono O B _ _ Y.rep) U)⟩
noncomputable def bq:Ah:=16777216
def zV:bq=sizeLine:=Gb.symm
def qP (f:DA):DE:=λJ S=>(f J S).bind λY S1=>if Y.length<=bq then .ok (.tup Y) S1 else .bad
def x8 (f:DA):DE:=λJ S=>(f J S).bind λY S1=>if Y.length<=bq then .ok (.lst Y) S1 else .bad
def v9 (f:DA):DE:=λJ S=>(f J S).bind λY S1=>if Y.length<=bq then .ok (.loc S1.length) (S1++[.lst Y]) else .bad
def Q5 {K:Ai}{P:Hp}{α:ag}{a:Af}(h:jh K P a vs)(r:qE K P α ds vs):au K P α (.tup ds) (.ref a):=by simp only[au];exact⟨a,vs,rfl,h,r⟩
def fO {K:Ai}{P:Hp}{α:ag}{a:Af}(h:pq K P a vs)(r:qE K P α ds vs):au K P α (.lst ds) (.ref a):=by simp only[au];exact⟨a,vs,rfl,h,r⟩
def p9 {H P:Hp}{α:ag}(r:bf X.K H P α S)(hp:H p=none)(G:qE X.K P α ds vs)(J:jf X P α Q (.tup ds) S):Q (.ref p) (cc H p (.tup vs)):=by
 obtain⟨U,Y⟩:=r.pure (o:=.tup vs) hp;exact J _ _ _ α U Y (AT _) (Q5 (.of qV) (qE.mono Y (AT _) _ _ G))
def wR {H P:Hp}{α:ag}(r:bf X.K H P α S)(hp:H p=none)(G:qE X.K P α ds vs)(J:jf X P α Q (.lst ds) S):Q (.ref p) (cc H p (.lst vs)):=by
 obtain⟨U,Y⟩:=r.pure (o:=.lst vs) hp;exact J _ _ _ α U Y (AT _) (fO (.inl (.inl qV)) (qE.mono Y (AT _) _ _ G))
def fD {H P:Hp}{α:ag}(r:bf X.K H P α S)(hp:H p=none)(G:qE X.K P α ds vs)(J:jf X P α Q (.loc S.length) (S++[.lst ds])):Q (.ref p) (cc H p (.lst vs)):=by
 have Y:α<+:α++[p]:=Fh _ _;have U:=r.new (o:=.lst vs) (m:=.lst ds) hp ⟨vs,qV,qE.mono (qF.refl _) Y _ _ G⟩;refine J _ _ _ _ U (qF.refl _) Y ?_;simp only[au];exact⟨p,rfl,by rw[<- r.len];simp⟩
theorem lK {f:DA}{σ:_L.St}{H:Hp}{G:Aa D->ap->bb D}{mk:Aa V->HO}(h:tD X (λak S=>(f ak S).bind λxs S1=>if xs.length<=bq then G xs S1 else .bad) σ H Q)
  (k:∀ N P1 J S1 ds vs p,bf X.K N P1 J S1->N p=none->qE X.K P1 J ds vs->qW X P1 J (G ds S1) Q->Q (.ref p) (cc N p (mk vs))) :
  ku X f σ H λvs N=>vs.length<=sizeLine/\∀ p,N p=none->Q (.ref p) (cc N p (mk vs)):=by
 obtain⟨P,α,ak,S,r,E,L⟩:=h;refine⟨P,α,ak,S,r,E,?_⟩;have Y:qW X P α ((f ak S).bind λxs S1=>if xs.length<=bq then G xs S1 else .bad) Q:=L
 cases q:f ak S with
 |bad=>rw[q] at Y;exact Y
 |ex c x z=>rw[q] at Y;exact Y
 |ok ds S1 =>
  rw[q] at Y;intro vs N P1 J I A T B;have U:qW X P α (if ds.length<=bq then G ds S1 else .bad) Q:=Y
  by_cases O:ds.length<=bq
  .rw[Bg O] at U
   exact⟨by rw[<- B.length,<- zV];exact O,λp w=>k N P1 J S1 ds vs p I w B (qW.base A T U)⟩
  .rw[Bd O] at U;exact Ao U
def SW {x1}(h:PA X es (ku X f)):PE X (.Tuple es x1 aq) (tD X (qP f)):=
 ot (CH h) λσ H Q q=>lK (G:=λO S1=>.ok (.tup O) S1) (mk:=.tup) q λT L Y S1 B vs p r N J U=>p9 r N J U
def SO (h:PA X es (ku X f)):PE X (.List es aq) (tD X (x8 f)):=
 ot (YX h) λσ H Q q=>lK (G:=λO S1=>.ok (.lst O) S1) (mk:=.lst) q λT L Y S1 B vs p r N J U=>wR r N J U
def FK (h:PA X es (ku X f)):PE X (.List es aq) (tD X (v9 f)):=
 ot (YX h) λσ H Q q=>lK (G:=λO S1=>.ok (.loc S1.length) (S1++[MO.lst O])) (mk:=.lst) q λT L Y S1 B vs p r N J U=>fD r N J U
end
section
variable {X:Cx}{a b c e:By}{aq:Ev}{fa fb fc:DE}{ta tb:DT}
def w5:D->ap->Ak Au
 |.non,_=>Ab false
 |.bl b,_=>Ab b
 |.int i,_=>Ab (i != 0)
 |.str x,_=>if x.length<=bq then Ab ((x.length:An) != 0) else none
 |.tup Y,_=>Ab (!Y.isEmpty)
 |.lst Y,_=>Ab (!Y.isEmpty)
 |.dct0,_=>Ab false
 |.loc i,S=>match S[i]? with
  |some (.lst Y)=>Ab (!Y.isEmpty)
  |some (.dct J)=>Ab (!J.isEmpty)
  |_=>none
 |_,_=>none
def qE.isEmpty {K:Ai}{P:Hp}{α:ag}(r:qE K P α ds vs):(!ds.isEmpty)=!vs.isEmpty:=by
 cases ds with
 |nil=>rw[r.nil_inv];rfl
 |cons d ds=>obtain⟨w,Y,rfl,_,_⟩:=r.cons_inv;rfl
def xW {K:Ai}{H P:Hp}(e:qF P H){a:Af}{xs:Aa V}(h:jh K P a xs):jh K H a xs:=wD e h
def uV {H P:Hp}{α:ag}{k:Au}(r:bf X.K H P α S)(p:au X.K P α d v)(h:w5 d S=Ab k):Z9 X.K v H k:=by
 cases d with
 |non=>simp only[au] at p;subst p;cases h;rfl
 |bl b=>simp only[au] at p;subst p;cases h;rfl
 |int i=>simp only[au] at p;subst p;cases h;rfl
 |str x =>
  simp only[au] at p;subst p;obtain⟨G,rfl⟩:=gX h;exact⟨by rw[<- zV];exact G,rfl⟩
 |tup Y =>
  simp only[au] at p;obtain⟨a,vs,rfl,q,t⟩:=p;cases h;exact .inr (.inl ⟨vs,xW r.sub q,t.isEmpty⟩)
 |lst Y =>
  simp only[au] at p;obtain⟨a,vs,rfl,q,t⟩:=p;cases h;exact .inl ⟨vs,(xS r.sub q).l,t.isEmpty⟩
 |dct0 =>
  simp only[au] at p;obtain⟨a,rfl,q⟩:=p;cases h;exact .inr (.inr ⟨[],r.sub _ _ q,rfl⟩)
 |loc i =>
  simp only[au] at p;obtain⟨a,rfl,q⟩:=p;have h:(match S[i]? with|some (.lst Y)=>Ab (!Y.isEmpty)|some (.dct J)=>Ab (!J.isEmpty)|_=>none)=Ab k:=h
  cases hs:S[i]? with
  |none=>rw[hs] at h;exact nn h
  |some m =>
   rw[hs] at h;cases m with
   |lst Y =>
    cases h;obtain⟨vs,z,t⟩:=r.at' i a _ q hs;exact .inl ⟨vs,.of z,t.isEmpty⟩
   |dct J =>
    cases h;obtain⟨vs,z,t⟩:=r.at' i a _ q hs;refine .inr (.inr ⟨vs,z,?_⟩);cases t <;> rfl
   |_=>exact nn h
 |ty n=>exact nn h
 |obj a=>exact nn h
 |exn c=>exact nn h
 |fd N U=>exact nn h
 |clo a vs U=>exact nn h
def BW {σ:_L.St}{H P:Hp}{α:ag}{k:Au}{Q:Au->Hp->Prop}(I:Inv X aj σ H s)(r:bf X.K H P α S)(Y:qJ v vv)(p:au X.K P α d v)(h:w5 d S=Ab k)(q:Q k H) :
  ce X (truthy vv) (TP X aj σ Q) X.xe s:=bM aj s σ H v vv Q I Y ⟨k,uV r p h,q⟩
def kI (o:Ak Au)(S:ap):bb Au:=match o with
 |some b=>.ok b S
 |none=>.bad
def dw (f:DE):DT:=λY S=>(f Y S).bind λd S1=>kI (w5 d S1) S1
def dH {P:Hp}{α:ag}{Ok:Au->ap->Prop}(h:qK X P α (kI o S) Ok):∃ b,o=Ab b/\Ok b S:=by
 cases o with
 |none=>exact Ao h
 |some b=>exact⟨b,rfl,h⟩
def RG (N:PE X a (tD X fa))(T:∀ Y,isTrue a X.env Y=(do let v <- Y;To a.pos;holding [v] (truthy v)):=by intro _;rfl):PT X a (mv X (dw fa)):=by
 intro w s σ H Q I h;obtain⟨P,α,z,S,r,E,L⟩:=h;refine isTrue_plain (bv (zT N I r E L) λvv j ⟨v,A,B,U,d,S1,J,G⟩=>?_) (T _);obtain⟨k,O,q⟩:=dH G;exact BW J.inv J.rel J.val J.rep O (q A B U J.rel J.same J.pre)
def RE (j:f_ X (Cy op) g)(t:PE X a (tD X fa))(T:PE X b (tD X fb))(hm:Nc op b=false:=by first|exact kY _|with_unfolding_all rfl):PT X (.Compare a [op] [b] aq) (mv X (dw (d2 g fa fb))):=by
 intro aj s σ H Q I h;obtain⟨P,α,N,S,r,l,af⟩:=h;refine wpAny_isTrue_Compare1 ?_ hm;have G:tD X (d2 g fa fb) σ H (λv J=>∃ k,Z9 X.K v J k/\Q k J):=by
  refine⟨P,α,N,S,r,l,?_⟩;have Y:qK X P α ((d2 g fa fb N S).bind λd S1=>kI (w5 d S1) S1) (zg X P α Q):=af;cases q:d2 g fa fb N S with
  |bad=>rw[q] at Y;exact Y
  |ex c x S'=>rw[q] at Y;exact Y
  |ok d S1 =>
   rw[q] at Y;obtain⟨k,A,O⟩:=dH (X:=X) Y;exact λv J i U B z e4 n=>⟨k,uV B n A,O J i U B z e4⟩
 exact bv (hJ j t T I G) λv s1 f=>bv f λu s2 m=>bv m λx L ⟨y,E,I3,w,k,o,O⟩=>bM aj L σ E y x Q I3 w ⟨k,o,O⟩
def y7 (g g':G2)(fa fb fc:DE):DE:=λJ S=>(fa J S).bind λx S1=>(fb J S1).bind λy G=>(g x y G).bind λz Y =>
 match w5 z Y with
 |some true=>(fc J Y).bind λw U=>g' y w U
 |some false=>.ok z Y
 |none=>.bad
inductive yk (X:Cx)(pins:aa)(σ : _L.St)(P:Hp)(α : Aa Af)(w:Ac)(s1:Ag){γ : Type}(k:D->ap->bb γ)(Ok:γ->ap->Prop):Prop
 |mk (y:V) (H1 P1:Hp) (α1:ag) (d:D) (S1:ap) (I:Inv X pins σ H1 s1) (rv:qJ y w) (r:bf X.K H1 P1 α1 S1) (rp:au X.K P1 α1 d y) (e1:qF P P1) (e2:α<+:α1) (q:qK X P α (k d S1) Ok):yk X pins σ P α w s1 k Ok
theorem cX {γ:Type}{f:Ac->Ac->Kj Ac}{k:D->ap->bb γ}{Ok:γ->ap->Prop}{σ:_L.St}{P:Hp}{α:ag}{v u:V}{G:Ac}{a b:D}(l:f_ X f g)(I:Inv X aj σ H s)(r:bf X.K H P α S)
  (m:qJ v vv) (ru:qJ u G) (pa:au X.K P α a v) (E:au X.K P α b u) (J:qK X P α ((g a b S).bind k) Ok) :
  ce X (f vv G) (λw L=>yk X aj σ P α w L k Ok) X.xe s:=by
 refine bv (l aj σ H s P α S v u vv G a b (λy O=>∃ U Y d S1,bf X.K O U Y S1/\au X.K U Y d y/\qF P U/\α<+:Y/\qK X P α (k d S1) Ok) I r m ru pa E ?_) λw L ⟨y,O,j,r1,U,Y,d,S1,h,t,q3,T,n⟩=>⟨y,O,U,Y,d,S1,j,r1,h,t,q3,T,n⟩;cases q:g a b S with
 |bad=>rw[q] at J;exact J
 |ex c x B=>rw[q] at J;exact J
 |ok d B =>
  rw[q] at J;exact λv H' i N z A o rp=>⟨i,N,d,B,z,rp,A,o,J⟩
def qK.base' {β:Type}{P P1:Hp}{α Y:ag}{r:bb β}{Ok J:β->ap->Prop}(e:qF P P1)(h:α<+:Y)(G:∀ d S,Ok d S->J d S)(k:qK X P α r Ok):qK X P1 Y r J:=by
 cases r with
 |ok d S=>exact G d S k
 |ex c x S=>exact λu U q=>k u U (q.base e h)
 |bad=>exact k
theorem UW (ho:f_ X (Cy op) g)(E:f_ X (Cy U) g')(ha:PE X a (tD X fa))(hb:PE X b (tD X fb))(hc:PE X c (tD X fc))
  (hm:Aa7 [op,U] [b,c]=false:=by with_unfolding_all rfl):PE X (.Compare a [op,U] [b,c] aq) (tD X (y7 g g' fa fb fc)):=by
 intro x s σ H Q I h;obtain⟨P,α,ak,S,r,re,af⟩:=h;refine Compare_chain (bv (zT ha I r re af) λvv s1 ⟨v,H1,P1,zb,d,S1,G,l⟩=>chain_link (bv (zT hb G.inv G.rel G.env (qW.base G.same G.pre l)) λuu s2 ⟨u,H2,P2,zc,d',S2,G2,q⟩ =>
  bv (cX ho G2.inv G2.rel G.val G2.val (au.mono G2.same G2.pre _ _ G.rep) G2.rep (qW.base G2.same G2.pre q)) λw s3 ⟨y,t,P3,o,z,S3,I3,m,N,O,B,L,Y⟩=>?_)) hm
 cases T:w5 z S3 with
 |none=>simp only[T] at Y;exact Ao Y
 |some k =>
  simp only[T] at Y;have tv:=uV N O T;refine bv (bM x s3 σ t y w (λA H'=>A=k/\H'=t) I3 m ⟨k,tv,rfl,rfl⟩) λA s4 ⟨n,i,hk,hH⟩=>?_;subst hk;subst hH;cases A with
  |false=>exact ite_ff ⟨y,n,i,m,Y y n P3 o N B L O⟩
  |true =>
   refine ite_tt (chain_last (bv (zT hc i N (G2.env.mono B L) (qW.base B L Y)) λww s5 ⟨w',H5,P5,j,d5,S5,J,f⟩=>?_));exact E x σ H5 s5 P5 j S5 u w' uu ww d' d5 Q J.inv J.rel G2.val J.val (au.mono (B.trans J.same) (L.trans J.pre) _ _ G2.rep) J.rep (qW.base J.same J.pre f)
theorem JB (ho:f_ X (Cy op) g)(t:f_ X (Cy B) g')(ha:PE X a (tD X fa))(hb:PE X b (tD X fb))(hc:PE X c (tD X fc))
  (hm:Aa7 [op,B] [b,c]=false:=by with_unfolding_all rfl):PT X (.Compare a [op,B] [b,c] aq) (mv X (dw (y7 g g' fa fb fc))):=by
 intro aj s σ H Q I h;obtain⟨P,α,J,S,r,re,af⟩:=h;have o:qK X P α ((y7 g g' fa fb fc J S).bind λd S1=>kI (w5 d S1) S1) (zg X P α Q):=af;have O:(y7 g g' fa fb fc J S).bind (λd S1=>kI (w5 d S1) S1)=(fa J S).bind λx S1=>(fb J S1).bind λy A=>(g x y A).bind λz Y =>
   match w5 z Y with
   |some true=>((fc J Y).bind λw G=>g' y w G).bind λd S1=>kI (w5 d S1) S1
   |some false=>.ok false Y
   |none=>.bad:=by
  unfold y7;cases fa J S with
  |bad=>rfl
  |ex _ _ _=>rfl
  |ok x S1 =>
   show bb.bind (bb.bind (fb J S1) _) _=bb.bind (fb J S1) _;cases fb J S1 with
   |bad=>rfl
   |ex _ _ _=>rfl
   |ok y A =>
    show bb.bind (bb.bind (g x y A) _) _=bb.bind (g x y A) _;cases g x y A with
    |bad=>rfl
    |ex _ _ _=>rfl
    |ok z Y =>
     show bb.bind (match w5 z Y with|some true=>(fc J Y).bind λw G=>g' y w G|some false=>.ok z Y|none=>.bad) _=_
     cases E:w5 z Y with
     |none=>simp only[E,bb.bind]
     |some k=>cases k <;> simp only[E,bb.bind,kI]
 rw[O] at o;refine isTrue_chain (bv (zT ha I r re o) λvv s1 ⟨v,H1,P1,zz,d,S1,L,zx⟩=>test_link (bv (zT hb L.inv L.rel L.env (wZ.base L.same L.pre zx)) λuu s2 ⟨u,H2,P2,q,d',A,G2,zs⟩ =>
  bv (cX ho G2.inv G2.rel L.val G2.val (au.mono G2.same G2.pre _ _ L.rep) G2.rep (wZ.base G2.same G2.pre zs)) λw s3 ⟨y,H3,P3,zv,z,Y,I3,r3,T,i,l,f,U⟩=>?_)) hm
 cases E:w5 z Y with
 |none=>simp only[E] at U;exact Ao U
 |some k =>
  simp only[E] at U;have tv:=uV T i E;refine bv (bM aj s3 σ H3 y w (λm H'=>m=k/\H'=H3) I3 r3 ⟨k,tv,rfl,rfl⟩) λm s4 ⟨H4,I4,hk,hH⟩=>?_;subst hk;subst hH;cases m with
  |false=>exact ite_ff ⟨H4,I4,U H4 P3 zv T l f⟩
  |true =>
   have zl:qK X P2 q ((fc J Y).bind λw G=>(g' d' w G).bind λd S1=>kI (w5 d S1) S1) (zg X P2 q Q):=by
    have e:((fc J Y).bind λw G=>(g' d' w G).bind λd S1=>kI (w5 d S1) S1)=(((fc J Y).bind λw G=>g' d' w G).bind λd S1=>kI (w5 d S1) S1):=by
     cases fc J Y <;> rfl
    rw[e];exact U
   refine ite_tt (test_last (bv (zT hc I4 T (G2.env.mono l f) (wZ.base l f zl)) λww s5 ⟨w',H5,P5,z1,d5,S5,N,zy⟩ =>
    bv (cX t N.inv N.rel G2.val N.val (au.mono (l.trans N.same) (f.trans N.pre) _ _ G2.rep) N.rep (wZ.base N.same N.pre zy)) λx6 s6 ⟨y6,H6,P6,n,d6,S6,I6,r6,j,zb,e5,e6,zc⟩=>?_))
   obtain⟨k6,q6,z6⟩:=dH zc;exact BW I6 j r6 zb q6 (z6 H6 P6 n j e5 e6)
def wG (t:DT):DT:=λY S=>(t Y S).bind λb S1=>.ok (!b) S1
def yN (t u:DT):DT:=λY S=>(t Y S).bind λb S1=>if b then u Y S1 else .ok false S1
def gN (t u:DT):DT:=λY S=>(t Y S).bind λb S1=>if b then .ok true S1 else u Y S1
def RF (G:PT X a (mv X ta)):PT X (.UnaryOp .Not a aq) (mv X (wG ta)):=by
 intro E s σ H Q I h;obtain⟨P,α,y,S,r,z,T⟩:=h;refine isTrue_not (bv (kT (λN q=>G E s σ H N I q) r z T) λb k ⟨U,L,Y,S1,B,j,A,O,w,J⟩=>⟨U,B,J U L Y j O w⟩)
def sv (X:Cx)(e:By)(t:DT):Prop:=PW X e (mv X t)
def sv.pt {t:DT}(h:sv X e t):PT X e (mv X t):=h _
def FZ (Y:PT X a (mv X ta)):sv X (.BoolOp .And [a] aq) ta:=NA Y
def RJ (Y:PT X a (mv X ta)):sv X (.BoolOp .Or [a] aq) ta:=CO Y
def RI {B:Aa By}(w:PT X a (mv X ta))(j:sv X (.BoolOp .And (b::B) aq) tb):sv X (.BoolOp .And (a::b::B) aq) (yN ta tb):=by
 intro o L s σ H Q I h;obtain⟨P,α,y,S,r,g,z⟩:=h;refine isTrue_and (bv (kT (λl q=>w L s σ H l I q) r g z) λk d ⟨G,O,Y,S1,N,E,U,A,T,J⟩=>?_);cases k with
 |true=>exact j o L d σ G Q N ⟨O,Y,y,S1,E,U,wZ.base A T J⟩
 |false=>exact⟨G,N,J G O Y E A T⟩
def OE {B:Aa By}(w:PT X a (mv X ta))(j:sv X (.BoolOp .Or (b::B) aq) tb):sv X (.BoolOp .Or (a::b::B) aq) (gN ta tb):=by
 intro o L s σ H Q I h;obtain⟨P,α,y,S,r,g,z⟩:=h;refine isTrue_or (bv (kT (λl q=>w L s σ H l I q) r g z) λk d ⟨G,O,Y,S1,N,E,U,A,T,J⟩=>?_);cases k with
 |true=>exact⟨G,N,J G O Y E A T⟩
 |false=>exact j o L d σ G Q N ⟨O,Y,y,S1,E,U,wZ.base A T J⟩
def pZ (f g:DE):DE:=λY S=>(f Y S).bind λx S1=>match w5 x S1 with
 |some true=>g Y S1
 |some false=>.ok x S1
 |none=>.bad
def hW (f:DE):DE:=λY S=>(f Y S).bind λx S1=>match w5 x S1 with
 |some b=>.ok (.bl (!b)) S1
 |none=>.bad
def SS  (h:PE X a (tD X fa)):PE X (.BoolOp op [a] aq) (tD X fa):=CF h
def AV {σ:_L.St}{k:Au}{R:Au->Ag->Prop}(I:Inv X aj σ H s)(B:qJ v vv)(t:Z9 X.K v H k)(h:∀ s',Inv X aj σ H s'->R k s') :
  ce X (truthy vv) R X.xe s:=bv (bM aj s σ H v vv (λY U=>Y=k/\U=H) I B ⟨k,t,rfl,rfl⟩) λY N ⟨L,G,J,O⟩=>by subst J;subst O;exact h N G
def SG {L:Aa By}(T:PE X a (tD X fa))(w:PE X (.BoolOp .And (b::L) aq) (tD X fb)):PE X (.BoolOp .And (a::b::L) aq) (tD X (pZ fa fb)):=by
 intro A s σ H Q I h;obtain⟨P,α,z,S,r,y,E⟩:=h;refine BoolOp_and (bv (zT T I r y E) λvv q ⟨v,N,B,U,d,S1,Y,J⟩=>?_);cases G:w5 d S1 with
 |none=>simp only[G] at J;exact Ao J
 |some k =>
  simp only[G] at J;refine AV Y.inv Y.val (uV Y.rel Y.rep G) λj O=>?_;cases k with
  |true=>exact w A j σ N Q O ⟨B,U,z,S1,Y.rel,Y.env,qW.base Y.same Y.pre J⟩
  |false=>exact⟨v,N,O,Y.val,J v N B U Y.rel Y.same Y.pre Y.rep⟩
def SR (O:PE X a (tD X fa)):PE X (.UnaryOp .Not a aq) (tD X (hW fa)):=by
 intro w s σ H Q I h;obtain⟨P,α,z,S,r,E,T⟩:=h;refine UnaryOp_ (bv (zT O I r E T) λvv j ⟨v,N,L,U,d,S1,J,Y⟩=>?_);cases G:w5 d S1 with
 |none=>simp only[G] at Y;exact Ao Y
 |some k =>
  simp only[G] at Y;exact not_of (AV J.inv J.val (uV J.rel J.rep G) λA B=>⟨.bl (!k),N,B,rfl,Y (.bl (!k)) N L U J.rel J.same J.pre (by simp only[au])⟩)
def xt (t:DT)(f g:DE):DE:=λY S=>(t Y S).bind λb S1=>if b then f Y S1 else g Y S1
def O1 (o:PT X c (mv X ta))(z:PE X a (tD X fa))(j:PE X b (tD X fb)):PE X (.IfExp c a b aq) (tD X (xt ta fa fb)):=by
 intro G s σ H Q I h;obtain⟨P,α,L,S,r,g,l⟩:=h;refine wpAny_IfExp (bv (kT (λy q=>o G s σ H y I q) r g l) λk A ⟨w,B,Y,S1,O,E,U,N,T,J⟩=>?_);cases k with
 |true=>exact z G A σ w Q O ⟨B,Y,L,S1,E,U,qW.base N T J⟩
 |false=>exact j G A σ w Q O ⟨B,Y,L,S1,E,U,qW.base N T J⟩
end
@[inline] noncomputable def bb.toS {β:Type}(ak:qD)(r:bb β)(k:β->ap->ja):ja:=
 match r with
 |.ok d S=>k d S
 |.ex c x S=>.ex c x ak S
 |.bad=>.bad
section
variable {X:Cx}{a b c e:By}{aq:Ev}{fa:DE}{ta:DT}{f g:DS}{st:Fb}{ay:Aa Fb}
def zJ:DS:=λY S=>.nx Y S
def qI (f g:DS):DS:=λJ S=>match f J S with
 |.nx Y S1=>g Y S1
 |o=>o
def R8:im X [] (ii X zJ):=CM N6 λD σ H ⟨P,α,U,S,r,Y,J⟩=>J σ H P α r Y (qF.refl _) (AT _)
def FT (h1:PS X st (ii X f))(h2:im X ay (ii X g)):im X (st::ay) (ii X (qI f g)):=CM (GD h1 h2) λD σ H ⟨P,α,N,S,r,E,J⟩=>by
 refine⟨P,α,N,S,r,E,?_⟩;unfold qI at J;cases q:f N S with
 |nx Y S1 =>
  rw[q] at J;exact λI A O U L G B T=>⟨O,U,Y,S1,L,G,qX.base B T J⟩
 |rt d S1=>rw[q] at J;exact J
 |bk Y S1=>rw[q] at J;exact J
 |ct Y S1=>rw[q] at J;exact J
 |ex c x Y S1=>rw[q] at J;exact J
 |bad=>rw[q] at J;exact J
def R9 (h1:PS X st (ii X f)):im X [st] (ii X f):=N7 h1
def xG {β:Type}{P:Hp}{α:ag}{r:bb β}{k:β->ap->ja}{D:Ends}(h:qX X P α (r.toS ak k) D):qK X P α r λd S=>qX X P α (k d S) D:=by
 cases r with
 |ok d S=>exact h
 |ex c x S=>exact h
 |bad=>exact h
inductive yj (X:Cx)(pins:aa)(σ : _L.St)(env:qD)(P:Hp)(α : Aa Af)(u:Ac)(s1:Ag)(k:D->ap->ja)(E:Ends):Prop
 |mk (v:V) (H1 P1:Hp) (α1:ag) (d:D) (S1:ap) (G:Got X pins σ env P α u s1 v H1 P1 α1 d S1) (q:qX X P1 α1 (k d S1) E):yj X pins σ env P α u s1 k E
def tR {k:D->ap->ja}{σ:_L.St}{H P:Hp}{α:ag}{ak:qD}{D:Ends}(B:PE X e (tD X fa))(I:Inv X aj σ H s)(r:bf X.K H P α S)
  (L:zA X.K P α σ ak) (O:qX X P α ((fa ak S).toS ak k) D) :
  ce X (eval e X.env) (λu U=>yj X aj σ ak P α u U k D) X.xe s:=by
 have J:qK X P α ((fa ak S).bind λd S=>.ok d S) λd S=>qX X P α (k d S) D:=by
  have:=xG O;cases q:fa ak S <;> rw[q] at this <;> exact this
 exact bv (zT B I r L J) λu U ⟨v,T,N,Y,d,S1,G,q⟩=>⟨v,T,N,Y,d,S1,G,qX.base G.same G.pre q⟩
def w9 (f:DE):DS:=λY S=>(f Y S).toS Y λ_ S1=>.nx Y S1
def FU (O:PE X e (tD X fa))(hs:Pb e none aq.line X.env=pure false:=by rfl):PS X (.Expr e aq) (ii X (w9 fa)):=by
 intro L s σ H D I h;obtain⟨P,α,T,S,r,B,N⟩:=h;exact wpAny_Expr_any (bv (tR O I r B N) λv E ⟨x,J,U,Y,d,S1,G,q⟩=>⟨σ,J,G.inv,q σ J U Y G.rel G.env (qF.refl _) (AT _)⟩) I.quiet hs
def qU (f:DE):DS:=λY S=>(f Y S).toS Y λd S1=>.rt d S1
def RB (O:PE X e (tD X fa)):PS X (.Return (Ab e) aq) (ii X (qU fa)):=by
 intro L s σ H D I h;obtain⟨P,α,T,S,r,B,N⟩:=h;exact wpAny_Return_some (bv (tR O I r B N) λv E ⟨x,J,U,Y,d,S1,G,q⟩=>⟨x,σ,J,G.inv,G.val,q x J U Y G.rel (qF.refl _) (AT _) G.rep⟩)
def gf (t:DT)(f g:DS):DS:=λY S=>(t Y S).toS Y λb S1=>if b then f Y S1 else g Y S1
def OC {as bs:Aa Fb}(j:PT X c (mv X ta))(y:im X as (ii X f))(l:im X bs (ii X g)):PS X (.If c as bs aq) (ii X (gf ta f g)):=by
 intro N s σ H D I h;obtain⟨P,α,Y,S,r,t,o⟩:=h;have O:qK X P α ((ta Y S).bind λd S=>.ok d S) λb S=>qX X P α (if b then f Y S else g Y S) D:=by
  have:=xG o;cases q:ta Y S <;> rw[q] at this <;> exact this
 refine wpAny_If (bv (kT (λv q=>j N s σ H v I q) r t O) λk A ⟨z,L,G,S1,B,E,U,w,T,J⟩=>?_);cases k with
 |true=>exact y N A σ z D B ⟨L,G,Y,S1,E,U,qX.base w T J⟩
 |false=>exact l N A σ z D B ⟨L,G,Y,S1,E,U,qX.base w T J⟩
abbrev DG:=D->qD->ap->bb qD
abbrev qu:=Aa D->qD->ap->bb qD
def yb (X:Cx)(P:Hp)(α : Aa Af)(Q:_L.St->Hp->Prop)(b_:qD)(N:ap):Prop:=∀ J G U Y,bf X.K G U Y N->zA X.K U Y J b_->qF P U->α<+:Y->Q J G
def nz (X:Cx)(g:DG):TG:=λv σ H Q=>∃ P α Y S d,bf X.K H P α S/\zA X.K P α σ Y/\au X.K P α d v/\qK X P α (g d Y S) (yb X P α Q)
def aX (X:Cx)(g:qu):uz:=λvs σ H Q=>∃ P α Y S J,bf X.K H P α S/\zA X.K P α σ Y/\qE X.K P α J vs/\qK X P α (g J Y S) (yb X P α Q)
def zA.set {K:Ai}{P:Hp}{α:ag}{σ:_L.St}(Y:zA K P α σ ak)(i:Ah)(N:au K P α d v):zA K P α (σ.set i (Ab v)) (ak.set i (Ab d)):=by
 refine⟨by simp[Y.1],λj G e=>?_⟩
 by_cases J:i=j
 .subst J
  by_cases U:i<ak.length
  .rw[Dj U] at e
   cases e;exact⟨v,by rw[Dj (by rw[<- Y.1];exact U)],N⟩
  .rw[Lu (by simp;fin2)] at e;cases e
 .rw[Ci J] at e ⊢
  exact Y.2 j G e
def bh (i:Ah):DG:=λd Y S=>.ok (Y.set i (Ab d)) S
def FO {i:Ah}(N:X.N.Nodup)(hi:X.N[i]? = Ab x:=by rfl)(Y:Loc X.env.scope x:=by first|exact AaO rfl|exact Zr rfl)(J:X.fn x=true\/X.env.scope.names.lookup x=Ab .local:=by first|exact .inl rfl|exact .inr rfl|assumption):PG X (.Name x aq) (nz X (bh i)):=by
 intro L s σ H v u Q I G h;obtain⟨P,α,T,S,d,r,U,O,B⟩:=h;exact N1 N hi Y J L s σ H v u Q I G (B _ H P α r (U.set i O) (qF.refl _) (AT _))
def yG:qu:=λJ Y S=>match J with
 |[]=>.ok Y S
 |_=>.bad
def zI (g:DG)(J:qu):qu:=λG U S=>match G with
 |d::r=>(g d U S).bind λY S1=>J r Y S1
 |[]=>.bad
def FP:tx X [] (aX X yG):=by
 intro G s σ H vs us Q I O h;obtain⟨P,α,B,S,Y,r,N,U,J⟩:=h;cases Y with
 |nil=>exact N2 G s σ H vs us Q I O ⟨U.nil_inv,J σ H P α r N (qF.refl _) (AT _)⟩
 |cons d Y=>exact Ao J
def J0 {g:DG}(h1:PG X e (nz X g))(h2:tx X es (aX X T))(hs:(Hn (e::es) X.env).map (·.2)=assign e X.env::(Hn es X.env).map (·.2):=by rfl):tx X (e::es) (aX X (zI g T)):=by
 intro aj s σ H vs us Q I n h;obtain⟨P,α,B,S,U,r,m,rp,j⟩:=h;cases U with
 |nil=>exact Ao j
 |cons d U =>
  obtain⟨w,ws,rfl,y,t⟩:=rp.cons_inv;refine G9 h1 h2 hs aj s σ H _ us Q I n ⟨w,ws,rfl,P,α,B,S,d,r,m,y,?_⟩;have Y:qK X P α ((g d B S).bind λJ S1=>T U J S1) (yb X P α Q):=j;cases q:g d B S with
  |bad=>rw[q] at Y;exact Y
  |ex c x k=>rw[q] at Y;exact Y
  |ok J S1 =>
   rw[q] at Y;intro i H' P' E l z N L;refine⟨P',E,J,S1,U,l,z,qE.mono N L _ _ t,qK.base' N L (λb_ k ok A H2 P2 O o G v e4=>ok A H2 P2 O o G (N.trans v) (L.trans e4)) Y⟩
def ou (n:Ah)(J:qu):DG:=λd U S=>match d with
 |.tup Y=>if Y.length=n then J Y U S else .bad
 |_=>.bad
set_option tactic.hygienic true in
def SZ {k:Ah}{n:Ah}(N:X.calm=true)(h:tx X es (aX X U))(O:(Hn es X.env).length=n:=by rfl)(J:(Hn es X.env).findIdx? (·.1)=none:=by rfl):PG X (.Tuple es k aq) (nz X (ou n U)):=by
 intro B s σ H v u Q I A w;obtain⟨P,α,L,S,d,r,E,G,Y⟩:=w;cases d with
 |tup z =>
  simp only[au] at G;obtain⟨a,vs,rfl,q,t⟩:=G;simp only[ou] at Y
  split at Y
  .rename_i T
   exact CI N h O J B s σ H _ u Q I A ⟨a,vs,rfl,xW r.sub q,by rw[<- t.length];exact T,P,α,L,S,z,r,E,t,Y⟩
  .exact Ao Y
 |_=>exact Ao Y
abbrev G3:=D->D->D->ap->bb Ro
def OkU (X:Cx)(P:Hp)(α : Aa Af)(Q:Hp->Prop)(_:Ro)(G:ap):Prop:=∀ U J Y,bf X.K U J Y G->qF P J->α<+:Y->Q U
def rY (X:Cx)(g:G3):D6:=λo i v H Q=>∃ P α S a b d,bf X.K H P α S/\au X.K P α a o/\au X.K P α b i/\au X.K P α d v/\qK X P α (g a b d S) (OkU X P α Q)
def wq (G fi:DE)(g:G3):DG:=λd Y S=>(G Y S).bind λo S1=>(fi Y S1).bind λi U=>(g o i d U).bind λ_ J=>.ok Y J
def SY {g:G3}(ho:PE X o (tD X fo))(hi:PE X i (tD X fi))(hs:eF X (rY X g))
  (ha:∀ v,assign (.Subscript o i aq) X.env v=(do
   let G <- holding [v] (eval o X.env)
   let O <- holding [v,G] (eval i X.env)
   To aq
   holding [v,G,O] (setItem G O v)
   release [v,G,O] []):=by intro _;rfl):PG X (.Subscript o i aq) (nz X (wq fo fi g)):=by
 intro aj s σ H v u Q I rv h;obtain⟨P,α,ak,S,d,r,re,rp,af⟩:=h;rw[ha];refine Ad (Ee (bv (zT ho I r re af) λG s1 ⟨x,H1,t,N,d1,S1,J,T⟩=>?_));refine Ad (Ee (bv (zT hi J.inv J.rel J.env (P:=t) (α:=N) (Ok:=yb X t N Q) (qK.base' J.same J.pre (λb_ S' ok j A k U r2 B e3 e4=>ok j A k U r2 B (J.same.trans e3) (J.pre.trans e4)) T)) λO s2 ⟨y,A,k,U,d2,n,G2,Y⟩=>?_));refine Ad (Nb (Ad (Ee (bv (hs aj s2 σ A x y v G O u (λL=>Q σ L) G2.inv J.val G2.val rv ⟨k,U,n,d1,d2,d,G2.rel,au.mono G2.same G2.pre _ _ J.rep,G2.rep,au.mono (J.same.trans G2.same) (J.pre.trans G2.pre) _ _ rp,?_⟩) λ_ s3 ⟨L,I3,q3⟩=>?_))))
 .cases q:g d1 d2 d n with
  |bad=>rw[q] at Y;exact Y
  |ex c x S'=>rw[q] at Y;exact λu s' z=>Y u s' (z.base G2.same G2.pre)
  |ok w S3 =>
   rw[q] at Y;exact λH' P' E r' l m=>Y σ H' P' E r' (G2.env.mono l m) (G2.same.trans l) (G2.pre.trans m)
 .exact wpAny_release ⟨σ,L,I3,q3⟩
def qS (f:DE)(g:DG):DS:=λY S=>(f Y S).toS Y λd S1=>(g d Y S1).toS Y λJ U=>.nx J U
def W1 {g:DG}{P:Hp}{α:ag}{J:Ends}(h:qX X P α ((g d ak S).toS ak λb_ U=>.nx b_ U) J):qK X P α (g d ak S) (yb X P α J.nx):=by
 cases q:g d ak S with
 |bad=>rw[q] at h;exact h
 |ex c x G=>rw[q] at h;exact h
 |ok Y S1=>rw[q] at h;exact h
def R5 {g:DG}(T:PE X e (tD X fa))(N:PG X Y (nz X g))(hs:Na [Y] e aq.line X.env=pure false:=by rfl)(hw:Mz [Y] e X.env=pure none:=by rfl)
  (h1:(Hn [Y] X.env).map (·.2)=[assign Y X.env]:=by rfl):PS X (.Assign [Y] e aq) (ii X (qS fa g)):=by
 intro B s σ H D I h;obtain⟨P,α,L,S,r,E,U⟩:=h;refine wpAny_Assign_stores (bv (tR T I r E U) λv A ⟨x,w,O,J,d,S1,G,q⟩=>?_) hs hw;rw[h1];exact bv (N B A σ w x v _ G.inv G.val ⟨O,J,L,S1,d,G.rel,G.env,G.rep,W1 q⟩) λ_ z q=>q
def RC {i:Ah}(E:X.N.Nodup)(B:PE X e (tD X fa))(hi:X.N[i]? = Ab x:=by rfl)(N:Loc X.env.scope x:=by first|exact AaO rfl|exact Zr rfl)(hs:Pb e (Ab (.Name x Y)) aq.line X.env=pure false:=by rfl)
  (O:X.fn x=true\/X.env.scope.names.lookup x=Ab .local:=by first|exact .inl rfl|exact .inr rfl|assumption):PS X (.Assign [.Name x Y] e aq) (ii X (qS fa (bh i))):=by
 intro o s σ H D I h;obtain⟨P,α,z,S,r,L,w⟩:=h;refine wpAny_Assign_Name (bv (tR B I r L w) λv j ⟨y,U,A,J,d,S1,G,q⟩=>?_) hs;exact vQ G.inv E hi N G.val (λk T=>⟨_,U,T,q _ U A J G.rel (G.env.set i G.rep) (qF.refl _) (AT _)⟩) O
noncomputable def YW (i j:Ah)(ak:qD)(S1:ap):Aa D->ja
 |[x,y]=>.nx ((ak.set i (Ab x)).set j (Ab y)) S1
 |_=>.bad
def uM (i j:Ah)(f:DA):DS:=λY S=>(f Y S).toS Y λJ S1=>YW i j Y S1 J
def RA {i j:Ah}{f:DA}{T G B:Ev}{kt k2 pt2}(hc:X.calm=true) (v:X.N.Nodup) (z:PA X [a,b] (ku X f)) (hi:X.N[i]? = Ab x:=by rfl) (s:X.N[j]? = Ab y:=by rfl) (N:i≠j:=by decide)
  (o:X.env.scope.names.lookup x=Ab .local:=by rfl) (k:X.env.scope.names.lookup y=Ab .local:=by rfl)
  (hw:Mz [.Tuple [.Name x T,.Name y G] kt B] (.Tuple [a,b] k2 pt2) X.env=pure (Ab [x,y]):=by rfl)
  (hs:Na [.Tuple [.Name x T,.Name y G] kt B] (.Tuple [a,b] k2 pt2) aq.line X.env=pure false:=by rfl) :
  PS X (.Assign [.Tuple [.Name x T,.Name y G] kt B] (.Tuple [a,b] k2 pt2) aq) (ii X (uM i j f)):=xf (CL hc v hi s N o k z hw hs) λD σ H ⟨P,α,L,S,r,A,af⟩=>by
 refine⟨P,α,L,S,r,A,?_⟩;have Y:=xG af;cases q:f L S with
 |bad=>rw[q] at Y;exact Y
 |ex c x S'=>rw[q] at Y;exact Y
 |ok U S1 =>
  rw[q] at Y;intro vs H' l O r' E I h;have J:qX X P α (YW i j L S1 U) D:=Y;cases U with
  |nil=>exact Ao J
  |cons d U=>cases U with
   |nil=>exact Ao J
   |cons d' U=>cases U with
    |cons _ _=>exact Ao J
    |nil =>
     obtain⟨w,ws,rfl,m,t⟩:=h.cons_inv;obtain⟨n,zb,rfl,p2,t⟩:=t.cons_inv;rw[t.nil_inv];exact⟨w,n,rfl,J _ _ l O r' (((A.mono E I).set i m).set j p2) E I⟩
end
structure wg (K:Ai)(J:It)(P:Hp)(α : Aa Af)(ds:Aa D):Prop where
 go:∀ i H P1 α1 S,i<ds.length->bf K H P1 α1 S->qF P P1->α<+:α1->J.go i H
 yld:∀ i H x H' P1 α1 S,i<ds.length->bf K H P1 α1 S->qF P P1->α<+:α1->J.yld i H x H'->∃ P2 d,ds[i]? = Ab d/\bf K H' P2 α1 S/\qF P1 P2/\au K P2 α1 d x
 stop:∀ i H P1 α1 S,ds.length<=i->bf K H P1 α1 S->qF P P1->α<+:α1->J.stop i H
abbrev DI:=qD->ap->bb (Aa D)
def wv (X:Cx)(P:Hp)(α : Aa Af)(R:It->Hp->Prop)(ds:Aa D)(N:ap):Prop:=∀ J G U Y,bf X.K G U Y N->qF P U->α<+:Y->wg X.K J U Y ds->R J G
inductive vt (X:Cx)(f:DI)(σ : _L.St)(H:Hp)(R:It->Hp->Prop):Prop
 |mk (P:Hp) (α : Aa Af) (env:qD) (S:ap) (r:bf X.K H P α S) (re:zA X.K P α σ env) (af:qK X P α (f env S) (wv X P α R)):vt X f σ H R
def uK {β:Type}(o:Ak β)(S:ap):bb β:=match o with
 |some b=>.ok b S
 |none=>.bad
def uU {X:Cx}{β:Type}{o:Ak β}{P:Hp}{α:ag}{Ok:β->ap->Prop}(h:qK X P α (uK o S) Ok):∃ b,o=Ab b/\Ok b S:=by
 cases o with
 |none=>exact Ao h
 |some b=>exact⟨b,rfl,h⟩
def xT {X:Cx}{β:Type}{c:Prop}[Ih c]{r:bb β}{P:Hp}{α : Aa Af}{Ok:β->ap->Prop}(h:qK X P α (if c then r else .bad) Ok):c/\qK X P α r Ok:=by
 by_cases z:c
 .rw[Bg z] at h;exact⟨z,h⟩
 .rw[Bd z] at h;exact Ao h
def cW {X:Cx}{β:Type}{g:D->bb β}{P:Hp}{α:ag}{Ok:β->ap->Prop}(h:qK X P α (match ds with|[d]=>g d|_=>.bad) Ok):∃ d,ds=[d]/\qK X P α (g d) Ok:=by
 cases ds with
 |nil=>exact Ao h
 |cons d ds =>
  cases ds with
  |nil=>exact⟨d,rfl,h⟩
  |cons _ _=>exact Ao h
def dD {β:Type}{i:Ah}{f:Aa D->Ak β}{g:Aa (c_ × D)->Ak β}{b:β}(h:(match S[i]? with|some (.lst xs)=>f xs|some (.dct Y)=>g Y|_=>none)=Ab b):(∃ xs,S[i]? = Ab (.lst xs)/\f xs=Ab b)\/∃ Y,S[i]? = Ab (.dct Y)/\g Y=Ab b:=by
 cases e:S[i]? with
 |none=>rw[e] at h;exact nn h
 |some m =>
  rw[e] at h;cases m with
  |lst xs=>exact .inl ⟨xs,rfl,h⟩
  |dct Y=>exact .inr ⟨Y,rfl,h⟩
  |_=>exact nn h
def ES {β:Type}{i:Ah}{f:Aa D->Ak β}{b:β}(h:(match S[i]? with|some (.lst xs)=>f xs|_=>none)=Ab b):∃ xs,S[i]? = Ab (.lst xs)/\f xs=Ab b:=by
 cases e:S[i]? with
 |none=>rw[e] at h;exact nn h
 |some m =>
  rw[e] at h;cases m with
  |lst xs=>exact⟨xs,rfl,h⟩
  |_=>exact nn h
inductive _s (d:D)(xs:Aa D):Prop
 |tup (e:d=.tup xs)
 |lst (e:d=.lst xs)
noncomputable def fK {β:Type}(S:ap)(n:Ah)(f:Aa D->bb β) : bb β:=match S[n]? with
 |some (.lst Y)=>f Y
 |_=>.bad
def jG {X:Cx}{β:Type}{f:Aa D->bb β}{P:Hp}{α:ag}{Ok:β->ap->Prop}(h:qK X P α (fK S n f) Ok):∃ xs,S[n]? = Ab (.lst xs)/\qK X P α (f xs) Ok:=by
 unfold fK at h;cases e:S[n]? with
 |none=>rw[e] at h;exact Ao h
 |some m =>
  rw[e] at h;cases m with
  |lst xs=>exact⟨xs,rfl,h⟩
  |_=>exact Ao h
def xH:D->Ak (Aa D)
 |.tup Y=>Ab Y
 |.lst Y=>Ab Y
 |_=>none
def zr (h:xH d=Ab xs):_s d xs:=by
 cases d with
 |tup Y=>exact .tup (congrArg D.tup (Dd h))
 |lst Y=>exact .lst (congrArg D.lst (Dd h))
 |_=>exact nn h
def xX (f:DE):DI:=λY S=>(f Y S).bind λd S1=>uK (xH d) S1
section
variable {X:Cx}{K:Ai}{tg e:By}{fa:DE}
def JU {P:Hp}{α:ag}{a:Af}(q:jw K P a vs)(t:qE K P α ds vs):wg K (K_ K a) P α ds where
 go:=λi H U J S Y r e _=>⟨vs,vs[i]'(by rw[<- t.length];exact Y),(e.trans r.sub).seq q,by simp⟩
 yld:=λi H x L U J S Y r e B y=>by
  obtain⟨rfl,y⟩:=y;have O:=y vs ((e.trans r.sub).seq q);obtain⟨v,G,N⟩:=t.get (Ar Y);rw[O] at G;cases G;exact⟨U,_,Ar Y,r,qF.refl _,au.mono e B _ _ N⟩
 stop:=λi H U J S Y r e _=>⟨vs,(e.trans r.sub).seq q,by rw[<- t.length];exact Y⟩
def MK {P:Hp}{α:ag}{a:Af}(q:jh K P a vs)(t:qE K P α ds vs):wg K (_r K a) P α ds where
 go:=λi H U J S Y r e _=>⟨vs,vs[i]'(by rw[<- t.length];exact Y),wD (e.trans r.sub) q,by simp⟩
 yld:=λi H x L U J S Y r e B y=>by
  obtain⟨rfl,y⟩:=y;have O:=y vs (wD (e.trans r.sub) q);obtain⟨v,G,N⟩:=t.get (Ar Y);rw[O] at G;cases G;exact⟨U,_,Ar Y,r,qF.refl _,au.mono e B _ _ N⟩
 stop:=λi H U J S Y r e _=>⟨vs,wD (e.trans r.sub) q,by rw[<- t.length];exact Y⟩
theorem cJ {σ:_L.St}{H P:Hp}{α:ag}(I:Inv X aj σ H s)(r:bf X.K H P α S)(U:qJ v vv)(J:au X.K P α d v)(N:xH d=Ab ds)
  (q:wv X P α R ds S):ce X (Rj vv) (wu X aj σ tg R) X.xe s:=by
 cases d with
 |tup B =>
  cases N;simp only[au] at J;obtain⟨a,vs,rfl,sq,t⟩:=J;cases U;obtain⟨Y,U,p,O⟩:=I.tuple (xW r.sub sq);refine Jn (show s.heap.IsTuple a Y.toArray from p) ?_
  refine⟨s.heap.objs.size,[s.heap.objs.size],_,_,H,rfl,I.kept (t':=s.toks) λb o e=>Aj _ e,XQ a _,⟨_,Bl _ rfl,rfl,rfl⟩,λb G=>?_,q _ _ P α r (qF.refl _) (AT _) (MK sq t)⟩;have e:b=s.heap.objs.size:=by simpa using G
  subst e;exact I.fpOk (Ax _) (I.hok.fresh (Ax _))
 |lst B =>
  cases N;simp only[au] at J;obtain⟨a,vs,rfl,sq,t⟩:=J;cases U;obtain⟨Y,U,p,O⟩:=I.list ((xS r.sub sq).l);refine Ja p.isList ?_;refine⟨s.heap.objs.size,[s.heap.objs.size],_,_,H,rfl,I.kept (t':=s.toks) λb o e=>Aj _ e,rB a _,⟨_,Bl _ rfl,rfl,rfl⟩,λb G=>?_,q _ _ P α r (qF.refl _) (AT _) (JU sq.l t)⟩;have e:b=s.heap.objs.size:=by simpa using G
  subst e;exact I.fpOk (Ax _) (I.hok.fresh (Ax _))
 |_=>cases N
def wv.base {P P1:Hp}{α Y:ag}(e:qF P P1)(h:α<+:Y)(k:wv X P α R ds S):wv X P1 Y R ds S:=λJ O G U r N B L=>k J O G U r (e.trans N) (h.trans B) L
def R0 (U:PE X e (tD X fa)):PI X tg e (vt X (xX fa)):=by
 intro E s σ H R I h;obtain⟨P,α,A,S,r,B,O⟩:=h;refine bv (zT U I r B O) λvv w ⟨v,z,T,G,d,S1,Y,J⟩=>?_;obtain⟨L,N,q⟩:=uU J;exact cJ Y.inv Y.rel Y.val Y.rep N (q.base Y.same Y.pre)
noncomputable def wL (lo:An)(n:Ah):Aa D:=(Cf n).map λ(i:Ah)=>D.int (lo+(i:An))
def pA (lo:An)(n:Ah):(wL lo n).length=n:=by simp[wL]
def sO {P:Hp}{α:ag}{lo:An}:wg K (yg lo n) P α (wL lo n) where
 go:=λi H U J S Y r e _=>by rw[pA] at Y;exact Y
 yld:=λi H x G U J S Y r e N y=>by
  obtain⟨rfl,rfl⟩:=y;rw[pA] at Y;exact⟨U,.int (lo+i),by simp[wL,Y],r,qF.refl _,by simp only[au]⟩
 stop:=λi H U J S Y r e _=>by rw[pA] at Y;exact Y
def uL (ds:Aa D):Ak (Aa D):=match ds with
 |[.int j]=>if -(2 ^ 62)<=j/\j<2 ^ 62 then Ab (wL 0 j.toNat) else none
 |[.int i,.int j]=>if -(2 ^ 62)<=i/\i<2 ^ 62 /\ -(2 ^ 62)<=j/\j<2 ^ 62 then Ab (wL i (j-i).toNat) else none
 |_=>none
def xI (f:DA):DI:=λY S=>(f Y S).bind λJ S1=>uK (uL J) S1
def zd:D->Ak An
 |.int i=>Ab i
 |_=>none
def m9 (h:zd d=Ab i):d=.int i:=by
 cases d with
 |int k=>exact congrArg D.int (Dd h)
 |_=>exact nn h
inductive we:Aa D->Aa D->Prop
 |one (j:An) (h : -(2 ^ 62)<=j/\j<2 ^ 62):we [.int j] (wL 0 j.toNat)
 |two (i j:An) (h : -(2 ^ 62)<=i/\i<2 ^ 62 /\ -(2 ^ 62)<=j/\j<2 ^ 62):we [.int i,.int j] (wL i (j-i).toNat)
def qAk (d:D):uL [d]=(zd d).bind λj=>if -(2 ^ 62)<=j/\j<2 ^ 62 then Ab (wL 0 j.toNat) else none:=by cases d <;> rfl
def qAl (d d':D):uL [d,d']=(zd d).bind λi=>(zd d').bind λj=>if -(2 ^ 62)<=i/\i<2 ^ 62 /\ -(2 ^ 62)<=j/\j<2 ^ 62 then Ab (wL i (j-i).toNat) else none:=by
 cases d with
 |int i=>cases d' <;> rfl
 |_=>rfl
def NQ (h:uL ds=Ab its):we ds its:=by
 cases ds with
 |nil=>exact nn h
 |cons d ds =>
  cases ds with
  |nil =>
   obtain⟨j,e,h⟩:=Ft.mp ((qAk d).symm.trans h);obtain⟨c,rfl⟩:=gX h;rw[m9 e];exact .one j c
  |cons J ds =>
   cases ds with
   |nil =>
    obtain⟨i,e,h⟩:=Ft.mp ((qAl d J).symm.trans h);obtain⟨j,U,h⟩:=Ft.mp h;obtain⟨c,rfl⟩:=gX h;rw[m9 e,m9 U];exact .two i j c
   |cons _ _ =>
    have G:∀ Y t,uL (d::J::Y::t)=none:=λY t=>by cases d <;> first|rfl|(cases J <;> rfl)
    exact nn ((G _ _).symm.trans h)
def dG {P:Hp}{α:ag}{ds:Aa D}(r:qE K P α (.int i::ds) vs):∃ Y,vs=.int i::Y/\qE K P α ds Y:=by
 obtain⟨w,Y,rfl,p,t⟩:=r.cons_inv;exact⟨Y,congrArg (· :: Y) (by simpa only [au] using p),t⟩
def PI.weak {t t':TI}(h:PI X tg Y t)(w:∀ σ H R,t' σ H R->t σ H R):PI X tg Y t':=λJ s σ H R I q=>h J s σ H R I (w σ H R q)
end
section
variable {X:Cx}{tg:By}{f:DA}{p aq:Ev}
def J2 {e:By}{es:Aa By}(x:Gl X "range")(hm:X.mg "range" = none)(l:PA X (e::es) (ku X f))(hs:Bk (e::es) X.env=(false,eval e X.env)::Bk es X.env:=by rfl)(U:(Ga aq (Bk es X.env)).any (·.1)=false:=by rfl) :
  PI X tg (.Call (.Name "range" p) (e::es) [] aq) (vt X (xI f)):=by
 intro aj s σ H R I h;obtain⟨P,α,ak,S,r,k,n⟩:=h;refine Call_ (u7 I x hm boot_range (Ht (bv (wV l I r k n aq) λus s1 ⟨vs,w,E,Y,ds,S1,O,L,A,y,T,N,B,G⟩=>?_) hs U));obtain⟨v,o,q⟩:=uU G;cases NQ o with
 |one j c =>
  obtain⟨m,rfl,J⟩:=dG T;cases J.nil_inv;obtain⟨u,rfl,t,rfl⟩:=k8 L;refine call_range_1 (aH O om om c.1 c.2 ?_);have z:=q (yg 0 j.toNat) w E Y A N B sO;rw[Int.sub_zero];exact z
 |two i j c =>
  obtain⟨m,rfl,J⟩:=dG T;obtain⟨d,rfl,g⟩:=dG J;cases g.nil_inv;obtain⟨u,u',rfl,⟨t,rfl⟩,t',rfl⟩:=eA L;exact call_range_2 (aH O c.1 c.2.1 c.2.2.1 c.2.2.2 (q (yg i (j-i).toNat) w E Y A N B sO))
noncomputable def yR (g:DG)(f:DS):Aa D->qD->ap->ja
 |[],G,S=>.nx G S
 |d::N,G,S=>(g d G S).toS G λJ S1=>match f J S1 with
  |.nx Y U=>yR g f N Y U
  |.ct Y U=>yR g f N Y U
  |.bk Y U=>.nx Y U
  |o=>o
def wU (fi:DI)(g:DG)(f:DS):DS:=λY S=>(fi Y S).toS Y λJ S1=>yR g f J Y S1
inductive r_ (X:Cx)(P1:Hp)(α1:ag)(g:DG)(f:DS)(ds:Aa D)(D:Ends)(i m:Ah)(σ : _L.St)(H:Hp):Prop
 |mk (hi:i<=ds.length) (hm:m=ds.length-i) (P2:Hp) (α2:ag) (env2:qD) (S2:ap) (r:bf X.K H P2 α2 S2) (re:zA X.K P2 α2 σ env2) (e1:qF P1 P2) (e2:α1<+:α2) (af:qX X P2 α2 (yR g f (ds.drop i) env2 S2) D):r_ X P1 α1 g f ds D i m σ H
theorem R7 {f:DS}(hp:Ow (Av X.prog X.w) X.A X.env X.xe)(hc:X.calm=true)(hi:PI X tg be (vt X fi))(hg:PG X tg (nz X g))(hb:im X bo (ii X f))
  (hs:∀ x,El be X.env x=pure x:=by intro _;rfl):PS X (.For tg be bo [] aq) (ii X (wU fi g f)):=xf (V4 hp hc hi hg hb hs) λD σ H ⟨P,α,ak,S,r,re,af⟩=>by
 refine⟨P,α,ak,S,r,re,?_⟩;have O:=xG af;cases q:fi ak S with
 |bad=>rw[q] at O;exact O
 |ex c x S'=>rw[q] at O;exact O
 |ok T S1 =>
  rw[q] at O;have zl:qX X P α (yR g f T ak S1) D:=O;intro J H1 P1 j r1 e1 e2 it;refine⟨r_ X P1 j g f T D,
   ⟨T.length,Hg _,rfl,P1,j,ak,S1,r1,re.mono e1 e2,qF.refl _,AT _,qX.base e1 e2 zl⟩,?_⟩
  rintro i m zb H2 ⟨hi,rfl,P2,B,E,s,r2,n,v,t,L⟩;by_cases G:i<T.length
  .refine .inr ⟨it.go i H2 P2 B s G r2 v t,r_ X P1 j g f T D (i+1) (T.length-(i+1)),λzx H' w=>⟨_,?_,w⟩,λx H3 y=>?_⟩
   .omega
   .obtain⟨P3,d,hd,r3,e5,rp⟩:=it.yld i H2 x H3 P2 B s G r2 v t y
    have A:T.drop i=d::T.drop (i+1):=by
     rw[Ha G];rw[Ar G] at hd;rw[Dd hd]
    rw[A] at L;have N:=xG (qX.base e5 (AT _) L);refine⟨P3,B,E,s,d,r3,n.mono e5 (AT _),rp,?_⟩;cases q2:g d E s with
    |bad=>rw[q2] at N;exact N
    |ex c x S'=>rw[q2] at N;exact N
    |ok I S3 =>
     rw[q2] at N;intro zy H4 P4 zv r4 zc e6 e7;refine⟨P4,zv,I,S3,r4,zc,?_⟩;have Y:=qX.base e6 e7 N;cases o:f I S3 with
     |bad=>simp only[o] at Y;exact Y
     |ex c x U l=>simp only[o] at Y;exact Y
     |rt d4 l=>simp only[o] at Y;exact Y
     |bk U l=>simp only[o] at Y;exact Y
     |nx U l =>
      simp only[o] at Y;exact λzs H5 P5 k r5 z e h=>⟨G,rfl,P5,k,U,l,r5,z,((v.trans e5).trans e6).trans e,(t.trans e7).trans h,qX.base e h Y⟩
     |ct U l =>
      simp only[o] at Y;exact λzs H5 P5 k r5 z e h=>⟨G,rfl,P5,k,U,l,r5,z,((v.trans e5).trans e6).trans e,(t.trans e7).trans h,qX.base e h Y⟩
  .have A:T.drop i=[]:=Pj om
   rw[A] at L;exact .inl ⟨it.stop i H2 P2 B s om r2 v t,L zb H2 P2 B r2 n (qF.refl _) (AT _)⟩
end
abbrev DF:=Aa D->ap->bb D
section
variable {X:Cx}{x:As}{p aq:Ev}{e:By}{es:Aa By}{F:DF}{fa:DA}
def qG (F:DF)(fa:DA):DE:=λY S=>(fa Y S).bind λJ S1=>F J S1
def sA {σ:_L.St}{U P P1:Hp}{α Y:ag}{ds:Aa D}(G:wN X u F)(N:Inv X aj σ U J)(O:bf X.K U P1 Y S1)(T:qM vs us)
  (L:qE X.K P1 Y ds vs) (e1:qF P P1) (e2:α<+:Y) (B:qK X P α (F ds S1) (jf X P α Q)):ce X (call u us) (EP X aj σ Q) X.xe J:=G aj σ U J P1 Y S1 vs us ds Q N O T L (qW.base e1 e2 B)
def UU {id:Es}(T:wN X (.builtin id) F)(w:Gl X x)(hm:X.mg x=none)(hv:Gn x=Ab (.builtin id))(G:PA X (e::es) (ku X fa))(N:x ≠ "__name__":=by decide)(Y:(x == ("__debug__" : As))=false:=by decide)
  (y:Bk (e::es) X.env=(false,eval e X.env)::Bk es X.env:=by rfl) (J:(Ga aq (Bk es X.env)).any (·.1)=false:=by rfl):PE X (.Call (.Name x p) (e::es) [] aq) (tD X (qG F fa)):=by
 intro c s σ H Q I h;obtain⟨P,α,d,S,r,k,A⟩:=h;refine Hk (u7 I w hm hv ?_ N Y);exact Qm (bv (wV G I r k A aq) λus v ⟨vs,f,g,O,l,S1,E,o,q,z,B,L,j,U⟩=>sA T E q o B L j U) y J
def WK (E:wN X (.type T) F)(z:Gl X x)(hm:X.mg x=none)(hv:Gn x=Ab (.type T))(G:PA X (e::es) (ku X fa))(N:x ≠ "__name__":=by decide)(Y:(x == ("__debug__" : As))=false:=by decide)
  (k:Bk (e::es) X.env=(false,eval e X.env)::Bk es X.env:=by rfl) (J:(Ga aq (Bk es X.env)).any (·.1)=false:=by rfl):PE X (.Call (.Name x p) (e::es) [] aq) (tD X (qG F fa)):=by
 intro d s σ H Q I h;obtain⟨P,α,v,S,r,q,w⟩:=h;refine Hk (u7 I z hm hv ?_ N Y);exact Ht (bv (wV G I r q w aq) λus f ⟨vs,t,c,O,g,S1,A,l,o,j,B,L,y,U⟩=>sA E A o l B L y U) k J
end
def zE.there {P:Bi}{a:Af}(x:zE P w H h a o):∃ Y,h.get? a=Ab Y:=by
 cases o with
 |lst G=>obtain⟨_,_,_,_,e⟩:=x;exact⟨_,e⟩
 |tup G=>obtain⟨_,_,_,Y,e,_⟩:=x;exact⟨_,e⟩
 |dK U=>obtain⟨_,_,_,_,o,_,_,e,_⟩:=x;exact⟨_,e⟩
 |dT U=>obtain⟨_,_,_,_,o,_,_,e,_⟩:=x;exact⟨_,e⟩
 |set S n=>obtain⟨o,_,_,_,e,_⟩:=x;exact⟨_,e⟩
 |ins C N J=>obtain⟨_,_,_,e,_⟩:=x;exact⟨_,e⟩
 |own y=>obtain⟨_,e⟩:=x;exact⟨_,e⟩
 |xd J=>obtain⟨_,⟨_,_,_,e,_⟩,_⟩:=x;exact⟨_,e⟩
 |rng lo B=>obtain⟨_,_,_,e⟩:=x;exact⟨_,e⟩
 |frz Y u=>obtain⟨e,_⟩:=x;exact⟨_,e⟩
 |tbl O=>exact⟨_,show h.get? a=Ab _ from x⟩
 |met f y=>exact⟨_,show h.get? a=Ab _ from x⟩
 |ext φ => obtain⟨_,e,_⟩:=x;exact e
section
variable {X:Cx}{aj:aa}{σ: _L.St}{H:Hp}{s:Ag}{B h':Bt}
abbrev jg (X:Cx):Prop:=X.ex=[]/\X.stack=X.env::X.outer/\X.env.frame=Ab X.env.locals
def jg.mem (F:jg X){b:Af}:b∈il X.stack↔b=X.env.locals\/b∈X.fs:=by
 rw[F.2.1];unfold il;rw[Gw,F.2.2];exact Ba
def qt.there (I:Inv X aj σ H s)(F:jg X){b:Af}(o:qt X aj H b):∃ Y,s.heap.get? b=Ab Y:=by
 rcases o with⟨o,e⟩|e|⟨p,J,rfl⟩|⟨x,e⟩
 .exact I.base.there b o e (by rw[F.1];simp)
 .cases q:H b with
  |none=>exact absurd q e
  |some u=>exact zE.there (I.hok b u q)
 .exact⟨_,(I.pin p J).1⟩
 .obtain⟨v,Y,U,_⟩:=I.cell x b e
  exact⟨Y,U⟩
def Inv.fly (I:Inv X aj σ H s)(F:jg X)(f:Cv X aj H B s.heap)(st:B.StaysIn h')(up:s.heap.UpToSlots h'):Inv X aj σ H { s with heap:=h' } /\ Cv X aj H B h':=by
 have A:∀ b o,s.heap.get? b=Ab o->qt X aj H b->b ∉ il X.stack->h'.get? b=Ab o:=λb o e q n=>st b o (f b o e q n);have y:∀ b o,X.s₀.heap.get? b=Ab o->b≠X.env.locals:=λb o e=>Cn (Bh (Bf e) I.ok.above);have O:∀ b o,X.s₀.heap.get? b=Ab o->b ∉ X.fs->b ∉ il X.stack:=λb o e n z=>(F.mem.mp z).elim (y b o e) n;have nx:∀ b,b ∉ X.ex:=λb=>by rw[F.1];simp
 have N:∀ b,b∈il X.stack->∀ o,s.heap.get? b=Ab o->∃ sl,h'.get? b=Ab { o with slots:=sl }:=λb hb o e=>by
  obtain⟨_,w,e',L⟩:=I.stack.mem hb;rw[e] at e';cases e';exact up b o e L
 have Y:∀ x c,X.env.cells.lookup x=Ab c->∀ v,s.heap.IsCell c v->h'.IsCell c v:=λx c e v ⟨o,ho,h⟩=>by
  obtain⟨sl,q⟩:=up c o ho λvs z=>by rw[h] at z;cases z
  exact⟨_,q,h⟩
 refine⟨⟨I.ok,I.os,I.bare,⟨λb o e n hb G=>?_,λb o e n hb G=>?_,I.base.free,λb o e G=>?_,I.base.tups,I.base.frzs,I.base.tbls⟩,?_,λx c e=>?_,I.free,I.freeC,λp hp=>?_,λa o e=>?_,I.len⟩,λb o e q n=>?_⟩
 .exact A b o (I.base.keep b o e n hb G) (.inl ⟨o,e⟩) (O b o e hb)
 .obtain⟨sl,J⟩:=I.base.slot b o e n hb G
  obtain⟨j,U⟩:=N b (F.mem.mpr (.inr hb)) _ J;exact⟨j,U⟩
 .obtain⟨w,J⟩:=I.base.there b o e G
  by_cases hb:b∈il X.stack
  .obtain⟨sl,U⟩:=N b hb _ J
   exact⟨_,U⟩
  .exact⟨w,A b w J (.inl ⟨o,e⟩) hb⟩
 .obtain⟨m,E,hl⟩:=I.loc
  refine⟨m,up.ns E,λi x v J U T=>?_⟩;obtain⟨u,r,l⟩:=hl i x v J U T;refine⟨u,r,?_⟩;rcases l with l|⟨k,c,e,z⟩
  .exact .inl l
  .exact .inr ⟨k,c,e,Y x c e _ z⟩
 .obtain⟨v,z⟩:=I.cell x c e
  exact⟨v,Y x c e v z⟩
 .obtain⟨e,n,g,L,d⟩:=I.pin p hp
  exact⟨A p.1 p.2 e (.inr (.inr (.inl ⟨p,hp,rfl⟩))) λz=>(F.mem.mp z).elim g L,n,g,L,d⟩
 .refine(I.hok a o e).stay (λb u hb q=>?_) (λ_ q=>q) λ_ _ q=>q
  have E:H b≠none:=by
   rcases hb with rfl|hb
   .rw[e];intro z;cases z
   .rw[hb];intro z;cases z
  exact A b u q (.inr (.inl E)) λz=>E (I.stkFree b z)
 .obtain⟨t,J⟩:=qt.there I F q
  have U:=f b t J q n;have T:=st b t U;rw[e] at T;cases T;exact U
def YL (I:Inv X aj σ H s)(hm:Xw g s.heap e c cb)(U:g.FunFrames X.base X.stack)(N:∀ b o,s.heap.get? b=Ab o->qt X aj H b->g.get? b=Ab o) :
  (Qx g (il X.stack)).StaysIn g/\g.FunFrames (Qx g (il X.stack)) X.stack/\Cv X aj H (Qx g (il X.stack)) s.heap:=
 ⟨λb o q=>Zt _ q,PySem.W.funFrames_hide U λJ G a Y=>Hj.mpr ⟨J,G,Y⟩,λb o e q n=>Yr _ (N b o e q) n⟩
theorem Y7 {M:Lb}{A:Bp}{E:ae}{Q:Ro->Ag->Prop}(I:Inv X aj σ H s)(F:jg X)(U:A.frames=Ab X.stack)(f:mf X aj H c e s.heap)
  (L:∀ h' B a0,Rk B X.outer e c a0 h'->Inv X aj σ H { s with heap:=h' } -> Cv X aj H B h'->Q () { s with heap:=h' }) : Aq M A (leaving X.env (.ref e)) Q E s:=by
 cases f with
 |new g cb O k z =>
  obtain⟨y,q,w⟩:=YL I O k z;rw[F.2.1] at U;refine wpAny_leaves_madeW U F.2.2 y (by rw[<- F.2.1];exact q) O λh' t J N o T=>?_
  obtain⟨G,Y⟩:=Inv.fly I F w J.1 T;exact L h' _ _ J G Y
 |fly B a0 fl j =>
  rw[F.2.1] at U;refine wpAny_leaves_onW U F.2.2 (by rw[<- F.2.1];exact fl) λh' J N=>?_
  obtain⟨G,Y⟩:=Inv.fly I F j J.1 N;exact L h' _ _ J G Y
end
def nr (P:Bi)(w:Bz):uh:=λU H s E u Y =>
 ∃ e c J B G,u=.ref e/\Y.os=s.os/\Ps Y.gens/\Un (il U) [] H J s.heap Y.heap/\gw P w J Y.heap/\Rk B U e c G Y.heap /\
  (∀ b o,Y.heap.get? b=Ab o->((∃ o,s.heap.get? b=Ab o)\/J b≠none)->b ∉ il U->B.get? b=Ab o)/\E c none J
section
variable {X:Cx}{aj:aa}{σ: _L.St}{H:Hp}{s s':Ag}
def RQ (I:Inv X aj σ H s)(F:jg X)(h:nr X.prog X.w X.stack H s E u s'):∃ e c Y,u=.ref e/\Inv X aj σ Y s'/\mf X aj Y c e s'.heap/\E c none Y:=by
 obtain⟨e,c,Y,B,L,rfl,os,J,T,N,fl,G,q⟩:=h;have y:Inv X aj σ Y s':=Inv.call' I os T N J (ch:=[]) λb z=>absurd z bB
 refine⟨e,c,Y,rfl,y,.fly B L fl λb o O U n=>G b o O ?_ n,q⟩;rcases U with⟨o,z⟩|z|⟨p,j,rfl⟩|⟨x,z⟩
 .exact .inl (I.base.there b o z (by rw[F.1];simp))
 .exact .inr z
 .exact .inl ⟨_,(I.pin p j).1⟩
 .obtain⟨v,A,w,_⟩:=I.cell x b z
  exact .inl ⟨A,w⟩
end
structure ax (cm:Au)(k:Ah)(A:Bp):Prop where
 hd:cm=true->A.handled=none
 dp:A.depth+3*k+5<Rx
 un:A.units+16*k+200<Eu
 gd:A.guards=Ab []
def ax.mono {j k:Ah}(r:ax cm k A)(h:j<=k:=by decide):ax cm j A:=⟨r.hd,by have:=r.dp;fin2,by have:=r.un;fin2,r.gd⟩
def ax.deeper {k:Ah}(r:ax cm (k+1) A)(ak:Ix):ax cm k (A.deeper ak):=
 ⟨r.hd,by have:=r.dp;show A.depth+1+3*k+5<_;fin2,by have:=r.un;show A.units+3+16*k+200<_;fin2,r.gd⟩
def ax.depth {k:Ah}(r:ax cm k A):A.depth<Rx:=by have:=r.dp;fin2
def ax.units {k:Ah}(r:ax cm k A):A.units+64<Eu:=by have:=r.un;fin2
def ax.of {k:Ah}(r:jt k A):ax true k A:=⟨λ_=>r.hd,r.dp,r.un,r.gd⟩
def ax.any {k:Ah}(r:ax cm k A):ax false k A:=⟨(λz=>nomatch z),r.dp,r.un,r.gd⟩
def ax.mark {k:Ah}(r:ax cm k A)(h:Ak Ac):ax false k (A.mark h):=⟨(λz=>nomatch z),r.dp,r.un,r.gd⟩
noncomputable abbrev Cx.re (X:Cx)(A:Bp)(cm:Au)(E:ae):Cx:={ X with A:=A,calm:=cm,xe:=E }
def Inv.re {X:Cx}{σ:_L.St}(I:Inv X aj σ H s)(A:Bp)(cm:Au)(E:ae)(J:A.frames=Ab X.stack)(Y:cm=true->A.handled=none):Inv (Cx.re X A cm E) aj σ H s:=
 ⟨⟨I.ok.mod,I.ok.kind,I.ok.glob,I.ok.blt,I.ok.above,I.ok.inj,I.ok.has,I.ok.cab,Y,J,I.ok.stk,I.ok.exf,I.ok.bs,I.ok.bsz,I.ok.noex,I.ok.exfs,I.ok.funs,I.ok.frf⟩,I.os,I.bare,I.base,I.loc,I.cell,I.free,I.freeC,I.pin,I.hok,I.len⟩
def Inv.unre {X:Cx}{σ:_L.St}(I:Inv (Cx.re X A cm E) aj σ H s)(J:X.A.frames=Ab X.stack)(Y:X.calm=true->X.A.handled=none):Inv X aj σ H s:=
 ⟨⟨I.ok.mod,I.ok.kind,I.ok.glob,I.ok.blt,I.ok.above,I.ok.inj,I.ok.has,I.ok.cab,Y,J,I.ok.stk,I.ok.exf,I.ok.bs,I.ok.bsz,I.ok.noex,I.ok.exfs,I.ok.funs,I.ok.frf⟩,I.os,I.bare,I.base,I.loc,I.cell,I.free,I.freeC,I.pin,I.hok,I.len⟩
structure oo (P:Bi)(w:Bz)(K:Ai)(mg:ah)(base:Bt)(cm:Au)(k:Ah)(f:Af)(fd:Gc)(ps:Aa As)(sp:Sp):Prop where
 len:∀ vs H Q E,sp vs H Q E->vs.length=ps.length
 run:∀ (A:Bp) (outer:Aa Ix) (s:Ag) (H:Hp) (args:Args) (us:ai) (vs:Aa V) (Q:VK) (E:XK),ax cm k A->mx P w K mg base A outer s H->Pv s fd args (ps.zip us)->qM vs us->sp vs H Q E ->
  Ik (Av P w) A (.call (.ref f) args) (CR (nr P w) outer P w H s Q E) s
def oo.ok {P:Bi}{K:Ai}{base:Bt}{k:Ah}(F:oo P w K mg base true k f fd ps sp):nk P w K mg base (nr P w) k f fd ps sp:=
 ⟨F.len,λA J s H cb us vs Q E Y=>F.run A J s H cb us vs Q E (.of Y)⟩
def oo.any {P:Bi}{K:Ai}{base:Bt}{k:Ah}(F:oo P w K mg base false k f fd ps sp):oo P w K mg base cm k f fd ps sp:=
 ⟨F.len,λA J s H cb us vs Q E Y=>F.run A J s H cb us vs Q E Y.any⟩
def oo.imp {P:Bi}{K:Ai}{base:Bt}{k:Ah}{Y:Sp}(F:oo P w K mg base cm k f fd ps sp)
  (h:∀ vs H Q E,Y vs H Q E->sp vs H Q E):oo P w K mg base cm k f fd ps Y:=
 ⟨λvs H Q E q=>F.len vs H Q E (h _ _ _ _ q),λA N s H cb us vs Q E J G U hv hs=>F.run A N s H cb us vs Q E J G U hv (h _ _ _ _ hs)⟩
noncomputable def kw (cm:Au)(P:Bi)(w:Bz)(K:Ai)(mg:ah)(base:Bt)(N:Aa As)(J:As)(am:Ep)(f:Af)(cd:Ac)(A:Bp)(U:Aa Ix)(s:Ag)(H:Hp)(E:XK):Cx where
 prog:=P
 w:=w
 K:=K
 mg:=mg
 base:=base
 A:=A.deeper (Gu J am s.heap.objs.size f cd)
 N:=N
 s₀:=s
 H₀:=H
 env:=Gu J am s.heap.objs.size f cd
 outer:=U
 stack:=Gu J am s.heap.objs.size f cd::U
 ex:=[]
 calm:=cm
 fn:=λ_=>true
 pn:=[]
 xe:=λe G=>Aq (Av P w) (A.deeper (Gu J am s.heap.objs.size f cd)) (leaving (Gu J am s.heap.objs.size f cd) e) (λ_ Y=>nr P w U H s E e Y) (λO Y=>nr P w U H s E O Y) G
section
variable {P:Bi}{w:Bz}{K:Ai}{mg:ah}{base:Bt}{cm:Au}{N:Aa As}{bg:As}{am:Ep}{f:Af}{cd:Ac}{A:Bp}{ao:Aa Ix}{s:Ag}{H:Hp}{E:XK}
def US:Ow (Av P w) (A.deeper (Gu bg am s.heap.objs.size f cd)) (Gu bg am s.heap.objs.size f cd) (kw cm P w K mg base N bg am f cd A ao s H E).xe:=PassesOwn.leaving (Q₁:=λe Y=>nr P w ao H s E e Y)
abbrev zm (P:Bi)(w:Bz)(A:Bp)(ak:Ix)(ao:Aa Ix)(H:Hp)(s:Ag)(E:XK):Ac->Ag->Prop:=λe U=>Aq (Av P w) (A.deeper ak) (leaving ak e) (λ_ Y=>nr P w ao H s E e Y) (λJ Y=>nr P w ao H s E J Y) U
def h9 {X:Cx}{α:ag}(a:X.A=A.deeper X.env)(k:wa X T α c x S u s')
  (q:∀ L O J,bf X.K L O J S->qF T O->α<+:J->E c none L):zm X.prog X.w A X.env X.outer X.H₀ X.s₀ E u s':=by
 obtain⟨e,aj,σ,j,m,U,rfl,I,r,l,i,F,fl⟩:=k;unfold zm;rw[<- a];refine Y7 I F I.ok.frames fl λh B d g Y v=>?_;refine⟨e,c,j,B,d,rfl,Y.os,Y.bare,by have z:=Y.base;rw[F.1] at z;exact z,Y.hok,g,λb o y G n=>v b o y ?_ λz=>?_,q j m U r l i⟩
 .rcases G with z|z
  .exact .inl z
  .exact .inr (.inl z)
 .rcases (jg.mem F).mp z with z|z
  .subst z
   rcases G with⟨o',t⟩|z
   .exact absurd (Bf t) (Pk.mpr Y.ok.above)
   .exact z Y.free
  .exact n z
def ZX {U:Ag}(S:dc N ps am)(O:cm=true->A.handled=none)(Y:mx P w K mg base A ao s H)(G:vs.length=ps.length)(r:qM vs us)
  (x:InCallC s s.heap.objs.size (Yw (Gu bg am s.heap.objs.size f cd).kindOf (ps.zip us) λ_=>none) (Il (s.heap.objs.size+1) am.names []) (Yx (Gu bg am s.heap.objs.size f cd).kindOf (ps.zip us) λ_=>none) U) :
  Inv (kw cm P w K mg base N bg am f cd A ao s H E) [] (_L.wA N vs) H U:=by
 have I:=sN (CX:=nr P w) (E:=E) (A:={ A with handled:=none }) S rfl ⟨Y.frames,Y.mod,Y.bs,Y.bsz,Y.funs,Y.frf,Y.hok,Y.bare⟩ G r x
 have J:=Inv.re I (A.deeper (Gu bg am s.heap.objs.size f cd)) cm (kw cm P w K mg base N bg am f cd A ao s H E).xe (Qq Y.frames) O;exact J
end
theorem WU {P:Bi}{w:Bz}{K:Ai}{mg:ah}{base:Bt}{cm:Au}{k:Ah}{f:Af}{L:As}{bp:Qy}{am:Ep}{oc:Ac}{an:Ak Af}{d:Az (Ak Ac)}{x:As}{kV j pm Y a:Ac}{N ps:Aa As}
  {A:Bp} {T:Aa Ix} {s:Ag} {H:Hp} {cb:Args} {us:ai} {vs:Aa V} {Q:VK} {E:XK} (lk:K.lookup f=Ab ⟨oc,od,.func (He x L bp bo am .none kV j pm an Y a),d⟩) (c:Mf K Y L=true) (S:dc N ps am) (hl:vs.length=ps.length) (i:ax cm (k+1) A)
  (z:mx P w K mg base A T s H) (hb:Pv s (He x L bp bo am .none kV j pm an Y a) cb (ps.zip us)) (r:qM vs us)
  (O:∃ t,im (kw cm P w K mg base N L am f Y A T s H E) bo t/\t { nx:=λ_ G=>Q .non G,rt:=Q } (_L.wA N vs) H) :
  Ik (Av P w) A (.call (.ref f) cb) (CR (nr P w) T P w H s Q E) s:=by
 have h:K.In s.heap:=z.mod.kin.keeps λb o e=>(z.bs b o e).1;have bq:s.heap.NoLimit:=z.mod.nolimit.keeps λb o e=>(z.bs b o e).1;have B:∀ y∈ps.zip us,am.names.lookup y.1=Ab .local \/ (am.names.lookup y.1=Ab .cell/\((Il (s.heap.objs.size+1) am.names []).lookup y.1).isSome=true):=λ⟨n,v⟩ hy=>by
  rcases S.par n (No hy).1 with q|q
  .exact .inl q
  .exact .inr ⟨q,Ld _ _ _ (.inl q)⟩
 refine Xa i.depth (h _ _ lk) rfl S.co S.gen rfl (Zu h c) (hb _ _ _ _ ?_);refine So S.kind B λak he s1 x=>?_;subst he;refine⟨bq.keeps x.toInCall.keep,codeAny_func ?_⟩;obtain⟨t,ht,hq⟩:=O;have I:Inv (kw cm P w K mg base N L am f Y A T s H E) [] (_L.wA N vs) H s1:=ZX S i.hd z hl r x;refine Gr (ht [] s1 (_L.wA N vs) H _ I hq) (λfl g hs=>?_) λe g hs=>hs;have l:∀ {U : _L.St} {G:Hp} {v:V} {u:Ac},Inv (kw cm P w K mg base N L am f Y A T s H E) [] U G g->qJ v u->Q v G->CE T P w H s Q u g:=
  λ{U G v u} J m q=>⟨v,G,J.os,J.bare,J.base,J.hok,m,q⟩
 cases fl with
 |ret u =>
  obtain⟨v,U,G,J,m,q⟩:=hs;exact l J m q
 |next =>
  obtain⟨U,G,J,q⟩:=hs;exact l (v:=V.non) (u:=Cz) J rfl q
 |brk =>
  obtain⟨_,_,_,q⟩:=hs;exact Ao q
 |cont =>
  obtain⟨_,_,_,q⟩:=hs;exact Ao q
def gH (K:Ai)(x:As)(Y:Ac):Prop:=∀ c T,Dy K x=Ab (c,T)->Y=.ref c
def RS {P:Bi}{w:Bz}{K:Ai}{mg:ah}{base:Bt}{cm:Au}{k:Ah}{st:Fb}(F:sx K x O st f fd)(S:dc N ps (qH st))
  (G:∀ vs H Q E,sp vs H Q E->vs.length=ps.length)
  (J:∀ (Y:Ac) (A:Bp) (L:Aa Ix) (s:Ag) (H:Hp) (vs:Aa V) (Q:VK) (E:XK),fd.code=Y/\Mod K mg base->ax cm k (A.deeper (Gu O (qH st) s.heap.objs.size f Y))->sp vs H Q E ->
   ∃ t,im (kw cm P w K mg base N O (qH st) f Y A L s H E) (zR st) t/\t { nx:=λ_ y=>Q .non y,rt:=Q } (_L.wA N vs) H) :
  oo P w K mg base cm (k+1) f fd ps sp:=by
 obtain⟨l,od,kV,j,c,g,Y,o,q,rfl,lk,B⟩:=F.ex;exact⟨G,λA L s H cb us vs Q E T I z r U=>WU lk B S (G _ _ _ _ U) T I z r (J Y A L s H vs Q E ⟨rfl,I.mod⟩ (T.deeper _) U)⟩
def yL (n:Ah)(ds:Aa D):qD:=ds.map Ab++Dk (n-ds.length) none
noncomputable def _Z:ja->bb D
 |.rt d S=>.ok d S
 |.nx _ S=>.ok .non S
 |.ex c x _ S=>.ex c x S
 |_=>.bad
def qO (n:Ah)(g:DS):DF:=λY S=>_Z (g (yL n Y) S)
def wz (K:Ai)(P:Hp)(α : Aa Af)(R:bb D)(Q:VK)(E:XK):Prop:=match R with
 |.ok d G=>∀ v U J Y,bf K U J Y G->qF P J->α<+:Y->au K J Y d v->Q v U
 |.ex c _ G=>∀ U J Y,bf K U J Y G->qF P J->α<+:Y->E c none U
 |.bad=>Ex
def uo (K:Ai)(n:Ah)(F:DF):Sp:=λvs H Q E=>vs.length=n/\∃ P α Y S,bf K H P α S/\qE K P α Y vs/\wz K P α (F Y S) Q E
def XE {K:Ai}{P:Hp}{α:ag}(r:qE K P α ds vs):zA K P α (_L.wA N vs) (yL N.length ds):=by
 refine⟨by simp[yL,_L.wA,r.length],λi d e=>?_⟩
 unfold yL at e;unfold _L.wA;by_cases Y:i<ds.length
 .rw[Bb (by simpa using Y),Do] at e
  rw[Bb (by rw[Ap,<- r.length];exact Y),Do]
  cases q:ds[i]? with
  |none=>rw[q] at e;cases e
  |some G =>
   rw[q] at e;cases e;obtain⟨v,U,J⟩:=r.get q;exact⟨v,by rw[U];rfl,J⟩
 .rw[Cq (by simpa using Y),Op] at e
  split at e <;> cases e
section
variable {P:Bi}{w:Bz}{K:Ai}{mg:ah}{base:Bt}{cm:Au}
theorem eI {H j:Hp}{α:ag}{ds:Aa D}{I:ap}(l:im (kw cm P w K mg base N y am f G A o s H E) bo (ii (kw cm P w K mg base N y am f G A o s H E) g))
  (r:bf K H j α I) (e:qE K j α ds vs) (Y:wz K j α (qO N.length g ds I) Q E):∃ t,im (kw cm P w K mg base N y am f G A o s H E) bo t/\t { nx:=λ_ U=>Q .non U,rt:=Q } (_L.wA N vs) H:=by
 refine⟨_,l,j,α,yL N.length ds,I,r,XE e,?_⟩;unfold qO at Y;cases q:g (yL N.length ds) I with
 |rt d S1=>rw[q] at Y;exact λv U L J T O B m=>Y v U L J T O B m
 |nx k S1=>rw[q] at Y;exact λi U L J T n O B=>Y .non U L J T O B (by simp only[au])
 |bk k S1=>rw[q] at Y;exact Ao Y
 |ct k S1=>rw[q] at Y;exact Ao Y
 |ex c x k S1=>rw[q] at Y;exact λu b z=>h9 (A:=A) rfl z λU L J T O B=>Y U L J T O B
 |bad=>rw[q] at Y;exact Ao Y
def fnX {st:Fb}{k:Ah}{g:DS}(F:sx K x U st f fd)(S:dc N ps (qH st))
  (J:∀ (Y:Ac) (A:Bp) (G:Aa Ix) (s:Ag) (H:Hp) (E:XK),fd.code=Y/\Mod K mg base->ax cm k (A.deeper (Gu U (qH st) s.heap.objs.size f Y)) ->
   im (kw cm P w K mg base N U (qH st) f Y A G s H E) (zR st) (ii (kw cm P w K mg base N U (qH st) f Y A G s H E) g)) :
  oo P w K mg base cm (k+1) f fd ps (uo K ps.length (qO N.length g)):=by
 refine RS F S (λvs H Q E h=>h.1) λY A G s H vs Q E L O h=>?_;obtain⟨y,I,α,j,z,r,B,T⟩:=h;exact eI (J Y A G s H E L O) r B T
end
section
variable {X:Cx}{cm:Au}{k:Ah}{f:Af}{fd:Gc}{ps:Aa As}{F:DF}{x:As}{p aq:Ev}{e:By}{es:Aa By}{fa:DA}{n:Ah}
def qN (n:Ah)(F:DF)(fa:DA):DE:=λJ S=>(fa J S).bind λY S1=>if Y.length=n then F Y S1 else .bad
def EX (X:Cx)(P:Hp)(α : Aa Af)(R:bb D):XK:=λc _ G=>match R with
 |.ex N _ U=>c=N/\∃ J Y,bf X.K G J Y U/\qF P J/\α<+:Y
 |_=>Ex
def aU {P:Hp}{α:ag}{R:bb D}(J:qW X P α R Q):wz X.K P α R Q (EX X P α R):=by
 cases R with
 |ok d U=>exact J
 |ex c x U=>exact λL O Y B G N=>⟨rfl,O,Y,B,G,N⟩
 |bad=>exact J
theorem mF {σ:_L.St}{P:Hp}{α:ag}{R:bb D}(E:(∃ c x J,R=.ex c x J)->jg X)(I:Inv X aj σ H s)(N:qW X P α R Q)
  (h:Ik (Av X.prog X.w) X.A (.call u ⟨us,[]⟩) (CR (nr X.prog X.w) X.stack X.prog X.w H s Q (EX X P α R)) s):ce X (call u us) (EP X aj σ Q) X.xe s:=by
 refine Uw (Mp h λr T Y=>?_);cases r with
 |error u =>
  have Y:nr X.prog X.w X.stack H s (EX X P α R) u T:=Y;cases R with
  |ok d J=>obtain⟨_,_,_,_,_,_,_,_,_,_,_,_,q⟩:=Y;exact Ao q
  |bad=>exact Ao N
  |ex j y J =>
   have G:=E ⟨_,_,_,rfl⟩;obtain⟨a,c,A,rfl,z,fl,rfl,B,U,L,w,O⟩:=RQ I G Y;exact N _ _ ⟨a,aj,σ,A,B,U,rfl,z,L,w,O,G,fl⟩
 |ok fl =>
  cases fl with
  |ret u=>exact I.after Y
  |next=>exact Ao Y
  |brk=>exact Ao Y
  |cont=>exact Ao Y
def QC {aj:aa}{σ:_L.St}{H:Hp}{s:Ag}{P:Hp}{α:ag}{ds:Aa D}(G:oo X.prog X.w X.K X.mg X.base cm k f fd ps (uo X.K n F))(L:ax cm k X.A)(T:vS X.K fd ps [])(A:jg X)
  (I:Inv X aj σ H s) (r:bf X.K H P α S) (O:qM vs us) (U:qE X.K P α ds vs) (B:ds.length=n) (N:qW X P α (F ds S) Q):ce X (call (.ref f) us) (EP X aj σ Q) X.xe s:=by
 have J:uo X.K n F vs H Q (EX X P α (F ds S)):=⟨by rw[<- U.length];exact B,P,α,ds,S,r,U,aU N⟩
 have E:us.length=ps.length:=by rw[<- O.length];exact G.len _ _ _ _ J
 have Y:=T s us I.kIn (by rw[Fk];exact E)
 rw[Fk] at Y;exact mF (λ_=>A) I N (G.run X.A X.stack s H ⟨us,[]⟩ us vs Q _ L I.env0 Y O J)
def sF {ak:qD}{S:ap}{P:Hp}{α:ag}{ds:Aa D}{Ok:D->ap->Prop}(h:qK X P α (if ds.length=n then F ds S1 else .bad) Ok):ds.length=n/\qK X P α (F ds S1) Ok:=by
 by_cases Y:ds.length=n
 .rw[Bg Y] at h;exact⟨Y,h⟩
 .rw[Bd Y] at h;exact Ao h
def FG (G:oo X.prog X.w X.K X.mg X.base cm k f fd ps (uo X.K n F))(T:ax cm k X.A)(v:jg X)(q:Gl X x)(hm:X.mg x=Ab (.ref f))(w:Fd X.K (.ref f)=true)(E:vS X.K fd ps [])
  (B:PA X (e::es) (ku X fa)) (J:(x == ("__debug__" : As))=false:=by decide) (g:Bk (e::es) X.env=(false,eval e X.env)::Bk es X.env:=by rfl) (U:(Ga aq (Bk es X.env)).any (·.1)=false:=by rfl) :
  PE X (.Call (.Name x p) (e::es) [] aq) (tD X (qN n F fa)):=by
 intro b s σ H Q I h;obtain⟨P,α,ak,S,r,c,y⟩:=h;refine Hk (uS I q hm ?_ J);refine Of (h₀:=X.base) I.ok.mod.kin w (bv (wV B I r c y aq) λus a ⟨vs,H1,i,A,m,S1,O,t,d,o,z,j,l,N⟩=>⟨O.kIn,?_⟩) g U;obtain⟨L,Y⟩:=sF (ak:=ak) (S:=S) N;exact QC G T E v O d t z L (qW.base j l Y)
end
noncomputable abbrev eG:Aa Ac:=[.type "ValueError",.type "Exception",.type "BaseException",.type "object"]
noncomputable def ON:Ac->Au
 |.str _ _=>true
 |_=>false
def gB (K:Ai)(N:Af):Au:=(match Jd N K with
 |some o=>match o.data with
  |.dict Y _=>Y.toList.all λe=>ON e.key
  |_=>false
 |none=>false)&&decide (Dr K N "__init__" = Ab none)
def yH {K:Ai}(h:gB K N=true):AbL K N=true/\Dr K N "__init__" = Ab none:=by
 unfold gB at h;rw[Aw,Cc] at h;refine⟨?_,h.2⟩;have Y:=h.1;unfold AbL;cases e:Jd N K with
 |none=>rw[e] at Y;cases Y
 |some o =>
  rw[e] at Y;obtain⟨G,od,dt,sl⟩:=o;cases dt with
  |dict J U =>
   simp only at Y ⊢;rw[Array.all_toList] at Y;refine Eq.trans (congrArg (λf=>Array.all J f) (funext λe=>?_)) Y;cases e.key <;> rfl
  |_=>cases Y
def rT (K:Ai)(C:Af)(f:Ac->Aa8->Az (Ak Ac)->Au):Au:=match Jd C K with
 |some o=>(match o.data with|.cls Y=>f o.cls Y o.slots|_=>false)
 |none=>false
def cV {K:Ai}{f:Ac->Aa8->Az (Ak Ac)->Au}(h:rT K C f=true):∃ Y od cd sl,Jd C K=Ab ⟨Y,od,.cls cd,sl⟩/\f Y cd sl=true:=by
 unfold rT at h;cases e:Jd C K with
 |none=>rw[e] at h;exact Dl h
 |some o =>
  rw[e] at h;obtain⟨Y,od,dt,sl⟩:=o;cases dt with
  |cls cd=>exact⟨Y,od,cd,sl,rfl,h⟩
  |_=>exact Dl h
def mH (K:Ai)(C A:Af):Au:=rT K C λU Y sl=>rT K A λ_ J _=>decide (U=.type "type")&&(decide (Y.mro=.ref C::.ref A::eG)&&(!Y.hasDel&&(gB K Y.ns&&(gB K J.ns&&(decide (sl.toList.length=6)&&decide (sl.toList[4]? = Ab (Ab (.builtin "ValueError.__new__"))))))))
inductive wk (h:Bt)(C:Af):Prop
 |mk (nm q:As) (N:Af) (bs bm:ai) (hdct:Au) (sn:Aa As) (sub:ai) (ab:Au) (col:Ak Au) (dd:Ak Af) (k0 k1 k2 k3 k5:Ak Ac) (mN:ah) (hC:h.get? C=Ab (excClassObj nm q C N bs bm hdct sn sub ab col dd k0 k1 k2 k3 k5 "ValueError.__new__")) (hN:h.Ns N mN) (hni:mN "__init__" = none) (T:OwnTail h eG bm):wk h C
def dE {β:Type}{l:Aa β}{n:Ah}(h:l.length=n+1):∃ a t,l=a::t/\t.length=n:=by
 cases l with
 |nil=>exact Nat.noConfusion h
 |cons a t=>exact⟨a,t,rfl,Nat.succ.inj h⟩
def _E {β:Type}{l:Aa β}(h:l.length=6):∃ a b c d e f,l=[a,b,c,d,e,f]:=by
 obtain⟨a,t,J,h⟩:=dE h;obtain⟨b,E,G,h⟩:=dE h;obtain⟨c,t3,U,h⟩:=dE h;obtain⟨d,B,O,h⟩:=dE h;obtain⟨e,T,N,h⟩:=dE h;obtain⟨f,L,Y,h⟩:=dE h;exact⟨a,b,c,d,e,f,by rw[J,G,U,O,N,Y,Fu.mp h]⟩
def HI {cd:Aa8}{sl:Az (Ak Ac)}{J:ai}{k0 k1 k2 k3 U k5:Ak Ac}(hm:cd.mro=.ref C::J)(G:cd.hasDel=false)(hs:sl.toList=[k0,k1,k2,k3,U,k5])(Y:sl.toList[4]? = Ab (Ab (.builtin n))) :
  (⟨.type "type",od,.cls cd,sl⟩:Cp)=excClassObj cd.name cd.qualname C cd.ns cd.bases J cd.hasDict cd.slotNames cd.subclasses cd.abstract cd.collection od k0 k1 k2 k3 k5 n:=by
 rw[hs] at Y;cases Y;cases cd;cases sl;cases hm;cases G;cases hs;rfl
def M1 {K:Ai}{sl:Az (Ak Ac)}(J:K.In h)(e:Jd C K=Ab ⟨.type "type",od,.cls cd,sl⟩)(h2:cd.mro=.ref C::.ref A::eG)(h3:cd.hasDel=false)(Y:gB K cd.ns=true)(O:sl.toList.length=6)(N:sl.toList[4]? = Ab (Ab (.builtin "ValueError.__new__")))(T:OwnTail h eG (.ref A::eG)):wk h C:=by
 obtain⟨U,L,I,G,x,E,B⟩:=_E O;exact⟨_,_,_,_,_,_,_,_,_,_,_,U,L,I,G,E,_,(J _ _ e).trans (congrArg Ab (HI h2 h3 B N)),.of_isNs (Zy J (yH Y).1),Uh J (yH Y).1 (yH Y).2,T⟩
def M2 {K:Ai}(J:K.In h)(z:mH K C A=true):wk h C:=by
 obtain⟨j,od,I,sl,e,z⟩:=cV z;obtain⟨H,w,T,E,L,z⟩:=cV z;have N:=Fz.mp z;have O:=Fz.mp N.2;have U:=Fz.mp O.2;have B:=Fz.mp U.2;have Y:=Fz.mp B.2;have G:=Fz.mp Y.2;rw[Ce N.1] at e;exact M1 J e (Ce O.1) (Lv _▸U.1) B.1 (Ce G.1) (Ce G.2) (.own (J _ _ L) (.of_isNs (Zy J (yH Y.1).1)) (Uh J (yH Y.1).1 (yH Y.1).2) .base)
section
variable {X:Cx}{aq:Ev}{fa:DA}
def gC (c:Ac)(fa:DA):DS:=λY S=>(fa Y S).toS Y λJ S1=>if J.length<=bq then .ex c .non Y S1 else .bad
inductive vo (X:Cx)(pins:aa)(σ : _L.St)(env:qD)(P:Hp)(α : Aa Af)(us:ai)(s1:Ag)(k:Aa D->ap->ja)(E:Ends):Prop
 |mk (vs:Aa V) (H1 P1:Hp) (α1:ag) (ds:Aa D) (S1:ap) (I:Inv X pins σ H1 s1) (rv:qM vs us) (r:bf X.K H1 P1 α1 S1) (re:zA X.K P1 α1 σ env) (rp:qE X.K P1 α1 ds vs) (e1:qF P P1) (e2:α<+:α1) (q:qX X P1 α1 (k ds S1) E):vo X pins σ env P α us s1 k E
def FD {k:Aa D->ap->ja}{σ:_L.St}{H P:Hp}{α:ag}{ak:qD}{D:Ends}(w:PA X es (ku X fa))(I:Inv X aj σ H s)(r:bf X.K H P α S)
  (z:zA X.K P α σ ak) (A:qX X P α ((fa ak S).toS ak k) D) (aq:Ev) :
  ce X (spliced (Ga aq (Bk es X.env))) (λus O=>vo X aj σ ak P α us O k D) X.xe s:=by
 have J:qK X P α ((fa ak S).bind λd S=>.ok d S) λd S=>qX X P α (k d S) D:=by
  have:=xG A;cases q:fa ak S <;> rw[q] at this <;> exact this
 exact bv (wV w I r z J aq) λu O ⟨vs,y,E,Y,L,S1,T,o,j,U,B,G,N,q⟩=>⟨vs,y,E,Y,L,S1,T,o,j,U,B,G,N,qX.base G N q⟩
def J9 {Y:By}{U:Aa By}{np G:Ev}(hc:X.calm=true)(j:jg X)(hg:Gl X x)(hm:X.mg x=Ab (.ref C))(c:mH X.K C v=true)(ha:PA X (Y::U) (ku X fa))
  (O:(x == ("__debug__" : As))=false:=by decide) (z:Bk (Y::U) X.env=(false,eval Y X.env)::Bk U X.env:=by rfl) (A:(Ga G (Bk U X.env)).any (·.1)=false:=by rfl) :
  PS X (.Raise (Ab (.Call (.Name x np) (Y::U) [] G)) none aq) (ii X (gC (.ref C) fa)):=by
 intro aj s σ H D I h;obtain⟨P,α,ak,S,r,re,af⟩:=h;obtain⟨nm,qn,N,bs,i,hdct,sn,sub,ab,col,dd,k0,k1,k2,k3,k5,mN,m,f,B,T⟩:=M2 I.mod.kin c;refine wpAny_Raise_call_subT (C:=C) (nm:=nm) (q:=qn) (N:=N) (bs:=bs) (bm:=i) (hdct:=hdct) (sn:=sn) (sub:=sub) (ab:=ab) (col:=col) (dd:=dd) (k0:=k0) (k1:=k1) (k2:=k2) (k3:=k3) (k5:=k5)
  Su (mN:=mN) (T.hasType Su.hasBase) (I.ok.hd hc) (by rw[z];show (false||(Ga G (Bk U X.env)).any (·.1))=false;rw[A];rfl) B (uS I hg hm ⟨rfl,?_⟩ O)
 have run:=FD ha I r re af G;rw[z] at run ⊢;refine Qr (bv run λus l ⟨vs,H1,n,E,k,S1,J,rv,r1,zb,t,e1,e2,q⟩=>?_);have hl:us.length=k.length:=by rw[t.length,rv.length]
 by_cases w:k.length<=bq
 .rw[Bg w] at q
  refine⟨rfl,by rw[hl,<- zV];exact w,J.bk _ _ m,f.keeps J.bk,T.keeps J.bk,λh' e hm=>q _ _ ⟨e,aj,σ,H1,n,E,rfl,J.kept (t':=l.toks) hm.keeps,r1,qF.refl _,AT _,j,.new l.heap us hm J.stack λb o a L=>?_⟩⟩
  obtain⟨d,g⟩:=qt.there J j L;have y:=hm.keeps b d g;rw[a] at y;cases y;exact g
 .rw[Bd w] at q;exact Ao q
end
section
variable {X:Cx}{aj:aa}{σ: _L.St}{H:Hp}{s:Ag}
def X3 {M:Lb}{A:Bp}{E:ae}{base h:Bt}{ak:Ix}{N:Aa Ix}{L e:Af}{cls:Ac}{Q:Ro->Ag->Prop}
  (G:A.frames=Ab (ak::N)) (O:ak.frame=Ab L) (U:base.StaysIn h) (q:h.FunFrames base (ak::N)) (Y:Xw h s.heap e cls cb)
  (l:∀ h' a0,Heap.HeldW base (ak::N) e cls a0 L h'->s.heap.UpToSlots h'->Q () { s with heap:=h' }) : Aq M A (Tp (.ref e) ak) Q E s:=by
 obtain⟨t,B,y,d⟩:=Y.there;have fresh:∀ b,h.get? b=none->base.get? b=none:=λb J=>by
  cases k:base.get? b with
  |none=>rfl
  |some j=>have z:=U b j k;rw[J] at z;cases z
 unfold Tp;simp only[O];refine Ad (Ez B rfl (x:=.none) rfl ?_);rw[Bd bU]
 refine wpAny_entryW G (q.of_keeps λb o J _=>⟨o,Y.keeps b o J,rfl⟩) O B (λb o J=>Y.keeps b o (U b o J)) (fresh e Y.new) rfl bB (a0:=.ref t) rfl λh' w=>?_
 obtain⟨g,c,T,I⟩:=w;exact l h' (.ref t) ⟨g,fresh e Y.new,c,T⟩ I
theorem K8 {M:Lb}{A:Bp}{E:ae}{Q:Ro->Ag->Prop}(I:Inv X aj σ H s)(F:jg X)(G:A.frames=Ab X.stack)(f:mf X aj H c e s.heap)
  (d:∀ h' B a0,Rk B X.stack e c a0 h'->Inv X aj σ H { s with heap:=h' } -> Cv X aj H B h'->Q () { s with heap:=h' }) :
  Aq M A (Tp (.ref e) X.env) (λ_ J=>Aq M A (Aa9 (.ref e) none) Q E J) E s:=by
 have Y:∀ (B:Bt) (a0:Ac) (U:Bt),Cv X aj H B s.heap->Heap.HeldW B X.stack e c a0 X.env.locals U->s.heap.UpToSlots U->Aq M A (Aa9 (.ref e) none) Q E { s with heap:=U }:=λB a0 U L t up=>by
  refine wpAny_landsW (s:={ s with heap:=U }) t λy z v=>?_
  obtain⟨j,T⟩:=Inv.fly I F L z.1 (up.trans v);exact d y B a0 z j T
 cases f with
 |new g cb w l q =>
  obtain⟨o,r,k⟩:=YL I w l q;rw[F.2.1] at G;exact X3 G F.2.2 o (by rw[<- F.2.1];exact r) w λh' a0 O N=>Y _ a0 h' k (F.2.1▸O) N
 |fly B a0 fl L =>
  rw[F.2.1] at G;exact wpAny_looks_onW G F.2.2 (by rw[<- F.2.1];exact fl) λh' O N=>Y B a0 h' L (by rw[F.2.1];exact O) N
def o8 (I:Inv X aj σ H s)(F:jg X)(fl:Rk B X.stack e c a0 s.heap)(E:Cv X aj H B s.heap):¬ qt X aj H e/\e ∉ il X.stack/\∃ U,s.heap.get? e=Ab U/\U.cls=c:=by
 obtain⟨J,vs,Y,O,T,_⟩:=fl.first
 have N:e ∉ il X.stack:=λz=>by
  obtain⟨_,o,G,L⟩:=I.stack.mem z;rw[Y] at G;cases G;exact L vs T
 refine⟨λz=>?_,N,J,Y,O⟩;have q:=E e J Y z N;rw[fl.2.1] at q;cases q
def Inv.track {c:Ac}(I:Inv X aj σ H s)(F:jg X)(U:¬ qt X aj H e)(nf:e ∉ il X.stack)(O:s.heap.get? e=Ab J)(d:J.cls=c):Inv X aj σ (cc H e (c8 e c)) s:=by
 have Y:H e=none:=by
  cases q:H e with
  |none=>rfl
  |some u=>exact absurd (.inr (.inl (by rw[q];intro z;cases z))) U
 have A:e≠X.env.locals:=λz=>nf (F.mem.mpr (.inl z));have v:∀ b o,X.s₀.heap.get? b=Ab o->b≠e:=λb o q z=>U (.inl ⟨o,z▸q⟩);refine⟨I.ok,I.os,I.bare,⟨I.base.keep,I.base.slot,λb o q n T=>?_,I.base.there,λb G q=>?_,λb o G q=>?_,λb E q=>?_⟩,I.loc,I.cell,?_,λx k q=>?_,λp B=>?_,λb u q=>?_,I.len⟩
 .rw[qL (v b o q)];exact I.base.free b o q n T
 .have z:=I.base.tups b G q
  rw[qL (qT z Y)];exact z
 .have z:=I.base.frzs b o G q
  rw[qL (qT z Y)];exact z
 .obtain⟨m,z⟩:=I.base.tbls b E q
  exact⟨m,by rw[qL (qT z Y)];exact z⟩
 .rw[qL (Gj A)];exact I.free
 .have z:k≠e:=λz=>U (.inr (.inr (.inr ⟨x,z▸q⟩)))
  rw[qL z];exact I.freeC x k q
 .obtain⟨j,g,L,y,l⟩:=I.pin p B
  have z:p.1≠e:=λz=>U (.inr (.inr (.inl ⟨p,B,z⟩)));exact⟨j,by rw[qL z];exact g,L,y,l⟩
 .by_cases N:b=e
  .subst N
   rw[qV] at q;cases q;refine⟨⟨J,O,d⟩,⟨J,O⟩,λt r ⟨o,w,f⟩ k=>⟨o,k o w,f⟩⟩
  .rw[qL N] at q
   exact(I.hok b u q).stay (λ_ _ _ z=>z) (λk z=>by rw[qL (qT z Y)];exact z) λk G z=>by rw[qL (qT z Y)];exact z
def Inv.gone {i t':Ah}{h':Bt}(I:Inv X aj σ H s)(t:X.N.Nodup)(hi:X.N[i]? = Ab n){m:ah}{v:Ak Ac}(f:∀ (j:Ah) (y:As) (w:V),X.N[j]? = Ab y->σ[j]? = Ab (Ab w)->oy X.env.scope y->∃ u,qJ w u/\D5 X.env s.heap m y u)(hv:h'.Ns X.env.locals λy=>if y=n then v else m y)(O:Go X.env.locals s.heap h') :
  Inv X aj (σ.set i none) H { s with heap:=h',toks:=t' }:=by
 have Y:∀ b o,X.s₀.heap.get? b=Ab o->b≠X.env.locals:=λb o e=>Cn (Bh (Bf e) I.ok.above);have G:∀ b o,b≠X.env.locals->s.heap.get? b=Ab o->h'.get? b=Ab o:=λb o n e=>(O.2 b n).trans e;refine⟨I.ok,I.os,I.bare,⟨λb o e n N U=>G b o (Y b o e) (I.base.keep b o e n N U),λb o e n N U=>?_,I.base.free,λb o e U=>?_,I.base.tups,I.base.frzs,I.base.tbls⟩,⟨_,hv,λj y w L J g=>?_⟩,λx c e=>?_,I.free,I.freeC,λp h=>?_,λb u q=>?_,by simpa using I.len⟩
 .obtain⟨sl,q⟩:=I.base.slot b o e n N U
  exact⟨sl,G b _ (Y b o e) q⟩
 .obtain⟨T,q⟩:=I.base.there b o e U
  exact⟨T,G b T (Y b o e) q⟩
 .have E:i≠j:=λz=>by
   subst z;by_cases hs:i<σ.length
   .rw[Dj hs] at J;cases J
   .rw[Lu (by simp;fin2)] at J;cases J
  rw[Ci E] at J;obtain⟨u,r,l⟩:=f j y w L J g;refine⟨u,r,?_⟩;rcases l with⟨k,z⟩|⟨k,c,z,a⟩
  .refine .inl ⟨k,?_⟩
   have:y≠n:=λz=>E (t7 t hi (z▸L));simp[this,z]
  .exact .inr ⟨k,c,z,a.sameBut O (I.cne y c z)⟩
 .obtain⟨w,z⟩:=I.cell x c e
  exact⟨w,z.sameBut O (I.cne x c e)⟩
 .obtain⟨e,n,B,A,d⟩:=I.pin p h
  exact⟨G p.1 p.2 B e,n,B,A,d⟩
 .refine(I.hok b u q).stay (λc w hc z=>G c w ?_ z) (λ_ z=>z) λ_ _ z=>z
  rintro rfl;rcases hc with rfl|hc
  .rw[I.free] at q;cases q
  .rw[I.free] at hc;cases hc
def o9 {A:Bp}{E:ae}{i:Ah}{G:Ev}{Q:Ro->Ag->Prop}(I:Inv X aj σ H s)(J:X.N.Nodup)(hi:X.N[i]? = Ab n)(Y:X.env.scope.names.lookup n=Ab .local)
  (h:∀ s',Inv X aj (σ.set i none) H s'->Q () s'):Aq M A (do Zo X.env n .none;unbindBehindTheSuite X.env n G) Q E s:=by
 obtain⟨m,U,N⟩:=id I.loc;exact wpAny_nameGoes_keeps Y U (by rw[I.ok.kind];rfl) λB v hv O=>h _ (Inv.gone I J hi N hv O)
end
noncomputable abbrev Cx.tryIn (X:Cx)(E:ae)(pn:aa):Cx:={ X with xe:=E,pn:=pn }
abbrev Cx.suite (X:Cx)(e:Af):Cx:=Cx.re X (X.A.mark (Ab (.ref e))) false λ_ _=>Ex
noncomputable def tF (N i:Ah)(cs:ai)(f g:DS):DS:=λG S=>match f G S with
 |.ex c x U S1=>if cs.contains c then (match g ((Dk N none).set i (Ab (.exn c))) S1 with
   |.rt d J=>.rt d J
   |.nx Y J=>.nx (Y.set i none) J
   |_=>.bad) else .bad
 |o=>o
section
variable {X:Cx}{aj:aa}{σ: _L.St}{H:Hp}{s:Ag}
def Inv.inTry (I:Inv X aj σ H s)(E:ae):Inv (Cx.tryIn X E (X.pn++aj)) [] σ H s:=
 ⟨⟨I.ok.mod,I.ok.kind,I.ok.glob,I.ok.blt,I.ok.above,I.ok.inj,I.ok.has,I.ok.cab,I.ok.hd,I.ok.frames,I.ok.stk,I.ok.exf,I.ok.bs,I.ok.bsz,I.ok.noex,I.ok.exfs,I.ok.funs,I.ok.frf⟩,I.os,I.bare,I.base,I.loc,I.cell,I.free,I.freeC,λp Y=>I.pin p (by simpa using Y),I.hok,I.len⟩
def Inv.outTry (I:Inv (Cx.tryIn X E (X.pn++aj)) gx σ H s):Inv X aj σ H s:=
 ⟨⟨I.ok.mod,I.ok.kind,I.ok.glob,I.ok.blt,I.ok.above,I.ok.inj,I.ok.has,I.ok.cab,I.ok.hd,I.ok.frames,I.ok.stk,I.ok.exf,I.ok.bs,I.ok.bsz,I.ok.noex,I.ok.exfs,I.ok.funs,I.ok.frf⟩,I.os,I.bare,I.base,I.loc,I.cell,I.free,I.freeC,λp Y=>I.pin p (Dg _ Y),I.hok,I.len⟩
def SP.outTry {D:Ends}(h:SP (Cx.tryIn X E (X.pn++aj)) [] D f s'):SP X aj D f s':=by
 cases f with
 |next=>obtain⟨Y,J,I,q⟩:=h;exact⟨Y,J,Inv.outTry I,q⟩
 |brk=>obtain⟨Y,J,I,q⟩:=h;exact⟨Y,J,Inv.outTry I,q⟩
 |cont=>obtain⟨Y,J,I,q⟩:=h;exact⟨Y,J,Inv.outTry I,q⟩
 |ret u=>obtain⟨v,Y,J,I,r,q⟩:=h;exact⟨v,Y,J,Inv.outTry I,r,q⟩
def mf.outTry (f:mf (Cx.tryIn X E (X.pn++aj)) gx H c e h):mf X aj H c e h:=by
 have Y:∀ b,qt X aj H b->qt (Cx.tryIn X E (X.pn++aj)) gx H b:=λb o=>by
  rcases o with o|o|⟨p,O,z⟩|o
  .exact .inl o
  .exact .inr (.inl o)
  .exact .inr (.inr (.inl ⟨p,Dg _ O,z⟩))
  .exact .inr (.inr (.inr o))
 cases f with
 |new g cb N U G=>exact .new g cb N U λb o e q=>G b o e (Y b q)
 |fly B L fl J=>exact .fly B L fl λb o e q n=>J b o e (Y b q) n
def VM {K:Ai}{P:Hp}{α:ag}{n:Ah}(h:σ.length=n):zA K P α σ (Dk n none):=by
 refine⟨by simp[h],λi d e=>?_⟩
 rw[Op] at e
 split at e <;> cases e
def zA.unset {K:Ai}{P:Hp}{α:ag}(Y:zA K P α σ ak)(i:Ah):zA K P α (σ.set i none) (ak.set i none):=by
 refine⟨by simp[Y.1],λj d e=>?_⟩
 by_cases J:i=j
 .subst J
  by_cases U:i<ak.length
  .rw[Dj U] at e;cases e
  .rw[Lu (by simp;fin2)] at e;cases e
 .rw[Ci J] at e ⊢
  exact Y.2 j d e
end
section
variable {X:Cx}{aq:Ev}{f g:DS}
def RZ {aj:aa}{D:Ends}{c:Ac}{e C0:Af}{s':Ag}{σ:_L.St}{H P:Hp}{α:ag}{x n:As}{i:Ah}{L:Fb}{U:Aa Fb}{j:Ev}
  (F:jg X) (hg:Gl X x) (hm:X.mg x=Ab (.ref C0)) (b:∀ c∈cs,Kg X.K c (.ref C0)=Ab true) (hN:X.N.Nodup) (hi:X.N[i]? = Ab n) (N:X.env.scope.names.lookup n=Ab .local)
  (hs:∀ e,im (Cx.suite X e) (L::U) (ii (Cx.suite X e) g)) (hc:cs.contains c=true) (I:Inv X aj σ H s') (r:bf X.K H P α S1) (fl:mf X aj H c e s'.heap)
  (J:qX X P α (match g ((Dk X.N.length none).set i (Ab (.exn c))) S1 with|.rt d T=>.rt d T|.nx Y T=>.nx (Y.set i none) T|_=>.bad) D) (zv:(x == ("__debug__" : As))=false) :
  ce X (Tp (.ref e) X.env) (λ_ w=>ce X (Aa9 (.ref e) none) (λ_ y =>
   ce X (handleBy (.ref e) X.env [.ExceptHandler (Ab (.Name x np)) (Ab n) (L::U) j]) (SP X aj D) X.xe y) X.xe w) X.xe s':=by
 have k:Kg X.K c (.ref C0)=Ab true:=b c (by simpa using hc)
 have Z:∀ {σ : _L.St} {H:Hp} {s:Ag},Inv X aj σ H s->Inv (Cx.suite X e) aj σ H s:=λI=>Inv.re I _ false _ I.ok.frames λz=>nomatch z;refine K8 I F I.ok.frames fl λh5 B a0 f5 m l=>?_;refine wpAny_handleBy_cons (codeAny_handlers_test (A:=X.A.mark (Ab (.ref e))) (uS (X:=Cx.suite X e) (Z m) hg hm ?_ zv)) (by intro q;cases q)
 obtain⟨z2,z1,z3,zs,zb⟩:=o8 m F f5 l;refine(PySem.W.exm_one m.kIn (by subst zb;exact(PySem.W.Looks.ld zs).andThen .now) k).at ?_
 refine codeAny_handlers_suite_as ?_;refine lands_againW (s:={ s' with heap:=h5 }) f5 λh6 f6 u6=>?_
 obtain⟨I6,zy⟩:=Inv.fly m F l f6.1 u6;obtain⟨t,zc,z4,zl,a⟩:=o8 I6 F f6 zy;have J6:Inv X aj σ (cc H e (c8 e c)) { s' with heap:=h6 }:=Inv.track I6 F t zc zl a
 have hn:H e=none:=by
  cases q:H e with
  |none=>rfl
  |some u=>exact absurd (.inr (.inl (by rw[q];intro z;cases z))) t
 obtain⟨r1,sP⟩:=r.pure (o:=c8 e c) hn;refine vQ (X:=Cx.suite X e) (v:=.ref e) (Z J6) hN hi (.inl N) rfl (λs7 I7=>?_) (.inr N);have zx:zA X.K (cc P e (c8 e c)) α (σ.set i (Ab (.ref e))) ((Dk X.N.length none).set i (Ab (.exn c))):=(VM I.len).set i (by simp only[au];exact⟨e,rfl,qV⟩)
 refine Gr (hs e aj s7 _ _ { nx:=λO G=>D.nx (O.set i none) G,rt:=D.rt } I7 ⟨_,α,_,S1,r1,zx,?_⟩) (λfl s8 q=>?_) λ_ _ z=>Ao z
 .cases q:g ((Dk X.N.length none).set i (Ab (.exn c))) S1 with
  |rt d T=>rw[q] at J;exact λv G P' E r' h e2 rp=>J v G P' E r' (sP.trans h) e2 rp
  |nx Y T=>rw[q] at J;exact λO G P' E r' zz h e2=>J _ G P' E r' (zA.unset zz i) (sP.trans h) e2
  |bk Y T=>rw[q] at J;exact Ao J
  |ct Y T=>rw[q] at J;exact Ao J
  |ex c' x' Y T=>rw[q] at J;exact Ao J
  |bad=>rw[q] at J;exact Ao J
 .cases fl with
  |next =>
   obtain⟨O,G,I8,q⟩:=q;exact o9 (Inv.unre I8 I.ok.frames I.ok.hd) hN hi N λs9 I9=>⟨_,G,I9,q⟩
  |brk =>
   obtain⟨_,_,_,q⟩:=q;exact Ao q
  |cont =>
   obtain⟨_,_,_,q⟩:=q;exact Ao q
  |ret u =>
   obtain⟨v,O,G,I8,rv,q⟩:=q;exact o9 (Inv.unre I8 I.ok.frames I.ok.hd) hN hi N λs9 I9=>⟨v,_,G,I9,rv,q⟩
set_option tactic.hygienic true in
def RD {x n:As}{t:Af}{i:Ah}{U:Fb}{J:Aa Fb}{np N:Ev}(F:jg X)(m:∀ E o,Ow (Av X.prog X.w) X.A X.env E->im (Cx.tryIn X E o) bo (ii (Cx.tryIn X E o) f))
  (hs:∀ e,im (Cx.suite X e) (U::J) (ii (Cx.suite X e) g)) (hg:Gl X x) (hm:X.mg x=Ab (.ref t)) (w:∀ c∈cs,Kg X.K c (.ref t)=Ab true) (b:X.N.Nodup) (hi:X.N[i]? = Ab n:=by rfl) (y:X.env.scope.names.lookup n=Ab .local:=by rfl)
  (A:(x == ("__debug__" : As))=false:=by decide):PS X (.Try bo [.ExceptHandler (Ab (.Name x np)) (Ab n) (U::J) N] [] [] aq) (ii X (tF X.N.length i cs f g)):=by
 intro l s σ H D I h;obtain⟨P,α,v,S,r,re,Y⟩:=h;refine wpAny_Try_except ?_;refine Gr (m _ (X.pn++l) (PassesOwn.looking (K:=λe O=>ce X (Aa9 e none) (λ_ B=>ce X (handleBy e X.env [.ExceptHandler (Ab (.Name x np)) (Ab n) (U::J) N]) (SP X l D) X.xe B) X.xe O) (E₁:=X.xe))
  [] s σ H D (Inv.inTry I _) ⟨P,α,v,S,r,re,?_⟩) (λfl s1 q=>?_) λ_ _ z=>z
 .unfold tF at Y
  cases q:f v S with
  |rt d T=>rw[q] at Y;exact Y
  |nx G T=>rw[q] at Y;exact Y
  |bk G T=>rw[q] at Y;exact Y
  |ct G T=>rw[q] at Y;exact Y
  |bad=>rw[q] at Y;exact Y
  |ex c x' G T =>
   rw[q] at Y;dsimp only at Y;intro u s' k;obtain⟨e,j,zc,H',P',zb,rfl,I',r',a,e2,F',fl⟩:=k
   split at Y
   .rename_i hc
    exact RZ F hg hm w b hi y hs hc (Inv.outTry I') r' (mf.outTry fl) (qX.base a e2 Y) A
   .exact Ao Y
 .have L:=SP.outTry q
  cases fl with
  |next=>exact Nn L
  |brk=>exact L
  |cont=>exact L
  |ret u=>exact L
end
end _D
namespace _D
open _L PySem.W
variable {R:Zp->Ag->Prop}
structure p_ (K:Ai)(C:Af):Prop where
 ga:findIn K (.ref C) "__getattribute__" = Ab (Ab (.builtin "BaseException.__getattribute__"))
 hk:findIn K (.ref C) "__getattr__" = Ab none
 cl:findIn K (.ref C) "__class__" = Ab (Ab (.builtin "object.__class__"))
 sp:specialIn K (.builtin "object.__class__") "__get__" = Ab (Ab (.builtin "getset_descriptor.__get__"))
 tk:takesIn K (.builtin "object.__class__")=Ab true
 mo:mroIn K C (.type "object")=Ab true
 mb:mroIn K C (.type "BaseException")=Ab true
 isC:(clsIn K C).isSome=true
section
variable {prog:Bi}{w:Bz}{A:Bp}{E:ae}{s:Ag}{K:Ai}{x C:Af}
abbrev vT (x C:Af)(h:Bt):Prop:=∃ Q,h.get? x=Ab Q/\Q.cls=.ref C
def vT.type (I:vT x C h):Looks M h (typeOf (.ref x)) (.ref C):=by
 obtain⟨Q,e,c⟩:=I;rw[<- c];exact(Looks.ld e).andThen .now
def JH (X:K.In h)(Z:p_ K C):Looks M h (Ac7 (.ref x) (.ref C) "__class__") (.bind (.builtin "getset_descriptor.__get__") (.builtin "object.__class__")):=by
 have Q:=v4 (M:=M) X Z.cl;have J:Looks M h (Ac5 (Ab (.builtin "object.__class__"))) (Ab (.builtin "getset_descriptor.__get__")):=looks_specialIn X Z.sp;have Y:=looks_takesIn (M:=M) X Z.tk;have l4:Looks M h (v6 (Ab (.builtin "object.__class__")) (Ab (.builtin "getset_descriptor.__get__"))) (Ab (.builtin "getset_descriptor.__get__",.builtin "object.__class__")):=Y.andThen .now;exact Q.andThen (J.andThen (l4.andThen (Looks.tag .now)))
def M3 {tp:Ac}(X:K.In s.heap)(Z:p_ K C)(I:vT x C s.heap)(h:R (.ok (.ret (.ref C))) s) :
  Ik (Av prog w) A (.call (.builtin "getset_descriptor.__get__") ⟨[.builtin "object.__class__",.ref x,tp],[]⟩) R s:=by
 have LT:=vT.type (M:=Av prog w) I;have Q:=looks_mroIn (M:=Av prog w) X Z.mo;cases s;refine Qs KF.slot_gs.plain KF.entry_gs (KF.slot_gs.check _ _ _ _ _ _ _ _ KF.type_class (KF.args_gs _ _ _) ?_);unfold Hz.«getset_descriptor.__get__» wE;rw[dga_obj];refine Ad (Am ?_);unfold Zd Vz Wl isInstance;simp only[KF.owner_class]
 repeat lk
 refine⟨Zz _ (by decide +kernel),Jv KF.entry_class ?_⟩
 unfold Hz.«object.__class__» shownTypeOf
 repeat lk
 exact h
def RP {tk:Tf}(X:K.In s.heap)(Z:p_ K C)(I:vT x C s.heap)(h:R (.ok (.ret (.ref C))) s) :
  Ik (Av prog w) A (.call (.builtin "BaseException.__getattribute__") ⟨[.ref x,.str "__class__" tk],[]⟩) R s:=by
 have LT:=vT.type (M:=Av prog w) I;have U:=looks_mroIn (M:=Av prog w) X Z.mb;have G:=JH (M:=Av prog w) (x:=x) X Z;have N:builtinKind "BaseException.__getattribute__" = Ab .slot:=by decide +kernel
 have J:splitId "BaseException.__getattribute__" = Ab ("BaseException","__getattribute__"):=by decide +kernel
 have Y:∀ (A:Bp) (Q:Ro->Ag->Prop) (E:ae),Q () s->Aq (Av prog w) A (Ux "BaseException.__getattribute__" ⟨[.ref x,.str "__class__" tk],[]⟩) Q E s:=by
  intro A Q E B;have O:=PySem.F.args_bexc_ga (.ref x) (.str "__class__" tk);simp only[Ux,N,J];unfold isInstance;refine Ad (Ad (LT.here (U.here ?_)))
  repeat (any_goals (first|assumption|wp_step))
 refine Qs Vj.ga.plain PySem.F.entry_bexc_ga (Y _ _ _ ?_);cases s;unfold Hz.«object.__getattribute__»;refine Ad (Px (show slotArgs "__getattribute__" 1 ⟨[.ref x,.str "__class__" tk],[]⟩=pure (.ref x,[.str "__class__" tk]) from by kernel_rfl) ?_)
 refine Ad (Am (Ad (LT.at (Ad (G.at ?_)))));show Aq _ _ (Tq _ _ _ _) _ _ _;unfold Tq;dsimp only;exact Ad (Ee (Uw (M3 X Z I (Am h))))
def WS {Q:Ak Ac->Ag->Prop}(X:K.In s.heap)(Z:p_ K C)(I:vT x C s.heap)(h:Q (Ab (.ref C)) { s with toks:=s.toks+1 }) : Aq (Av prog w) A (getAttr? (.ref x) "__class__") Q E s:=by
 have LT:=vT.type (M:=Av prog w) I;have U:=v4 (M:=Av prog w) X Z.ga;have Y:=v4 (M:=Av prog w) X Z.hk;unfold getAttr? getAttrBy? getAttrBy;cases s;refine Ad (wpAny_mkText (Ad (Jg (Ee (Ad (LT.at (Ad (U.at ?_))))))));dsimp only;have J:(AbV "BaseException.__getattribute__" == AbV "object.__getattribute__")=false:=by decide +kernel
 rw[J,Kh,Bd En];unfold getAttrByItsOwn hookBefore;rw[Bg (show onTheHeap (.ref C)=true from rfl)]
 refine Ad (Y.at (Ad (Jg (Ee ?_))));unfold callGetattribute;rw[Hs,Bd En];unfold boundAndCalled;refine Ad (Px (Vj.ga.bind (.ref x)) ?_);refine Uw (RP X Z I ?_);show Aq _ _ (handedOut (.ref C)) _ _ _;exact Am (Am h)
set_option tactic.hygienic true in
def cL (Z:p_ K C):KitX K (.ref x) (.ref C) (vT x C) where
 ty:=λ_ _ _ I=>I.type
 it:=λM h X _=>by
  have z:=Z.isC;unfold clsIn at z
  split at z
  .rename_i Y
   intro O B N L k q;unfold isType loadHead;exact Ad (wpAny_loadPart (k _ _ (X _ _ Y)) (Am q))
  .cases z
 ne:=λh J T U n sl X Q=>by
  have z:=Z.isC;unfold clsIn at z
  split at z
  .rename_i Y
   cases G:(Cb C == Cb J) with
   |false=>rfl
   |true =>
    obtain rfl:C=J:=Value.ref.inj (Pl.mp G);have y:=(X _ _ Y).symm.trans Q;cases y
  .cases z
 ca:=λX I k=>WS X Z I k
end
end _D
namespace _D
open _L
variable {iq:Aa (As × Af)}{α α1:ag}{ds:Aa D}{E:ae}{C:Af}{s:Ag}{K:Ai}{w:Bz}{o:Cp}{H P P1:Hp}{S S1:ap}
def pF {α:Type}{t:Kj α}{Q Y:α->Ag->Prop}(h:Aq M A t Q (λ_ _=>Ex) s)(J:∀ a s,Q a s->Y a s):Aq M A t Y E s:=Gr h J λ_ _ x=>x.elim
def jL (Q:Aa By)(ak:Ix):Kj Au:=forIn Q true λc r=>if r=true then do let ok <- Ac8 c ak (eval c ak);pure (Lg ok) else pure (Lg r)
def rn (X:Cx)(J:Aa By)(t:DT):Prop:=
 ∀ (Y:aa) (s:Ag) (σ : _L.St) (H:Hp) (Q:Au->Hp->Prop),Inv X Y σ H s->mv X t σ H Q->ce X (jL J X.env) (TP X Y σ Q) X.xe s
def xB:DT:=λ_ S=>.ok true S
section
variable {X:Cx}
theorem fY {prog:Bi}{A:Bp}{ak:Ix}{Q:Au->Ag->Prop}:∀ (Y:Aa By) {s:Ag},Q false s ->
  Aq (Av prog w) A (forIn Y false λc r=>if r=true then do let ok <- Ac8 c ak (eval c ak);pure (Lg ok) else pure (Lg r)) Q E s
 |[],s,h=>by rw[Ov];exact Am h
 |c::J,s,h=>by
  rw[Nr];rw[Bd bB]
  refine Ad (Am ?_);exact fY J h
def FY:rn X [] xB:=λU s σ H Q I ⟨P,α,G,S,r,J,Y⟩=>by
 unfold jL;rw[Ov];exact Am ⟨H,I,Y H P α r (qF.refl _) (AT _)⟩
def JC {t u:DT}(h1:PT X c (mv X t))(h2:rn X U u):rn X (c::U) (yN t u):=λO s σ H Q I ⟨P,α,M,S,r,j,A⟩=>by
 unfold jL;rw[Nr,Bg rfl];refine Ad (Ad (bv (kT (λz q=>h1 O s σ H z I q) r j A) λb y ⟨G,P1,α1,S1,N,L,J,T,B,Y⟩=>Am ?_));cases b with
 |true=>exact h2 O y σ G Q N ⟨P1,α1,M,S1,L,J,wZ.base T B Y⟩
 |false=>exact fY U ⟨G,N,Y G P1 α1 L T B⟩
def _Y {σ:_L.St}(L:PE X e (tD X f))(I:Inv X aj σ H s)(r:bf X.K H P α S)(T:zA X.K P α σ ak)(q:f ak S=.ok d S1) :
  ce X (eval e X.env) (λu U=>∃ v J P1 α1,Got X aj σ ak P α u U v J P1 α1 d S1) X.xe s:=by
 refine bv (zT (g:=λd S=>bb.ok d S) (Ok:=λQ Y=>Q=d/\Y=S1) L I r T (by rw[q];exact⟨rfl,rfl⟩)) λu U ⟨v,J,P1,α1,Q,Y,G,A,N⟩=>?_
 have O:Q=d:=A;have B:Y=S1:=N;subst O;subst B;exact⟨v,J,P1,α1,G⟩
def qAc {t:DT}{σ:_L.St}{b:Au}(y:rn X N t)(I:Inv X aj σ H s)(r:bf X.K H P α S)(O:zA X.K P α σ ak)(q:t ak S=.ok b S1) :
  ce X (jL N X.env) (λY B=>Y=b/\∃ Q P1 α1,Inv X aj σ Q B/\bf X.K Q P1 α1 S1/\zA X.K P1 α1 σ ak/\qF P P1/\α<+:α1) X.xe s:=by
 refine bv (y aj s σ H (λY Q=>Y=b/\∃ P1 α1,bf X.K Q P1 α1 S1/\zA X.K P1 α1 σ ak/\qF P P1/\α<+:α1) I ⟨P,α,ak,S,r,O,?_⟩) λY B ⟨Q,j,e,P1,α1,A,k,z,L⟩=>⟨e,Q,P1,α1,j,A,k,z,L⟩;rw[q];exact λu T J M U G=>⟨rfl,T,J,M,O.mono U G,U,G⟩
def _X {σ:_L.St}{ak Y:qD}{d:D}(k:PG X N (nz X g))(I:Inv X aj σ H s)(r:bf X.K H P α S)(l:zA X.K P α σ ak)(f:qJ v u)
  (A:au X.K P α d v) (q:g d ak S=.ok Y S1) :
  ce X (assign N X.env u) (λ_ O=>∃ Q J P1 α1,Inv X aj Q J O/\bf X.K J P1 α1 S1/\zA X.K P1 α1 Q Y/\qF P P1/\α<+:α1) X.xe s:=by
 refine bv (k aj s σ H v u (λQ J=>∃ P1 α1,bf X.K J P1 α1 S1/\zA X.K P1 α1 Q Y/\qF P P1/\α<+:α1) I f ⟨P,α,ak,S,d,r,l,A,?_⟩) λ_ O ⟨Q,J,y,P1,α1,T,c,j,B⟩=>⟨Q,J,P1,α1,y,T,c,j,B⟩;rw[q];exact λt m L U z G M p=>⟨L,U,z,G,M,p⟩
def pR (K:Ai)(P:Hp)(α : Aa Af)(ds:Aa D)(o:Cp):Prop:=∃ (Q:ai) (n:Ah) (Y:Aa V),o={ cls:=.type "list",data:=.seq Q.toArray n } /\ qM Y Q/\qE K P α ds Y/\ds.length<=bq
def pR.mono (e:qF P P1)(h:α<+:α1)(a:pR K P α ds o):pR K P1 α1 ds o:=by
 obtain⟨Q,n,U,G,J,N,Y⟩:=a;exact⟨Q,n,U,G,J,qE.mono e h _ _ N,Y⟩
def pR.cell (a:pR K P α ds o):∀ v,o.data≠.cell v:=by
 obtain⟨Q,n,Y,rfl,_⟩:=a;intro v z;cases z
def Inv.pin1 {σ:_L.St}{a:Af}(I:Inv X aj σ H s)(f:xR X aj H a)(e:s.heap.get? a=Ab o)(d:∀ v,o.data≠.cell v):Inv X (aj++[(a,o)]) σ H s:=
 I.pins_of λp Y=>(Bq.mp Y).elim (λz=>I.pin p (Ca _ z)) λz=>by
  have Q:p=(a,o):=by simpa using z
  subst Q;exact⟨e,f.1,f.2.1,f.2.2.1,d⟩
def Inv.pinned1 {aj:aa}{σ:_L.St}{a:Af}(I:Inv X (aj++[(a,o)]) σ H s):s.heap.get? a=Ab o/\H a=none:=by
 have:=I.pin (a,o) (Ca _ (Ca _ bB))
 exact⟨this.1,this.2.1⟩
end
structure Acc where
 m:Au
 O:Ai->Hp->Aa Af->Aa D->Cp->Prop
 mono:∀ {K:Ai} {P P1:Hp} {α α1:ag} {ds:Aa D} {o:Cp},qF P P1->α<+:α1->O K P α ds o->O K P1 α1 ds o
 cell:∀ {K:Ai} {P:Hp} {α : Aa Af} {ds:Aa D} {o:Cp},O K P α ds o->∀ v,o.data≠.cell v
@[reducible] def ko:Acc:=⟨false,pR,pR.mono,pR.cell⟩
def w6 (m:Au)(Q:By)(Y:Aa Eg)(am:Ep)(J:Ev):By:=match m with
 |false=>.ListComp Q Y am J
 |true=>.SetComp Q Y am J
structure ge (B:Acc)(Y:Cx)(pins:aa)(P1:Hp)(α1:ag)(fp:ag)(acc:Af)(env:qD)(S:ap)(ds:Aa D)(s:Ag)(σ : _L.St)(H P:Hp)(α : Aa Af)(o:Cp):Prop where
 inv:Inv Y pins σ H s
 rel:bf Y.K H P α S
 env:zA Y.K P α σ env
 same:qF P1 P
 pre:α1<+:α
 fpn:∀ b∈fp,H b=none
 acn:H acc=none
 at':s.heap.get? acc=Ab o
 acc:B.O Y.K P α ds o
noncomputable def wY (iq:Aa (As × Af)):Aa (As × Ip)->Aa (As × Af)->Aa (As × Af)
 |[],Q=>Q
 |(n,k)::r,Q=>wY iq r (if k == .free then (n,(iq.lookup n).getD 0)::Q else Q)
def pP {ak:Ix}{am:Ep}(h:∀ y∈am.names,y.2=.free->∃ c,ak.cells.lookup y.1=Ab c):Uy am ak=pure (wY ak.cells am.names []):=by
 have T:∀ (l:Aa (As × Ip)) (Y:Aa (As × Af)),(∀ y∈l,y.2=.free->∃ c,ak.cells.lookup y.1=Ab c) ->
   (forIn l Y λx Y=>match x with|(Q,U)=>if (U == Hb)=true then do let a <- cellOf ak Q;pure (Lg ((Q,a)::Y)) else pure (Lg Y):Kj (Aa (As × Af)))=pure (wY ak.cells l Y):=by
  intro l
  induction l with
  |nil=>intro Y _;rfl
  |cons y r O =>
   intro Y N;obtain⟨n,k⟩:=y;rw[Nr];by_cases L:k=.free
   .subst L
    obtain⟨c,I⟩:=N (n,.free) DL rfl;have J:ak.cells.lookup n=Ab c:=I;have e:cellOf ak n=pure c:=by unfold cellOf;rw[J]
    simp only[Fo,Eb,e,pure_bind];rw[O _ λz G=>N z (Cs _ G)];simp only[wY,Fo,Eb,J,Py]
   .have B:(k == Hb)=false:=by simpa using L
    simp only[B,Bx,Dx,pure_bind];rw[O _ λz G=>N z (Cs _ G)];simp only[wY,B,Bx,Dx]
 unfold Uy;have:=T am.names [] h;simp only[bind_pure];exact this
theorem k9:∀ (l:Aa (As × Ip)) (Y:Aa (As × Af)),(wY iq l Y).lookup x=Ab c->Y.lookup x=Ab c\/((x,Hb)∈l/\c=(iq.lookup x).getD 0)
 |[],Y,h=>.inl h
 |(n,k)::r,Y,h=>by
  rcases k9 r _ h with h|⟨G,U⟩
  .by_cases J:k=.free
   .subst J
    simp only[Fo,Eb,Ji] at h;cases Q:x == n with
    |true =>
     rw[Q] at h;have e:x=n:=by simpa using Q
     subst e;exact .inr ⟨DL,(Dd h).symm⟩
    |false=>rw[Q] at h;exact .inl h
   .have Q:(k == Hb)=false:=by simpa using J
    simp only[Q,Bx,Dx] at h;exact .inl h
  .exact .inr ⟨Cs _ G,U⟩
theorem jR {x:As}:∀ (l:Aa (As × Ip)) (Q:Aa (As × Af)),((x,Hb)∈l\/∃ c,Q.lookup x=Ab c)->∃ c,(wY iq l Q).lookup x=Ab c
 |[],Q,h=>by
  rcases h with h|h
  .cases h
  .exact h
 |(n,k)::r,Q,h=>by
  refine jR r _ ?_;rcases h with h|⟨c,h⟩
  .rcases Ba.mp h with e|h
   .cases e
    exact .inr ⟨(iq.lookup x).getD 0,by simp only[Fo,Eb,Ji]⟩
   .exact .inl h
  .by_cases Y:k=.free
   .subst Y
    simp only[Fo,Eb,Ji];cases J:x == n with
    |true=>exact .inr ⟨_,rfl⟩
    |false=>exact .inr ⟨c,h⟩
   .have J:(k == Hb)=false:=by simpa using Y
    simp only[J,Bx,Dx];exact .inr ⟨c,h⟩
structure d_ (scX:Ep)(NX:Aa As)(scope:Ep)(N':Aa As)(cap:Aa (Ak Ah)):Prop where
 kind:scope.kind=.function
 names:∀ y∈scope.names,y.2=.local -> scope.names.lookup y.1=Ab .local
 cel:∀ y∈scope.names,y.2=.cell->scope.names.lookup y.1=Ab .cell
 free:∀ y∈scope.names,y.2=.free->scX.names.lookup y.1=Ab .cell\/scX.names.lookup y.1=Ab .free
 fr2:∀ y∈scope.names,y.2=.free->scope.names.lookup y.1=Ab .free
 len:cap.length=N'.length
 caps:((cap.zip N').all λp=>match p.1 with|none=>true|some i=>NX[i]? == Ab p.2&&scope.names.lookup p.2 == Ab .free)=true
 nd:N'.Nodup
def vI (bw:Aa (Ak Ah))(σ : _L.St):_L.St:=bw.map λo=>match o with
 |none=>none
 |some i=>(σ[i]?).join
def w4 (bw:Aa (Ak Ah))(ak:qD):qD:=bw.map λo=>match o with
 |none=>none
 |some i=>(ak[i]?).join
def VL {σ:_L.St}(J:zA K P α σ ak)(bw:Aa (Ak Ah)):zA K P α (vI bw σ) (w4 bw ak):=by
 refine⟨by simp[vI,w4],λj d e=>?_⟩
 unfold w4 at e;unfold vI;rw[Do] at e ⊢;cases q:bw[j]? with
 |none=>rw[q] at e;cases e
 |some o =>
  rw[q] at e;cases o with
  |none=>cases e
  |some i =>
   have Q:(ak[i]?).join=Ab d:=by simpa using e
   cases z:ak[i]? with
   |none=>rw[z] at Q;cases Q
   |some w =>
    rw[z] at Q;have Y:w=Ab d:=Q;subst Y;obtain⟨v,G,U⟩:=J.2 i d z;exact⟨v,by simp[G],U⟩
noncomputable def z0 (X:Cx)(Q:Aa As)(am:Ep)(Y:Aa (As × Af))(C:Af)(ex:ag)(s₀:Ag)(H₀:Hp):Cx:=
 { X with N:=Q,s₀:=s₀,H₀:=H₀,env:=compEnvC am Y C X.env,outer:=X.stack,stack:=X.stack,ex:=ex,fn:=λx=>decide (am.names.lookup x=Ab .cell),pn:=[],xe:=λ_ _=>Ex }
theorem jI {am:Ep}{ak:Ix}:∀ {Q:Aa (As × Ip)} {x:As} {k:Ip},
  (Q.map λ(n,k)=>if (k == Hb&&ak.scope.kind == .function&&ak.kindOf n == Ab .cell) then (n,Pz) else (n,k)).lookup x=Ab k ->
  Q.lookup x=Ab k\/(k=.cell/\Q.lookup x=Ab .free)
 |[],_,_,h=>by simp at h
 |(n,U)::r,x,k,h=>by
  rw[Cu,Ji] at h;rw[Ji];dsimp only at h;cases J:(U == Hb&&ak.scope.kind == .function&&ak.kindOf n == Ab .cell) with
  |true =>
   rw[J] at h;simp only[Eb] at h;cases Y:x == n with
   |true =>
    rw[Y] at h;have e:Pz=k:=Dd h;have G:U=.free:=by
     have:=(Aw _ _).mp J;have:=(Aw _ _).mp this.1;simpa using this.1
    subst G;exact .inr ⟨e.symm,rfl⟩
   |false=>rw[Y] at h;exact jI (am:=am) h
  |false =>
   rw[J] at h;simp only[Bx,Dx] at h;cases Y:x == n with
   |true=>rw[Y] at h;exact .inl h
   |false=>rw[Y] at h;exact jI (am:=am) h
section
variable {X:Cx}{am:Ep}{N':Aa As}{bw:Aa (Ak Ah)}{aj:aa}{σ: _L.St}{H2:Hp}{s2:Ag}{fp:ag}
def gL (S:d_ X.env.scope X.N am N' bw){x:As}{k:Ip}(h:(relabel am X.env).names.lookup x=Ab k):am.names.lookup x=Ab k\/(k=.cell/\am.names.lookup x=Ab .free):=jI (am:=am) h
def WB (S:d_ X.env.scope X.N am N' bw)(ok:X.Ok){x:As}{c:Af}(h:(wY X.env.cells am.names []).lookup x=Ab c):X.env.cells.lookup x=Ab c/\(x,Hb)∈am.names:=by
 rcases k9 _ _ h with h|⟨J,Y⟩
 .cases h
 .have:=S.free _ J rfl
  obtain⟨U,Q⟩:=ok.has x this;rw[Q,Py] at Y;rw[Q,Y];exact⟨rfl,J⟩
def G6 (am:Ep)(C:Af):Aa (As × Af):=Il (C+1) am.names []
def gJ (X:Cx)(am:Ep)(C:Af):Aa (As × Af):=Il (C+1) am.names (wY X.env.cells am.names [])
theorem yX:∀ (Q:Aa (As × Ip)) (lo:Ah) (aw:Aa (As × Af)),Il lo Q aw=Il lo Q [] ++ aw
 |[],_,_=>rfl
 |(n,k)::r,lo,aw=>by
  unfold Il
  split
  .rw[yX r _ ((n,lo)::aw),yX r _ [(n,lo)],Cd];rfl
  .exact yX r lo aw
set_option tactic.hygienic true in
theorem pW:∀ (Q:Aa (As × Ip)) (lo:Ah) {n:As} {c:Af},(n,c)∈Il lo Q [] -> (n,Pz)∈Q
 |[],_,_,_,h=>by cases h
 |(Y,k)::r,lo,n,c,h=>by
  unfold Il at h
  split at h
  .rename_i J
   rw[yX] at h;rcases Bq.mp h with h|h
   .exact Cs _ (pW r _ h)
   .have e:(n,c)=(Y,lo):=by simpa using h
    cases e;have:k=Pz:=by simpa using J
    rw[this];exact DL
  .exact Cs _ (pW r _ h)
def xV (S:d_ X.env.scope X.N am N' bw)(ok:X.Ok){C:Af}{x:As}{c:Af}(h:(gJ X am C).lookup x=Ab c):((x,c)∈G6 am C/\am.names.lookup x=Ab .cell)\/(X.env.cells.lookup x=Ab c/\(x,Hb)∈am.names):=by
 unfold gJ at h;rw[yX,ZB] at h;cases q:(Il (C+1) am.names []).lookup x with
 |some Q =>
  rw[q] at h;cases h;have m:=Fn q;exact .inl ⟨m,S.cel _ (pW _ _ m) rfl⟩
 |none =>
  rw[q] at h;exact .inr (WB S ok h)
def eZ (S:d_ X.env.scope X.N am N' bw)(ok:X.Ok){C:Af}{x:As}(h:am.names.lookup x=Ab .cell\/am.names.lookup x=Ab .free):∃ c,(gJ X am C).lookup x=Ab c:=by
 unfold gJ;rw[yX,ZB];rcases h with h|h
 .have:=Ld am.names (C+1) [] (x:=x) (.inl h)
  obtain⟨c,Y⟩:=Iw.mp this;exact⟨c,by rw[Y];rfl⟩
 .obtain⟨J,Q⟩:=jR (iq:=X.env.cells) am.names [] (.inl (Fn h))
  rw[Q];cases (Il (C+1) am.names []).lookup x with
  |none=>exact⟨J,rfl⟩
  |some c=>exact⟨c,rfl⟩
def FB (S:d_ X.env.scope X.N am N' bw)(Q:Inv X aj σ H2 s2)(M:∀ b∈fp,xR X aj H2 b)(G:∀ b∈fp,b<s2.heap.objs.size)(U:s2.heap.objs.size<=C){h1:Bt}(B:CellsOk h1 (C+1) (G6 am C)) :
  (z0 X N' am (gJ X am C) C fp s2 H2).Ok where
 mod:=Q.ok.mod
 kind:=S.kind
 glob:=Q.ok.glob
 blt:=Q.ok.blt
 above:=U
 inj:=λx y c h1 N=>by
  rcases xV S Q.ok h1 with⟨O,_⟩|⟨O,_⟩ <;> rcases xV S Q.ok N with⟨L,_⟩|⟨L,_⟩
  .exact PySem.name_of_addr B.apart O L
  .obtain⟨v,j,J,_⟩:=Q.cell y c L
   exact absurd (Bh (Bf J) U) (Pk.mpr (Eo (B.empty x c O).2))
  .obtain⟨v,j,J,_⟩:=Q.cell x c O
   exact absurd (Bh (Bf J) U) (Pk.mpr (Eo (B.empty y c L).2))
  .exact Q.ok.inj x y c O L
 has:=λx I=>by
  have A:(relabel am X.env).names.lookup x=Ab .cell\/(relabel am X.env).names.lookup x=Ab .free:=I;refine eZ S Q.ok ?_;rcases A with h|h
  .rcases gL S h with h|⟨_,h⟩
   .exact .inl h
   .exact .inr h
  .rcases gL S h with h|⟨z,_⟩
   .exact .inr h
   .cases z
 cab:=λx c h N=>by
  have I:am.names.lookup x=Ab .cell:=Ce h;rcases xV S Q.ok N with⟨m,_⟩|⟨_,m⟩
  .exact Cg U (Eo (B.empty x c m).2)
  .have:=S.fr2 _ m rfl
   have this':am.names.lookup x=Ab .free:=this;rw[I] at this';cases this'
 hd:=Q.ok.hd
 frames:=Q.ok.frames
 stk:=.inl rfl
 exf:=λb Y=>⟨Cn (Bh (G b Y) U),λx c h=>by
  rcases xV S Q.ok h with⟨m,_⟩|⟨m,_⟩
  .exact Gj (Cn (Ie (Bh (G b Y) U) (B.empty x c m).2))
  .exact(M b Y).2.2.2.2.1 x c m⟩
 bs:=Q.bs
 bsz:=Cg Q.ok.bsz Q.sz
 noex:=λb o e Y=>by
  obtain⟨_,_,_,h,_⟩:=M b Y;rcases h with h|h
  .exact Q.ok.noex b o e h
  .exact absurd (Bh (Bf e) (Cg Q.ok.bsz h)) (Fe _)
 exfs:=λb Y T=>by
  obtain⟨_,h1,N,_⟩:=M b Y;rcases Ba.mp (Q.stkSub b T) with z|z
  .exact h1 z
  .exact N z
 funs:=Q.stack
 frf:=Q.stkFree
def UQ {s4:Ag}{m:ah}(S:d_ X.env.scope X.N am N' bw)(Y:Inv X aj σ H2 s2)(hf:∀ b∈fp,xR X aj H2 b)(A:∀ b∈fp,b<s2.heap.objs.size)(g:s2.heap.objs.size<=C)
  (hn:s4.heap.Ns C m) (os:s4.os=s2.os) (bi:s4.gens=s2.gens) (Q:∀ b o,s2.heap.get? b=Ab o->s4.heap.get? b=Ab o) (M:CellsOk s4.heap (C+1) (G6 am C)) :
  Inv (z0 X N' am (gJ X am C) C fp s2 H2) [] (vI bw σ) H2 s4 where
 ok:=FB S Y hf A g M
 os:=os
 bare:=bi▸Y.bare
 base:=Un.kept Q
 loc:=by
  refine⟨m,hn,λj x v h1 U h3=>?_⟩;have d:N'[j]? = Ab x:=h1;unfold vI at U;rw[Do] at U;cases q:bw[j]? with
  |none=>rw[q] at U;cases U
  |some o =>
   rw[q] at U;cases o with
   |none=>cases U
   |some i =>
    have I:(σ[i]?).join=Ab v:=by simpa using U
    have r:σ[i]? = Ab (Ab v):=by
     cases z:σ[i]? with
     |none=>rw[z] at I;cases I
     |some w=>rw[z] at I;have:w=Ab v:=I;rw[this]
    have hz:(Ab i,x)∈bw.zip N':=by
     refine Lw.mpr ⟨j,?_⟩;rw[Ts];exact⟨q,d⟩
    have e:=Bn.mp S.caps _ hz;simp only[Aw,Pl] at e;obtain⟨hN,J⟩:=e;have n:=S.free _ (Fn J) rfl;obtain⟨mo,zb,hl⟩:=Y.loc;have f:oy X.env.scope x:=by
     rcases n with k|k
     .exact .inr (.inl k)
     .exact .inr (.inr k)
    obtain⟨u,ru,lk⟩:=hl i x v hN r f;refine⟨u,ru,?_⟩;rcases lk with⟨kl,_⟩|⟨_,c,l,G⟩
    .have B:X.env.scope.names.lookup x=Ab .local:=kl
     rcases n with k|k
     .have T:X.env.scope.names.lookup x=Ab .cell:=k
      rw[B] at T;cases T
     .have T:X.env.scope.names.lookup x=Ab .free:=k
      rw[B] at T;cases T
    .obtain⟨c',O⟩:=eZ S Y.ok (C:=C) (.inr J)
     have a:X.env.cells.lookup x=Ab c':=by
      rcases xV S Y.ok O with⟨_,z⟩|⟨z,_⟩
      .rw[J] at z;cases z
      .exact z
     rw[l] at a;cases a;refine .inr ⟨?_,c,O,?_⟩
     .have t:oy (relabel am X.env) x:=h3
      rcases t with h|h|h
      .rcases gL S h with h|⟨z,_⟩
       .rw[J] at h;cases h
       .cases z
      .exact .inl h
      .exact .inr h
     .obtain⟨L,N,y⟩:=G
      exact⟨L,Q c L N,y⟩
 cell:=λx c h=>by
  rcases xV S Y.ok h with⟨m,_⟩|⟨m,_⟩
  .exact⟨none,(M.empty x c m).1⟩
  .obtain⟨v,L,N,y⟩:=Y.cell x c m
   exact⟨v,L,Q c L N,y⟩
 free:=Y.hok.fresh g
 freeC:=λx c h=>by
  rcases xV S Y.ok h with⟨m,_⟩|⟨m,_⟩
  .exact Y.hok.fresh (Cg g (Eo (M.empty x c m).2))
  .exact Y.freeC x c m
 pin:=λp hp=>absurd (show p∈([]:aa) from hp) bB
 hok:=Y.hok.kept Q
 len:=by
  show (vI bw σ).length=N'.length;simp[vI,S.len]
end
def WZ {P:Bi}{a:Af}{o:HO}(x:gw P w H h)(Y:H a=none)(Q:zE P w (cc H a o) h a o):gw P w (cc H a o) h:=λb u e=>by
 by_cases J:b=a
 .subst J;rw[qV] at e;cases e;exact Q
 .rw[qL J] at e
  exact(x b u e).stay (λc v _ q=>q) (λc q=>by rw[qL (qT q Y)];exact q) λc U q=>by rw[qL (qT q Y)];exact q
def WY {P:Bi}{h h':Bt}(x:gw P w H h)(Q:H C=none)(k:∀ b o,b≠C->h.get? b=Ab o->h'.get? b=Ab o):gw P w H h':=λb u e =>
 (x b u e).stay (λc v Y q=>k c v (by
  rintro rfl;rcases Y with z|z
  .subst z;rw[Q] at e;cases e
  .rw[Q] at z;cases z) q) (λ_ q=>q) λ_ _ q=>q
section
variable {X:Cx}{am:Ep}{N':Aa As}{bw:Aa (Ak Ah)}
def kL (X:Cx)(aj:aa)(σ : _L.St)(P1:Hp)(α1:ag)(ds:Aa D)(G:ap)(aw C:Af)(s:Ag):Prop:=
 ∃ (Y J:Hp) (Q : Aa Af) (U:Aa V),Inv X aj σ (cc Y aw (.lst U)) s/\bf X.K Y J Q G/\Y aw=none/\qF P1 J/\α1<+:Q/\qE X.K J Q ds U/\Y C=none
def eY {Y:Cx}{σ k:_L.St}{J s':Ag}{fp:ag}{aw:Af}{N d:Hp}{I:ag}{gh:qD}{f:ap}{i:Aa (As × Af)}(I2:Inv X aj σ A J)
  (x:∀ b∈fp,xR X aj A b) (hY:Y=z0 X N' am i C fp J A) (hC:J.heap.objs.size<=C) (hA:J.heap.objs.size<=aw) (l:aw≠C) (st:ge ko Y [] P1 α1 fp aw gh f ds s' k N d I o)
  {h':Bt} (sb:Go C s'.heap h'):kL X aj σ P1 α1 ds f aw C { s' with heap:=h' }:=by
 subst hY;obtain⟨T,n,z,rfl,rv,v,hz⟩:=st.acc;have L:∀ b o,b≠C->s'.heap.get? b=Ab o->h'.get? b=Ab o:=λb o G e=>(sb.2 b G).trans e;have j:∀ b o,J.heap.get? b=Ab o->b≠C:=λb o e=>Cn (Bh (Bf e) hC);have nA:∀ b o,J.heap.get? b=Ab o->b≠aw:=λb o e=>Cn (Bh (Bf e) hA);have base:Un (il X.stack) fp A N J.heap s'.heap:=st.inv.base;have M:∀ b u,N b=Ab u->b≠aw:=λb u e=>qT e st.acn;have a:Un (il X.stack) fp A (cc N aw (.lst z)) J.heap h':=by
  refine⟨λb Q q B G U=>L b Q (j b Q q) (base.keep b Q q B G U),λb Q q B G U=>?_,λb Q q B U=>?_,λb Q q U=>?_,λb xs q=>?_,λb Q u q=>?_,λb ps q=>?_⟩
  .obtain⟨sl,e⟩:=base.slot b Q q B G U
   exact⟨sl,L b _ (j b Q q) e⟩
  .rw[qL (nA b Q q)];exact base.free b Q q B U
  .obtain⟨c,e⟩:=base.there b Q q U
   exact⟨c,L b c (j b Q q) e⟩
  .have:=base.tups b xs q;rw[qL (M _ _ this)];exact this
  .have:=base.frzs b Q u q;rw[qL (M _ _ this)];exact this
  .obtain⟨h,e⟩:=base.tbls b ps q
   exact⟨h,by rw[qL (M _ _ e)];exact e⟩
 have O:gw X.prog X.w N h':=WY st.inv.hok st.inv.free L;have y:h'.get? aw=Ab { cls:=.type "list",data:=.seq T.toArray n }:=L aw _ l st.at';have p:gw X.prog X.w (cc N aw (.lst z)) h':=WZ O st.acn ⟨by rw[<- v.length,<- zV];exact hz,T,n,rv,y⟩
 refine⟨N,d,I,z,?_,st.rel,st.acn,st.same,st.pre,v,st.inv.free⟩;exact I2.call' (s':={ s' with heap:=h' }) (ch:=fp) (st.inv.os) a p st.inv.bare λb G=>by
  obtain⟨_,h1,h2,h3,r,m⟩:=x b G;exact⟨h3,h1,r,m⟩
def iW (S:d_ X.env.scope X.N am N' bw)(ok:X.Ok):Uy am X.env=pure (wY X.env.cells am.names []):=pP λy Q Y=>ok.has y.1 (S.free y Q Y)
def M0 {σ:_L.St}(c:kL X aj σ P1 α1 ds J aw C s)(ok:jf X P1 α1 Q (.lst ds) J):EP X aj σ Q (.ref aw) s:=by
 obtain⟨u,k,z,y,I,r,U,M,N,L,_⟩:=c;exact⟨.ref aw,_,I,rfl,wR r U L λv G j Y A O T B=>ok v G j Y A (M.trans O) (N.trans T) B⟩
end
end _D
section
namespace _D
open _L PySem.SeqAt
noncomputable def za (b:Au):An:=if b then 1 else 0
mutual
def j_:D->D->Au
 |.non,.non=>true
 |.bl a,.bl b=>a == b
 |.bl a,.int b=>za a == b
 |.int a,.bl b=>a == za b
 |.int a,.int b=>a == b
 |.str a,.str b=>a == b
 |.tup Y,.tup Q=>zQ Y Q
 |.lst Y,.lst Q=>zQ Y Q
 |_,_=>false
def zQ:Aa D->Aa D->Au
 |[],[]=>true
 |x::Y,y::Q=>j_ x y&&zQ Y Q
 |_,_=>false
end
noncomputable def pl:Ah->D->Au
 |_,.non=>true
 |_,.bl _=>true
 |_,.int _=>true
 |_,.str _=>true
 |n+1,.tup Q=>Q.all (pl n)
 |n+1,.lst Q=>Q.all (pl n)
 |_,_=>false
def sG (x y:D)(xs Q:Aa D):zQ (x::xs) (y::Q)=(j_ x y&&zQ xs Q):=rfl
theorem vM:∀ (xs Q:Aa D),zQ xs Q=((Cf (min xs.length Q.length)).all (λj=>j_ (xs.getD j .non) (Q.getD j .non))&&xs.length == Q.length)
 |[],[]=>rfl
 |[],y::Q=>rfl
 |x::xs,[]=>rfl
 |x::xs,y::Q=>by
  have Y:=vM xs Q;rw[sG,Y,Bs,Bs,Nat.succ_min_succ,Jj,Tt,Jr,Bool.and_assoc];have e:(xs.length+1 == Q.length+1)=(xs.length == Q.length):=by simp
  rw[e];rfl
def JG {xs Q:Aa D}(h:xs.length≠Q.length):zQ xs Q=false:=by
 rw[vM];simp[h]
def lN (xs Q:Aa D):j_ (.tup xs) (.tup Q)=zQ xs Q:=rfl
def lM (xs Q:Aa D):j_ (.lst xs) (.lst Q)=zQ xs Q:=rfl
section
variable {X:Cx}{aj:aa}{σ: _L.St}{H P:Hp}{α: Aa Af}{S:ap}{s:Ag}
inductive Kd (X:Cx)(P:Hp)(α : Aa Af)(s:Ag):D->Ac->Prop where
 |non:Kd X P α s .non .none
 |bl (b:Au):Kd X P α s (.bl b) (.bool b)
 |int (i:An) (t:Tf):Kd X P α s (.int i) (.int i t)
 |str (x:As) (t:Tf):Kd X P α s (.str x) (.str x t)
 |tup (a:Af) (xs:Aa D) (its:ai) (vs:Aa V) (rp:qE X.K P α xs vs) (rv:qM vs its) (h:s.heap.IsTuple a its.toArray) (q:jh X.K P a vs):Kd X P α s (.tup xs) (.ref a)
 |lst (a:Af) (xs:Aa D) (its:ai) (vs:Aa V) (rp:qE X.K P α xs vs) (rv:qM vs its) (h:s.heap.IsList a its.toArray) (q:pq X.K P a vs):Kd X P α s (.lst xs) (.ref a)
def jT (I:Inv X aj σ H s)(r:bf X.K H P α S){n:Ah}{d:D}{v:V}{u:Ac}(h:pl n d=true)(p:au X.K P α d v)(Y:qJ v u):Kd X P α s d u:=by
 cases d with
 |non=>simp only[au] at p;subst p;cases Y;exact .non
 |bl b=>simp only[au] at p;subst p;cases Y;exact .bl b
 |int i=>simp only[au] at p;subst p;obtain⟨t,rfl⟩:=Y;exact .int i t
 |str x=>simp only[au] at p;subst p;obtain⟨t,rfl⟩:=Y;exact .str x t
 |tup N =>
  simp only[au] at p;obtain⟨a,U,rfl,q,t⟩:=p;cases Y;obtain⟨Q,G,J,_⟩:=I.tuple (xW r.sub q);exact .tup a N Q U t G J q
 |lst N =>
  simp only[au] at p;obtain⟨a,U,rfl,q,t⟩:=p;cases Y;obtain⟨Q,G,J,_⟩:=I.list ((xS r.sub q).l);exact .lst a N Q U t G J.isList q
 |_=>cases n <;> exact Dl h
def jA (J:qE X.K P α ds vs)(U:qM vs its){j:Ah}(h:j<its.toArray.size):∃ v,au X.K P α (ds.getD j .non) v/\qJ v its.toArray[j]/\ds.getD j .non∈ds:=by
 have L:=J.length;have B:=U.length;have G:j<its.length:=by simpa using h
 have Q:j<ds.length:=by lia
 obtain⟨v,N,p⟩:=J.get (Ar Q);obtain⟨u,Y,q⟩:=U.get N;have C:its.toArray[j]=u:=by
  have:its[j]? = Ab its[j]:=Ar G;rw[this] at Y;simpa using Dd Y
 have O:ds.getD j .non=ds[j]:=by simp[Hv,Q]
 rw[C,O];exact⟨v,p,q,Uz Q⟩
def jV {ds:Aa D}(h:ds.all (pl n)=true){d:D}(Q:d∈ds):pl n d=true:=Bn.mp h d Q
def oE {h:Bt}{a:Af}(h1:h.IsTuple a xs)(h2:h.IsTuple a Q):xs=Q:=by
 obtain⟨o,e,_,n,d⟩:=h1;obtain⟨G,Y,_,U,J⟩:=h2;cases e.symm.trans Y;cases d.symm.trans J;rfl
def MD {h:Bt}{a:Af}(h1:h.IsList a xs)(h2:h.IsList a Q):xs=Q:=by
 obtain⟨o,e,_,n,d⟩:=h1;obtain⟨G,Y,_,U,J⟩:=h2;cases e.symm.trans Y;cases d.symm.trans J;rfl
def E5 {h:Bt}{a:Af}(h1:h.IsTuple a xs)(h2:h.IsList a J):Ex:=by
 obtain⟨o,e,c,_⟩:=h1;obtain⟨U,Q,Y,_⟩:=h2;cases e.symm.trans Q;exact absurd (c.symm.trans Y) bU
inductive md (X:Cx)(P:Hp)(α : Aa Af)(xs ys:Aa D)(its its2:ai):Prop
 |mk (vs ws:Aa V) (rp:qE X.K P α xs vs) (rv:qM vs its) (rp2:qE X.K P α ys ws) (rv2:qM ws its2):md X P α xs ys its its2
def md.len1 (q:md X P α xs Y its Q):xs.length=its.length:=by
 obtain⟨G,N,J,U,_,_⟩:=q;exact J.length.trans U.length
def md.len2 (q:md X P α xs Y its Q):Y.length=Q.length:=by
 obtain⟨G,N,_,_,J,U⟩:=q;exact J.length.trans U.length
inductive oz (X:Cx)(P:Hp)(α : Aa Af):D->D->Prop
 |eq {d d':D} (h:j_ d d'=true):oz X P α d d'
 |tt (xs ys:Aa D) (its:ai) (q:md X P α xs ys its its):oz X P α (.tup xs) (.tup ys)
 |ll (xs ys:Aa D) (its:ai) (q:md X P α xs ys its its):oz X P α (.lst xs) (.lst ys)
def QD (k1:Kd X P α s d u)(k2:Kd X P α s d' u):oz X P α d d':=by
 cases k1 with
 |non=>cases k2;exact .eq rfl
 |bl b=>cases k2;exact .eq (Fo _)
 |int i t=>cases k2;exact .eq (Fo _)
 |str x t=>cases k2;exact .eq (Fo _)
 |tup a E G C B T h q =>
  cases k2 with
  |tup _ N J O Q Y U L =>
   cases oE h U;exact .tt E N G ⟨C,O,B,T,Q,Y⟩
  |lst _ N J O Q Y U L=>exact(E5 h U).elim
 |lst a E G C B T h q =>
  cases k2 with
  |lst _ N J O Q Y U L =>
   cases MD h U;exact .ll E N G ⟨C,O,B,T,Q,Y⟩
  |tup _ N J O Q Y U L=>exact(E5 U h).elim
def sH (I:Inv X aj σ H s)(r:bf X.K H P α S){m:Ah}(B:∀ (d d':D) (u:Ac),pl m d=true->pl m d'=true->Kd X P α s d u->Kd X P α s d' u->j_ d d'=true){xs U:Aa D}{its:ai}(h1:xs.all (pl m)=true)(h2:U.all (pl m)=true)(q:md X P α xs U its its):zQ xs U=true:=by
 obtain⟨k,y,N,C,Q,Y⟩:=q;have L:=N.length.trans C.length;have E:=Q.length.trans Y.length;rw[vM,L,E,Vk,Aw];refine⟨Bn.mpr λj J=>?_,BEq.rfl⟩;have J:j<its.toArray.size:=Dt.mp J;obtain⟨o,A,M,G⟩:=jA N C J;obtain⟨z,w,T,O⟩:=jA Q Y J;exact B _ _ _ (jV h1 G) (jV h2 O) (jT I r (jV h1 G) A M) (jT I r (jV h2 O) w T)
def o7 (I:Inv X aj σ H s)(r:bf X.K H P α S):∀ (n:Ah) (d d':D) (u:Ac),pl n d=true->pl n d'=true->Kd X P α s d u->Kd X P α s d' u->j_ d d'=true:=by
 intro n
 induction n with
 |zero =>
  intro d d' u Q Y U N;cases QD U N with
  |eq h=>exact h
  |tt=>exact Dl Q
  |ll=>exact Dl Q
 |succ m C =>
  intro d d' u Q Y U N;cases QD U N with
  |eq h=>exact h
  |tt O G J q=>exact(lN O G).trans (sH I r C Q Y q)
  |ll O G J q=>exact(lM O G).trans (sH I r C Q Y q)
structure E3 (A:Bp)(s:Ag)(u u':Ac)(b:Au):Prop where
 eq:EqAt A s u u' b
 rc:RcAt A s u u' b
 ne:RcNeAt A s u u' (!b)
inductive zi (X:Cx)(P:Hp)(α : Aa Af)(A:Bp)(s:Ag):D->D->Ac->Ac->Prop
 |of {d d':D} {u u':Ac} (b:Au) (e:j_ d d'=b) (h:E3 A s u u' b):zi X P α A s d d' u u'
 |tt (a b:Af) (xs ys:Aa D) (its its2:ai) (ha:s.heap.IsTuple a its.toArray) (hb:s.heap.IsTuple b its2.toArray) (q:md X P α xs ys its its2):zi X P α A s (.tup xs) (.tup ys) (.ref a) (.ref b)
 |ll (a b:Af) (xs ys:Aa D) (its its2:ai) (ha:s.heap.IsList a its.toArray) (hb:s.heap.IsList b its2.toArray) (q:md X P α xs ys its its2):zi X P α A s (.lst xs) (.lst ys) (.ref a) (.ref b)
def B8 {A:Bp}(Q:A.units<Eu)(k1:Kd X P α s d u)(k2:Kd X P α s d' j):zi X P α A s d d' u j:=by
 cases k1 with
 |non  =>
  cases k2 with
  |non  => exact .of _ rfl ⟨AbW _,RcAt.none_none,RcNeAt.none_none⟩
  |bl b=>exact .of _ rfl ⟨EqAt.none_bool b,RcAt.none_bool b,RcNeAt.none_bool b⟩
  |int b Y=>exact .of _ rfl ⟨EqAt.none_int b Y,RcAt.none_int b Y,RcNeAt.none_int b Y⟩
  |str b Y=>exact .of _ rfl ⟨EqAt.none_str b Y,RcAt.none_str b Y,RcNeAt.none_str b Y⟩
  |tup b B U L O C J T=>exact .of _ rfl ⟨EqAt.none_tuple J Q,RcAt.none_tuple J Q,RcNeAt.none_tuple J Q⟩
  |lst b B U L O C J T=>exact .of _ rfl ⟨EqAt.none_list J Q,RcAt.none_list J Q,RcNeAt.none_list J Q⟩
 |bl a =>
  cases k2 with
  |non  => exact .of _ rfl ⟨EqAt.bool_none a,RcAt.bool_none a,RcNeAt.bool_none a⟩
  |bl b=>exact .of _ rfl ⟨EqAt.bool_bool a b,RcAt.bool_bool a b,RcNeAt.bool_bool a b⟩
  |int b Y=>exact .of _ rfl ⟨EqAt.bool_int a b Y,RcAt.bool_int a b Y,RcNeAt.bool_int a b Y⟩
  |str b Y=>exact .of _ rfl ⟨EqAt.bool_str a b Y,RcAt.bool_str a b Y,RcNeAt.bool_str a b Y⟩
  |tup b B U L O C J T=>exact .of _ rfl ⟨EqAt.bool_tuple a J Q,RcAt.bool_tuple a J Q,RcNeAt.bool_tuple a J Q⟩
  |lst b B U L O C J T=>exact .of _ rfl ⟨EqAt.bool_list a J Q,RcAt.bool_list a J Q,RcNeAt.bool_list a J Q⟩
 |int a G =>
  cases k2 with
  |non  => exact .of _ rfl ⟨EqAt.int_none a G,RcAt.int_none a G,RcNeAt.int_none a G⟩
  |bl b=>exact .of _ rfl ⟨EqAt.int_bool a G b,RcAt.int_bool a G b,RcNeAt.int_bool a G b⟩
  |int b Y=>exact .of _ rfl ⟨EqAt.int_int a G b Y,RcAt.int_int a G b Y,RcNeAt.int_int a G b Y⟩
  |str b Y=>exact .of _ rfl ⟨EqAt.int_str a G b Y,RcAt.int_str a G b Y,RcNeAt.int_str a G b Y⟩
  |tup b B U L O C J T=>exact .of _ rfl ⟨EqAt.int_tuple a G J Q,RcAt.int_tuple a G J Q,RcNeAt.int_tuple a G J Q⟩
  |lst b B U L O C J T=>exact .of _ rfl ⟨EqAt.int_list a G J Q,RcAt.int_list a G J Q,RcNeAt.int_list a G J Q⟩
 |str a G =>
  cases k2 with
  |non  => exact .of _ rfl ⟨EqAt.str_none a G,RcAt.str_none a G,RcNeAt.str_none a G⟩
  |bl b=>exact .of _ rfl ⟨EqAt.str_bool a G b,RcAt.str_bool a G b,RcNeAt.str_bool a G b⟩
  |int b Y=>exact .of _ rfl ⟨EqAt.str_int a G b Y,RcAt.str_int a G b Y,RcNeAt.str_int a G b Y⟩
  |str b Y=>exact .of _ rfl ⟨EqAt.str_str a G b Y,RcAt.str_str a G b Y,RcNeAt.str_str a G b Y⟩
  |tup b B U L O C J T=>exact .of _ rfl ⟨EqAt.str_tuple a G J Q,RcAt.str_tuple a G J Q,RcNeAt.str_tuple a G J Q⟩
  |lst b B U L O C J T=>exact .of _ rfl ⟨EqAt.str_list a G J Q,RcAt.str_list a G J Q,RcNeAt.str_list a G J Q⟩
 |tup a M E I w z N y =>
  cases k2 with
  |non  => exact .of _ rfl ⟨EqAt.tuple_none N Q,RcAt.tuple_none N Q,RcNeAt.tuple_none N Q⟩
  |bl b=>exact .of _ rfl ⟨EqAt.tuple_bool b N Q,RcAt.tuple_bool b N Q,RcNeAt.tuple_bool b N Q⟩
  |int b Y=>exact .of _ rfl ⟨EqAt.tuple_int b Y N Q,RcAt.tuple_int b Y N Q,RcNeAt.tuple_int b Y N Q⟩
  |str b Y=>exact .of _ rfl ⟨EqAt.tuple_str b Y N Q,RcAt.tuple_str b Y N Q,RcNeAt.tuple_str b Y N Q⟩
  |tup b B U L O C J T=>exact .tt a b M B E U N J ⟨I,L,w,z,O,C⟩
  |lst b B U L O C J T=>exact .of _ rfl ⟨EqAt.tuple_list N J Q,RcAt.tuple_list N J Q,RcNeAt.tuple_list N J Q⟩
 |lst a M E I w z N y =>
  cases k2 with
  |non  => exact .of _ rfl ⟨EqAt.list_none N Q,RcAt.list_none N Q,RcNeAt.list_none N Q⟩
  |bl b=>exact .of _ rfl ⟨EqAt.list_bool b N Q,RcAt.list_bool b N Q,RcNeAt.list_bool b N Q⟩
  |int b Y=>exact .of _ rfl ⟨EqAt.list_int b Y N Q,RcAt.list_int b Y N Q,RcNeAt.list_int b Y N Q⟩
  |str b Y=>exact .of _ rfl ⟨EqAt.list_str b Y N Q,RcAt.list_str b Y N Q,RcNeAt.list_str b Y N Q⟩
  |tup b B U L O C J T=>exact .of _ rfl ⟨EqAt.list_tuple N J Q,RcAt.list_tuple N J Q,RcNeAt.list_tuple N J Q⟩
  |lst b B U L O C J T=>exact .ll a b M B E U N J ⟨I,L,w,z,O,C⟩
def E3.cast {b c:Au}(e:c=b)(h:E3 A s u Q b):E3 A s u Q c:=e▸h
def B9 {A:Bp}{a b:Af}{xs J:Aa D}{its Q:ai}(O:A.units<Eu)(G:s.heap.IsTuple a its.toArray)(N:s.heap.IsTuple b Q.toArray)(C:xs.length=its.length)(B:J.length=Q.length)
  (sub:∀ j (h1:j<its.toArray.size) (h2:j<Q.toArray.size),EqAt A.in1 s its.toArray[j] Q.toArray[j] (j_ (xs.getD j .non) (J.getD j .non))) (same:a=b->zQ xs J=true):E3 A s (.ref a) (.ref b) (zQ xs J):=by
 have e:zQ xs J=((Cf (min its.toArray.size Q.toArray.size)).all (λj=>j_ (xs.getD j .non) (J.getD j .non))&&its.toArray.size == Q.toArray.size):=by rw[vM,C,B];rfl
 have U:=RcAt.tuples G N O sub;have R2:=RcNeAt.tuples G N O sub;rw[<- e] at U R2;refine⟨?_,U,R2⟩;by_cases Y:a=b
 .rw[same Y,Y]
  exact AbW _
 .exact EqAt.of_refs Y U
def OG {A:Bp}{a b:Af}{xs Y:Aa D}{its Q:ai}(O:A.units<Eu)(G:s.heap.IsList a its.toArray)(N:s.heap.IsList b Q.toArray)(B:xs.length=its.length)(L:Y.length=Q.length)
  (sub:∀ j (h1:j<its.toArray.size) (h2:j<Q.toArray.size),EqAt A.in1 s its.toArray[j] Q.toArray[j] (j_ (xs.getD j .non) (Y.getD j .non))) (same:a=b->zQ xs Y=true):E3 A s (.ref a) (.ref b) (zQ xs Y):=by
 have R:RcAt A s (.ref a) (.ref b) (zQ xs Y)/\RcNeAt A s (.ref a) (.ref b) (!zQ xs Y):=by
  by_cases U:its.length=Q.length
  .have e:zQ xs Y=(Cf its.toArray.size).all (λj=>j_ (xs.getD j .non) (Y.getD j .non)):=by rw[vM,B,L,<- U,Vk,BEq.rfl,Ze];rfl
   rw[e];exact⟨RcAt.lists G N U O sub,RcNeAt.lists G N U O sub⟩
  .rw[JG (by rw[B,L];exact U)]
   have C:(its.toArray.size != Q.toArray.size)=true:=bne_iff_ne.mpr U;exact⟨RcAt.lists_lengths G N C O,RcNeAt.lists_lengths G N C O⟩
 refine⟨?_,R.1,R.2⟩;by_cases J:a=b
 .rw[same J,J]
  exact AbW _
 .exact EqAt.of_refs J R.1
def WO (I:Inv X aj σ H s)(r:bf X.K H P α S):∀ (n:Ah) (A:Bp) (d d':D) (u L:Ac),A.units+n<Eu->pl n d=true->pl n d'=true->Kd X P α s d u->Kd X P α s d' L->E3 A s u L (j_ d d'):=by
 intro n
 induction n with
 |zero =>
  intro A d d' u L M G O C B;cases B8 M C B with
  |of b e h=>exact h.cast e
  |tt=>exact Dl G
  |ll=>exact Dl G
 |succ m o =>
  intro A d d' u L M G O C B;have N:A.units<Eu:=Kw (Mv _ _) M;have vz:A.in1.units+m<Eu:=by show A.units+1+m<Eu;lia
  have sub:∀ {U J:Aa D} {Y Q:ai},U.all (pl m)=true->J.all (pl m)=true->md X P α U J Y Q ->
    ∀ j (G:j<Y.toArray.size) (O:j<Q.toArray.size),EqAt A.in1 s Y.toArray[j] Q.toArray[j] (j_ (U.getD j .non) (J.getD j .non)):=λ{U J Y Q} w k ⟨vs,ws,t,p,c1,l⟩ j c x=>by
   obtain⟨w1,v,f,z⟩:=jA t p c;obtain⟨w2,i,g,y⟩:=jA c1 l x;exact(o A.in1 _ _ _ _ vz (jV w z) (jV k y) (jT I r (jV w z) v f) (jT I r (jV k y) i g)).eq
  cases B8 N C B with
  |of b e h=>exact h.cast e
  |tt a b U J Y Q T E q=>exact(B9 N T E q.len1 q.len2 (sub G O q) λe=>by subst e;exact(lN U J).symm.trans (o7 I r (m+1) _ _ _ G O C B)).cast (lN U J)
  |ll a b U J Y Q T E q=>exact(OG N T E q.len1 q.len2 (sub G O q) λe=>by subst e;exact(lM U J).symm.trans (o7 I r (m+1) _ _ _ G O C B)).cast (lM U J)
def wI:Ah:=30
def k_:G2:=λa b S=>if pl wI a&&pl wI b then .ok (.bl (j_ a b)) S else .bad
def my:G2:=λa b S=>if pl wI a&&pl wI b then .ok (.bl (!j_ a b)) S else .bad
set_option tactic.hygienic true in
def BM (B:X.A.units+64<Eu):f_ X (Cy .Eq) k_:=by
 intro aj σ H s P α S v u U O a b Q I r C G N J Y;unfold k_ at Y
 split at Y
 .rename_i h
  rw[Aw] at h;exact(WO I r wI X.A a b U O (by unfold wI;lia) h.1 h.2 (jT I r h.1 N C) (jT I r h.2 J G)).rc _ _ _ _ ⟨.bl _,H,I,rfl,xr Y r (by simp only[au])⟩
 .exact Ao Y
set_option tactic.hygienic true in
def BO (B:X.A.units+64<Eu):f_ X (Cy .NotEq) my:=by
 intro aj σ H s P α S v u U O a b Q I r C G N J Y;unfold my at Y
 split at Y
 .rename_i h
  rw[Aw] at h;exact(WO I r wI X.A a b U O (by unfold wI;lia) h.1 h.2 (jT I r h.1 N C) (jT I r h.2 J G)).ne _ _ _ _ ⟨.bl _,H,I,rfl,xr Y r (by simp only[au])⟩
 .exact Ao Y
end
end _D
end
namespace _D
open _L
variable {aj:aa}{ar:Aa (c_ × D)}{its us:ai}{xs ds:Aa D}{vs:Aa V}{f:Ac->Ac->Kj Ac}{s:Ag}{d:D}{v:V}{Q:VK}{σ:_L.St}
section
variable {X:Cx}
noncomputable def i2 (C:An->An->Au)(f:An->An->D):G2:=λa b S=>match a,b with
 |.int i,.int j=>if C i j then .ok (f i j) S else .bad
 |_,_=>.bad
def ZV {C:An->An->Au}{f:An->An->D}{a b:D}{S:ap}{P:Hp}{α:ag}{Ok:D->ap->Prop}(h:qK X P α (i2 C f a b S) Ok):∃ i j,a=.int i/\b=.int j/\C i j=true/\Ok (f i j) S:=by
 cases a with
 |int i =>
  cases b with
  |int j =>
   obtain⟨Y,h⟩:=xT (X:=X) h;exact⟨i,j,rfl,rfl,Y,h⟩
  |_=>exact Ao h
 |_=>exact Ao h
def xF {P:Hp}{α:ag}(r:au X.K P α (.int i) v):v=.int i:=by simpa only [au] using r
def bI {Y:An->An->Prop}{v:An->An->V}{C:An->An->Au}{d:An->An->D}(h:kz X f (rI Y v))(U:∀ i j,C i j=true->Y i j)(hv:∀ P α i j,au X.K P α (d i j) (v i j)):f_ X f (i2 C d):=
 f_.of h λH P α S x y a b Q r J O N=>by
  obtain⟨i,j,rfl,rfl,G,ok⟩:=ZV N;exact⟨i,j,xF J,xF O,U i j G,xr ok r (hv P α i j)⟩
def bH {v:An->An->V}{d:An->An->D}(h:kz X f (s_ v))(hv:∀ P α i j,au X.K P α (d i j) (v i j)):f_ X f (i2 (λ_ _=>true) d):=
 f_.of h λH P α S x y a b Q r Y U J=>by
  obtain⟨i,j,rfl,rfl,_,ok⟩:=ZV J;exact⟨i,j,xF Y,xF U,xr ok r (hv P α i j)⟩
def xC:G2:=i2 (λ_ _=>true) λi j=>.int (i-j)
def HQ:f_ X (Ej .Sub) xC:=bH CA λP α i j=>by simp only[au]
noncomputable def eM (i j:An):Au:=decide (-(2 ^ 64)<i/\i<2 ^ 64)||decide (-(2 ^ 64)<j/\j<2 ^ 64)
def TM:f_ X (Ej .Mult) (i2 eM λi j=>.int (i*j)):=bI HY (λi j h=>by
 unfold eM at h;rw[Ra] at h;rcases h with h|h
 .exact .inl (Ce h)
 .exact .inr (Ce h)) λP α i j=>by simp only[au]
noncomputable def DN (i j:An):Au:=decide (0<j/\j<1073741824)
def b9:G2:=i2 DN λi j=>.int (i/j)
def HK:f_ X (Ej .FloorDiv) b9:=bI TV (λi j h=>(Ce h:0<j/\j<1073741824)) λP α i j=>by simp only[au]
def uJ:G2:=i2 (λ_ j=>decide (0<j)) λi j=>.int (i % j)
def HN:f_ X (Ej .Mod) uJ:=bI HX (λi j h=>Ce h) λP α i j=>by simp only[au]
noncomputable def qBQ (i j:An):Au:=decide (0<=j/\j<=1000000/\i.natAbs<2 ^ 64)
def JL:G2:=i2 qBQ λi j=>.int (i ^ j.toNat)
def HP:f_ X (Ej .Pow) JL:=bI HZ (λi j h=>(Ce h:0<=j/\j<=1000000/\i.natAbs<2 ^ 64)) λP α i j=>by simp only[au]
def ph:G2:=i2 (λ_ _=>true) λi j=>.bl (decide (i<j))
def rj:G2:=i2 (λ_ _=>true) λi j=>.bl (decide (i<=j))
def wt:G2:=i2 (λ_ _=>true) λi j=>.bl (decide (j<i))
def yy:G2:=i2 (λ_ _=>true) λi j=>.bl (decide (j<=i))
def BN:f_ X (Cy .Lt) ph:=bH qAY λP α i j=>by simp only[au]
def qAU:f_ X (Cy .LtE) rj:=bH qAX λP α i j=>by simp only[au]
def qAS:f_ X (Cy .Gt) wt:=bH qAW λP α i j=>by simp only[au]
def qAR:f_ X (Cy .GtE) yy:=bH qAV λP α i j=>by simp only[au]
def kB:D->ap->bb D:=λa S=>match a with
 |.int i=>.ok (.int (-i)) S
 |_=>.bad
def IA:D_ X (AaH .USub) kB:=by
 intro aj σ H s P α S v J a Q I r U p Y;cases a with
 |int i=>exact IB aj s σ H v J Q I U ⟨i,xF p,xr Y r (by simp only[au])⟩
 |_=>exact Ao Y
noncomputable def xo:G2:=λa b S=>match b with
 |.non=>match a with
  |.non=>.ok (.bl true) S
  |_=>.ok (.bl false) S
 |_=>.bad
def cG:G2:=λa b S=>match b with
 |.non=>match a with
  |.non=>.ok (.bl false) S
  |_=>.ok (.bl true) S
 |_=>.bad
def oT {P:Hp}{α:ag}(r:au X.K P α d v):decide (v=.non)=(match d with|.non=>true|_=>false):=by
 cases d <;> simp only[au] at r
 case non=>subst r;rfl
 case bl=>subst r;rfl
 case int=>subst r;rfl
 case str=>subst r;rfl
 case ty=>subst r;rfl
 case clo=>obtain⟨rfl,_⟩:=r;rfl
 case obj=>obtain⟨rfl,_⟩:=r;rfl
 case tup=>obtain⟨a,vs,rfl,_⟩:=r;rfl
 case lst=>obtain⟨a,vs,rfl,_⟩:=r;rfl
 case dct0=>obtain⟨a,rfl,_⟩:=r;rfl
 case loc=>obtain⟨a,rfl,_⟩:=r;rfl
 case exn=>obtain⟨a,rfl,_⟩:=r;rfl
 case fd=>obtain⟨a,o,vs,rfl,_⟩:=r;rfl
def qAT:f_ X (Cy .Is) xo:=f_.of HW λH P α S x y a b Q r U Y J=>by
 cases b with
 |non =>
  simp only[au] at Y;refine⟨Y,?_⟩;rw[oT U];cases a <;> exact xr J r (by simp only[au])
 |_=>exact Ao J
def KU:f_ X (Cy .IsNot) cG:=f_.of TX λH P α S x y a b Q r U Y J=>by
 cases b with
 |non =>
  simp only[au] at Y;refine⟨Y,?_⟩;rw[oT U];cases a <;> exact xr J r (by simp only[au] <;> rfl)
 |_=>exact Ao J
def zB:G2:=λa b S=>match a,b with
 |.int i,.int j=>.ok (.int (i+j)) S
 |.str x,.str y=>if x.length+y.length<=bq then .ok (.str (x++y)) S else .bad
 |.tup xs,.tup Y=>if xs.length+Y.length<=bq then .ok (.tup (xs++Y)) S else .bad
 |.lst xs,.lst Y=>if xs.length+Y.length<=bq then .ok (.lst (xs++Y)) S else .bad
 |_,_=>.bad
def uF {H P:Hp}{α:ag}{S:ap}(I:Inv X aj σ H s)(r:bf X.K H P α S)(p:au X.K P α (.tup xs) v) :
  ∃ a vs its,v=.ref a/\jh X.K P a vs/\qE X.K P α xs vs/\qM vs its/\Rw s.heap a its.toArray/\xs.length=its.length/\xs.length<=bq:=by
 simp only[au] at p;obtain⟨a,vs,rfl,q,t⟩:=p;obtain⟨its,Y,J,z⟩:=I.tuple (xW r.sub q);exact⟨a,vs,its,rfl,q,t,Y,J,by rw[t.length,Y.length],by rw[t.length,zV];exact z⟩
def u9 {H P:Hp}{α:ag}{S:ap}(I:Inv X aj σ H s)(r:bf X.K H P α S)(p:au X.K P α (.lst xs) v) :
  ∃ a vs its n,v=.ref a/\pq X.K P a vs/\qE X.K P α xs vs/\qM vs its/\s.heap.get? a=Ab { cls:=.type "list",data:=.seq its.toArray n } /\ xs.length=its.length/\xs.length<=bq:=by
 simp only[au] at p;obtain⟨a,vs,rfl,q,t⟩:=p;have:∃ its n,qM vs its/\s.heap.get? a=Ab { cls:=.type "list",data:=.seq its.toArray n } /\ vs.length<=sizeLine:=by
  rcases q with q|⟨its,n,e,z,Y⟩
  .obtain⟨z,its,n,Y,e⟩:=(Q4 r.sub q).ok I.hok
   exact⟨its,n,Y,e,z⟩
  .exact⟨its,n,Y,I.kIn _ _ e,z⟩
 obtain⟨its,n,Y,e,z⟩:=this;exact⟨a,vs,its,n,rfl,q,t,Y,e,by rw[t.length,Y.length],by rw[t.length,zV];exact z⟩
def cM {H P:Hp}{α:ag}{S:ap}(I:Inv X aj σ H s)(r:bf X.K H P α S)(t:qE X.K P α xs vs)(Y:qM vs its)(hz:xs.length<=bq)
  (ok:jf X P α Q (.tup xs) S):EP X aj σ Q (.ref s.heap.objs.size) { s with heap:=s.heap.push { cls:=.type "tuple",data:=.seq its.toArray } }:=by
 refine⟨.ref s.heap.objs.size,_,I.laid (t':=s.toks) (o:=.tup vs) (λb J q=>Aj _ q) (Ax _) ⟨by rw[<- t.length,<- zV];exact hz,its,Y,Aa0 _ _⟩,rfl,p9 r (I.hok.fresh (Ax _)) t ok⟩
def mV {H P:Hp}{α:ag}{S:ap}(I:Inv X aj σ H s)(r:bf X.K H P α S)(t:qE X.K P α xs vs)(Y:qM vs its)(hz:xs.length<=bq)
  (ok:jf X P α Q (.lst xs) S):EP X aj σ Q (.ref s.heap.objs.size) { s with heap:=s.heap.push { cls:=.type "list",data:=.seq its.toArray } }:=by
 refine⟨.ref s.heap.objs.size,_,I.laid (t':=s.toks) (o:=.lst vs) (λb J q=>Aj _ q) (Ax _) ⟨by rw[<- t.length,<- zV];exact hz,its,0,Y,Bl _ rfl⟩,rfl,wR r (I.hok.fresh (Ax _)) t ok⟩
def DB {H P:Hp}{α:ag}{S:ap}{k t:Ac}(I:Inv X aj σ H s)(r:bf X.K H P α S)(rv:qJ v k)(x:qJ u t)(c:au X.K P α (.tup xs) v)(j:au X.K P α (.tup N) u)(g:xs.length+N.length<=bq)(T:jf X P α Q (.tup (xs++N)) S) :
  ce X (Ej .Add k t) (EP X aj σ Q) X.xe s:=by
 obtain⟨a,vs,its,rfl,q1,t1,M,i,y,_⟩:=uF I r c;obtain⟨b,ws,J,rfl,q2,e,E,w,o,_⟩:=uF I r j;cases rv;cases x;by_cases O:its=[]
 .obtain⟨⟨cls,h,data,sl⟩,l,p,n,q⟩:=id i
  obtain⟨⟨m,C,data2,B⟩,G,U,n2,Y⟩:=id w;simp only at p q U Y;subst p q U Y;have A:xs=[]:=Fu.mp (by rw[y,O];rfl)
  subst A;exact t0 ⟨_,l,rfl⟩ ⟨_,G,rfl⟩ Uu Yy Ph Oq (Oc _ _) (tuple_addW0 a b its.toArray J.toArray n n2 h C sl B (by simp[O]))
   ⟨l,G,⟨.ref b,H,I,rfl,xr T r j⟩⟩
 .refine _H.tm i w O (λz=>⟨.ref a,H,I,rfl,xr T r ?_⟩) (λz=>?_) (by rw[<- y,<- o,<- zV];exact g)
  .have L:N=[]:=Fu.mp (by rw[o,z];rfl)
   rw[L,Fk];exact c
  .exact cM I r (t1.append e) (M.append E) (by rw[Bj];exact g) T
def D9 {H P:Hp}{α:ag}{S:ap}(I:Inv X aj σ H s)(r:bf X.K H P α S)(y:qJ v N)(A:qJ u C)(z:au X.K P α (.lst xs) v)(L:au X.K P α (.lst Y) u)(O:xs.length+Y.length<=bq)(w:jf X P α Q (.lst (xs++Y)) S) :
  ce X (Ej .Add N C) (EP X aj σ Q) X.xe s:=by
 obtain⟨a,vs,its,n,rfl,q,k,U,j,E,_⟩:=u9 I r z;obtain⟨b,o,G,l,rfl,p,T,J,B,M,_⟩:=u9 I r L;cases y;cases A;refine Va j B ?_ (by rw[Be,Be,<- E,<- M,<- zV];exact O)
 rw[Rr];exact mV I r (k.append T) (U.append J) (by rw[Bj];exact O) w
inductive R_ (a b:D)(S:ap):Prop
 |bad (e:zB a b S=.bad)
 |int (i j:An) (ea:a=.int i) (eb:b=.int j)
 |str (x y:As) (ea:a=.str x) (eb:b=.str y)
 |tup (x y:Aa D) (ea:a=.tup x) (eb:b=.tup y)
 |lst (x y:Aa D) (ea:a=.lst x) (eb:b=.lst y)
def qBN (a b:D)(S:ap):R_ a b S:=by
 cases a with
 |int i=>cases b with
  |int j=>exact .int i j rfl rfl
  |_=>exact .bad rfl
 |str i=>cases b with
  |str j=>exact .str i j rfl rfl
  |_=>exact .bad rfl
 |tup i=>cases b with
  |tup j=>exact .tup i j rfl rfl
  |_=>exact .bad rfl
 |lst i=>cases b with
  |lst j=>exact .lst i j rfl rfl
  |_=>exact .bad rfl
 |_=>exact .bad rfl
def HJ:f_ X (Ej .Add) zB:=by
 intro aj σ H s P α S v u L T a b Q I r B C O G Y;cases qBN a b S with
 |bad e=>rw[e] at Y;exact Ao Y
 |int i j J U =>
  subst J U;exact HV aj s σ H v u L T Q I B C ⟨i,j,xF O,xF G,xr Y r (by simp only[au])⟩
 |str x y J U =>
  subst J U;obtain⟨N,Y⟩:=xT (X:=X) Y;simp only[au] at O G;exact XB aj s σ H v u L T Q I B C ⟨x,y,O,G,by rw[<- zV];exact N,xr Y r (by simp only[au])⟩
 |tup xs E J U =>
  subst J U;obtain⟨N,Y⟩:=xT (X:=X) Y;exact DB I r B C O G N Y
 |lst xs E J U =>
  subst J U;obtain⟨N,Y⟩:=xT (X:=X) Y;exact D9 I r B C O G N Y
def cg:G2:=λa b S=>match b with
 |.int k=>match a with
  |.tup xs=>uK (ml xs k) S
  |.lst xs=>uK (ml xs k) S
  |.loc i=>match S[i]? with
   |some (.lst xs)=>uK (ml xs k) S
   |_=>.bad
  |_=>.bad
 |_=>.bad
def lF {P:Hp}{α:ag}{k:An}(Y:qE X.K P α ds vs)(h:ml ds k=Ab d):∃ v,ml vs k=Ab v/\au X.K P α d v:=by
 unfold ml at h ⊢;rw[<- Y.length];cases q:qm ds.length k with
 |none=>rw[q] at h;cases h
 |some j =>
  rw[q] at h;obtain⟨v,U,J⟩:=Y.get (show ds[j]? = Ab d from h)
  exact⟨v,U,J⟩
def qBi:J_ X cg:=by
 intro Y J aj σ H s P α S v u B T a b Q I r E L N A G hs;cases b with
 |int k =>
  have C:=xF A;cases a with
  |tup xs =>
   obtain⟨d,e,ok⟩:=uU (X:=X) G;simp only[au] at N;obtain⟨p,vs,rfl,q,t⟩:=N;obtain⟨w,O,U⟩:=lF t e;exact E9 Y J aj s σ H _ u B T Q I E L ⟨p,vs,k,w,rfl,C,xW r.sub q,O,xr ok r U⟩ hs
  |lst xs =>
   obtain⟨d,e,ok⟩:=uU (X:=X) G;simp only[au] at N;obtain⟨p,vs,rfl,q,t⟩:=N;obtain⟨w,O,U⟩:=lF t e;exact oK Y J aj s σ H _ u B T Q I E L ⟨p,vs,k,w,rfl,C,(xS r.sub q).l,O,xr ok r U⟩ hs
  |loc i =>
   obtain⟨xs,M,G⟩:=jG (X:=X) (f:=λxs=>uK (ml xs k) S) G;obtain⟨d,e,ok⟩:=uU (X:=X) G;simp only[au] at N;obtain⟨p,rfl,q⟩:=N;obtain⟨vs,z,t⟩:=r.at' i p _ q M;obtain⟨w,O,U⟩:=lF t e;exact oK Y J aj s σ H _ u B T Q I E L ⟨p,vs,k,w,rfl,C,.of z,O,xr ok r U⟩ hs
  |_=>exact Ao G
 |_=>exact Ao G
def mO:G3:=λo i d S=>match o,i with
 |.loc n,.int k=>match S[n]? with
  |some (.lst xs)=>match qm xs.length k with
   |some j=>.ok () (S.set n (.lst (xs.set j d)))
   |none=>.bad
  |_=>.bad
 |_,_=>.bad
def qAq:eF X (rY X mO):=by
 intro aj s σ H o i v O L u Q I T C E h;obtain⟨P,α,S,a,b,d,r,G,N,B,Y⟩:=h;cases a with
 |loc n =>
  cases b with
  |int k =>
   obtain⟨xs,U,Y⟩:=jG (X:=X) (f:=λxs=>match qm xs.length k with|some j=>.ok () (S.set n (.lst (xs.set j d)))|none=>.bad) Y
   cases J:qm xs.length k with
   |none=>rw[J] at Y;exact Ao Y
   |some j =>
    rw[J] at Y;simp only[au] at G;obtain⟨p,rfl,q⟩:=G;obtain⟨vs,z,t⟩:=r.at' n p _ q U;refine P9 aj s σ H _ i v O L u Q I T C E ⟨p,vs,k,j,rfl,xF N,z,by rw[<- t.length];exact J,?_⟩
    refine Y _ P α (r.put (m':=.lst (xs.set j d)) q U (by intro z;cases z) ⟨vs.set j v,qV,t.set B j⟩) (qF.refl _) (AT _)
  |_=>exact Ao Y
 |_=>exact Ao Y
def X0:D->ap->Ak Ah
 |.tup xs,_=>Ab xs.length
 |.lst xs,_=>Ab xs.length
 |.str x,_=>if x.length<=bq then Ab x.length else none
 |.dct0,_=>Ab 0
 |.loc i,S=>match S[i]? with
  |some (.lst xs)=>Ab xs.length
  |_=>none
 |_,_=>none
def cB:DF:=λds S=>match ds with
 |[d]=>match X0 d S with
  |some n=>.ok (.int n) S
  |none=>.bad
 |_=>.bad
end
section
variable {X:Cx}
def yS {P:Hp}{α:ag}(Y:qE X.K P α [d] vs)(J:qM vs us):∃ v u,vs=[v]/\us=[u]/\au X.K P α d v/\qJ v u:=by
 obtain⟨v,U,rfl,p,t⟩:=Y.cons_inv;have:=t.nil_inv;subst this;obtain⟨u,rfl,q⟩:=k8 J;exact⟨v,u,rfl,rfl,p,q⟩
def pC {P:Hp}{α:ag}{e:D}(U:qE X.K P α [d,e] vs)(G:qM vs us):∃ v w u x,vs=[v,w]/\us=[u,x]/\au X.K P α d v/\au X.K P α e w/\qJ v u/\qJ w x:=by
 obtain⟨v,N,rfl,p,t⟩:=U.cons_inv;obtain⟨w,N,rfl,Y,t⟩:=t.cons_inv;have:=t.nil_inv;subst this;obtain⟨u,x,rfl,q,J⟩:=eA G;exact⟨v,w,u,x,rfl,rfl,p,Y,q,J⟩
def ZZ (d:D)(S:ap):Ak Ah:=match d with
 |.dct0=>none
 |_=>X0 d S
def EL {H P:Hp}{α:ag}{S:ap}(r:bf X.K H P α S)(p:au X.K P α d v)(Y:ZZ d S=Ab n):D4 X.K v H n:=by
 cases d with
 |str x =>
  cases (show v=.str x from p)
  obtain⟨U,rfl⟩:=gX Y;exact⟨by rw[<- zV];exact U,rfl⟩
 |tup xs =>
  simp only[au] at p;obtain⟨a,J,rfl,sq,t⟩:=p;cases Y;exact .inr ⟨J,xW r.sub sq,t.length⟩
 |lst xs =>
  simp only[au] at p;obtain⟨a,J,rfl,sq,t⟩:=p;cases Y;exact .inl ⟨J,(xS r.sub sq).l,t.length⟩
 |loc i =>
  simp only[au] at p;obtain⟨a,rfl,e⟩:=p;obtain⟨xs,G,Y⟩:=ES (f:=λxs=>Ab xs.length) Y;cases Y;obtain⟨J,z,t⟩:=r.at' i a _ e G;exact .inl ⟨J,.of z,t.length⟩
 |_=>exact nn Y
inductive yf (ds:Aa D)(S:ap)(r:bb D):Prop
 |bad (e:r=.bad)
 |of (d:D) (n:Ah) (ed:ds=[d]) (hn:ZZ d S=Ab n) (e:r=.ok (.int n) S)
def OS (ds:Aa D)(S:ap):yf ds S (match ds with|[.dct0]=>.bad|_=>cB ds S):=by
 cases ds with
 |nil=>exact .bad rfl
 |cons d ds =>
  cases ds with
  |cons _ _=>cases d <;> exact .bad rfl
  |nil =>
   have z:(match [d] with|[D.dct0]=>bb.bad|_=>cB [d] S)=(match ZZ d S with|some n=>bb.ok (D.int n) S|none=>.bad):=by cases d <;> rfl
   rw[z];cases Y:ZZ d S with
   |none=>exact .bad rfl
   |some n=>exact .of d n rfl Y rfl
def DV (C:Qn):wN X (.builtin "len") (λds S=>match ds with|[.dct0]=>.bad|_=>cB ds S):=by
 intro aj σ H s P α S vs us ds Q I r U N J;have Y:qK X P α (match ds with|[D.dct0]=>bb.bad|_=>cB ds S) (jf X P α Q):=J
 clear J;cases OS ds S with
 |bad e=>rw[e] at Y;exact Ao Y
 |of d n O G e =>
  rw[e] at Y;subst O;obtain⟨v,u,rfl,rfl,p,q⟩:=yS N U;exact UL aj s σ H _ _ Q I U ⟨v,n,rfl,EL r p G,xr Y r (by simp only[au])⟩
noncomputable def m_:D->ap->Ak Es
 |.non,_=>Ab "NoneType"
 |.bl _,_=>Ab "bool"
 |.int _,_=>Ab "int"
 |.str _,_=>Ab "str"
 |.tup _,_=>Ab "tuple"
 |.lst _,_=>Ab "list"
 |.dct0,_=>Ab "dict"
 |.loc i,S=>match S[i]? with
  |some (.lst _)=>Ab "list"
  |some (.dct _)=>Ab "dict"
  |_=>none
 |_,_=>none
def wO (a b:Es):Au:=a == b||(a == "bool" && b == "int")
def jF (b:Es):Au:=b == "int" || b == "bool" || b == "tuple" || b == "list" || b == "str" || b == "dict"
def EF (a b:Es):Ak Au:=if (Hw a == Hw b)=true then Ab true else if PySem.W.kitMeta b=true then (fastBuiltinMro a).map (·.contains (.type b)) else none
noncomputable def zn:Aa Es:=["NoneType","bool","int","str","tuple","list","dict"]
noncomputable def zo:Aa Es:=["int","bool","tuple","list","str","dict"]
def MN:(zn.all λa=>zo.all λb=>decide (EF a b=Ab (wO a b)))=true:=by decide +kernel
def HS {b:Es}(Y:jF b=true):b∈zo:=by simpa [jF,zo,or_assoc] using Y
def lX {K:Ai}{a b:Es}(Y:a∈zn)(J:jF b=true):Me K (.type a) (.type b)=Ab (wO a b):=
 Ce (p:=EF a b=Ab (wO a b)) (Bn.mp (Bn.mp MN a Y) b (HS J))
def xO:DF:=λds S=>match ds with
 |[d,.ty b]=>if jF b then match m_ d S with
   |some a=>.ok (.bl (wO a b)) S
   |none=>.bad
  else .bad
 |_=>.bad
inductive TyV (X:Cx)(H:Hp)(v:V)(a:Es):Prop
 |of (t:jv X.K H v (.type a))
 |tup (p:Af) (vs:Aa V) (e:v=.ref p) (q:jh X.K H p vs) (ea:a = "tuple")
 |lst (p:Af) (vs:Aa V) (e:v=.ref p) (q:jw X.K H p vs) (ea:a = "list")
def i4 {S:ap}{a:Es}(h:m_ d S=Ab a):a∈zn:=by
 cases d with
 |non=>cases h;exact .head _
 |bl b=>cases h;exact .tail _ (.head _)
 |int i=>cases h;exact .tail _ (.tail _ (.head _))
 |str x=>cases h;exact .tail _ (.tail _ (.tail _ (.head _)))
 |tup xs=>cases h;exact .tail _ (.tail _ (.tail _ (.tail _ (.head _))))
 |lst xs=>cases h;exact .tail _ (.tail _ (.tail _ (.tail _ (.tail _ (.head _)))))
 |dct0=>cases h;exact .tail _ (.tail _ (.tail _ (.tail _ (.tail _ (.tail _ (.head _))))))
 |loc i =>
  rcases dD (f:=λ_=>Ab "list") (g:=λ_=>Ab "dict") h with⟨_,_,h⟩|⟨_,_,h⟩
  .cases h;exact .tail _ (.tail _ (.tail _ (.tail _ (.tail _ (.head _)))))
  .cases h;exact .tail _ (.tail _ (.tail _ (.tail _ (.tail _ (.tail _ (.head _))))))
 |_=>exact nn h
def BY {H P:Hp}{α:ag}{S:ap}{a:Es}(r:bf X.K H P α S)(p:au X.K P α d v)(h:m_ d S=Ab a):TyV X H v a:=by
 cases d with
 |non=>cases h;cases (show v=.non from p);exact .of .non
 |bl b=>cases h;cases (show v=.bl b from p);exact .of (.bl b)
 |int i=>cases h;cases (show v=.int i from p);exact .of (.int i)
 |str x=>cases h;cases (show v=.str x from p);exact .of (.str x)
 |tup xs =>
  cases h;simp only[au] at p;obtain⟨a,vs,e,q,t⟩:=p;exact .tup a vs e (xW r.sub q) rfl
 |lst xs =>
  cases h;simp only[au] at p;obtain⟨a,vs,e,q,t⟩:=p;exact .lst a vs e (xS r.sub q).l rfl
 |dct0 =>
  cases h;simp only[au] at p;obtain⟨a,rfl,q⟩:=p;exact .of (.dK (r.sub _ _ q))
 |loc i =>
  simp only[au] at p;obtain⟨a,rfl,q⟩:=p;rcases dD (f:=λ_=>Ab "list") (g:=λ_=>Ab "dict") h with⟨xs,Y,h⟩|⟨ar,Y,h⟩
  .cases h
   obtain⟨vs,z,t⟩:=r.at' i a _ q Y;exact .of (.lst z)
  .cases h
   obtain⟨vs,z,t⟩:=r.at' i a _ q Y;exact .of (.dK z)
 |_=>exact nn h
inductive L_ (ds:Aa D)(S:ap):Prop
 |bad (e:xO ds S=.bad)
 |of (d:D) (b a:Es) (ed:ds=[d,.ty b]) (hb:jF b=true) (ha:m_ d S=Ab a) (e:xO ds S=.ok (.bl (wO a b)) S)
def qBf (ds:Aa D)(S:ap):L_ ds S:=by
 cases ds with
 |nil=>exact .bad rfl
 |cons d ds =>
  cases ds with
  |nil=>exact .bad rfl
  |cons e ds =>
   cases ds with
   |cons _ _=>cases e <;> exact .bad rfl
   |nil =>
    cases e with
    |ty b =>
     have z:xO [d,.ty b] S=if jF b then (match m_ d S with|some a=>.ok (.bl (wO a b)) S|none=>.bad) else .bad:=rfl
     by_cases J:jF b=true
     .rw[Bg J] at z
      cases Y:m_ d S with
      |none=>rw[Y] at z;exact .bad z
      |some a=>rw[Y] at z;exact .of d b a rfl J Y z
     .rw[Bd J] at z
      exact .bad z
    |_=>exact .bad rfl
def W7:wN X (.builtin "isinstance") xO:=by
 intro aj σ H s P α S vs us ds Q I r l M G;cases qBf ds S with
 |bad e=>rw[e] at G;exact Ao G
 |of d b a k E T e =>
  subst k;rw[e] at G;obtain⟨v,w,u,x,rfl,rfl,p,U,q,A⟩:=pC M l;simp only[au] at U;subst U;cases (show x=Hw b from A)
  have Y:=lX (K:=X.K) (i4 T) E;have J:∀ B,EP X aj σ Q (.bool (wO a b)) { s with toks:=B }:=λB=>⟨.bl _,H,I.tok B,rfl,xr G r (by simp only[au])⟩
  cases BY r p T with
  |of y=>exact Y0 I q y Y J
  |tup U j e sq N =>
   subst e N;cases (show u=Cb U from q)
   obtain⟨its,C,⟨o,L,O,_⟩,_⟩:=I.tuple sq;exact Et Oe I.kIn ⟨o,L,O⟩ Y (λz=>nomatch z) J
  |lst U j e sq N =>
   subst e N;cases (show u=Cb U from q)
   obtain⟨its,C,⟨o,_,L,O,_⟩,_⟩:=I.list sq;exact Et Jw I.kIn ⟨o,L,O⟩ Y (λz=>nomatch z) J
noncomputable def xN:Aa D->Ak (Aa Au)
 |[]=>Ab []
 |.bl b::r=>(xN r).map (b::·)
 |_=>none
theorem v8 {P:Hp}{α:ag}:∀ {ds:Aa D} {bs:Aa Au} {vs:Aa V} {us:ai},xN ds=Ab bs->qE X.K P α ds vs->qM vs us->us=bs.map Fy
 |[],bs,vs,us,h,Y,J=>by
  cases h;have:=Y.nil_inv;subst this;cases J;rfl
 |d::ds,bs,vs,us,h,Y,J=>by
  cases d with
  |bl b =>
   obtain⟨N,q,rfl⟩:=Dn.mp (show (xN ds).map (b::·)=Ab bs from h)
   obtain⟨w,O,rfl,p,t⟩:=Y.cons_inv;simp only[au] at p;subst p;cases J with
   |cons U G =>
    cases (show _=Fy b from U)
    rw[v8 q t G];rfl
  |_=>exact nn h
def gR (Y:Au):DF:=λds S=>match ds with
 |[d]=>match (xH d).bind xN with
  |some J=>.ok (.bl (if Y then J.any id else J.all id)) S
  |none=>.bad
 |_=>.bad
def sY (bs:Aa Au):((Cf bs.length).all λi=>bs.getD i false)=bs.all id:=by
 induction bs with
 |nil=>rfl
 |cons b bs Y =>
  rw[Bs,Jj,Tt,Jr,Tt,<- Y];rfl
def sZ (bs:Aa Au):((Cf bs.length).any λi=>bs.getD i false)=bs.any id:=by
 induction bs with
 |nil=>rfl
 |cons b bs Y =>
  rw[Bs,Jj,Lf,List.any_map,Lf,<- Y];rfl
def Y1 {h':Bt}{tk:Ah}(I:Inv X aj σ H s)(k:∀ b Y,b ∉ [s.heap.objs.size]->(s.heap.push o).get? b=Ab Y->h'.get? b=Ab Y):Inv X aj σ H { s with heap:=h',toks:=tk }:=
 I.kept λb u e=>k b u (by simp;exact Cn (Bf e)) (Aj _ e)
def jW {bs:Aa Au}(hi:its=bs.map Fy){A:Bp}:TruthOf X.prog X.w A (λi v=>its.toArray[i]? = Ab v) (λi=>bs.getD i false):=λi v U N O hv G=>by
 subst hi;have Y:(bs.map Fy)[i]? = Ab v:=by simpa using hv
 rw[Do] at Y;cases e:bs[i]? with
 |none=>rw[e] at Y;exact nn Y
 |some b =>
  rw[e] at Y;cases Dd Y;have:bs.getD i false=b:=by simp[Hv,e]
  have J:N (bs.getD i false) U:=G;rw[this] at J;exact wpAny_truthy_bool J
def M4 {S:ap}{P:Hp}{α:ag}{Ok:D->ap->Prop}(h:qK X P α (gR Y ds S) Ok):∃ d xs bs,ds=[d]/\_s d xs/\xN xs=Ab bs/\Ok (.bl (if Y then bs.any id else bs.all id)) S:=by
 obtain⟨d,rfl,J⟩:=cW (X:=X) (β:=D) (g:=λd=>match (xH d).bind xN with|some bs=>.ok (D.bl (if Y then bs.any id else bs.all id)) S|none=>.bad) h
 cases G:(xH d).bind xN with
 |none=>rw[G] at J;exact Ao J
 |some bs =>
  rw[G] at J;obtain⟨xs,N,U⟩:=Ft.mp G;exact⟨d,xs,bs,rfl,zr N,U,J⟩
def DR (U:Au)(hc:X.calm=true):wN X (.builtin (if U then "any" else "all")) (gR U):=by
 intro aj σ H s P α S vs us ds Q I r x y g;obtain⟨d,xs,z,M,h,A,ok⟩:=M4 g;clear g;subst M;obtain⟨v,u,rfl,rfl,p,q⟩:=yS y x;clear y;have N:∀ {o:Cp} (J:Bt) (G:Ah),(∀ b l,b ∉ [s.heap.objs.size]->(s.heap.push o).get? b=Ab l->J.get? b=Ab l)->EP X aj σ Q (.bool (if U then z.any id else z.all id)) { s with heap:=J,toks:=G }:=
  λ{o} J G k=>⟨.bl _,H,Y1 I k,rfl,xr ok r (by simp only[au])⟩
 clear x ok;have m:X.A.in1.handled=none:=I.ok.hd hc;cases h with
 |tup M =>
  subst M;obtain⟨a,ws,its,rfl,sq,t,O,C,hl,_⟩:=uF I r p;cases (show u=Cb a from q)
  have B:=v8 A t O;have Y:its.toArray.size=z.length:=by rw[B];simp
  have L:a≠s.heap.objs.size:=by obtain⟨o,e,_⟩:=C;exact Cn (Bf e)
  have W:=Walks.tuple (prog:=X.prog) (w:=X.w) m s.heap.objs.size a L its.toArray;have j:∀ o,(s.heap.push o).IsTuple a its.toArray:=λo=>by obtain⟨o,e,c⟩:=C;exact⟨o,Aj _ e,c⟩
  have T:s.heap.IsTuple a its.toArray:=C;cases U with
  |false =>
   refine call_all_walk (Jn T ⟨s.heap.objs.size,_,_,_,_,_,_,rfl,W,⟨⟨_,Bl _ rfl,rfl,rfl⟩,j _⟩,jW B,λJ G k=>?_⟩);rw[Y,sY];exact N J G k
  |true =>
   refine call_any_walk (Jn T ⟨s.heap.objs.size,_,_,_,_,_,_,rfl,W,⟨⟨_,Bl _ rfl,rfl,rfl⟩,j _⟩,jW B,λJ G k=>?_⟩);rw[Y,sZ];exact N J G k
 |lst M =>
  subst M;obtain⟨a,ws,its,n,rfl,sq,t,O,C,hl,_⟩:=u9 I r p;cases (show u=Cb a from q)
  have i:s.heap.IsList a its.toArray:=⟨_,C,rfl,n,rfl⟩;have B:=v8 A t O;have Y:its.toArray.size=z.length:=by rw[B];simp
  have L:a≠s.heap.objs.size:=Cn (Bf C);have W:=Walks.list (prog:=X.prog) (w:=X.w) m s.heap.objs.size a L its.toArray;have E:∀ o,(s.heap.push o).IsList a its.toArray:=λo=>⟨_,Aj _ C,rfl,n,rfl⟩;cases U with
  |false =>
   refine call_all_walk (Ja i ⟨s.heap.objs.size,_,_,_,_,_,_,rfl,W,⟨⟨_,Bl _ rfl,rfl,rfl⟩,E _⟩,jW B,λJ G k=>?_⟩);rw[Y,sY];exact N J G k
  |true =>
   refine call_any_walk (Ja i ⟨s.heap.objs.size,_,_,_,_,_,_,rfl,W,⟨⟨_,Bl _ rfl,rfl,rfl⟩,E _⟩,jW B,λJ G k=>?_⟩);rw[Y,sZ];exact N J G k
def ZS:DF:=λds S=>match ds with
 |[.int i]=>.ok (.int i) S
 |[.bl b]=>.ok (.int (za b)) S
 |_=>.bad
inductive N_ (ds:Aa D)(S:ap):Prop
 |bad (e:ZS ds S=.bad)
 |int (i:An) (e:ds=[.int i])
 |bl (b:Au) (e:ds=[.bl b])
def qBc (ds:Aa D)(S:ap):N_ ds S:=by
 cases ds with
 |nil=>exact .bad rfl
 |cons d ds =>
  cases ds with
  |cons _ _=>cases d <;> exact .bad rfl
  |nil =>
   cases d with
   |int i=>exact .int i rfl
   |bl b=>exact .bl b rfl
   |_=>exact .bad rfl
def DU:wN X (.type "int") ZS:=by
 intro aj σ H s P α S vs us ds Q I r J U Y;cases qBc ds S with
 |bad e=>rw[e] at Y;exact Ao Y
 |int i e =>
  subst e;obtain⟨v,u,rfl,rfl,p,q⟩:=yS U J;exact sC aj s σ H _ _ Q I J (.inl ⟨_,by rw[xF p],xr Y r (by simp only[au])⟩)
 |bl b e =>
  subst e;obtain⟨v,u,rfl,rfl,p,q⟩:=yS U J;simp only[au] at p;subst p;exact sC aj s σ H _ _ Q I J (.inr ⟨_,rfl,xr Y r (by simp only[au];rfl)⟩)
def vC:DF:=λds S=>match ds with
 |[d]=>match xH d with
  |some xs=>.ok (.tup xs) S
  |none=>.bad
 |_=>.bad
def UO:wN X (.type "tuple") vC:=by
 intro aj σ H s P α S vs us ds Q I r N O C;obtain⟨d,rfl,Y⟩:=cW (X:=X) (β:=D) (g:=λd=>match xH d with|some xs=>.ok (D.tup xs) S|none=>.bad) C
 obtain⟨xs,U,J⟩:∃ xs,xH d=Ab xs/\jf X P α Q (.tup xs) S:=by
  cases U:xH d with
  |none=>rw[U] at Y;exact Ao Y
  |some xs=>rw[U] at Y;exact⟨xs,rfl,Y⟩
 obtain⟨v,u,rfl,rfl,p,q⟩:=yS O N;cases zr U with
 |tup e =>
  subst e;have L:=p;simp only[au] at p;obtain⟨a,G,rfl,sq,t⟩:=p;exact pO aj s σ H _ _ Q I N ⟨a,G,rfl,.inr ⟨xW r.sub sq,xr J r L⟩⟩
 |lst e =>
  subst e;simp only[au] at p;obtain⟨a,G,rfl,sq,t⟩:=p;exact pO aj s σ H _ _ Q I N ⟨a,G,rfl,.inl ⟨(xS r.sub sq).l,λl B=>p9 r B t J⟩⟩
def tX:DF:=λds S=>match ds with
 |[d]=>match xH d with
  |some xs=>.ok (.lst xs) S
  |none=>.bad
 |_=>.bad
def F6:wN X (.type "list") tX:=by
 intro aj σ H s P α S vs us ds Q I r O C B;obtain⟨d,rfl,Y⟩:=cW (X:=X) (β:=D) (g:=λd=>match xH d with|some xs=>.ok (D.lst xs) S|none=>.bad) B
 obtain⟨xs,U,J⟩:∃ xs,xH d=Ab xs/\jf X P α Q (.lst xs) S:=by
  cases U:xH d with
  |none=>rw[U] at Y;exact Ao Y
  |some xs=>rw[U] at Y;exact⟨xs,rfl,Y⟩
 obtain⟨v,u,rfl,rfl,p,q⟩:=yS C O;cases zr U with
 |tup e =>
  subst e;simp only[au] at p;obtain⟨a,G,rfl,sq,t⟩:=p;exact pU aj s σ H _ _ Q I O ⟨a,G,rfl,.inr (xW r.sub sq),λl N=>wR r N t J⟩
 |lst e =>
  subst e;simp only[au] at p;obtain⟨a,G,rfl,sq,t⟩:=p;exact pU aj s σ H _ _ Q I O ⟨a,G,rfl,.inl ((xS r.sub sq).l),λl N=>wR r N t J⟩
end
section
variable {X:Cx}
structure uf (K:Ai)(cl:ag):Prop where
 ex:∀ C∈cl,p_ K C
 one:∀ C∈cl,∀ B∈cl,Me K (.ref C) (.ref B)=Ab (C == B)
 ve:∀ C∈cl,Me K (.ref C) (.type "ValueError")=Ab true
def zX (Y:ag):DF:=λds S=>match ds with
 |[.exn (.ref C),.obj B]=>if Y.contains C&&Y.contains B then .ok (.bl (C == B)) S else .bad
 |[.exn (.ref C),.ty b]=>if Y.contains C&&(b == "ValueError") then .ok (.bl true) S else .bad
 |_=>xO ds S
def WR {H P:Hp}{α:ag}{S:ap}(I:Inv X aj σ H s)(r:bf X.K H P α S)(p:au X.K P α (.exn (.ref C)) v)(q:qJ v u):∃ a,u=.ref a/\vT a C s.heap:=by
 simp only[au] at p;obtain⟨a,rfl,z⟩:=p;obtain⟨y,_⟩:=I.hok a _ (r.sub _ _ z);exact⟨a,q,y⟩
inductive yh (cl:ag)(ds:Aa D)(S:ap):Prop
 |bad (e:zX cl ds S=.bad)
 |old (e:zX cl ds S=xO ds S)
 |obj (C B:Af) (ed:ds=[.exn (.ref C),.obj B]) (h1:C∈cl) (h2:B∈cl) (e:zX cl ds S=.ok (.bl (C == B)) S)
 |ve (C:Af) (ed:ds=[.exn (.ref C),.ty "ValueError"]) (h1:C∈cl) (e:zX cl ds S=.ok (.bl true) S)
def OO (Y:ag)(C:Af)(d:D)(S:ap):yh Y [.exn (.ref C),d] S:=by
 cases d with
 |obj B =>
  have z:zX Y [.exn (.ref C),.obj B] S=if (Y.contains C&&Y.contains B)=true then .ok (.bl (C == B)) S else .bad:=rfl
  by_cases h:(Y.contains C&&Y.contains B)=true
  .rw[Bg h] at z
   have J:=Fz.mp h;exact .obj C B rfl (Gm.mp J.1) (Gm.mp J.2) z
  .rw[Bd h] at z
   exact .bad z
 |ty b =>
  have z:zX Y [.exn (.ref C),.ty b] S=if (Y.contains C&&(b == "ValueError"))=true then .ok (.bl true) S else .bad:=rfl
  by_cases h:(Y.contains C&&(b == "ValueError"))=true
  .rw[Bg h] at z
   have J:=Fz.mp h;cases (Pl.mp J.2);exact .ve C rfl (Gm.mp J.1) z
  .rw[Bd h] at z
   exact .bad z
 |_=>exact .old rfl
def qBe (Y:ag)(ds:Aa D)(S:ap):yh Y ds S:=by
 cases ds with
 |nil=>exact .old rfl
 |cons a ds =>
  cases a with
  |exn c =>
   cases c with
   |ref C =>
    cases ds with
    |nil=>exact .old rfl
    |cons b ds =>
     cases ds with
     |nil=>exact OO Y C b S
     |cons _ _=>cases b <;> exact .old rfl
   |_=>exact .old rfl
  |_=>exact .old rfl
def F3 (hK:uf X.K L):wN X (.builtin "isinstance") (zX L):=by
 intro aj σ H s P α S vs us ds Q I r A O Y;cases qBe L ds S with
 |bad e=>rw[e] at Y;exact Ao Y
 |old e=>rw[e] at Y;exact W7 aj σ H s P α S vs us ds Q I r A O Y
 |obj C B T U M e =>
  rw[e] at Y;subst T;obtain⟨v,w,u,x,rfl,rfl,p,J,q,N⟩:=pC O A;simp only[au] at J;obtain⟨rfl,_⟩:=J;cases (show x=Cb B from N)
  obtain⟨a,rfl,G⟩:=WR I r p q;exact Et (cL (hK.ex C U)) I.kIn G (hK.one C U B M) (λz=>nomatch z) λE=>⟨.bl _,H,I.tok E,rfl,xr Y r (by simp only[au])⟩
 |ve C T U e =>
  rw[e] at Y;subst T;obtain⟨v,w,u,x,rfl,rfl,p,J,q,N⟩:=pC O A;simp only[au] at J;subst J;cases (show x=Hw "ValueError" from N)
  obtain⟨a,rfl,G⟩:=WR I r p q;exact Et (cL (hK.ex C U)) I.kIn G (hK.ve C U) (λz=>nomatch z) λE=>⟨.bl _,H,I.tok E,rfl,xr Y r (by simp only[au])⟩
def wx (X:Cx)(id:Es)(g:D->Aa D->ap->bb D):Prop:=
 ∀ (aj:aa) (σ : _L.St) (H:Hp) (s:Ag) (P:Hp) (α : Aa Af) (S:ap) (v:V) (Y:Ac) (vs:Aa V) (us:ai) (a:D) (ds:Aa D) (Q:VK),Inv X aj σ H s->bf X.K H P α S->qJ v Y->au X.K P α a v->qM vs us->qE X.K P α ds vs->qW X P α (g a ds S) Q ->
  ce X (call (.builtin id) (Y::us)) (EP X aj σ Q) X.xe s
def qo (T:Es)(g:D->Aa D->ap->bb D)(N:DE)(U:DA):DE:=λJ S=>(N J S).bind λa Y=>if (m_ a Y == Ab T)=true then (U J Y).bind λds G=>g a ds G else .bad
def AZ {H P:Hp}{α:ag}{S:ap}{a:D}(r:bf X.K H P α S)(p:au X.K P α a v)(h:m_ a S=Ab T)(hT:T = "list" \/ T = "dict" \/ T = "int" \/ T = "str"):X_ X.K T v H:=by
 cases a with
 |int i=>cases h;simp only[au] at p;subst p;rfl
 |str x=>cases h;simp only[au] at p;subst p;rfl
 |lst xs =>
  cases h;simp only[au] at p;obtain⟨b,vs,rfl,q,t⟩:=p;exact .inl ⟨rfl,vs,(xS r.sub q).l⟩
 |dct0 =>
  cases h;simp only[au] at p;obtain⟨b,rfl,q⟩:=p;exact .inr (.inr (.inl ⟨rfl,.inl ⟨[],r.sub _ _ q⟩⟩))
 |loc i =>
  simp only[au] at p;obtain⟨b,rfl,q⟩:=p;rcases dD (f:=λ_=>Ab "list") (g:=λ_=>Ab "dict") h with⟨xs,Y,h⟩|⟨ar,Y,h⟩
  .cases h
   obtain⟨vs,z,t⟩:=r.at' i b _ q Y;exact .inl ⟨rfl,vs,jw.of z⟩
  .cases h
   obtain⟨vs,z,t⟩:=r.at' i b _ q Y;exact .inr (.inr (.inl ⟨rfl,.inl ⟨vs,z⟩⟩))
 |non=>cases h;exact absurd hT bU
 |bl b=>cases h;exact absurd hT bU
 |tup xs=>cases h;exact absurd hT bU
 |_=>exact nn h
variable {o e:By}{es:Aa By}{fo:DE}{fa:DA}{name:As}{gc cx:Ev}{T id:Es}{g:D->Aa D->ap->bb D}
def SE {P:Hp}{α:ag}{a:D}{S:ap}{β:Type}{k:bb β}{Ok:β->ap->Prop}(h:qK X P α (if (m_ a S == Ab T)=true then k else .bad) Ok):m_ a S=Ab T/\qK X P α k Ok:=by
 by_cases z:(m_ a S == Ab T)=true
 .rw[Bg z] at h;exact⟨Pl.mp z,h⟩
 .rw[Bd z] at h;exact Ao h
def O0 (pa:PlainAttrs T)(slot:Slot T name id)(L:typeOf (.builtin id)=pure (.type "method_descriptor"))(hT:T = "list" \/ T = "dict" \/ T = "int" \/ T = "str")(hm:wx X id g)(ho:PE X o (tD X fo))(u:PA X (e::es) (ku X fa))
  (G:Ng o name X.env (eval o X.env)=eval o X.env:=by rfl)
  (O:((Ga cx (Bk (e::es) X.env)).all (λx=>!x.1)&&(Ab9 cx (Xc [] X.env)).all (λx=>x.1.isSome)
   && decide ((e::es).length+([]:Aa Tu).length+(if ([] : Aa Tu).isEmpty then 0 else 1)<30))=true:=by rfl)
  (U:(gc.endLine == cx.line)=true:=by rfl) (hs:Bk (e::es) X.env=(false,eval e X.env)::Bk es X.env:=by rfl) (J:(Ga cx (Bk es X.env)).any (·.1)=false:=by rfl) :
  PE X (.Call (.Attribute o name gc) (e::es) [] cx) (tD X (qo T g fo fa)):=by
 intro aj s σ H Q I h;obtain⟨P,α,ak,S,r,re,af⟩:=h;refine Wm G O U rfl (bv (zT ho I r re af) λm s1 ⟨v,H1,j,N,d,t,Y,B⟩=>?_);obtain⟨b,C⟩:=SE B;obtain⟨h1,l⟩:=AY Y.inv Y.val (AZ Y.rel Y.rep b hT);refine⟨T,id,pa,slot,L,h1,l,?_⟩;have k:=wV u Y.inv Y.rel Y.env (P:=j) (α:=N) (Ok:=jf X j N Q) (qW.base Y.same Y.pre (r:=(fa ak t).bind λds w=>g d ds w) C) cx;rw[hs] at k ⊢;refine Pm (by show (false||(Ga cx (Bk es X.env)).any (·.1))=false;rw[J] <;> rfl) (Qr ?_)
 exact bv k λus c ⟨vs,a,P2,A,ds,w,q,n,i,p,M,z,y,E⟩=>hm aj σ a c P2 A w v m vs us d ds Q q i Y.val (au.mono z y _ _ Y.rep) n M (qW.base z y E)
def xP:D->Aa D->ap->bb D:=λa ds S=>match a,ds with
 |.loc i,[d]=>match S[i]? with
  |some (.lst xs)=>if xs.length<bq then .ok .non (S.set i (.lst (xs++[d]))) else .bad
  |_=>.bad
 |_,_=>.bad
inductive ApV (a:D)(ds:Aa D)(S:ap):Prop
 |bad (e:xP a ds S=.bad)
 |of (i:Ah) (d:D) (xs:Aa D) (ea:a=.loc i) (ed:ds=[d]) (hS:S[i]? = Ab (.lst xs)) (hl:xs.length<bq) (e:xP a ds S=.ok .non (S.set i (.lst (xs++[d]))))
def apV (a:D)(ds:Aa D)(S:ap):ApV a ds S:=by
 cases a with
 |loc i =>
  cases ds with
  |nil=>exact .bad rfl
  |cons d ds =>
   cases ds with
   |cons _ _=>exact .bad rfl
   |nil =>
    have z:xP (.loc i) [d] S=(match S[i]? with|some (.lst xs)=>(if xs.length<bq then .ok .non (S.set i (.lst (xs++[d]))) else .bad)|_=>.bad):=rfl
    cases Y:S[i]? with
    |none=>rw[Y] at z;exact .bad z
    |some m =>
     rw[Y] at z;cases m with
     |lst xs =>
      by_cases J:xs.length<bq
      .exact .of i d xs rfl rfl Y J (z.trans (Bg J))
      .exact .bad (z.trans (Bd J))
     |_=>exact .bad z
 |_=>exact .bad rfl
def YH:wx X "list.append" xP:=by
 intro aj σ H s P α S v B vs us a ds Q I r M p J U Y;cases apV a ds S with
 |bad e=>rw[e] at Y;exact Ao Y
 |of i d xs O A G E e =>
  rw[e] at Y;subst O A;obtain⟨w,u,rfl,rfl,C,L⟩:=yS U J;simp only[au] at p;obtain⟨b,rfl,q⟩:=p;obtain⟨N,z,t⟩:=r.at' i b _ q G;refine YJ aj s σ H (.ref b) [w] B [u] Q I M (.cons L .nil) ⟨b,N,w,rfl,rfl,z,by rw[<- t.length,<- zV];exact E,?_⟩
  exact xr Y (r.put (m':=.lst (xs++[d])) q G (by intro z;cases z) ⟨N++[w],qV,t.append (.cons C .nil)⟩) (by simp only[au])
end
def kE:D->Ak c_
 |.int i=>Ab (.inl i)
 |.str x=>Ab (.inr x)
 |_=>none
def yC (ar:Aa (c_ × D))(k:c_):Ak D:=(ar.find? λY=>decide (Y.1=k)).map (·.2)
def jH (ar:Aa (c_ × D))(k:c_)(v:D):Aa (c_ × D):=
 if (ar.any λY=>decide (Y.1=k))=true then ar.map (λY=>if Y.1=k then (Y.1,v) else Y) else ar++[(k,v)]
section
variable {K:Ai}{P:Hp}{α: Aa Af}
def MS {vs:Aa (c_ × V)}(r:ol K P α ar vs):ar.length=vs.length:=Paired.length r
theorem lY {k:c_}:∀ {ar:Aa (c_ × D)} {vs:Aa (c_ × V)},ol K P α ar vs->(∀ d,yC ar k=Ab d->∃ v,yK vs k=Ab v/\au K P α d v)/\(yC ar k=none->yK vs k=none)
 |_,_,.nil=>⟨λd h=>by simp[yC] at h,λ_=>rfl⟩
 |(G,d1)::ar,(O,U)::vs,.cons z t=>by
  obtain⟨e,r⟩:=z;dsimp only at e r;subst e;obtain⟨N,J⟩:=lY (k:=k) t;unfold yC yK at *;by_cases Y:G=k
  .subst Y
   constructor
   .intro d h
    simp at h;subst h;exact⟨U,by simp,r⟩
   .intro h
    simp at h
  .constructor
   .intro d h
    rw[Wn (by simpa using Y)] at h ⊢
    exact N d h
   .intro h
    rw[Wn (by simpa using Y)] at h ⊢
    exact J h
def MP {k:c_}{vs:Aa (c_ × V)}(h:ol K P α ar vs):(ar.any λY=>decide (Y.1=k))=(vs.any λY=>decide (Y.1=k)):=by
 induction h with
 |nil=>rfl
 |cons z t J=>rw[Lf,Lf,J,z.1]
def MT {k:c_}(q:au K P α d v){ar:Aa (c_ × D)}{vs:Aa (c_ × V)}(h:ol K P α ar vs):ol K P α (ar.map λY=>if Y.1=k then (Y.1,d) else Y) (vs.map λY=>if Y.1=k then (Y.1,v) else Y):=by
 induction h with
 |nil=>exact .nil
 |cons z t J =>
  rw[Cu,Cu];refine .cons ?_ J;rw[<- z.1]
  split
  .exact⟨rfl,q⟩
  .exact z
def MR {k:c_}(q:au K P α d v){ar:Aa (c_ × D)}{vs:Aa (c_ × V)}(h:ol K P α ar vs):ol K P α (ar++[(k,d)]) (vs++[(k,v)]):=by
 induction h with
 |nil=>exact .cons ⟨rfl,q⟩ .nil
 |cons z t Y=>exact .cons z Y
def MU {k:c_}(q:au K P α d v){ar:Aa (c_ × D)}{vs:Aa (c_ × V)}(r:ol K P α ar vs):ol K P α (jH ar k d) (vG vs k v):=by
 unfold jH vG;rw[MP r]
 split
 .exact MT q r
 .exact MR q r
def cK {k:c_}(h:kE d=Ab k)(r:au K P α d v):v=kV k:=by
 cases d with
 |int i=>cases h;simp only[au] at r;exact r
 |str x=>cases h;simp only[au] at r;exact r
 |_=>cases h
end
section
variable {X:Cx}{o i e:By}{aq:Ev}
noncomputable def ZL:DE:=λ_ S=>.ok (.loc S.length) (S++[.dct []])
def SK:PE X (.Dict [] [] aq) (tD X ZL):=by
 refine ot cY λσ H Q ⟨P,α,O,S,r,N,U⟩ p G=>?_;have Y:α<+:α++[p]:=Fh _ _;have J:=r.new (o:=.dK []) (m:=.dct []) G ⟨[],qV,.nil⟩;refine U _ _ _ _ J (qF.refl _) Y ?_;simp only[au];exact⟨p,rfl,by rw[<- r.len];simp⟩
def rN:DE:=λ_ S=>.ok .dct0 S
def FI:PE X (.Dict [] [] aq) (tD X rN):=by
 refine ot cY λσ H Q ⟨P,α,O,S,r,N,J⟩ p U=>?_;obtain⟨Y,G⟩:=r.pure (o:=.dK []) U;refine J _ _ _ α Y G (AT _) ?_;simp only[au];exact⟨p,rfl,qV⟩
def yO:G3:=λo i d S=>match o with
 |.loc n=>match S[n]? with
  |some (.dct ar)=>match kE i with
   |some k=>if ar.length<bq then .ok () (S.set n (.dct (jH ar k d))) else .bad
   |none=>.bad
  |_=>mO o i d S
 |_=>mO o i d S
inductive ya (a b d:D)(S:ap):Prop
 |bad (e:yO a b d S=.bad)
 |old (e:yO a b d S=mO a b d S)
 |of (n:Ah) (kvs:Aa (c_ × D)) (k:c_) (ea:a=.loc n) (hS:S[n]? = Ab (.dct kvs)) (hk:kE b=Ab k) (hl:kvs.length<bq) (e:yO a b d S=.ok () (S.set n (.dct (jH kvs k d))))
def qAp (a b d:D)(S:ap):ya a b d S:=by
 cases a with
 |loc n =>
  have z:yO (.loc n) b d S=(match S[n]? with|some (.dct ar)=>(match kE b with|some k=>(if ar.length<bq then .ok () (S.set n (.dct (jH ar k d))) else .bad)|none=>.bad)|_=>mO (.loc n) b d S):=rfl
  cases Y:S[n]? with
  |none=>rw[Y] at z;exact .old z
  |some m =>
   rw[Y] at z;cases m with
   |dct ar =>
    cases J:kE b with
    |none=>rw[J] at z;exact .bad z
    |some k =>
     rw[J] at z;by_cases U:ar.length<bq
     .exact .of n ar k rfl Y J U (z.trans (Bg U))
     .exact .bad (z.trans (Bd U))
   |_=>exact .old z
 |_=>exact .old rfl
def AL (w:X.A.units+1<Eu):eF X (rY X yO):=by
 intro aj s σ H o i v G A u Q I B N L h;obtain⟨P,α,S,a,b,d,r,J,U,C,Y⟩:=h;cases qAp a b d S with
 |bad e=>rw[e] at Y;exact Ao Y
 |old e =>
  rw[e] at Y;exact qAq aj s σ H o i v G A u Q I B N L ⟨P,α,S,a,b,d,r,J,U,C,Y⟩
 |of n ar k T O E M e =>
  rw[e] at Y;subst T;simp only[au] at J;obtain⟨p,rfl,q⟩:=J;obtain⟨vs,z,t⟩:=r.at' n p _ q O;cases cK E U;cases (show G=Cb p from B)
  refine WG w I (lB.k (v:=v) z (by rw[<- MS t,<- zV];exact M)) N L λy j=>⟨_,j,?_⟩
  exact Y _ P α (r.put (m':=.dct (jH ar k d)) q O (by intro z;cases z) ⟨_,qV,MU C t⟩) (qF.refl _) (AT _)
def qCe:D->Aa D->ap->bb D:=λa ds S=>match a,ds with
 |.loc n,[i,x]=>match S[n]? with
  |some (.dct ar)=>match kE i with
   |some k=>.ok ((yC ar k).getD x) S
   |none=>.bad
  |_=>.bad
 |_,_=>.bad
def tZ:D->Aa D->ap->bb D:=λa ds S=>match a,ds with
 |.lst xs,[.bl k]=>match xN xs with
  |some Y=>.ok (.int (Y.countP (· == k):Ah)) S
  |none=>.bad
 |_,_=>.bad
noncomputable def lV (k:Au):Aa Au->Ak Ah
 |[]=>none
 |b::r=>if b=k then Ab 0 else (lV k r).map (· + 1)
def n6:D->Aa D->ap->bb D:=λa ds S=>match a,ds with
 |.lst xs,[.bl k]=>match (xN xs).bind (lV k) with
  |some j=>.ok (.int j) S
  |none=>.bad
 |_,_=>.bad
def c6 (k:Au){bs:Aa Au}{y:Ac}(U:y∈(bs.map Fy).toArray):AcA y (.bool k) (Wp k y):=by
 have J:y∈bs.map Fy:=by rwa [List.mem_toArray] at U
 obtain⟨b,_,rfl⟩:=Br.mp J;exact λY w A E s Q h=>AbS b k Y w E Q h
def iB (k:Au)(bs:Aa Au):(bs.map Fy).countP (Wp k)=bs.countP (· == k):=by
 rw[List.countP_map];rfl
def XY {β:Type}{r:bb β}{P:Hp}{α:ag}{Ok:β->ap->Prop}(e:r=.bad)(h:qK X P α r Ok):Ex:=by
 rw[e] at h;exact h
inductive BlV (a:D)(ds:Aa D):Prop
 |no (h:∀ (g:Aa D->Au->bb D),(match a,ds with|.lst xs,[.bl k]=>g xs k|_,_=>.bad)=.bad)
 |of (xs:Aa D) (k:Au) (ea:a=.lst xs) (ed:ds=[.bl k])
def _c (a:D)(ds:Aa D):BlV a ds:=by
 cases a with
 |lst xs =>
  cases ds with
  |nil=>exact .no λ_=>rfl
  |cons d ds =>
   cases ds with
   |cons _ _=>cases d <;> exact .no λ_=>rfl
   |nil =>
    cases d with
    |bl k=>exact .of xs k rfl rfl
    |_=>exact .no λ_=>rfl
 |_=>exact .no λ_=>rfl
def KC:wx X "list.count" tZ:=by
 intro aj σ H s P α S v E vs us a ds Q I r j p U N Y;cases _c a ds with
 |no h=>exact(XY (X:=X) (r:=tZ a ds S) (h _) Y).elim
 |of xs k T w =>
  subst T w;have Y:qK X P α (match xN xs with|some J=>bb.ok (D.int (J.countP (· == k):Ah)) S|none=>.bad) (jf X P α Q):=Y
  cases G:xN xs with
  |none=>rw[G] at Y;exact Ao Y
  |some J =>
   rw[G] at Y;obtain⟨u,M,rfl,rfl,B,A⟩:=yS N U;simp only[au] at B;subst B;cases (show M=Fy k from A)
   obtain⟨b,q,its,n,rfl,sq,t,O,C,l,_⟩:=u9 I r p;cases (show E=Cb b from j)
   have z:=v8 G t O;subst z;refine Pi Vl ⟨_,C,rfl⟩ PySem.F.entry_list_count (PySem.F.args_list_count_2 _ _) (PySem.SeqAt.list_countAt b (J.map Fy).toArray n none #[] (.bool k) (Wp k)) ⟨C,λy L=>(c6 k L).at _ _,?_⟩;refine⟨.int _,H,I.tok _,⟨_,rfl⟩,?_⟩;rw[show (J.map Fy).toArray.toList=J.map Fy from rfl,iB]
   exact xr Y r (by simp only[au])
theorem oB {k:Au}:∀ {bs:Aa Au} {j:Ah},lV k bs=Ab j->∃ h:j<bs.length,bs[j]=k/\∀ m (hm:m<bs.length),m<j->bs[m]≠k
 |[],j,h=>by cases h
 |b::r,j,h=>by
  unfold lV at h;by_cases Y:b=k
  .rw[Bg Y] at h
   cases h;exact⟨by simp,by simpa using Y,λm hm z=>absurd z (AbA _)⟩
  .rw[Bd Y] at h
   obtain⟨i,G,rfl⟩:=Dn.mp h;obtain⟨O,J,U⟩:=oB G;refine⟨by simp;lia,by simpa using J,λm hm N=>?_⟩
   cases m with
   |zero=>simpa using Y
   |succ m=>simpa using U m (by simp at hm;lia) li
def KD:wx X "list.index" n6:=by
 intro aj σ H s P α S v l vs us a ds Q I r rv p N O Y;cases _c a ds with
 |no h=>exact(XY (X:=X) (r:=n6 a ds S) (h _) Y).elim
 |of xs k w ed =>
  subst w ed;have Y:qK X P α (match (xN xs).bind (lV k) with|some j=>bb.ok (D.int j) S|none=>.bad) (jf X P α Q):=Y
  cases B:(xN xs).bind (lV k) with
  |none=>rw[B] at Y;exact Ao Y
  |some j =>
   rw[B] at Y;obtain⟨G,u,hi⟩:=Ft.mp B;obtain⟨vx,ux,rfl,rfl,A,c⟩:=yS O N;simp only[au] at A;subst A;cases (show ux=Fy k from c)
   obtain⟨b,ws,its,n,rfl,sq,t,J,E,hl,x⟩:=u9 I r p;cases (show l=Cb b from rv)
   have C:=v8 u t J;subst C;obtain⟨h1,z,q⟩:=oB hi;have U:G.length<=sizeLine:=by
    have e1:=t.length;have e2:=J.length;rw[Ap] at e2;rw[zV] at x
    lia
   refine Pi Vm ⟨_,E,rfl⟩ PySem.F.entry_list_index (PySem.F.args_list_index_2 _ _) (AbX b (G.map Fy).toArray n (.bool k) (Wp k) (λy M=>c6 k M) j (by simpa using h1) ?_ ?_ ?_) ⟨E,?_⟩
   .rw[Gb] at U;lia
   .simp[Wp,z]
   .intro m g T
    have L:m<G.length:=by simpa using g
    have:=q m L T;simp[Wp,this]
   .exact⟨.int _,H,I.tok _,⟨_,rfl⟩,xr Y r (by simp only[au])⟩
end
def uP (S:ap):ap:=S.map λ_=>.dead
noncomputable def ZE:D->Au
 |.non=>true
 |.bl _=>true
 |.int _=>true
 |.str _=>true
 |_=>false
noncomputable def mapO {β γ:Type}(f:β->Ak γ) : Aa β -> Ak (Aa γ)
 |[]=>Ab []
 |b::r=>match f b,mapO f r with
  |some c,Ab Y=>Ab (c::Y)
  |_,_=>none
noncomputable def xD:Ah->ap->D->Ak D
 |n+1,S,.tup xs=>(mapO (xD n S) xs).map .tup
 |n+1,S,.lst xs=>(mapO (xD n S) xs).map .lst
 |n+1,S,.loc i=>match S[i]? with
  |some (.lst xs)=>(mapO (xD n S) xs).map .lst
  |_=>none
 |_,_,.non=>Ab .non
 |_,_,.bl b=>Ab (.bl b)
 |_,_,.int i=>Ab (.int i)
 |_,_,.str x=>Ab (.str x)
 |_,_,.ty n=>Ab (.ty n)
 |_,_,.obj a=>Ab (.obj a)
 |_,_,.dct0=>Ab .dct0
 |_,_,.exn c=>Ab (.exn c)
 |_,_,_=>none
def vN (H P:Hp)(α : Aa Af):Hp:=λb=>if (P b).isSome then P b else if b∈α then H b else none
section
variable {K:Ai}{H P:Hp}{α: Aa Af}{S:ap}
def j8 (H P:Hp)(α : Aa Af):qF P (vN H P α):=λb o e=>by
 unfold vN;rw[e];rfl
def JJ (r:bf K H P α S):qF (vN H P α) H:=λb o e=>by
 unfold vN at e
 split at e
 .exact r.sub b o e
 .split at e
  .exact e
  .cases e
def lP {a:Af}(h:P a=none)(Y:a∈α):vN H P α a=H a:=by
 unfold vN;rw[h];simp[Y]
def bf.frz (r:bf K H P α S):bf K H (vN H P α) α (uP S) where
 tb:=r.tb.keep (λ_ _ q _=>q) λb u q _ p n=>⟨by unfold vN;rw[p];simp[n],n⟩
 sub:=JJ r
 len:=by rw[r.len];simp[uP]
 nd:=r.nd
 sep:=λi a o U Y J=>by
  unfold uP at Y;rw[Do] at Y;cases q:S[i]? with
  |none=>rw[q] at Y;cases Y
  |some m=>rw[q] at Y;cases Y;exact absurd rfl J
 at':=λi a o U Y=>by
  unfold uP at Y;rw[Do] at Y;cases q:S[i]? with
  |none=>rw[q] at Y;cases Y
  |some m=>rw[q] at Y;cases Y;trivial
 own:=r.own
def bf.unfrz (r:bf K H P α S)(N:bf K B P1 O S1)(e:qF (vN H P α) P1):bf K B P α S:=by
 have mem:∀ i a,α[i]? = Ab a->a∈α:=λi a h=>Bw h;have G:∀ (i:Ah) (a:Af) (o:MO) (u:HO),α[i]? = Ab a->S[i]? = Ab o->o≠MO.dead->H a=Ab u->B a=Ab u:=λi a o u Y U k I =>
  N.sub a u (e a u (by rw[lP (r.sep i a o Y U k) (mem i a Y)];exact I))
 refine⟨λx L c T h=>let ⟨y,e,_,_,ok,p⟩:=N.tb x L c T h;let ⟨_,_,M,A,_,_⟩:=r.tb x L c T h;⟨y,e,M,A,ok,p⟩,(j8 H P α).trans (e.trans N.sub),r.len,r.nd,r.sep,λi a o Y U=>?_,λi a Y=>?_⟩
 .have m:=r.at' i a o Y U
  cases o with
  |dead=>trivial
  |lst ds=>obtain⟨vs,q,t⟩:=m;exact⟨vs,G i a _ _ Y U (by intro z;cases z) q,t⟩
  |dct ar=>obtain⟨vs,q,t⟩:=m;exact⟨vs,G i a _ _ Y U (by intro z;cases z) q,t⟩
  |dcT ar=>obtain⟨vs,q,t⟩:=m;exact⟨vs,G i a _ _ Y U (by intro z;cases z) q,t⟩
  |ins C l=>obtain⟨j,vs,q,t⟩:=m;exact⟨j,vs,G i a _ _ Y U (by intro z;cases z) q,t⟩
 .have h:=r.own i a Y
  cases q:H a with
  |none=>exact absurd q h
  |some u =>
   have z:∃ J,vN H P α a=Ab J:=by
    cases E:P a with
    |none=>exact⟨u,by rw[lP E (mem i a Y)];exact q⟩
    |some J=>exact⟨J,j8 H P α a J E⟩
   obtain⟨J,z⟩:=z;rw[N.sub a J (e a J z)];intro w;cases w
set_option tactic.hygienic true in
theorem qE.mapO {f:D->Ak D}(h:∀ d t v,f d=Ab t->au K P α d v->au K J α t v):∀ {ds Y:Aa D} {vs:Aa V},_D.mapO f ds=Ab Y->qE K P α ds vs->qE K J α Y vs
 |[],Y,vs,e,r=>by cases e;rw[r.nil_inv];exact .nil
 |d::ds,Y,vs,e,r=>by
  obtain⟨w,B,rfl,N,G⟩:=r.cons_inv;unfold _D.mapO at e
  split at e
  .rename_i c C O U
   cases e;exact .cons (h d c w O N) (qE.mapO h U G)
  .cases e
def Q7 (r:bf K H P α S):∀ (n:Ah) (d t:D) (v:V),xD n S d=Ab t->au K P α d v->au K (vN H P α) α t v:=by
 have Y:∀ (d:D) (v:V),au K P α d v->au K (vN H P α) α d v:=λd v=>au.mono (j8 H P α) (AT _) d v;intro n
 induction n with
 |zero =>
  intro d t v h p;cases d <;> first|(cases h;exact Y _ _ p)|exact nn h
 |succ n G =>
  intro d t v h p;cases d with
  |tup xs =>
   obtain⟨N,J,rfl⟩:=Dn.mp h;simp only[au] at p ⊢;obtain⟨a,vs,rfl,q,t⟩:=p;exact⟨a,vs,rfl,wD (j8 H P α) q,qE.mapO (λd t v=>G d t v) J t⟩
  |lst xs =>
   obtain⟨N,J,rfl⟩:=Dn.mp h;simp only[au] at p ⊢;obtain⟨a,vs,rfl,q,t⟩:=p;exact⟨a,vs,rfl,xS (j8 H P α) q,qE.mapO (λd t v=>G d t v) J t⟩
  |loc i =>
   have h:(match S[i]? with|some (.lst xs)=>(_D.mapO (xD n S) xs).map D.lst|_=>none)=Ab t:=h
   cases U:S[i]? with
   |none=>rw[U] at h;exact nn h
   |some m =>
    rw[U] at h;cases m with
    |lst xs =>
     obtain⟨N,J,rfl⟩:=Dn.mp h;simp only[au] at p ⊢;obtain⟨a,rfl,q⟩:=p;obtain⟨vs,z,t⟩:=r.at' i a _ q U;refine⟨a,vs,rfl,.inl (.inl ?_),qE.mapO (λd t v=>G d t v) J t⟩;rw[lP (r.sep i a _ q U (by intro z;cases z)) (Bw q)]
     exact z
    |_=>exact nn h
  |fd O ds=>exact nn h
  |clo a vs ds=>exact nn h
  |_=>cases h;exact Y _ _ p
def UI (h:ZE d=true)(p:au K P α d v):au K J Y d v:=by
 cases d with
 |non=>simpa only [au] using p
 |bl b=>simpa only [au] using p
 |int i=>simpa only [au] using p
 |str x=>simpa only [au] using p
 |_=>cases h
end
def mK:Ah:=20
def X1 (r:bb D)(S:ap):bb D:=match r with
 |.ok d _=>if ZE d then .ok d S else .bad
 |_=>.bad
def X2 {X:Cx}{H P:Hp}{α:ag}{S:ap}(U:bf X.K H P α S)(Y:qW X P α (X1 r S) Q):qW X (vN H P α) α r Q:=by
 cases r with
 |ok d G =>
  obtain⟨J,Y⟩:=xT (X:=X) Y;exact λv N E B L C T O=>Y v N P α (U.unfrz L C) (qF.refl _) (AT _) (UI J O)
 |ex c x G=>exact Ao Y
 |bad=>exact Ao Y
section
variable {X:Cx}
def vX (g:G2):G2:=λa b S=>match xD mK S a,xD mK S b with
 |some x,Ab y=>X1 (g x y (uP S)) S
 |_,_=>.bad
set_option tactic.hygienic true in
def f_.look (h:f_ X f g):f_ X f (vX g):=by
 intro aj σ H s P α S v u N B a b Q I r L O C U Y;unfold vX at Y
 split at Y
 .rename_i x y G J
  exact h aj σ H s _ α (uP S) v u N B x y Q I r.frz L O (Q7 r mK a x v G C) (Q7 r mK b y u J U) (X2 r Y)
 .exact Ao Y
end
noncomputable def uG (t:DT)(f:DS):Ah->qD->ap->ja
 |0,_,_=>.bad
 |n+1,U,S=>(t U S).toS U λb G=>if b then (match f U G with
   |.nx Y J=>uG t f n Y J
   |.ct Y J=>uG t f n Y J
   |.bk Y J=>.nx Y J
   |o=>o) else .nx U G
def W3:∃ n:Ah,n=2 ^ 60:=⟨_,rfl⟩
def big:Ah:=Qb W3
def W2:big=2 ^ 60:=Lx W3
def gD (t:DT)(f:DS):DS:=λY S=>uG t f big Y S
section
variable {X:Cx}{aq:Ev}
inductive C_ (X:Cx)(P:Hp)(α : Aa Af)(t:DT)(f:DS)(D:Ends)(m:Ah)(σ : _L.St)(H:Hp):Prop
 |mk (P2:Hp) (α2:ag) (env2:qD) (S2:ap) (r:bf X.K H P2 α2 S2) (re:zA X.K P2 α2 σ env2) (e1:qF P P2) (e2:α<+:α2) (af:qX X P2 α2 (uG t f m env2 S2) D):C_ X P α t f D m σ H
def JA {a:Aa Fb}{t:DT}{f:DS}(hp:Ow (Av X.prog X.w) X.A X.env X.xe)(hc:PT X c (mv X t))(h:im X a (ii X f)):PS X (.While c a [] aq) (ii X (gD t f)):=
 xf (GC hp hc h) λD σ H ⟨P,α,ak,S,r,re,af⟩=>by
  refine⟨C_ X P α t f D,⟨big,P,α,ak,S,r,re,qF.refl _,AT _,af⟩,?_⟩;rintro m g H2 ⟨P2,u,Y,N,r2,O,n,e,M⟩;cases m with
  |zero=>exact Ao M
  |succ m =>
   have G:=xG M;refine⟨P2,u,Y,N,r2,O,?_⟩;cases q:t Y N with
   |bad=>rw[q] at G;exact G
   |ex c x S'=>rw[q] at G;exact G
   |ok b y =>
    rw[q] at G;intro H3 P3 B i A j;have J:qX X P3 B (if b then (match f Y y with|.nx Y N=>uG t f m Y N|.ct Y N=>uG t f m Y N|.bk Y N=>.nx Y N|o=>o) else .nx Y y) D:=qX.base A j G
    cases b with
    |false=>exact J g H3 P3 B i (O.mono A j) (qF.refl _) (AT _)
    |true =>
     simp only[Eb] at J ⊢;refine⟨C_ X P α t f D m,λzb H' w=>⟨m,Kk _,w⟩,P3,B,Y,y,i,O.mono A j,?_⟩;cases T:f Y y with
     |bad=>rw[T] at J;exact J
     |ex c x U E=>rw[T] at J;exact J
     |rt d4 E=>rw[T] at J;exact J
     |bk U E=>rw[T] at J;exact J
     |nx U E =>
      rw[T] at J;exact λl H5 p C k L I z=>⟨p,C,U,E,k,L,(n.trans A).trans I,(e.trans j).trans z,qX.base I z J⟩
     |ct U E =>
      rw[T] at J;exact λl H5 p C k L I z=>⟨p,C,U,E,k,L,(n.trans A).trans I,(e.trans j).trans z,qX.base I z J⟩
end
section
variable {X:Cx}{a b c e:By}{aq:Ev}{fe:DE}
def qB2 (X:Cx)(g:G2):x_:=λx y H Q=>∃ P α S a b,bf X.K H P α S/\au X.K P α a x/\au X.K P α b y/\qW X P α (g a b S) Q
def M_ (X:Cx)(op:Pg)(g:G2):Prop:=F_ X op (qB2 X g)
def bJ (i:Ah)(g:G2)(fe:DE):DS:=λY S=>match Y[i]? with
 |some (Ab x)=>(fe Y S).toS Y λy J=>(g x y J).toS Y λz U=>.nx (Y.set i (Ab z)) U
 |_=>.bad
set_option tactic.hygienic true in
def R6 {i:Ah}{U:Ev}(o:X.N.Nodup)(he:PE X e (tD X fe))(ho:M_ X op g)(hi:X.N[i]? = Ab x:=by rfl)(k:Loc X.env.scope x:=by first|exact AaO rfl|exact Zr rfl)
  (hf:X.fn x=true\/X.env.scope.names.lookup x=Ab .local:=by first|exact .inl rfl|exact .inr rfl|assumption):PS X (.AugAssign (.Name x U) op e aq) (ii X (bJ i g fe)):=
 xf (CK o hi k he ho hf) λD σ H ⟨P,α,M,S,r,T,G⟩=>by
  unfold bJ at G
  split at G
  .rename_i d t
   obtain⟨v,hv,pv⟩:=T.2 i d t;refine⟨v,hv,P,α,M,S,r,T,?_⟩;have J:=xG G;cases q:fe M S with
   |bad=>rw[q] at J;exact J
   |ex c x p=>rw[q] at J;exact J
   |ok y I =>
    rw[q] at J;intro u H1 n N r1 O B l;refine⟨n,N,I,d,y,r1,au.mono O B _ _ pv,l,?_⟩;have Y:=xG (qX.base O B J);cases E:g d y I with
    |bad=>rw[E] at Y;exact Y
    |ex c x p=>rw[E] at Y;exact Y
    |ok z S2 =>
     rw[E] at Y;exact λw h P2 C m A j L=>Y _ h P2 C m (((T.mono O B).mono A j).set i L) A j
  .exact Ao G
def tY:G2:=i2 (λ_ _=>true) λi j=>.int (i+j)
def MC:M_ X .Add tY:=by
 intro aj s σ H x y v u Q I N U h;obtain⟨P,α,S,a,b,r,G,Y,J⟩:=h;obtain⟨i,j,rfl,rfl,_,ok⟩:=ZV J;exact E0 aj s σ H x y v u Q I N U ⟨i,j,xF G,xF Y,xr ok r (by simp only[au])⟩
def xA (xs:Aa D)(lo hi:Ak An):Aa D:=(xs.drop (_H.cy xs.length 0 lo)).take (_H.cy xs.length xs.length hi-_H.cy xs.length 0 lo)
abbrev DO:=qD->ap->bb (Ak An)
def _l (X:Cx)(P:Hp)(α : Aa Af)(Q:Ak An->Hp->Prop)(o:Ak An)(G:ap):Prop:=∀ U J Y,bf X.K U J Y G->qF P J->α<+:Y->Q o U
def wy (X:Cx)(f:DO):TO:=λσ H Q=>∃ P α Y S,bf X.K H P α S/\zA X.K P α σ Y/\qK X P α (f Y S) (_l X P α Q)
def x9:DO:=λ_ S=>.ok none S
def zP (f:DE):DO:=λJ S=>(f J S).bind λd Y=>match d with
 |.int i=>.ok (Ab i) Y
 |_=>.bad
def FR:PO X none (wy X x9):=λaj s σ H Q I ⟨P,α,U,S,r,J,Y⟩=>N4 aj s σ H Q I (Y H P α r (qF.refl _) (AT _))
def FS (T:PE X e (tD X fe)):PO X (Ab e) (wy X (zP fe)):=by
 intro aj s σ H Q I h;obtain⟨P,α,U,S,r,E,B⟩:=h;refine N5 (te:=tD X fe) T aj s σ H Q I ⟨P,α,U,S,r,E,?_⟩;have Y:qK X P α ((fe U S).bind λd G=>match d with|.int i=>.ok (Ab i) G|_=>.bad) (_l X P α Q):=B
 cases q:fe U S with
 |bad=>rw[q] at Y;exact Y
 |ex c x w=>rw[q] at Y;exact Y
 |ok d G =>
  rw[q] at Y;intro v M C J A O L N;cases d with
  |int i=>exact⟨i,xF N,Y M C J A O L⟩
  |_=>exact Ao Y
def qE.cut {K:Ai}{P:Hp}{α:ag}(r:qE K P α ds vs)(lo hi:Ak An):qE K P α (xA ds lo hi) (pY vs lo hi):=by
 unfold xA pY;rw[r.length];exact(r.drop _).take _
def ut (d:D)(lo hi:Ak An)(S:ap):bb D:=match d with
 |.lst xs=>.ok (.lst (xA xs lo hi)) S
 |.loc i=>match S[i]? with
  |some (.lst xs)=>.ok (.lst (xA xs lo hi)) S
  |_=>.bad
 |.tup xs=>.ok (.tup (xA xs lo hi)) S
 |_=>.bad
def mi (fe:DE)(fl G:DO):DE:=λY S=>(fe Y S).bind λd J=>(fl Y J).bind λlo U=>(G Y U).bind λN O=>ut d lo N O
end
end _D
namespace _D
open _L _H
section
variable {prog:Bi}{w:Bz}{A:Bp}{E:ae}{s:Ag}
def pQ {t sl:Af}{lo hi:Ak An}{Q:ae}(Y:Rw s.heap t items)(hs:s.heap.IsSliceOf sl O N .none)(pl:Sr O lo)(B:Sr N hi)
  (hw:cy items.size 0 lo=0/\cy items.size items.size hi=items.size) (h:Q (.ref t) s):Aq (Av prog w) A (Mj (.ref t) (.ref sl)) Q E s:=by
 obtain⟨C,U,G,_⟩:=id hs;have J:s.TypeIs (.ref sl) "slice":=⟨C,U,G⟩;unfold Mj
 try with_reducible refine Ee ?_
 first|refine Ad (Am ?_)|skip
 refine Ad (Tj Y.typeIs bU ?_)
 refine Ad (Ed (name:=Ic "__getitem__") Y.typeIs Du
  (Ef Du Y.typeIs Rq ?_ (Sg _ _)))
 show Aq _ _ (Mu (.ref t) >>= _) _ _ s;refine Ad (Yz Y ?_);refine Ad (Mn J ?_);rw[Bg bU]
 refine Ad (jJ hs pl B ?_);show Aq _ _ (if (((cy items.size 0 lo:Ah):An) == 0&&(1:An) == 1&&(cy items.size items.size hi-cy items.size 0 lo) == items.size)=true then _ else _) _ _ s
 rw[hw.1,hw.2,Bg bB]
 unfold Builtin.Tuple.tupleIsExact;refine Ad (Ad (Mn Y.typeIs (Am ?_)));rw[Bg bU]
 exact Ad (Ho (Am ⟨_,rfl,Am h⟩))
end
section
variable {X:Cx}{e:By}{fe:DE}{aq p2:Ev}
def _T (X:Cx):V->Ak An->Ak An->Hp->VK->Prop:=λx lo Y H Q=>∃ P α S d,bf X.K H P α S/\au X.K P α d x/\qW X P α (ut d lo Y S) Q
def _P:u_ X (_T X):=by
 intro M s σ H x v E T lo J sl Q I L hs pl B h;obtain⟨P,α,S,d,r,p,U⟩:=h;cases d with
 |lst G =>
  simp only[au] at p;obtain⟨a,Y,rfl,q,t⟩:=p;exact QJ M s σ H _ v E T lo J sl Q I L hs pl B ⟨a,Y,rfl,(xS r.sub q).l,λb N=>wR r N (qE.cut t lo J) U⟩
 |loc i =>
  obtain⟨G,j,U⟩:=jG (X:=X) (f:=λG=>bb.ok (D.lst (xA G lo J)) S) U;simp only[au] at p;obtain⟨a,rfl,q⟩:=p;obtain⟨Y,z,t⟩:=r.at' i a _ q j;exact QJ M s σ H _ v E T lo J sl Q I L hs pl B ⟨a,Y,rfl,jw.of z,λb N=>wR r N (qE.cut t lo J) U⟩
 |tup G =>
  have k:=p;simp only[au] at p;obtain⟨a,Y,rfl,q,t⟩:=p;by_cases C:cy Y.length 0 lo=0/\cy Y.length Y.length J=Y.length
  .cases L
   obtain⟨A,y,w,u⟩:=I.tuple (xW r.sub q);have O:A.toArray.size=Y.length:=by rw[Be];exact y.length.symm
   refine⟨"tuple",_,Du.lookup,w.typeIs,pQ w hs pl B (by rw[O];exact C) ⟨.ref a,H,I,rfl,xr U r ?_⟩⟩
   have e:xA G lo J=G:=by
    unfold xA;rw[t.length,C.1,C.2,<- t.length];simp
   rw[e];exact k
  .exact AM M s σ H _ v E T lo J sl Q I L hs pl B ⟨a,Y,rfl,xW r.sub q,C,λb N=>p9 r N (qE.cut t lo J) U⟩
 |_=>exact Ao U
def UY {lo hi:Ak By}{fl L:DO}(i:PE X e (tD X fe))(n:PO X lo (wy X fl))(s:PO X hi (wy X L)):PE X (.Subscript e (.Slice lo hi none p2) aq) (tD X (mi fe fl L)):=
 ot (G8 _P i n s) λσ H Q ⟨P,α,G,S,r,M,a⟩=>by
  refine⟨P,α,G,S,r,M,?_⟩;have J:qK X P α ((fe G S).bind λd T=>(fl G T).bind λlo C=>(L G C).bind λhi B=>ut d lo hi B) (jf X P α Q):=a;cases q:fe G S with
  |bad=>rw[q] at J;exact J
  |ex c x p=>rw[q] at J;exact J
  |ok d T =>
   rw[q] at J;intro v H1 y N h E A b;refine⟨y,N,G,T,h,M.mono E A,?_⟩;have U:qK X y N ((fl G T).bind λlo C=>(L G C).bind λhi B=>ut d lo hi B) (jf X y N Q):=qW.base E A J;cases w:fl G T with
   |bad=>rw[w] at U;exact U
   |ex c x p=>rw[w] at U;exact U
   |ok l C =>
    rw[w] at U;intro H2 z O t I k;refine⟨z,O,G,C,t,(M.mono E A).mono I k,?_⟩;have Y:qK X z O ((L G C).bind λhi B=>ut d l hi B) (jf X z O Q):=qW.base I k U;cases o:L G C with
    |bad=>rw[o] at Y;exact Y
    |ex c x p=>rw[o] at Y;exact Y
    |ok u B =>
     rw[o] at Y;intro H3 P3 j m g f;exact⟨P3,j,B,d,m,au.mono (I.trans g) (k.trans f) _ _ b,qW.base g f Y⟩
end
end _D
namespace _D
open _L
variable {α:ag}{N:Aa As}{ds tj:Aa D}{bo:Aa Fb}{vs:Aa V}{Q:ae}{C:Af}{Qa Qd:Ag->Prop}{m:Ah}{o':Ak (Ah × MO)}{tp:Au}{xs ys:Az Ac}{h':Bt}{py:Ev}{S SF:ap}{R:Zp->Ag->Prop}{ak gh:qD}
def zU (tp:Au)(h:Bt)(it l:Af)(k:Ah):Prop:=if tp then h.IsTupleIter it l k else h.IsListIter it l k
def wF (tp:Au)(h:Bt)(l:Af)(xs:Az Ac):Prop:=if tp then h.IsTuple l xs else h.IsList l xs
def zU.keep {it l:Af}{k:Ah}(x:zU tp h it l k)(q:∀ o,h.get? it=Ab o->h'.get? it=Ab o):zU tp h' it l k:=by
 cases tp <;> (obtain⟨o,e,r⟩:=x;exact⟨o,q o e,r⟩)
def wF.keep {l:Af}(x:wF tp h l xs)(q:∀ o,h.get? l=Ab o->h'.get? l=Ab o):wF tp h' l xs:=by
 cases tp <;> (obtain⟨o,e,r⟩:=x;exact⟨o,q o e,r⟩)
def zU.there {it l:Af}{k:Ah}(x:zU tp h it l k):∃ o,h.get? it=Ab o/\∀ v,o.data≠.cell v:=by
 cases tp <;> (obtain⟨o,e,_,d⟩:=x;exact⟨o,e,λv z=>by rw[d] at z;cases z⟩)
section
variable {prog:Bi}{w:Bz}{A:Bp}{E:ae}{s:Ag}
def KM {it t:Af}(Y:s.heap.IsTupleIter it t i)(B:s.heap.IsTuple t items)(J:items[i]? = Ab x)
  (G:∀ h',h'.IsTupleIter it t (i+1)->Go it s.heap h'->Q x { s with heap:=h' }) : Aq (Av prog w) A (Eh (.ref it)) Q E s:=by
 obtain⟨o,e,c,d⟩:=id Y;obtain⟨u,O,_,m,U⟩:=B;unfold Eh;refine Ad (Ed (name:=Ic "__next__") Y.typeIs Jq (Ef Jq Y.typeIs Rz ?_ (Ru _)));show Aq _ _ (field (.ref it) 0 >>= _) _ _ s;refine Ad (Ez e d (x:=.ref t) rfl ?_);show Aq _ _ (if (Cb t == Cz)=true then _ else _) _ _ s;rw[Bd (show ¬ ((Cb t == Cz)=true) from En)]
 show Aq _ _ (field (.ref it) 1 >>= _) _ _ s;refine Ad (Ez e d (x:=.int i 0) rfl ?_);show Aq _ _ (seqItems? (.ref t) >>= _) _ _ s;refine Ad (Hu O U ?_);simp only[Em,J];refine Ad (Ki e d bB (Am ⟨x,rfl,Am (G _ ⟨_,EQ _ e (Xd (Og d _)),(AaA ..).trans c,?_⟩ (Fp ..))⟩))
 rw[Og d];simp[Gk]
def cS {it t:Af}{Q:ae}(J:A.handled=none)(Y:s.heap.IsTupleIter it t i)(L:s.heap.IsTuple t items)(G:items[i]? = none)
  (U:∀ h' e,AaP it s.heap h'->(∃ o,h'.get? e=Ab o/\o.cls=.type "StopIteration")->E (.ref e) { s with heap:=h' }) : Aq (Av prog w) A (Eh (.ref it)) Q E s:=by
 obtain⟨o,e,c,d⟩:=id Y;obtain⟨u,B,_,m,O⟩:=L;unfold Eh;refine Ad (Ed (name:=Ic "__next__") Y.typeIs Jq (Ef Jq Y.typeIs Rz ?_ (Ru _)));show Aq _ _ (field (.ref it) 0 >>= _) _ _ s;refine Ad (Ez e d (x:=.ref t) rfl ?_);show Aq _ _ (if (Cb t == Cz)=true then _ else _) _ _ s;rw[Bd (show ¬ ((Cb t == Cz)=true) from En)]
 show Aq _ _ (field (.ref it) 1 >>= _) _ _ s;refine Ad (Ez e d (x:=.int i 0) rfl ?_);show Aq _ _ (seqItems? (.ref t) >>= _) _ _ s;refine Ad (Hu B O ?_);simp only[Em,G];refine Ad (Ho (Ad (Ki e d bB ?_)))
 show Aq _ _ (AaQ (.type "StopIteration") [] >>= _) _ _ _;refine Ad ?_;simp only[AaQ,newTuple];refine Ad (De ?_ (by size_fits))
 refine Ad (m:=Mk _ _) (Px (a:=Cz) (by first|rfl|(simp only[Mk];rfl)) (De ?_ (by size_fits)))
 simp only[AbB];refine Ad (Zf ?_)
 first|rw[show A.in1.handled=none from J]|rw[J]
 exact Ad (Am (AaR (U _ _ (((Fp ..).extBut.push _).push _) ⟨_,Bl _ rfl,rfl⟩)))
theorem mZ {it l:Af}{k:Ah}(Y:zU tp s.heap it l k)(U:wF tp s.heap l xs)(J:xs[k]? = Ab x)
  (G:∀ h',zU tp h' it l (k+1)->Go it s.heap h'->Q x { s with heap:=h' }) : Aq (Av prog w) A (Eh (.ref it)) Q E s:=by
 cases tp with
 |false=>exact wpAny_nextOf_list_item Y U J G
 |true=>exact KM Y U J G
theorem bG {it l:Af}{k:Ah}{Q:ae}(U:A.handled=none)(Y:zU tp s.heap it l k)(O:wF tp s.heap l xs)(G:xs[k]? = none)
  (J:∀ h' e,AaP it s.heap h'->(∃ o,h'.get? e=Ab o/\o.cls=.type "StopIteration")->E (.ref e) { s with heap:=h' }) : Aq (Av prog w) A (Eh (.ref it)) Q E s:=by
 cases tp with
 |false=>exact wpAny_nextOf_list_end U Y O G J
 |true=>exact cS U Y O G J
structure ZA (z I O i j:Af):Prop where
 Iz:I≠z
 Oz:O≠z
 iz:i≠z
 jz:j≠z
 IO:I≠O
 Ii:I≠i
 Ij:I≠j
 Oi:O≠i
 Oj:O≠j
 ij:i≠j
structure Off (z O i j a:Af):Prop where
 z:a≠z
 O:a≠O
 i:a≠i
 j:a≠j
abbrev UF (z O i j:Af)(h h':Bt):Prop:=∀ c o,c≠z->c≠O->c≠i->c≠j->h.get? c=Ab o->h'.get? c=Ab o
def PM {l:Au}{z I O i j a b:Af}{k:Ah}{x y p q:Ac}(D:ZA z I O i j)(Da:Off z O i j a)(Db:Off z O i j b)
  (hz:Sa s.heap z I O .none) (hI:Kx s.heap I (.ref i) (.ref j)) (hO:Kx s.heap O p q) (h1:zU tp s.heap i a k) (h2:zU l s.heap j b k) (ha:wF tp s.heap a xs) (hb:wF l s.heap b ys) (hx:xs[k]? = Ab x) (hy:ys[k]? = Ab y)
  (hQ:∀ h',Sa h' z I O (Gk s.heap.objs.size)->Kx h' O x y->zU tp h' i a (k+1)->zU l h' j b (k+1)->Kx h' s.heap.objs.size x y->h'.objs.size=s.heap.objs.size+1->UF z O i j s.heap h'->Q (.ref s.heap.objs.size) { s with heap:=h' }) :
  Aq (Av prog w) A (Hz.«zip.__next__» ⟨[.ref z],[]⟩) (λfin s'=>∃ v,fin=.done (.ret v)/\Q v s') E s:=by
 show Aq _ _ (field (.ref z) 2 >>= _) _ _ _;refine Ad (Ez hz rfl (x:=.bool false) rfl ?_);show Aq _ _ (field (.ref z) 3 >>= _) _ _ _;refine Ad (Ez hz rfl (x:=.ref I) rfl (Ad (Hu hI rfl ?_)));show Aq _ _ (Hl (.ref z) >>= _) _ _ _;refine Ad ?_;unfold Hl;refine Ad (Ez hz rfl (x:=.none) rfl (Am ?_));simp only[Eb];refine Ad (Ho (Ad (Ez hz rfl (x:=.ref O) rfl (Ad (Jo hz bB λg1 n J=>?_)))))
 replace n:Sa g1 z I O .ellipsis:=n
 refine Ad ?_;simp only[Vb,AbC,Nr,Ov];refine Ad (Ad (Tv ?_));show Aq _ _ (Eh (.ref i) >>= _) _ _ _;refine Ad (mZ (h1.keep λo e=>J.extBut _ _ D.iz e) (ha.keep λo e=>J.extBut _ _ Da.z e) hx λg2 i2 B=>Am ?_);have O2:Kx g2 O p q:=B.extBut _ _ D.Oi (J.extBut _ _ D.Oz hO);refine Ad (Hu O2 rfl (Ad (Qt O2 λg3 h G=>Ad (AaS (Am ?_)))))
 replace h:Kx g3 O x q:=h
 refine Ad (Ad (Tv ?_));show Aq _ _ (Eh (.ref j) >>= _) _ _ _;refine Ad (mZ (h2.keep λo e=>G.extBut _ _ D.Oj.symm (B.extBut _ _ D.ij.symm (J.extBut _ _ D.jz e))) (hb.keep λo e=>G.extBut _ _ Db.O (B.extBut _ _ Db.i (J.extBut _ _ Db.z e))) hy λg4 j4 T=>Am ?_);have O4:Kx g4 O x q:=T.extBut _ _ D.Oj h;refine Ad (Hu O4 rfl (Ad (Qt O4 λY u L=>Ad (AaS (Am (Am ?_))))))
 replace u:Kx Y O x y:=u
 refine Ad (Hu u rfl (Ad (wpAny_newTuple ?_)));have sz:Y.objs.size=s.heap.objs.size:=by rw[L.1,T.1,G.1,B.1,J.1]
 have z5:Sa Y z I O .ellipsis:=L.extBut _ _ D.Oz.symm (T.extBut _ _ D.jz.symm (G.extBut _ _ D.Oz.symm (B.extBut _ _ D.iz.symm n)));have k5:UF z O i j s.heap Y:=λc o U d c3 c4 e=>L.extBut _ _ d (T.extBut _ _ c4 (G.extBut _ _ d (B.extBut _ _ c3 (J.extBut _ _ U e))));have i5:zU tp Y i a (k+1):=i2.keep λo e=>L.extBut _ _ D.Oi.symm (T.extBut _ _ D.ij (G.extBut _ _ D.Oi.symm e));have j5:zU l Y j b (k+1):=j4.keep λo e=>L.extBut _ _ D.Oj.symm e;have zl:z<Y.objs.size:=Bf z5;show Aq _ _ (Nt (.ref z) (.ref Y.objs.size) >>= _) _ _ _;refine Ad ?_;unfold Nt;have z6:Sa (Y.push { cls:=.type "tuple",data:=.seq #[x,y] }) z I O .ellipsis:=Aj _ z5;refine Ad (Jo z6 bB λg7 r f=>?_)
 replace r:Sa g7 z I O (Gk Y.objs.size):=r
 refine Jo r bB λM g t=>?_
 replace g:Sa M z I O (Gk Y.objs.size):=g
 have up:∀ c o,c≠z->Y.get? c=Ab o->M.get? c=Ab o:=λc o U e=>t.extBut _ _ U (f.extBut _ _ U (Aj _ e));have T8:Kx M Y.objs.size x y:=t.extBut _ _ (Jc zl) (f.extBut _ _ (Jc zl) (Bl _ rfl));have H:M.objs.size=Y.objs.size+1:=by rw[t.1,f.1,Fl]
 rw[sz] at g T8 H;refine Am ⟨_,rfl,?_⟩;show Q (.ref Y.objs.size) _;rw[sz];exact hQ M g (up _ _ D.Oz u) (i5.keep λo e=>up _ o D.iz e) (j5.keep λo e=>up _ o D.jz e) T8 H λc o U d c3 c4 e=>up c o U (k5 c o U d c3 c4 e)
end
section
variable {prog:Bi}{w:Bz}{A:Bp}{E:ae}{s:Ag}
theorem PP {tq:Au}{z I O i j a b:Af}{k:Ah}{p q:Ac}{Q:Fin->Ag->Prop}(hh:A.handled=none)(D:ZA z I O i j)(Da:Off z O i j a)(t:Off z O i j b)
  (hz:Sa s.heap z I O .none) (hI:Kx s.heap I (.ref i) (.ref j)) (hO:Kx s.heap O p q) (h1:zU tp s.heap i a k) (h2:zU tq s.heap j b k) (ha:wF tp s.heap a xs) (hb:wF tq s.heap b ys) (L:xs[k]? = none\/ys[k]? = none)
  (hE:∀ h' e,UF z O i j s.heap h'->(∃ o,h'.get? e=Ab o/\o.cls=.type "StopIteration")->E (.ref e) { s with heap:=h' }) : Aq (Av prog w) A (Hz.«zip.__next__» ⟨[.ref z],[]⟩) Q E s:=by
 show Aq _ _ (field (.ref z) 2 >>= _) _ _ _;refine Ad (Ez hz rfl (x:=.bool false) rfl ?_);show Aq _ _ (field (.ref z) 3 >>= _) _ _ _;refine Ad (Ez hz rfl (x:=.ref I) rfl (Ad (Hu hI rfl ?_)));show Aq _ _ (Hl (.ref z) >>= _) _ _ _;refine Ad ?_;unfold Hl;refine Ad (Ez hz rfl (x:=.none) rfl (Am ?_));simp only[Eb];refine Ad (Ho (Ad (Ez hz rfl (x:=.ref O) rfl (Ad (Jo hz bB λd u J=>?_)))))
 replace u:Sa d z I O .ellipsis:=u
 refine Ad ?_;simp only[Vb,AbC,Nr,Ov];refine Ad (Ad (Tv ?_));show Aq _ _ (Eh (.ref i) >>= _) _ _ _;have G:zU tp d i a k:=h1.keep λo e=>J.extBut _ _ D.iz e;have M:wF tp d a xs:=ha.keep λo e=>J.extBut _ _ Da.z e;cases l:xs[k]? with
 |none =>
  refine Ad (bG hh G M l λf e x2 v=>?_);obtain⟨r,U,B⟩:=v;have z2:Sa f z I O .ellipsis:=x2 _ _ D.iz.symm u;have g:e≠z:=λy=>by subst y;rw[z2] at U;cases U;simp at B
  exact Jo z2 bB λg3 _ Y=>hE g3 e (λc o T _ n _ y=>Y.extBut _ _ T (x2 _ _ n (J.extBut _ _ T y))) ⟨r,Y.extBut _ _ g U,B⟩
 |some x =>
  have hy:ys[k]? = none:=by
   rcases L with y|y
   .rw[l] at y;cases y
   .exact y
  refine Ad (mZ G M l λf i2 H=>Am ?_);have O2:Kx f O p q:=H.extBut _ _ D.Oi (J.extBut _ _ D.Oz hO);refine Ad (Hu O2 rfl (Ad (Qt O2 λg3 O3 Y=>Ad (AaS (Am ?_)))));refine Ad (Ad (Tv ?_));show Aq _ _ (Eh (.ref j) >>= _) _ _ _;refine Ad (bG hh (h2.keep λo e=>Y.extBut _ _ D.Oj.symm (H.extBut _ _ D.ij.symm (J.extBut _ _ D.jz e))) (hb.keep λo e=>Y.extBut _ _ t.O (H.extBut _ _ t.i (J.extBut _ _ t.z e))) hy λg4 e x4 v=>?_);obtain⟨r,U,B⟩:=v;have z4:Sa g4 z I O .ellipsis:=x4 _ _ D.jz.symm (Y.extBut _ _ D.Oz.symm (H.extBut _ _ D.iz.symm u));have g:e≠z:=λy=>by subst y;rw[z4] at U;cases U;simp at B
  exact Jo z4 bB λg5 _ h=>hE g5 e (λc o T c2 n c4 y=>h.extBut _ _ T (x4 _ _ c4 (Y.extBut _ _ c2 (H.extBut _ _ n (J.extBut _ _ T y))))) ⟨r,h.extBut _ _ g U,B⟩
noncomputable abbrev nD (tp:Au)(l:Af):Cp:={ cls:=.type (if tp then "tuple_iterator" else "list_iterator"),data:=.fields #[.ref l,.int 0 0] }
abbrev yq (tp:Au)(h:Bt)(a:Af):Bt:=h.push (nD tp a)
abbrev yp (tp Y:Au)(h:Bt)(a b:Af):Bt:=(yq tp h a).push (nD Y b)
abbrev yo (tp Y:Au)(h:Bt)(a b:Af):Bt:=(yp tp Y h a b).push { cls:=.type "tuple",data:=.seq #[.ref h.objs.size,.ref (yq tp h a).objs.size] }
abbrev yn (tp Y:Au)(h:Bt)(a b:Af):Bt:=(yo tp Y h a b).push { cls:=.type "tuple",data:=.seq #[.none,.none] }
abbrev uk (tp Y:Au)(h:Bt)(a b:Af):Bt:=(yn tp Y h a b).push { cls:=.type "zip",data:=.fields #[.none,.bool false,.bool false,.ref (yp tp Y h a b).objs.size,.ref (yo tp Y h a b).objs.size] }
set_option maxHeartbeats 4000000 in
def LZ (tp:Au)(a b:Af)(xs ys:Az Ac) :
  Meets (Hz.«zip.__new__» ⟨[.type "zip",.ref a,.ref b],[]⟩) (λ_ R s=>wF tp s.heap a xs/\wF tp s.heap b ys/\R (.ok (.ret (.ref (yn tp tp s.heap a b).objs.size))) { s with heap:=uk tp tp s.heap a b }):=
 .of_wp λprog w A R s h=>by
  obtain⟨Y,g,d,J,os⟩:=s;obtain⟨T,I,h⟩:=h;have B:=sub_zip;have L:∀ O:Cp,wF tp (Y.push O) b ys:=λO=>I.keep λo e=>Aj _ e;cases tp
  .have U:Heap.IsList (Xe ⟨Y,g,d,J,os⟩) a xs:=T
   have G:Heap.IsList (Xe ⟨Y.push { cls:=.type "list_iterator",data:=.fields #[.ref a,.int 0 0] },g,d,J,os⟩) b ys:=L _
   wp_walk using Ja U,Ja G
   exact⟨_,rfl,h⟩
  .have U:Heap.IsTuple (Xe ⟨Y,g,d,J,os⟩) a xs:=T
   have G:Heap.IsTuple (Xe ⟨Y.push { cls:=.type "tuple_iterator",data:=.fields #[.ref a,.int 0 0] },g,d,J,os⟩) b ys:=L _
   wp_walk using Jn U,Jn G
   exact⟨_,rfl,h⟩
def nG {h:Bt}{it l:Af}(e:h.get? it=Ab (nD tp l)):zU tp h it l 0:=by
 cases tp
 .exact⟨_,e,rfl,rfl⟩
 .exact⟨_,e,rfl,rfl⟩
def UM {a b:Af}(H:wF tp s.heap a xs)(M:wF tp s.heap b ys)
  (h:∀ h',Sa h' (s.heap.objs.size+4) (s.heap.objs.size+2) (s.heap.objs.size+3) .none->Kx h' (s.heap.objs.size+2) (.ref s.heap.objs.size) (.ref (s.heap.objs.size+1)) ->
   Kx h' (s.heap.objs.size+3) .none .none->zU tp h' s.heap.objs.size a 0->zU tp h' (s.heap.objs.size+1) b 0->h'.objs.size=s.heap.objs.size+5->(∀ c o,s.heap.get? c=Ab o->h'.get? c=Ab o)->Q (.ref (s.heap.objs.size+4)) { s with heap:=h' }) :
  Aq (Av prog w) A (call (.type "zip") [.ref a,.ref b]) Q E s:=by
 refine callType_new F.called_zip bU (F.typeCall_zip_2 _ _) (F.newCall_zip_2 _ _) (λY=>F.args_object_init_3 Y _ _) F.entry_zip_new (LZ tp a b xs ys) ⟨H,M,?_⟩
 have J:(yq tp s.heap a).objs.size=s.heap.objs.size+1:=Fl ..;have G:(yp tp tp s.heap a b).objs.size=s.heap.objs.size+2:=by rw[Fl,J]
 have U:(yo tp tp s.heap a b).objs.size=s.heap.objs.size+3:=by rw[Fl,G]
 have B:(yn tp tp s.heap a b).objs.size=s.heap.objs.size+4:=by rw[Fl,U]
 have j:(uk tp tp s.heap a b).objs.size=s.heap.objs.size+5:=by rw[Fl,B]
 have O:(uk tp tp s.heap a b).get? (yn tp tp s.heap a b).objs.size=Ab _:=Bl _ rfl;have I:(uk tp tp s.heap a b).get? (yo tp tp s.heap a b).objs.size=Ab _:=Aj _ (Bl _ rfl);have L:(uk tp tp s.heap a b).get? (yp tp tp s.heap a b).objs.size=Ab _:=Aj _ (Aj _ (Bl _ rfl));have T:(uk tp tp s.heap a b).get? (yq tp s.heap a).objs.size=Ab (nD tp b):=Aj _ (Aj _ (Aj _ (Bl _ rfl)));have y:(uk tp tp s.heap a b).get? s.heap.objs.size=Ab (nD tp a):=Aj _ (Aj _ (Aj _ (Aj _ (Bl _ rfl))));have z:∀ c o,s.heap.get? c=Ab o->(uk tp tp s.heap a b).get? c=Ab o:=λc o e=>Aj _ (Aj _ (Aj _ (Aj _ (Aj _ e))));show _/\_;rw[G,U,B] at O;rw[J,G] at L;rw[U] at I;rw[J] at T;rw[B];exact⟨⟨_,O,rfl⟩,h _ O L I (nG y) (nG T) j z⟩
end
def Sq (tp:Au)(K:Ai)(H:Hp)(a:Af)(xs:Aa V):Prop:=if tp then jh K H a xs else jw K H a xs
section
variable {X:Cx}{aj:aa}{σ: _L.St}{H:Hp}{s:Ag}
def Sq.at {a:Af}{xs:Aa V}(I:Inv X aj σ H s)(q:Sq tp X.K H a xs):∃ its,qM xs its/\wF tp s.heap a its.toArray:=by
 cases tp with
 |true =>
  obtain⟨its,Y,p,_⟩:=I.tuple q;exact⟨its,Y,p⟩
 |false =>
  obtain⟨its,Y,p,_⟩:=I.list q;exact⟨its,Y,p.isList⟩
def Sq.inj {a:Af}{xs ys:Aa V}(I:Inv X aj σ H s)(q:Sq tp X.K H a xs)(Y:Sq tp X.K H a ys):xs=ys:=by
 cases tp with
 |true=>exact I.tuple_inj q Y
 |false=>exact I.list_inj q Y
def Sq.off {a b:Af}{xs:Aa V}(I:Inv X aj σ H s)(q:Sq tp X.K H a xs)(f:xR X aj H b):a≠b:=by
 have Y:H a≠none\/∃ o,X.K.lookup a=Ab o:=by
  cases tp with
  |true =>
   rcases q with (q|⟨o,q⟩)|⟨o,_,_,q,_⟩
   .exact .inl (by rw[q];intro z;cases z)
   .exact .inl (by rw[q];intro z;cases z)
   .exact .inr ⟨_,q⟩
  |false =>
   rcases q with (q|⟨o,q⟩)|⟨o,_,_,q,_⟩
   .exact .inl (by rw[q];intro z;cases z)
   .exact .inl (by rw[q];intro z;cases z)
   .exact .inr ⟨_,q⟩
 rintro rfl;rcases Y with k|⟨o,k⟩
 .exact k f.1
 .have e:=I.mod.kin a o k
  rcases f.2.2.2.1 with z|z
  .exact I.ok.noex a o e z
  .exact absurd (Bf (I.ok.bs a o e).1) (Pk.mpr z)
def Inv.turnLay {fp:ag}{T:Af}{xs:Aa V}{its:ai}(I:Inv X aj σ H s)(J:∀ b∈fp,xR X aj H b)(k:∀ b o,b ∉ fp->s.heap.get? b=Ab o->h'.get? b=Ab o)(y:∀ b∈fp,∃ o,h'.get? b=Ab o)
  (hT:s.heap.objs.size<=T) (w:qM xs its) (O:Rw h' T its.toArray) (hz:xs.length<=sizeLine):Inv X aj σ (cc H T (.tup xs)) { s with heap:=h' }:=by
 have U:H T=none:=I.hok.fresh hT;have L:∀ b o,s.heap.get? b=Ab o->b≠T:=λb o e=>Cn (Bh (Bf e) hT);refine I.step (g':=s.gens) (d':=s.drawn) (t':=s.toks) (ch:=fp) (λb Y=>⟨(J b Y).2.2.2.1,(J b Y).2.1,(J b Y).2.2.2.2.1,(J b Y).2.2.2.2.2⟩) (λb o _ _ hc e _=>k b o hc e) (λb o _ _ hc e _=>⟨o.slots,k b o hc e⟩)
  (λb o _ e n=>by rw[qL (L b o e)];exact n) (λb o hc e=>⟨o,k b o hc e⟩) (λb ys e=>by rw[qL (qT e U)];exact e) (λb o u e=>by rw[qL (qT e U)];exact e)
  (λb j e=>⟨#[],by rw[qL (qT e U),e];simp⟩) (λm E=>?_) (λb u e=>?_) I.bare
 .obtain⟨o,A,M,B,r⟩:=E
  exact⟨o,A,M,k _ o (λz=>(J _ z).2.1 rfl) B,r⟩
 .by_cases Y:b=T
  .subst Y
   rw[qV] at e;cases e;exact⟨hz,its,w,O⟩
  .rw[qL Y] at e
   refine(I.hok b u e).stay (λc v hc q=>k c v (λz=>?_) q) (λc q=>by rw[qL (qT q U)];exact q) λc ys q=>by rw[qL (qT q U)];exact q
   have G:=(J c z).1;rcases hc with rfl|hc
   .rw[G] at e;cases e
   .rw[G] at hc;cases hc
def Inv.turnL {fp:ag}(I:Inv X aj σ H s)(Y:∀ b∈fp,xR X aj H b)(k:∀ b o,b ∉ fp->s.heap.get? b=Ab o->h'.get? b=Ab o):Inv X aj σ H { s with heap:=h' }:=by
 refine I.step (g':=s.gens) (d':=s.drawn) (t':=s.toks) (ch:=fp) (λb U=>⟨(Y b U).2.2.2.1,(Y b U).2.1,(Y b U).2.2.2.2.1,(Y b U).2.2.2.2.2⟩) (λb o _ _ hc e _=>k b o hc e) (λb o _ _ hc e _=>⟨o.slots,k b o hc e⟩)
  (λb o _ e n=>n) (λb o hc e=>⟨o,k b o hc e⟩) (λb ys e=>e) (λb o u e=>e) (λb T e=>⟨#[],by rw[e];simp⟩) (λm O=>?_) (λb u e=>?_) I.bare
 .obtain⟨o,B,L,G,r⟩:=O
  exact⟨o,B,L,k _ o (λz=>(Y _ z).2.1 rfl) G,r⟩
 .refine(I.hok b u e).stay (λc v hc q=>k c v (λz=>?_) q) (λc q=>q) λc ys q=>q
  have J:=(Y c z).1;rcases hc with rfl|hc
  .rw[J] at e;cases e
  .rw[J] at hc;cases hc
end
def _q (tp:Au)(K:Ai)(a b:Af):It:=
  ⟨λi H=>∃ xs ys x y,Sq tp K H a xs/\Sq tp K H b ys/\xs[i]? = Ab x/\ys[i]? = Ab y,
   λi H v Y=>∃ T x y,v=.ref T/\H T=none/\Y=cc H T (.tup [x,y])/\(∀ xs,Sq tp K H a xs->xs[i]? = Ab x)/\∀ ys,Sq tp K H b ys->ys[i]? = Ab y,
   λi H=>∃ xs ys,Sq tp K H a xs/\Sq tp K H b ys/\(xs.length<=i\/ys.length<=i)⟩
def ZC (tp:Au)(z I O i j a b:Af)(k:Ah)(h:Bt):Prop:=∃ p q,Sa h z I O .none/\Kx h I (.ref i) (.ref j)/\Kx h O p q/\zU tp h i a k/\zU tp h j b k
def bN {z I O i j a b:Af}{k:Ah}(st:ZC tp z I O i j a b k h):∀ c∈[z,I,O,i,j],∃ o,h.get? c=Ab o/\∀ v,o.data≠.cell v:=λc Y=>by
 obtain⟨p,q,L,U,J,B,G⟩:=st;simp only[Ba,Dv,HT] at Y;rcases Y with rfl|rfl|rfl|rfl|rfl
 .exact⟨_,L,λv y=>by cases y⟩
 .exact⟨_,U,λv y=>by cases y⟩
 .exact⟨_,J,λv y=>by cases y⟩
 .exact B.there
 .exact G.there
def BJ {c z I O i j:Af}(h:c ∉ [z,I,O,i,j]):c≠z/\c≠O/\c≠i/\c≠j:=by
 simp only[Ba,Dv,HT,not_or] at h;exact⟨h.1,h.2.2.1,h.2.2.2.1,h.2.2.2.2⟩
def PF {P:Bi}{K:Ai}{z I O i j a b:Af}(D:ZA z I O i j):mw P w K (.Tuple pj x1 o_) (_q tp K a b) [z,I,O,i,j] z (ZC tp z I O i j a b) where
 mem:=.head _
 obj:=λk h st=>bN st
 keep:=λk h h' st A=>by
  obtain⟨p,q,B,M,v,d,f⟩:=st;exact⟨p,q,A z (.head _) _ B,A I (.tail _ (.head _)) _ M,A O (.tail _ (.tail _ (.head _))) _ v,d.keep λo e=>A i (.tail _ (.tail _ (.tail _ (.head _)))) o e,f.keep λo e=>A j (.tail _ (.tail _ (.tail _ (.tail _ (.head _))))) o e⟩
 item:=by
  intro X hP hw hK Y k aj s σ H E J U st hg;subst hP hw hK;obtain⟨p,q,B,M,v,d,f⟩:=st;obtain⟨xs,ys,x,y,g,r,hx,hy⟩:=hg;obtain⟨ia,ra,ha⟩:=g.at J;obtain⟨ib,rb,hb⟩:=r.at J;obtain⟨u,hu,ru⟩:=ra.get hx;obtain⟨u',zc,zv⟩:=rb.get hy;have G:∀ {c:Af} {l:Aa V},Sq tp X.K H c l->Off z O i j c:=λ{c l} L=>⟨L.off J (U z (.head _)),L.off J (U O (.tail _ (.tail _ (.head _)))),L.off J (U i (.tail _ (.tail _ (.tail _ (.head _))))),L.off J (U j (.tail _ (.tail _ (.tail _ (.tail _ (.head _))))))⟩;have hT:s.TypeIs (.ref z) "zip":=⟨_,B,rfl⟩;unfold Ms;refine Ad (Jg (Ed (name:=Ic "__next__") hT Rb (Ef Rb hT AaT
   (PM D (G g) (G r) B M v d f ha hb (by simpa using hu) (by simpa using zc) λh' a1 a2 a3 a4 a5 a6 a7=>Am ?_) (AaB _))))
  refine⟨_,rfl,wpAny_letOwnedTupleGo_zip (s:={ s with heap:=h' }) a1 λh2 b1 b2=>?_⟩
  have up:∀ c o,c≠z->h'.get? c=Ab o->h2.get? c=Ab o:=λc o n e=>(b2.2 c n).trans e;have zl:z<s.heap.objs.size:=Bf B;have T2:Kx h2 s.heap.objs.size u u':=up _ _ (Jc zl) a5;have zb:ZC tp z I O i j a b (k+1) h2:=⟨u,u',b1,up _ _ D.Iz (a7 I _ D.Iz D.IO D.Ii D.Ij M),up _ _ D.Oz a2,a3.keep λo e=>up _ o D.iz e,a4.keep λo e=>up _ o D.jz e⟩;refine⟨.ref s.heap.objs.size,cc H s.heap.objs.size (.tup [x,y]),?_,rfl,⟨_,x,y,rfl,J.hok.fresh (Ax _),rfl,λl qz=>by rw[qz.inj J g];exact hx,λl qz=>by rw[qz.inj J r];exact hy⟩,zb,λc Y=>?_⟩
  .show _L.Inv X aj σ (cc H s.heap.objs.size (.tup [x,y])) { s with heap:=h2 }
   refine Inv.turnLay (fp:=[z,I,O,i,j]) (its:=[u,u']) J U (λc o Y e=>?_) (λc Y=>?_) (Ax _) (.cons ru (.cons zv .nil)) ⟨_,T2,rfl,_,rfl⟩ (by show 2<=sizeLine;decide)
   .have Y:=BJ Y
    exact up c o Y.1 (a7 c o Y.1 Y.2.1 Y.2.2.1 Y.2.2.2 e)
   .obtain⟨o,e,_⟩:=bN zb c Y
    exact⟨o,e⟩
  .have hn:=(U c Y).1
   rw[qL ?_]
   .exact hn
   .rintro rfl
    obtain⟨o,e,_⟩:=bN ⟨p,q,B,M,v,d,f⟩ _ Y;exact absurd (Bf e) (Fe _)
 done:=by
  intro X hP hw hK Y k aj s σ H E J U st hg;subst hP hw hK;obtain⟨p,q,B,M,v,d,f⟩:=st;obtain⟨xs,ys,g,r,t⟩:=hg;obtain⟨ia,ra,ha⟩:=g.at J;obtain⟨ib,rb,hb⟩:=r.at J;have G:∀ {c:Af} {l:Aa V},Sq tp X.K H c l->Off z O i j c:=λ{c l} L=>⟨L.off J (U z (.head _)),L.off J (U O (.tail _ (.tail _ (.head _)))),L.off J (U i (.tail _ (.tail _ (.tail _ (.head _))))),L.off J (U j (.tail _ (.tail _ (.tail _ (.tail _ (.head _))))))⟩;have hT:s.TypeIs (.ref z) "zip":=⟨_,B,rfl⟩;have l1:=ra.length;have l2:=rb.length;unfold Ms;refine Ad (Jg (Ed (name:=Ic "__next__") hT Rb (Ef Rb hT AaT
   (PP (J.ok.hd Y) D (G g) (G r) B M v d f ha hb ?_ λh' e A he=>?_) (AaB _))))
  .rcases t with y|y
   .exact .inl (by simp;lia)
   .exact .inr (by simp;lia)
  .obtain⟨o,ho,zx⟩:=he
   refine Ad (Qc (T:="StopIteration") (b:=true) ⟨o,ho,zx⟩ Xx (Am ⟨rfl,Inv.turnL (fp:=[z,I,O,i,j]) J U λc o Y e=>?_⟩));have Y:=BJ Y;exact A c o Y.1 Y.2.1 Y.2.2.1 Y.2.2.2 e
 self:=λ_ _ _ _ _ st h=>by
  obtain⟨p,q,B,_⟩:=st;exact wpAny_pyIter_zip B h
noncomputable def vJ (xs ys:Aa D):Aa D:=List.zipWith (λx y=>D.tup [x,y]) xs ys
def IT (ds:Aa D):Ak (Aa D):=match ds with
 |[.tup xs,.tup ys]=>Ab (vJ xs ys)
 |[.lst xs,.lst ys]=>Ab (vJ xs ys)
 |_=>none
def lJ (f:DA):DI:=λak S=>(f ak S).bind λds Y=>uK (IT ds) Y
def PL {xs ys:Aa D}{i:Ah}:(vJ xs ys)[i]? = match xs[i]?,ys[i]? with|some x,Ab y=>Ab (D.tup [x,y])|_,_=>none:=by
 unfold vJ;rw[List.getElem?_zipWith];cases xs[i]? <;> cases ys[i]? <;> rfl
def tM (xs ys:Aa D):(vJ xs ys).length=min xs.length ys.length:=by simp[vJ]
section
variable {K:Ai}
def Sq.mono {P Y:Hp}(e:qF P Y){a:Af}{xs:Aa V}(q:Sq tp K P a xs):Sq tp K Y a xs:=by
 cases tp with
 |true=>exact wD e q
 |false=>exact e.seq q
def MM {P:Hp}{a b:Af}{xs ys:Aa D}(E:Sq tp K P a vs)(B:Sq tp K P b Y)(L:qE K P α xs vs)(G:qE K P α ys Y):wg K (_q tp K a b) P α (vJ xs ys) where
 go:=λi H z J S U r e _=>by
  rw[tM] at U;have A:i<vs.length:=by rw[<- L.length];lia
  have O:i<Y.length:=by rw[<- G.length];lia
  exact⟨vs,Y,vs[i],Y[i],E.mono (e.trans r.sub),B.mono (e.trans r.sub),by simp,by simp⟩
 yld:=λi H x s z J S U r e j y=>by
  obtain⟨T,u,w,rfl,q,rfl,f,g⟩:=y;rw[tM] at U;have A:i<xs.length:=by lia
  have O:i<ys.length:=by lia
  obtain⟨v1,c,p⟩:=L.get (Ar A);obtain⟨t,l,d⟩:=G.get (Ar O);have k:=f vs (E.mono (e.trans r.sub));have M:=g Y (B.mono (e.trans r.sub));rw[c] at k;cases k;rw[l] at M;cases M;obtain⟨v,I⟩:=r.pure (o:=.tup [u,w]) q;refine⟨_,.tup [xs[i],ys[i]],?_,v,I,?_⟩
  .rw[PL,Ar A,Ar O]
  .exact Q5 (.of qV) (.cons (au.mono (e.trans I) j _ _ p) (.cons (au.mono (e.trans I) j _ _ d) .nil))
 stop:=λi H z J S U r e _=>by
  rw[tM] at U;have n:=L.length;have h:=G.length;exact⟨vs,Y,E.mono (e.trans r.sub),B.mono (e.trans r.sub),by lia⟩
end
section
variable {X:Cx}{e1 e2:By}{pj:Aa By}{x1:Ah}{o_:Ev}{f:DA}{p aq:Ev}
def UD {σ:_L.St}{H P:Hp}{a b:Af}{xs ys:Aa D}{R:It->Hp->Prop}(I:Inv X aj σ H s)(r:bf X.K H P α S)(G:Sq tp X.K P a vs)(U:Sq tp X.K P b Y)(k:qE X.K P α xs vs)(E:qE X.K P α ys Y)
  (q:wv X P α R (vJ xs ys) S):ce X (call (.type "zip") [.ref a,.ref b]) (λv u=>ce X (Rj v) (wu X aj σ (.Tuple pj x1 o_) R) X.xe u) X.xe s:=by
 obtain⟨l,d,L⟩:=(G.mono r.sub).at I;obtain⟨o,t,A⟩:=(U.mono r.sub).at I;refine UM L A λh' O w T y j g M=>?_;refine wpAny_pyIter_zip (s:={ s with heap:=h' }) O ?_
 have D:ZA (s.heap.objs.size+4) (s.heap.objs.size+2) (s.heap.objs.size+3) s.heap.objs.size (s.heap.objs.size+1):=by constructor <;> (intro z;simp at z)
 refine⟨_,[s.heap.objs.size+4,s.heap.objs.size+2,s.heap.objs.size+3,s.heap.objs.size,s.heap.objs.size+1],_,_,H,rfl,I.kept (t':=s.toks) M,PF (a:=a) (b:=b) D,⟨_,_,O,w,T,y,j⟩,λc J=>?_,q _ _ P α r (qF.refl _) (AT _) (MM G U k E)⟩;have B:s.heap.objs.size<=c:=by
  simp only[Ba,Dv,HT] at J;rcases J with rfl|rfl|rfl|rfl|rfl <;> simp
 exact I.fpOk B (I.hok.fresh B)
inductive A_ (ds:Aa D)(its:Aa D):Prop
 |tup (xs ys:Aa D) (ed:ds=[.tup xs,.tup ys]) (e:its=vJ xs ys)
 |lst (xs ys:Aa D) (ed:ds=[.lst xs,.lst ys]) (e:its=vJ xs ys)
def LY (h:IT ds=Ab its):A_ ds its:=by
 cases ds with
 |nil=>exact nn h
 |cons a ds =>
  cases a with
  |tup xs =>
   cases ds with
   |nil=>exact nn h
   |cons b ds =>
    cases b with
    |tup ys =>
     cases ds with
     |nil=>exact .tup xs ys rfl (Dd h).symm
     |cons _ _=>exact nn h
    |_=>exact nn h
  |lst xs =>
   cases ds with
   |nil=>exact nn h
   |cons b ds =>
    cases b with
    |lst ys =>
     cases ds with
     |nil=>exact .lst xs ys rfl (Dd h).symm
     |cons _ _=>exact nn h
    |_=>exact nn h
  |_=>exact nn h
def R3 (hg:Gl X "zip")(hm:X.mg "zip" = none)(d:PA X [e1,e2] (ku X f))(hs:Bk [e1,e2] X.env=(false,eval e1 X.env)::Bk [e2] X.env:=by rfl)(B:(Ga aq (Bk [e2] X.env)).any (·.1)=false:=by rfl) :
  PI X (.Tuple pj x1 o_) (.Call (.Name "zip" p) [e1,e2] [] aq) (vt X (lJ f)):=by
 intro aj s σ H R I h;obtain⟨P,α,ak,S,r,g,i⟩:=h;refine Call_ (u7 I hg hm boot_zip (Ht (bv (wV d I r g i aq) λus s1 ⟨vs,H1,P1,o,ds,S1,z,j,k,l,y,e1,e2,T⟩=>?_) hs B));obtain⟨n,c,q⟩:=uU T;cases LY c with
 |tup xs ys M e =>
  subst M e;obtain⟨v,w,u,x,rfl,rfl,Y,J,L,G⟩:=pC y j;simp only[au] at Y J;obtain⟨a,va,rfl,U,E⟩:=Y;obtain⟨b,t,rfl,A,O⟩:=J;cases (show u=Cb a from L)
  cases (show x=Cb b from G)
  exact UD (tp:=true) z k U A E O (q.base e1 e2)
 |lst xs ys M e =>
  subst M e;obtain⟨v,w,u,x,rfl,rfl,Y,J,L,G⟩:=pC y j;simp only[au] at Y J;obtain⟨a,va,rfl,U,E⟩:=Y;obtain⟨b,t,rfl,A,O⟩:=J;cases (show u=Cb a from L)
  cases (show x=Cb b from G)
  exact UD (tp:=false) z k U.l A.l E O (q.base e1 e2)
end
def tw (K:Ai)(mg:ah)(x:As)(st:Fb)(ps:Aa As):Prop:=∃ f Y,mg x=Ab (.ref f)/\sx K x x st f Y/\vS K Y ps []
def Lk (K:Ai)(f:Af)(fd:Gc):Prop:=∃ U J Y,K.lookup f=Ab ⟨U,J,.func fd,Y⟩
def bZ {K:Ai}{st:Fb}(F:sx K x q st f fd):Lk K f fd:=by
 obtain⟨O,J,kV,G,T,B,U,L,Y,_,lk,_⟩:=F.ex;exact⟨O,J,Y,lk⟩
def Lk.one {K:Ai}(h:Lk K f fd)(h':Lk K f Y):fd=Y:=by
 obtain⟨T,L,B,e⟩:=h;obtain⟨G,O,U,J⟩:=h';rw[e] at J;cases J;rfl
def oq (P:Bi)(w:Bz)(K:Ai)(mg:ah)(base:Bt)(cm:Au)(k:Ah)(x:As)(n:Ah)(F:DF):Prop:=
 ∃ f J Y,Y.length=n/\mg x=Ab (.ref f)/\Fd K (.ref f)=true/\vS K J Y [] /\ Lk K f J/\oo P w K mg base cm k f J Y (uo K n F)
def eC (P:Bi)(w:Bz)(K:Ai)(mg:ah)(base:Bt)(cm:Au)(k:Ah)(x:As)(ps:Aa As)(F:DF):Prop:=
 ∃ f Y,mg x=Ab (.ref f)/\Fd K (.ref f)=true/\vS K Y ps [] /\ Lk K f Y/\oo P w K mg base cm k f Y ps (uo K ps.length F)
section
variable {P:Bi}{w:Bz}{K:Ai}{mg:ah}{base:Bt}{cm:Au}
def PZ {Y:Ac}(hm:mg x=Ab (.ref f))(lk:Lk K f fd)(h:fd.code=Y/\Mod K mg base):gH K x Y:=λc T e=>by
 obtain⟨G,U,J,lk⟩:=lk;rw[<- h.1];exact PySem.W.law_code h.2.kin h.2.glob e hm (h.2.kin _ _ lk) rfl
def SX {st:Fb}{k:Ah}{g:DS}(h:tw K mg x st ps)(S:dc N ps (qH st))
  (J:∀ (f:Af) (Y:Ac) (A:Bp) (U:Aa Ix) (s:Ag) (H:Hp) (E:XK),gH K x Y->ax cm k (A.deeper (Gu x (qH st) s.heap.objs.size f Y)) ->
   im (kw cm P w K mg base N x (qH st) f Y A U s H E) (zR st) (ii (kw cm P w K mg base N x (qH st) f Y A U s H E) g)):oq P w K mg base cm (k+1) x ps.length (qO N.length g):=by
 obtain⟨f,T,G,F,B⟩:=h;exact⟨f,T,ps,rfl,G,F.kp,B,bZ F,fnX F S λY A U s H E O L=>J f Y A U s H E (PZ G (bZ F) O) L⟩
def FN {st:Fb}{k:Ah}{g:DS}(h:tw K mg x st ps)(S:dc N ps (qH st))
  (J:∀ (f:Af) (Y:Ac) (A:Bp) (U:Aa Ix) (s:Ag) (H:Hp) (E:XK),gH K x Y->ax cm k (A.deeper (Gu x (qH st) s.heap.objs.size f Y)) ->
   im (kw cm P w K mg base N x (qH st) f Y A U s H E) (zR st) (ii (kw cm P w K mg base N x (qH st) f Y A U s H E) g)):eC P w K mg base cm (k+1) x ps (qO N.length g):=by
 obtain⟨f,T,G,F,B⟩:=h;exact⟨f,T,G,F.kp,B,bZ F,fnX F S λY A U s H E O L=>J f Y A U s H E (PZ G (bZ F) O) L⟩
def oq.mono {j k n:Ah}{F:DF}(h:oq P w K mg base cm j x n F)(I:j<=k:=by decide):oq P w K mg base cm k x n F:=by
 obtain⟨f,y,U,Y,M,B,G,L,X⟩:=h;exact⟨f,y,U,Y,M,B,G,L,X.len,λA z s H J T vs Q E O=>X.run A z s H J T vs Q E (O.mono I)⟩
def oq.any {k n:Ah}{F:DF}(h:oq P w K mg base false k x n F):oq P w K mg base cm k x n F:=by
 obtain⟨f,L,J,Y,B,G,U,O,X⟩:=h;exact⟨f,L,J,Y,B,G,U,O,X.any⟩
end
section
variable {X:Cx}{cm:Au}{k n:Ah}{F:DF}{x:As}{p aq:Ev}{e:By}{es:Aa By}{fa:DA}
def dcN (G:oq X.prog X.w X.K X.mg X.base cm k x n F)(E:ax cm k X.A)(B:jg X)(T:Gl X x)(U:PA X (e::es) (ku X fa))(J:(x == ("__debug__" : As))=false:=by decide)(O:Bk (e::es) X.env=(false,eval e X.env)::Bk es X.env:=by rfl)(Y:(Ga aq (Bk es X.env)).any (·.1)=false:=by rfl) :
  PE X (.Call (.Name x p) (e::es) [] aq) (tD X (qN n F fa)):=by
 obtain⟨f,z,M,A,L,H,I,w,G⟩:=G;exact FG G E B T L H I U J O Y
def SI (J:Gl X x)(hm:X.mg x=Ab (.ref C))(Y:Fd X.K (.ref C)=true)(U:(x == ("__debug__" : As))=false:=by decide):PE X (.Name x aq) (tD X (dC (.obj C))):=
 o3 J hm (v:=.ref C) rfl (λP α => by simp only[au];exact⟨trivial,Y⟩) U
end
def zO:DF:=λds S=>match ds with
 |[.dct0]=>.bad
 |_=>cB ds S
def F5 {X:Cx}:wN X (.builtin "len") zO:=DV trivial
def b0:DE:=λ_ _=>.bad
def SH {X:Cx}:PE X e (tD X b0):=λ_ _ _ _ _ _ ⟨_,_,_,_,_,_,h⟩=>Ao h
def PY:∃ C:An->An->Au,C=eM:=⟨_,rfl⟩
def PX:An->An->Au:=Qb PY
def eO:PX=eM:=Lx PY
def zG:G2:=i2 PX λi j=>.int (i*j)
def oV {X:Cx}:f_ X (Ej .Mult) zG:=by
 unfold zG;rw[eO];exact TM
def vz {k:Ah}(Y:ax cm k A):A.units+1<Eu:=by have:=Y.units;lia
def qf (F:DF):DF:=λds S=>match F ds S with
 |.ok d Y=>.ok d Y
 |_=>.bad
def HR {F:DF}(h:F ds S=.ok d Y):qf F ds S=.ok d Y:=by unfold qf;rw[h]
section
variable {X:Cx}{cm:Au}{k n:Ah}{F:DF}{x:As}{p aq:Ev}{e:By}{es:Aa By}{fa:DA}{f:Af}{fd:Gc}{ps:Aa As}
theorem NS {aj:aa}{σ:_L.St}{H:Hp}{s:Ag}{Q:VK}{us:ai}{P:Hp}(G:oo X.prog X.w X.K X.mg X.base cm k f fd ps (uo X.K n F))(A:ax cm k X.A)(M:vS X.K fd ps [])
  (I:Inv X aj σ H s) (r:bf X.K H P α S) (T:qM vs us) (L:qE X.K P α ds vs) (E:ds.length=n) (Y:qW X P α (qf F ds S) Q):ce X (call (.ref f) us) (EP X aj σ Q) X.xe s:=by
 have B:vs.length=n:=by rw[<- L.length];exact E
 have U:uo X.K n F vs H Q λ_ _ _=>Ex:=by
  refine⟨B,P,α,ds,S,r,L,?_⟩;unfold qf at Y;cases q:F ds S with
  |ok d w=>rw[q] at Y;exact Y
  |ex c x w=>rw[q] at Y;exact Ao Y
  |bad=>rw[q] at Y;exact Y
 have j:us.length=ps.length:=by rw[<- T.length];exact G.len _ _ _ _ U
 have J:=M s us I.kIn (by rw[Fk];exact j)
 rw[Fk] at J;refine Uw (Mp (G.run X.A X.stack s H ⟨us,[]⟩ us vs Q _ A I.env0 J T U) λr y O=>?_);cases r with
 |error u =>
  obtain⟨_,_,_,_,_,_,_,_,_,_,_,_,z⟩:=O;exact Ao z
 |ok fl =>
  cases fl with
  |ret u=>exact I.after O
  |next=>exact Ao O
  |brk=>exact Ao O
  |cont=>exact Ao O
def dcO (G:oq X.prog X.w X.K X.mg X.base cm k x n F)(E:ax cm k X.A)(o:Gl X x)(L:PA X (e::es) (ku X fa))(J:(x == ("__debug__" : As))=false:=by decide)(c:Bk (e::es) X.env=(false,eval e X.env)::Bk es X.env:=by rfl)(U:(Ga aq (Bk es X.env)).any (·.1)=false:=by rfl) :
  PE X (.Call (.Name x p) (e::es) [] aq) (tD X (qN n (qf F) fa)):=by
 obtain⟨f,fd,ps,M,j,z,A,hl,G⟩:=G;intro aj s σ H Q I h;obtain⟨P,α,ak,S,r,d,q⟩:=h;refine Hk (uS I o j ?_ J);refine Of (h₀:=X.base) I.ok.mod.kin z (bv (wV L I r d q aq) λi s1 ⟨vs,H1,a,w,ds,b,B,t,v,l,y,u,g,O⟩=>⟨B.kIn,?_⟩) c U;obtain⟨T,Y⟩:=sF (ak:=ak) (S:=S) O;exact NS G E A B v t y T (qW.base u g Y)
end
structure QE (X:Cx)(e:By)(f:DE):Prop where
 get:PE X e (tD X f)
structure QT (X:Cx)(e:By)(t:DT):Prop where
 get:PT X e (mv X t)
structure QW (X:Cx)(e:By)(t:DT):Prop where
 get:sv X e t
structure QA (X:Cx)(es:Aa By)(f:DA):Prop where
 get:PA X es (ku X f)
structure QO (X:Cx)(e:Ak By)(f:DO):Prop where
 get:PO X e (wy X f)
structure QG (X:Cx)(t:By)(g:DG):Prop where
 get:PG X t (nz X g)
structure zf (X:Cx)(ts:Aa By)(g:qu):Prop where
 get:tx X ts (aX X g)
structure QI (X:Cx)(tg it:By)(f:DI):Prop where
 get:PI X tg it (vt X f)
structure QS (X:Cx)(s:Fb)(f:DS):Prop where
 get:PS X s (ii X f)
structure QB (X:Cx)(ss:Aa Fb)(f:DS):Prop where
 get:im X ss (ii X f)
structure je (X:Cx)(f:Ac->Ac->Kj Ac)(g:G2):Prop where
 get:f_ X f g
structure _h (X:Cx)(f:Ac->Kj Ac)(g:D->ap->bb D):Prop where
 get:D_ X f g
structure _i (X:Cx)(g:G2):Prop where
 get:J_ X g
structure fx (X:Cx)(f:Ac)(F:DF):Prop where
 get:wN X f F
structure xw (X:Cx)(id:Es)(g:D->Aa D->ap->bb D):Prop where
 get:wx X id g
structure B_ (X:Cx)(op:Pg)(g:G2):Prop where
 get:M_ X op g
structure xu (X:Cx)(g:G3):Prop where
 get:eF X (rY X g)
structure ki (X:Cx):Prop where
 get:Ow (Av X.prog X.w) X.A X.env X.xe
section
variable {X:Cx}{a b c e e1 e2 o i:By}{es ay:Aa By}{fa fb fc fe fo fi:DE}{ta tb:DT}{fA:DA}{f g:DS}{st:Fb}{Y_:Aa Fb}{x:As}{p aq:Ev}{n k:Ah}{cm:Au}{F:DF}{nj:G2}
def VA:QE X (.Constant .none j aq) (dC .non):=⟨SQ⟩
def BQ:QE X (.Constant (.bool v) j aq) (dC (.bl v)):=⟨IZ⟩
def CT:QE X (.Constant (.int v) j aq) (dC (.int v)):=⟨SM⟩
def CZ:QE X (.Constant (.str v) j aq) (dC (.str v)):=⟨SV⟩
def A0 (m:Ah)(U:X.N[m]? = Ab x)(hv:oy X.env.scope x)(J:(x == ("__debug__" : As))=false)(Y:(x == ("__classdict__" : As))=false):QE X (.Name x aq) (qB m):=⟨dv m U hv J Y⟩
def NB {nm:Es}(U:Gl X x)(hm:X.mg x=none)(hv:Gn x=Ab (.type nm))(J:x ≠ "__name__")(Y:(x == ("__debug__" : As))=false):QE X (.Name x aq) (dC (.ty nm)):=⟨FF U hm hv J Y⟩
def CQ (J:Gl X x)(hm:X.mg x=Ab (.ref C))(U:Fd X.K (.ref C)=true)(Y:(x == ("__debug__" : As))=false):QE X (.Name x aq) (dC (.obj C)):=⟨SI J hm U Y⟩
def NF (J:Gl X x)(hm:∃ t,X.mg x=Ab (.int v t))(Y:(x == ("__debug__" : As))=false):QE X (.Name x aq) (dC (.int v)):=⟨let ⟨_,h⟩:=hm;o3 (v:=.int v) J h ⟨_,rfl⟩ (λ_ _=>by simp only[au]) Y⟩
def CP:QE X e b0:=⟨SH⟩
def qAg {h:D->ap->bb D}(J:_h X (AaH op) h)(Y:QE X a fa):QE X (.UnaryOp op a aq) (d1 h fa):=⟨O8 J.1 Y.1⟩
def CW (Y:QE X a fa):QE X (.UnaryOp .Not a aq) (hW fa):=⟨SR Y.1⟩
def qAf (U:je X (Ej op) nj)(Y:QE X a fa)(J:QE X b fb):QE X (.BinOp a op b aq) (d2 nj fa fb):=⟨O7 U.1 Y.1 J.1⟩
def V9 (U:je X (Cy op) nj)(Y:QE X a fa)(J:QE X b fb)(hm:Nc op b=false:=by first|exact kY _|with_unfolding_all rfl):QE X (.Compare a [op] [b] aq) (d2 nj fa fb):=⟨SJ U.1 Y.1 J.1 hm⟩
def GF (B:je X (Cy op) nj)(J:je X (Cy Y) g')(U:QE X a fa)(O:QE X b fb)(G:QE X c fc)(hm:Aa7 [op,Y] [b,c]=false:=by with_unfolding_all rfl):QE X (.Compare a [op,Y] [b,c] aq) (y7 nj g' fa fb fc):=⟨UW B.1 J.1 U.1 O.1 G.1 hm⟩
def VB  (h:QE X a fa):QE X (.BoolOp op [a] aq) fa:=⟨SS h.1⟩
def V7 (Y:QE X a fa)(J:QE X (.BoolOp .And (b::ay) aq) fb):QE X (.BoolOp .And (a::b::ay) aq) (pZ fa fb):=⟨SG Y.1 J.1⟩
def qAd (Y:QT X c ta)(U:QE X a fa)(J:QE X b fb):QE X (.IfExp c a b aq) (xt ta fa fb):=⟨O1 Y.1 U.1 J.1⟩
def VC  (h:QA X es fA):QE X (.Tuple es x1 aq) (qP fA):=⟨SW h.1⟩
def CV (h:QA X es fA):QE X (.List es aq) (x8 fA):=⟨SO h.1⟩
def NG (h:QA X es fA):QE X (.List es aq) (v9 fA):=⟨FK h.1⟩
def CS:QE X (.Dict [] [] aq) ZL:=⟨SK⟩
def NC:QE X (.Dict [] [] aq) rN:=⟨FI⟩
def qAe (U:_i X nj)(Y:QE X a fa)(J:QE X b fb)(hs:lD b:=by intro _ _;rfl):QE X (.Subscript a b aq) (d2 nj fa fb):=⟨O6 U.1 Y.1 J.1 hs⟩
def GI {lo hi:Ak By}{fl Y:DO}(J:QE X e fe)(U:QO X lo fl)(G:QO X hi Y):QE X (.Subscript e (.Slice lo hi none O) aq) (mi fe fl Y):=⟨UY J.1 U.1 G.1⟩
def NJ:QO X none x9:=⟨FR⟩
def NK (Y:QE X e fe):QO X (Ab e) (zP fe):=⟨FS Y.1⟩
def V5:QA X [] qC:=⟨SD⟩
def oZ (Y:QE X e fa)(J:QA X es fA)(hs:Bk (e::es) X.env=(false,eval e X.env)::Bk es X.env:=by rfl):QA X (e::es) (qA fa fA):=⟨FE Y.1 J.1 hs⟩
def _I (G:oq X.prog X.w X.K X.mg X.base cm k x n F)(T:ax cm k X.A)(B:jg X)(L:Gl X x)(U:QA X (e::es) fA)(J:(x == ("__debug__" : As))=false)(O:Bk (e::es) X.env=(false,eval e X.env)::Bk es X.env:=by rfl)(Y:(Ga aq (Bk es X.env)).any (·.1)=false:=by rfl):QE X (.Call (.Name x p) (e::es) [] aq) (qN n F fA):=⟨dcN G T B L U.1 J O Y⟩
def GE {id:Es}(U:fx X (.builtin id) F)(L:Gl X x)(hm:X.mg x=none)(hv:Gn x=Ab (.builtin id))(G:QA X (e::es) fA)(O:x ≠ "__name__")(J:(x == ("__debug__" : As))=false)(B:Bk (e::es) X.env=(false,eval e X.env)::Bk es X.env:=by rfl)(Y:(Ga aq (Bk es X.env)).any (·.1)=false:=by rfl):QE X (.Call (.Name x p) (e::es) [] aq) (qG F fA):=⟨UU U.1 L hm hv G.1 O J B Y⟩
def V8 (U:fx X (.type T) F)(L:Gl X x)(hm:X.mg x=none)(hv:Gn x=Ab (.type T))(G:QA X (e::es) fA)(O:x ≠ "__name__")(J:(x == ("__debug__" : As))=false)(B:Bk (e::es) X.env=(false,eval e X.env)::Bk es X.env:=by rfl)(Y:(Ga aq (Bk es X.env)).any (·.1)=false:=by rfl):QE X (.Call (.Name x p) (e::es) [] aq) (qG F fA):=⟨WK U.1 L hm hv G.1 O J B Y⟩
def rV {T id:Es}{B:Ev}{h:D->Aa D->ap->bb D}(I:PlainAttrs T)(slot:Slot T name id)(O:typeOf (.builtin id)=pure (.type "method_descriptor"))(hT:T = "list" \/ T = "dict" \/ T = "int" \/ T = "str")(hm:xw X id h)(E:QE X o fo)(L:QA X (e::es) fA)
  (U:Ng o name X.env (eval o X.env)=eval o X.env:=by rfl)
  (G:((Ga aq (Bk (e::es) X.env)).all (λx=>!x.1)&&(Ab9 aq (Xc [] X.env)).all (λx=>x.1.isSome)&&decide ((e::es).length+([]:Aa Tu).length+(if ([] : Aa Tu).isEmpty then 0 else 1)<30))=true:=by rfl)
  (J:(B.endLine == aq.line)=true:=by rfl) (hs:Bk (e::es) X.env=(false,eval e X.env)::Bk es X.env:=by rfl) (Y:(Ga aq (Bk es X.env)).any (·.1)=false:=by rfl):QE X (.Call (.Attribute o name B) (e::es) [] aq) (qo T h fo fA):=⟨O0 I slot O hT hm.1 E.1 L.1 U G J hs Y⟩
def BS (h:QW X e ta):QT X e ta:=⟨sv.pt h.1⟩
def Q3 (Y:QT X a ta):QW X (.BoolOp .And [a] aq) ta:=⟨FZ Y.1⟩
def nX (Y:QT X a ta):QW X (.BoolOp .Or [a] aq) ta:=⟨RJ Y.1⟩
def VJ (Y:QT X a ta)(J:QW X (.BoolOp .And (b::ay) aq) tb):QW X (.BoolOp .And (a::b::ay) aq) (yN ta tb):=⟨RI Y.1 J.1⟩
def rW (Y:QT X a ta)(J:QW X (.BoolOp .Or (b::ay) aq) tb):QW X (.BoolOp .Or (a::b::ay) aq) (gN ta tb):=⟨OE Y.1 J.1⟩
def AC (Y:QT X a ta):QT X (.UnaryOp .Not a aq) (wG ta):=⟨RF Y.1⟩
def VH (U:je X (Cy op) nj)(Y:QE X a fa)(J:QE X b fb)(hm:Nc op b=false:=by first|exact kY _|with_unfolding_all rfl):QT X (.Compare a [op] [b] aq) (dw (d2 nj fa fb)):=⟨RE U.1 Y.1 J.1 hm⟩
def GP (B:je X (Cy op) nj)(J:je X (Cy Y) g')(U:QE X a fa)(O:QE X b fb)(G:QE X c fc)(hm:Aa7 [op,Y] [b,c]=false:=by with_unfolding_all rfl):QT X (.Compare a [op,Y] [b,c] aq) (dw (y7 nj g' fa fb fc)):=⟨JB B.1 J.1 U.1 O.1 G.1 hm⟩
def VI (J:QE X a fa)(U:∀ Y,isTrue a X.env Y=(do let v <- Y;To a.pos;holding [v] (truthy v)):=by intro _;rfl):QT X a (dw fa):=⟨RG J.1 U⟩
def NI (U:X.N.Nodup)(hi:X.N[m]? = Ab x)(Y:Loc X.env.scope x)(J:X.fn x=true\/X.env.scope.names.lookup x=Ab .local):QG X (.Name x aq) (bh m):=⟨FO U hi Y J⟩
def Q0:zf X [] yG:=⟨FP⟩
def aD (h1:QG X e h)(h2:zf X es Y)(hs:(Hn (e::es) X.env).map (·.2)=assign e X.env::(Hn es X.env).map (·.2):=by rfl):zf X (e::es) (zI h Y):=⟨J0 h1.1 h2.1 hs⟩
def VD (U:X.calm=true)(h:zf X es J)(G:(Hn es X.env).length=n:=by rfl)(Y:(Hn es X.env).findIdx? (·.1)=none:=by rfl):QG X (.Tuple es kk aq) (ou n J):=⟨SZ U h.1 G Y⟩
def A3 (J:QE X o fo)(hi:QE X i fi)(hs:xu X h)
  (Y:∀ v,assign (.Subscript o i aq) X.env v=(do
   let ov <- holding [v] (eval o X.env)
   let iv <- holding [v,ov] (eval i X.env)
   To aq
   holding [v,ov,iv] (setItem ov iv v)
   release [v,ov,iv] []):=by intro _;rfl):QG X (.Subscript o i aq) (wq fo fi h):=⟨SY J.1 hi.1 hs.1 Y⟩
def A5 (Y:QE X e fa):QI X J e (xX fa):=⟨R0 Y.1⟩
def GK (G:Gl X "range")(hm:X.mg "range" = none)(J:QA X (e::es) fA)(hs:Bk (e::es) X.env=(false,eval e X.env)::Bk es X.env:=by rfl)(Y:(Ga aq (Bk es X.env)).any (·.1)=false:=by rfl):QI X U (.Call (.Name "range" p) (e::es) [] aq) (xI fA):=⟨J2 G hm J.1 hs Y⟩
def VF (B:Gl X "zip")(hm:X.mg "zip" = none)(J:QA X [e1,e2] fA)(hs:Bk [e1,e2] X.env=(false,eval e1 X.env)::Bk [e2] X.env:=by rfl)(Y:(Ga aq (Bk [e2] X.env)).any (·.1)=false:=by rfl):QI X (.Tuple O G U) (.Call (.Name "zip" p) [e1,e2] [] aq) (lJ fA):=⟨R3 B hm J.1 hs Y⟩
def V6:QB X [] zJ:=⟨R8⟩
def nW (h:QS X st f):QB X [st] f:=⟨R9 h.1⟩
def fN (h1:QS X st f)(h2:QB X Y_ g):QB X (st::Y_) (qI f g):=⟨FT h1.1 h2.1⟩
def NL (Y:QE X e fa)(hs:Pb e none aq.line X.env=pure false:=by rfl):QS X (.Expr e aq) (w9 fa):=⟨FU Y.1 hs⟩
def VG (Y:QE X e fa):QS X (.Return (Ab e) aq) (qU fa):=⟨RB Y.1⟩
def BR {as bs:Aa Fb}(Y:QT X c ta)(J:QB X as f)(U:QB X bs g):QS X (.If c as bs aq) (gf ta f g):=⟨OC Y.1 J.1 U.1⟩
def GO (hp:ki X)(Y:QT X c ta)(J:QB X bo f):QS X (.While c bo [] aq) (gD ta f):=⟨JA hp.1 Y.1 J.1⟩
def A8 (hp:ki X)(G:X.calm=true)(hi:QI X Y J U)(O:QG X Y h)(B:QB X bo f)(hs:∀ x,El J X.env x=pure x:=by intro _;rfl):QS X (.For Y J bo [] aq) (wU U h f):=⟨R7 hp.1 G hi.1 O.1 B.1 hs⟩
def AA (O:X.N.Nodup)(J:QE X e fa)(hi:X.N[m]? = Ab x)(G:Loc X.env.scope x)(hs:Pb e (Ab (.Name x Y)) aq.line X.env=pure false)(U:X.fn x=true\/X.env.scope.names.lookup x=Ab .local):QS X (.Assign [.Name x Y] e aq) (qS fa (bh m)):=⟨RC O J.1 hi G hs U⟩
def A6 (J:QE X e fa)(U:QG X Y h)(hs:Na [Y] e aq.line X.env=pure false:=by rfl)(hw:Mz [Y] e X.env=pure none:=by rfl)(h1:(Hn [Y] X.env).map (·.2)=[assign Y X.env]:=by rfl):QS X (.Assign [Y] e aq) (qS fa h):=⟨R5 J.1 U.1 hs hw h1⟩
def A7 (B:X.N.Nodup)(J:QE X e fe)(U:B_ X op nj)(hi:X.N[m]? = Ab x)(O:Loc X.env.scope x)(G:X.fn x=true\/X.env.scope.names.lookup x=Ab .local):QS X (.AugAssign (.Name x Y) op e aq) (bJ m nj fe):=⟨R6 B J.1 U.1 hi O G⟩
def A9 {l:Ah}{Y U:Ev}{kt k2 pt2}(G:X.calm=true) (E:X.N.Nodup) (O:QA X [a,b] fA) (hi:X.N[m]? = Ab x) (L:X.N[l]? = Ab y) (J:m≠l) (T:X.env.scope.names.lookup x=Ab .local) (B:X.env.scope.names.lookup y=Ab .local)
  (hw:Mz [.Tuple [.Name x Y,.Name y py] kt U] (.Tuple [a,b] k2 pt2) X.env=pure (Ab [x,y]):=by rfl) (hs:Na [.Tuple [.Name x Y,.Name y py] kt U] (.Tuple [a,b] k2 pt2) aq.line X.env=pure false:=by rfl) :
  QS X (.Assign [.Tuple [.Name x Y,.Name y py] kt U] (.Tuple [a,b] k2 pt2) aq) (uM m l fA):=⟨RA G E O.1 hi L J T B hw hs⟩
def GN {L U:Ev}(G:X.calm=true)(T:jg X)(E:Gl X x)(hm:X.mg x=Ab (.ref C))(I:mH X.K C H=true)(O:QA X (e::ay) fA)(J:(x == ("__debug__" : As))=false)(B:Bk (e::ay) X.env=(false,eval e X.env)::Bk ay X.env:=by rfl)(Y:(Ga U (Bk ay X.env)).any (·.1)=false:=by rfl) :
  QS X (.Raise (Ab (.Call (.Name x L) (e::ay) [] U)) none aq) (gC (.ref C) fA):=⟨J9 G T E hm I O.1 J B Y⟩
def AB {nm:As}{J:Fb}{Y:Aa Fb}{z U:Ev}{T:ai}(j:jg X)(M:∀ E G,ki (Cx.tryIn X E G)->QB (Cx.tryIn X E G) bo f)(hs:∀ e,QB (Cx.suite X e) (J::Y) g)(A:Gl X x)(hm:X.mg x=Ab (.ref I))(B:∀ c∈T,Kg X.K c (.ref I)=Ab true)(w:X.N.Nodup)(hi:X.N[m]? = Ab nm)(L:X.env.scope.names.lookup nm=Ab .local)(O:(x == ("__debug__" : As))=false)(H:X.N.length=n) :
  QS X (.Try bo [.ExceptHandler (Ab (.Name x z)) (Ab nm) (J::Y) U] [] [] aq) (tF n m T f g):=⟨H▸RD j (λE G y=>(M E G ⟨y⟩).1) (λe=>(hs e).1) A hm B w hi L O⟩
def qA4:je X (Ej .Add) zB:=⟨HJ⟩
def qBG:je X (Ej .Sub) xC:=⟨HQ⟩
def qBB:je X (Ej .Mult) zG:=⟨oV⟩
def qA5:je X (Ej .FloorDiv) b9:=⟨HK⟩
def qBA:je X (Ej .Mod) uJ:=⟨HN⟩
def qBE:je X (Ej .Pow) JL:=⟨HP⟩
def _J:je X (Cy .Lt) ph:=⟨BN⟩
def _M:je X (Cy .LtE) rj:=⟨qAU⟩
def _O:je X (Cy .Gt) wt:=⟨qAS⟩
def qB9:je X (Cy .GtE) yy:=⟨qAR⟩
def IM:je X (Cy .Is) xo:=⟨qAT⟩
def LS:je X (Cy .IsNot) cG:=⟨KU⟩
def IK (Y:ax cm k X.A):je X (Cy .Eq) k_:=⟨BM Y.units⟩
def IS (Y:ax cm k X.A):je X (Cy .NotEq) my:=⟨BO Y.units⟩
def qA6 (Y:ax cm k X.A):je X (Cy .Eq) (vX k_):=⟨f_.look (BM Y.units)⟩
def qBC (Y:ax cm k X.A):je X (Cy .NotEq) (vX my):=⟨f_.look (BO Y.units)⟩
def qBD:_h X (AaH .USub) kB:=⟨IA⟩
def _N:_i X cg:=⟨qBi⟩
def F0:fx X (.builtin "isinstance") xO:=⟨W7⟩
def IP (h:uf X.K Y):fx X (.builtin "isinstance") (zX Y):=⟨F3 h⟩
def F1:fx X (.builtin "len") zO:=⟨F5⟩
def BZ (Y:X.calm=true):fx X (.builtin "all") (gR false):=⟨DR false Y⟩
def qA8:fx X (.type "int") ZS:=⟨DU⟩
def LW:fx X (.type "tuple") vC:=⟨UO⟩
def IQ:fx X (.type "list") tX:=⟨F6⟩
def PJ:xw X "list.append" xP:=⟨YH⟩
def LQ:xw X "list.count" tZ:=⟨KC⟩
def LR:xw X "list.index" n6:=⟨KD⟩
def IL:B_ X .Add tY:=⟨MC⟩
def qBF (Y:ax cm k X.A):xu X yO:=⟨AL (vz Y)⟩
end
section
variable {P:Bi}{w:Bz}{K:Ai}{mg:ah}{base:Bt}{cm:Au}
def QY:ki (kw cm P w K mg base N Y am f cd A J s H E):=⟨US⟩
def qBW {st:Fb}{k:Ah}{g:DS}(h:tw K mg x st ps)(S:dc N ps (qH st))(U:zR st=bo)
  (J:∀ (f:Af) (Y:Ac) (A:Bp) (G:Aa Ix) (s:Ag) (H:Hp) (E:XK),gH K x Y->ax cm k (A.deeper (Gu x (qH st) s.heap.objs.size f Y)) ->
   QB (kw cm P w K mg base N x (qH st) f Y A G s H E) bo g):oq P w K mg base cm (k+1) x ps.length (qO N.length g):=
 SX h S λf Y A G s H E B O=>U▸(J f Y A G s H E B O).1
def O9 {st:Fb}{k:Ah}{g:DS}(h:tw K mg x st ps)(S:dc N ps (qH st))(U:zR st=bo)
  (J:∀ (f:Af) (Y:Ac) (A:Bp) (G:Aa Ix) (s:Ag) (H:Hp) (E:XK),gH K x Y->ax cm k (A.deeper (Gu x (qH st) s.heap.objs.size f Y)) ->
   QB (kw cm P w K mg base N x (qH st) f Y A G s H E) bo g):eC P w K mg base cm (k+1) x ps (qO N.length g):=
 FN h S λf Y A G s H E B O=>U▸(J f Y A G s H E B O).1
def FM {st:Fb}(h:tw K mg x st ps):oq P w K mg base cm 0 x ps.length λ_ _=>.bad:=by
 obtain⟨f,U,J,F,Y⟩:=h;exact⟨f,U,ps,rfl,J,F.kp,Y,bZ F,⟨λvs H Q E z=>z.1,λA B s H O G vs Q E _ _ _ _ z=>by obtain⟨_,_,_,_,_,_,_,z⟩:=z;exact Ao z⟩⟩
end
structure vh (X:Cx)(ifs:Aa By)(t:DT):Prop where
 get:rn X ifs t
section
variable {X:Cx}{e:By}{es:Aa By}{aq p:Ev}{t u:DT}{fa:DA}{x:As}{cm:Au}{k n:Ah}{F:DF}
def Q2:vh X [] xB:=⟨FY⟩
def GQ (h1:QT X e t)(h2:vh X es u):vh X (e::es) (yN t u):=⟨JC h1.1 h2.1⟩
def _G (G:oq X.prog X.w X.K X.mg X.base cm k x n F)(L:ax cm k X.A)(B:Gl X x)(U:QA X (e::es) fa)(Y:(x == ("__debug__" : As))=false)(O:Bk (e::es) X.env=(false,eval e X.env)::Bk es X.env:=by rfl)(J:(Ga aq (Bk es X.env)).any (·.1)=false:=by rfl) :
  QE X (.Call (.Name x p) (e::es) [] aq) (qN n (qf F) fa):=⟨dcO G L B U.1 Y O J⟩
end
def nu (o:Ak (Ah × MO))(S:ap):Prop:=match o with
 |none=>Qn
 |some p=>S[p.1]? = Ab p.2
open Classical in
def tJ (o:Ak (Ah × MO))(S:ap):Au:=decide (nu o S)
def yB:tJ o S=true↔nu o S:=by simp[tJ]
structure me (K:Ai)(J:It)(P:Hp)(α : Aa Af)(o:Ak (Ah × MO))(ds:Aa D):Prop where
 go:∀ i H P1 α1 S,i<ds.length->bf K H P1 α1 S->nu o S->qF P P1->α<+:α1->J.go i H
 yld:∀ i H x H' P1 α1 S,i<ds.length->bf K H P1 α1 S->nu o S->qF P P1->α<+:α1->J.yld i H x H'->∃ P2 d,ds[i]? = Ab d/\bf K H' P2 α1 S/\qF P1 P2/\au K P2 α1 d x
 stop:∀ i H P1 α1 S,ds.length<=i->bf K H P1 α1 S->nu o S->qF P P1->α<+:α1->J.stop i H
def wg.two {K:Ai}{P:Hp}(h:wg K J P α ds):me K J P α none ds:=
 ⟨λi H U Y S a b _ c d=>h.go i H U Y S a b c d,λi H x G U Y S a b _ c d e=>h.yld i H x G U Y S a b c d e,λi H U Y S a b _ c d=>h.stop i H U Y S a b c d⟩
abbrev nq:=qD->ap->bb (Ak (Ah × MO) × Aa D)
inductive ng (X:Cx)(f:nq)(σ : _L.St)(H:Hp)(R:It->Hp->Prop):Prop
 |mk (P:Hp) (α : Aa Af) (env:qD) (S:ap) (r:bf X.K H P α S) (re:zA X.K P α σ env) (af:qK X P α (f env S) (λp S'=>∀ J H' P' α',bf X.K H' P' α' S'->qF P P'->α<+:α'->me X.K J P' α' p.1 p.2->R J H')):ng X f σ H R
def zY (f:DI):nq:=λak S=>(f ak S).bind λds Y=>.ok (none,ds) Y
section
variable {X:Cx}{K:Ai}{tg e:By}{fa:DE}
def FQ (h:PI X tg e (vt X f)):PI X tg e (ng X (zY f)):=PI.weak h λσ H R ⟨P,α,ak,S,r,E,Y⟩=>by
 refine⟨P,α,ak,S,r,E,?_⟩;unfold zY at Y;cases q:f ak S with
 |bad=>rw[q] at Y;exact Y
 |ex c x A=>rw[q] at Y;exact Y
 |ok ds I =>
  rw[q] at Y;exact λJ O G U L B T it=>Y J O G U L B T it.two
def MJ {P:Hp}{a:Af}{n:Ah}(Y:α[n]? = Ab a):me K (K_ K a) P α (Ab (n,.lst ds)) ds where
 go:=λi H O U S J r st e G=>by
  obtain⟨vs,z,t⟩:=r.at' n a _ (fL G Y) st;exact⟨vs,vs[i]'(by rw[<- t.length];exact J),.of z,by simp⟩
 yld:=λi H x E O U S J r st e G y=>by
  obtain⟨rfl,y⟩:=y;obtain⟨vs,z,t⟩:=r.at' n a _ (fL G Y) st;have T:=y vs (.of z);obtain⟨v,B,L⟩:=t.get (Ar J);rw[T] at B;cases B;exact⟨O,_,Ar J,r,qF.refl _,L⟩
 stop:=λi H O U S J r st e G=>by
  obtain⟨vs,z,t⟩:=r.at' n a _ (fL G Y) st;exact⟨vs,.of z,by rw[<- t.length];exact J⟩
noncomputable def itD (d:D)(S:ap):bb (Ak (Ah × MO) × Aa D):=match d with
 |.tup xs=>.ok (none,xs) S
 |.lst xs=>.ok (none,xs) S
 |.loc n=>match S[n]? with
  |some (.lst xs)=>.ok (Ab (n,.lst xs),xs) S
  |_=>.bad
 |_=>.bad
def nw (f:DE):nq:=λak S=>(f ak S).bind λd Y=>itD d Y
def OA (T:PE X e (tD X fa)):PI X tg e (ng X (nw fa)):=by
 intro aj s σ H R I h;obtain⟨P,α,ak,S,r,re,x⟩:=h;refine bv (zT T I r re x) λw B ⟨v,H1,i,A,d,M,Y,U⟩=>?_;have L:∀ ds,xH d=Ab ds->(∀ J E O G,bf X.K E O G M->qF P O->α<+:G->me X.K J O G none ds->R J E)->ce X (Rj w) (wu X aj σ tg R) X.xe B:=λds l q =>
  cJ Y.inv Y.rel Y.val Y.rep l λJ E O G g h1 y it=>q J E O G g (Y.same.trans h1) (Y.pre.trans y) it.two
 cases d with
 |tup xs=>exact L xs rfl U
 |lst xs=>exact L xs rfl U
 |loc n =>
  obtain⟨xs,u,U⟩:=jG (X:=X) (f:=λxs=>bb.ok (Ab (n,MO.lst xs),xs) M) U;have j:=Y.rep;simp only[au] at j;obtain⟨a,rfl,T⟩:=j;cases (show w=Cb a from Y.val)
  obtain⟨vs,z,t⟩:=Y.rel.at' n a _ T u;obtain⟨c,rv,p,hz⟩:=Y.inv.list (jw.of z);refine Ja p.isList ?_;refine⟨B.heap.objs.size,[B.heap.objs.size],_,_,H1,rfl,Y.inv.kept (t':=B.toks) λb o e=>Aj _ e,rB a _,⟨_,Bl _ rfl,rfl,rfl⟩,λb k=>?_,U _ _ i A Y.rel Y.same Y.pre (MJ T)⟩;have e:b=B.heap.objs.size:=by simpa using k
  subst e;exact Y.inv.fpOk (Ax _) (Y.inv.hok.fresh (Ax _))
 |_=>exact Ao U
end
def wK (o:Ak (Ah × MO))(g:DG)(f:DS):Aa D->qD->ap->ja
 |[],ak,S=>if tJ o S then .nx ak S else .bad
 |d::ds,ak,S=>if tJ o S then (g d ak S).toS ak λJ G=>match f J G with
  |.nx Y U=>wK o g f ds Y U
  |.ct Y U=>wK o g f ds Y U
  |.bk Y U=>.nx Y U
  |o=>o
  else .bad
def l5 (fi:nq)(g:DG)(f:DS):DS:=λak S=>(fi ak S).toS ak λp Y=>wK p.1 g f p.2 ak Y
inductive oj (X:Cx)(P1:Hp)(α1:ag)(o:Ak (Ah × MO))(g:DG)(f:DS)(ds:Aa D)(D:Ends)(i m:Ah)(σ : _L.St)(H:Hp):Prop
 |mk (hi:i<=ds.length) (hm:m=ds.length-i) (P2:Hp) (α2:ag) (env2:qD) (S2:ap) (r:bf X.K H P2 α2 S2) (re:zA X.K P2 α2 σ env2) (e1:qF P1 P2) (e2:α1<+:α2) (af:qX X P2 α2 (wK o g f (ds.drop i) env2 S2) D):oj X P1 α1 o g f ds D i m σ H
section
variable {X:Cx}{tg:By}{aq:Ev}
theorem FV (hp:Ow (Av X.prog X.w) X.A X.env X.xe)(hc:X.calm=true)(hi:PI X tg be (ng X fi))(hg:PG X tg (nz X g))(hb:im X bo (ii X f))
  (hs:∀ x,El be X.env x=pure x:=by intro _;rfl):PS X (.For tg be bo [] aq) (ii X (l5 fi g f)):=xf (V4 hp hc hi hg hb hs) λD σ H ⟨P,α,ak,S,r,re,af⟩=>by
 refine⟨P,α,ak,S,r,re,?_⟩;have T:=xG af;cases q:fi ak S with
 |bad=>rw[q] at T;exact T
 |ex c x S'=>rw[q] at T;exact T
 |ok p S1 =>
  obtain⟨o,ds⟩:=p;rw[q] at T;have zl:qX X P α (wK o g f ds ak S1) D:=T;intro J H1 P1 A r1 e1 e2 it;have it:me X.K J P1 A o ds:=it;refine⟨oj X P1 A o g f ds D,
   ⟨ds.length,Hg _,rfl,P1,A,ak,S1,r1,re.mono e1 e2,qF.refl _,AT _,qX.base e1 e2 zl⟩,?_⟩
  rintro i m zb H2 ⟨hi,rfl,P2,I,M,v,h,s,n,e,Y⟩;by_cases E:tJ o v=true
  .have j:=yB.mp E
   by_cases B:i<ds.length
   .refine .inr ⟨it.go i H2 P2 I v B h j n e,oj X P1 A o g f ds D (i+1) (ds.length-(i+1)),λzx H' w=>⟨_,?_,w⟩,λx H3 y=>?_⟩
    .omega
    .obtain⟨P3,d,hd,r3,e5,rp⟩:=it.yld i H2 x H3 P2 I v B h j n e y
     have O:ds.drop i=d::ds.drop (i+1):=by
      rw[Ha B];rw[Ar B] at hd;rw[Dd hd]
     rw[O] at Y;unfold wK at Y;rw[Bg E] at Y;have L:=xG (qX.base e5 (AT _) Y);refine⟨P3,I,M,v,d,r3,s.mono e5 (AT _),rp,?_⟩;cases q2:g d M v with
     |bad=>rw[q2] at L;exact L
     |ex c x S'=>rw[q2] at L;exact L
     |ok z S3 =>
      rw[q2] at L;intro zy H4 P4 zv r4 zc e6 e7;refine⟨P4,zv,z,S3,r4,zc,?_⟩;have U:=qX.base e6 e7 L;cases l:f z S3 with
      |bad=>simp only[l] at U;exact U
      |ex c x G t=>simp only[l] at U;exact U
      |rt d4 t=>simp only[l] at U;exact U
      |bk G t=>simp only[l] at U;exact U
      |nx G t =>
       simp only[l] at U;exact λzs H5 P5 u r5 k b a=>⟨B,rfl,P5,u,G,t,r5,k,((n.trans e5).trans e6).trans b,(e.trans e7).trans a,qX.base b a U⟩
      |ct G t =>
       simp only[l] at U;exact λzs H5 P5 u r5 k b a=>⟨B,rfl,P5,u,G,t,r5,k,((n.trans e5).trans e6).trans b,(e.trans e7).trans a,qX.base b a U⟩
   .have O:ds.drop i=[]:=Pj om
    rw[O] at Y;unfold wK at Y;rw[Bg E] at Y;exact .inl ⟨it.stop i H2 P2 I v om h j n e,Y zb H2 P2 I h s (qF.refl _) (AT _)⟩
  .cases O:ds.drop i with
   |nil=>rw[O] at Y;unfold wK at Y;rw[Bd E] at Y;exact Ao Y
   |cons d r=>rw[O] at Y;unfold wK at Y;rw[Bd E] at Y;exact Ao Y
end
noncomputable def zw (m:Au)(Y:By)(aw:Ac)(ak:Ix):Kj Ro:=match m with
 |false=>do let _ <- call (.builtin "list.append") [aw,<- eval Y ak]
 |true=>do let v <- eval Y ak;To Y.pos;let _ <- call (.builtin "set.add") [aw,v]
def zZ (m:Au)(J:By)(U:Aa Eg)(am:Ep)(G:Ev)(k:Ah)(aw:Ac)(ak:Ix):Kj Ro:=
 match U[k+1]? with
 |some Y=>do
  let x <- eval Y.iter ak
  To Y.iter.pos
  let x <- El Y.iter ak x
  let it <- holding [x] (Rj x)
  let _ <- runOwn (.compStart (w6 m J U am G) (k+1) it aw ak) ak
 |none=>zw m J aw ak
def PD (m:Au)(G Y B:By)(O:Aa By)(J:Aa Eg)(am:Ep)(U:Ev)(it aw:Ac)(ak:Ix)(k:Ah)(E:J[k]? = Ab ⟨Y,B,O,0⟩)(L:∀ g',J[k+1]? = Ab g'->g'.is_async=0) :
  AbD (w6 m G J am U) k it aw ak=(do
   To B.pos
   match <- Ms it with
   |none=>pure (.done .next)
   |some v =>
    Lc Y it v
    assign Y ak v
    let mut ok:=true
    for c in O do
     if ok then ok <- isTrue c ak (eval c ak)
    if ok then zZ m G J am U k aw ak
    again (.compLoop (w6 m G J am U) k it aw ak)):=by
 cases m <;>
 .unfold AbD zZ w6 zw
  simp only[E];cases q:J[k+1]? with
  |none=>rfl
  |some g' =>
   have I:=L g' q;have T:(g'.is_async != 0)=false:=by rw[I];rfl
   simp only[T,Bx,Dx,bind_assoc,pure_bind];rfl
abbrev DK:=qD->ap->Aa D->bb (qD × Aa D)
def jy (o:Ak (Ah × MO))(g:DG)(t:DT)(k:DK):Aa D->DK
 |[],ak,S,J=>if tJ o S then .ok (ak,J) S else .bad
 |d::ds,ak,S,J=>if tJ o S then (g d ak S).bind λY G=>(t Y G).bind λb U =>
   if b then (k Y U J).bind λp O=>jy o g t k ds p.1 O p.2 else jy o g t k ds Y U J
  else .bad
def zL (fe:DE):DK:=λak S Y=>(fe ak S).bind λx J=>if Y.length<bq then .ok (ak,Y++[x]) J else .bad
def kIn (fi:nq)(g:DG)(t:DT)(k:DK):DK:=λak S J=>(fi ak S).bind λp Y=>jy p.1 g t k p.2 ak Y J
def QZ (B:Acc)(Y:Cx)(aj:aa)(P1:Hp)(J:ag)(aw:Af)(ak:qD)(S:ap)(ds:Aa D)(s:Ag):Prop:=
 ∃ σ H P α o,ge B Y aj P1 J [] aw ak S ds s σ H P α o
def PK (B:Acc)(Y:Cx)(step:Ac->Kj Ro)(k:DK):Prop:=
 ∀ (O:aa) (T:Hp) (J:ag) (U:Af) (ak E:qD) (S L:ap) (ds G:Aa D) (s:Ag),(∀ H:Hp,H U=none->xR Y O H U)->QZ B Y O T J U ak S ds s->k ak S ds=.ok (E,G) L ->
  Aq (Av Y.prog Y.w) Y.A (step (.ref U)) (λ_ I=>QZ B Y O T J U E L G I) (λ_ _=>Ex) s
section
variable {B:Acc}{Y:Cx}{cw tg be:By}{df:Aa By}{bi:Aa Eg}{am:Ep}{aq:Ev}{k:Ah}{g:DG}{t:DT}{fe:DE}{it aw:Af}{fp:ag}{J:It}{tn:Ah->Bt->Prop}{items:Aa D}{P1:Hp}{α1:ag}{aj:aa}
def WW {X:Cx}{b:Af}(f:xR X aj H b)(G:b ∉ fp):xR X (aj++vF fp h) H b:=by
 obtain⟨I,O,L,E,A,U⟩:=f;refine⟨I,O,L,E,A,λp T=>?_⟩;rcases Bq.mp T with z|z
 .exact U p (Dg _ z)
 .rcases Bq.mp z with z|z
  .exact U p (Ca _ z)
  .rintro rfl
   exact G (sW z).1
def bb.bind_inv {β γ:Type}{r:bb β}{f:β->ap->bb γ}{x:γ}(h:r.bind f=.ok x S):∃ b S1,r=.ok b S1/\f b S1=.ok x S:=by
 cases r with
 |ok b S1=>exact⟨b,S1,rfl,h⟩
 |_=>cases h
inductive P_ (o:Ak (Ah × MO))(g:DG)(t:DT)(k:DK)(d:D)(ds acc:Aa D)(env:qD)(S SF:ap)(x:qD × Aa D):Prop
 |no (env1:qD) (S1 S2:ap) (z:nu o S) (q1:g d env S=.ok env1 S1) (q2:t env1 S1=.ok false S2) (r:jy o g t k ds env1 S2 acc=.ok x SF):P_ o g t k d ds acc env S SF x
 |yes (env1:qD) (S1 S2:ap) (env5:qD) (ds5:Aa D) (S5:ap) (z:nu o S) (q1:g d env S=.ok env1 S1) (q2:t env1 S1=.ok true S2) (q3:k env1 S2 acc=.ok (env5,ds5) S5) (r:jy o g t k ds env5 S5 ds5=.ok x SF):P_ o g t k d ds acc env S SF x
set_option tactic.hygienic true in
def JO {k:DK}{d:D}{aw:Aa D}(h:jy o g t k (d::ds) ak S aw=.ok x SF):P_ o g t k d ds aw ak S SF x:=by
 simp only[jy] at h
 split at h
 .rename_i z
  obtain⟨U,T,L,h⟩:=bb.bind_inv h;obtain⟨b,I,E,h⟩:=bb.bind_inv h;cases b with
  |false=>exact .no U T I (yB.mp z) L E h
  |true =>
   obtain⟨⟨G,O⟩,H,A,h⟩:=bb.bind_inv h;exact .yes U T I G O H (yB.mp z) L E A h
 .cases h
set_option tactic.hygienic true in
def M8 {k:DK}{aw:Aa D}(h:jy o g t k [] ak S aw=.ok (gh,tj) SF):nu o S/\ak=gh/\aw=tj/\S=SF:=by
 simp only[jy] at h
 split at h
 .rename_i z
  cases h;exact⟨yB.mp z,rfl,rfl,rfl⟩
 .cases h
inductive H_ (B:Acc)(Y:Cx)(pins:aa)(P1:Hp)(α1:ag)(fp:ag)(acc:Af)(tn:Ah->Bt->Prop)(G:Aa D->DK)(items:Aa D)(x:qD × Aa D)(SF:ap)(n:Ah)(s:Ag):Prop
 |mk (i:Ah) (σ : _L.St) (H P:Hp) (α : Aa Af) (o:Cp) (env:qD) (S:ap) (ds:Aa D) (hn:n=items.length-i) (hi:i<=items.length) (st:ge B Y pins P1 α1 fp acc env S ds s σ H P α o) (st1:tn i s.heap) (run:G (items.drop i) env S ds=.ok x SF):H_ B Y pins P1 α1 fp acc tn G items x SF n s
theorem LA {m:Au}{M:Lb}{A:Bp}{Q:Fin->Ag->Prop}{E:ae}{s:Ag}{it aw:Ac}{U:Ix}(G:bi[k]? = Ab ⟨tg,be,df,0⟩)(has:∀ g',bi[k+1]? = Ab g'->g'.is_async=0)
  (L:∀ s,Qa s->Q (.again (.compLoop (w6 m cw bi am aq) k it aw U)) s) (u:∀ s,Qd s->Q (.done .next) s)
  (h:Aq M A (Ms it) (λr O=>(r=none->Qd O)/\∀ v,r=Ab v->Aq M A (Lc tg it v) (λ_ H=>Aq M A (assign tg U v) (λ_ T=>Aq M A (jL df U) (λb s4=>(b=false->Qa s4)/\(b=true->Aq M A (zZ m cw bi am aq k aw U) (λ_ w=>Qa w) E s4)) E T) E H) E O) E s) :
  Aq M A (AbD (w6 m cw bi am aq) k it aw U) Q E s:=by
 rw[PD m cw tg be df bi am aq it aw U k G has];refine Ad (Nb (Ad (bv h λr O ⟨o,q⟩=>?_)));cases r with
 |none=>exact Am (u _ (o rfl))
 |some v =>
  refine Ad (bv (q v rfl) λ_ H z=>Ad (bv z λ_ T y=>Ad (bv y λb s4 I=>?_)));cases b with
  |false=>exact Am (L _ (I.1 rfl))
  |true=>exact Ad (bv (I.2 rfl) λ_ w j=>Am (L _ j))
def M6 (G:∀ H:Hp,(∀ b∈fp,H b=none)->∀ b∈fp,xR Y aj H b)(O:aw ∉ fp)(o:Cp)(U:Hp)(E:∀ b∈fp,U b=none):∀ b∈fp,xR Y (aj++[(aw,o)]) U b:=λb L=>by
 obtain⟨j,I,A,w,y,T⟩:=G U E b L;refine⟨j,I,A,w,y,λp M=>?_⟩;rcases Bq.mp M with z|z
 .exact T p (Dg _ z)
 .rcases Bq.mp z with z|z
  .exact T p (Ca _ z)
  .rw[Cw.mp z]
   rintro rfl;exact O L
def jY {i:Ah}(T:mw Y.prog Y.w Y.K tg J fp it tn)(G:tn (i+1) h)(pl:∀ b∈fp,∃ o,h.get? b=Ab o/\∀ v,o.data≠.cell v){I:Ag}{O:_L.St}{E:Hp}(L:Inv Y (aj++vF fp h) O E I):tn (i+1) I.heap/\(∀ b∈fp,E b=none):=by
 refine⟨T.keep _ _ _ G λb U o' e=>(L.pin (b,o') (Ca _ (Ca _ (uQ U e)))).1,λb U=>?_⟩;obtain⟨o',e,H⟩:=pl b U;exact(L.pin (b,o') (Ca _ (Ca _ (uQ U e)))).2.1
def ZK {kk:DK}{E:ae}{s:Ag}{σ:_L.St}{H P:Hp}{o:Cp}{i:Ah}(hc:Y.calm=true)(hx:Y.xe=λ_ _=>Ex)
  (T:mw Y.prog Y.w Y.K tg J fp it tn) (n:me Y.K J P1 α1 o' items) (hg:PG Y tg (nz Y g)) (ht:rn Y df t) (he:PK B Y (λaw=>zZ B.m cw bi am aq k aw Y.env) kk) (c:∀ H:Hp,H aw=none->xR Y aj H aw) (y0:∀ H:Hp,(∀ b∈fp,H b=none)->∀ b∈fp,xR Y aj H b) (zx:aw ∉ fp)
  (hi:i<=items.length) (st:ge B Y aj P1 α1 fp aw ak S ds s σ H P α o) (zl:tn i s.heap) (run:jy o' g t kk (items.drop i) ak S ds=.ok (gh,tj) SF)
  (hA:∀ s' f H' P' zc o1 U S' z1,i<items.length->ge B Y aj P1 α1 fp aw U S' z1 s' f H' P' zc o1->tn (i+1) s'.heap->jy o' g t kk (items.drop (i+1)) U S' z1=.ok (gh,tj) SF->Qa s')
  (hD:∀ s' f H' P' zc o',ge B Y aj P1 α1 fp aw gh SF tj s' f H' P' zc o'->Qd s') :
  Aq (Av Y.prog Y.w) Y.A (Ms (.ref it)) (λr s1=>(r=none->Qd s1)/\∀ v,r=Ab v->Aq (Av Y.prog Y.w) Y.A (Lc tg (.ref it) v) (λ_ s2=>Aq (Av Y.prog Y.w) Y.A (assign tg Y.env v) (λ_ s3=>Aq (Av Y.prog Y.w) Y.A (jL df Y.env) (λb s4=>(b=false->Qa s4)/\(b=true->Aq (Av Y.prog Y.w) Y.A (zZ B.m cw bi am aq k (.ref aw) Y.env) (λ_ h=>Qa h) E s4)) E s3) E s2) E s1) E s:=by
 have I1:=_D.Inv.pin1 st.inv (c H st.acn) st.at' (B.cell st.acc);have zb:=M6 y0 zx o;by_cases I:i<items.length
 .have z3:items.drop i=items[i]::items.drop (i+1):=Ha I
  rw[z3] at run;have run:=JO run;have zv:nu o' S:=by cases run with|no _ _ _ z=>exact z|yes _ _ _ _ _ _ z=>exact z
  refine pF (T.item Y rfl rfl rfl hc i _ s σ H (λ_ _=>Ex) I1 (zb H st.fpn) zl (n.go i H P α S I st.rel zv st.same st.pre)) λr s1 ⟨u,hr,h1⟩=>⟨λz=>(by rw[hr] at z;cases z),λv hv=>?_⟩
  obtain rfl:v=u:=Dd (hv.symm.trans hr);refine pF h1 λ_ s2 ⟨x,H2,I2,rx,y,A,z4⟩=>?_;obtain⟨P2,d,hd,r2,e2,rp⟩:=n.yld i H x H2 P α S I st.rel zv st.same st.pre y;cases (Ar I).symm.trans hd;have pl:=T.obj _ _ A;have yz:=I2.pinned (zb _ z4) pl;have two:∀ U e b q,g items[i] ak S=.ok U e->t U e=.ok b q->(∀ s4 G w P4 L (I4:Inv Y (aj++vF fp s2.heap) G w s4),ge B Y aj P1 α1 fp aw U q ds s4 G w P4 L o->tn (i+1) s4.heap->(b=false->Qa s4)/\(b=true->Aq (Av Y.prog Y.w) Y.A (zZ B.m cw bi am aq k (.ref aw) Y.env) (λ_ h=>Qa h) E s4))->Aq (Av Y.prog Y.w) Y.A (assign tg Y.env v) (λ_ s3=>Aq (Av Y.prog Y.w) Y.A (jL df Y.env) (λb s4=>(b=false->Qa s4)/\(b=true->Aq (Av Y.prog Y.w) Y.A (zZ B.m cw bi am aq k (.ref aw) Y.env) (λ_ h=>Qa h) E s4)) E s3) E s2:=by
   intro U e b q q1 q2 next;refine pF (hx▸_X hg yz r2 (st.env.mono e2 (AT _)) rx rp q1) λ_ s3 ⟨G,H3,P3,y1,I3,r3,z6,e3,zz⟩=>?_;refine pF (hx▸qAc ht I3 r3 z6 q2) λb' s4 ⟨hb,w,P4,L,I4,r4,z5,e4,zs⟩=>?_;have j:Inv Y (aj++vF fp s2.heap) G w s4:=I4.pins_of λp hp=>I4.pin p (Ca _ ((Bq.mp hp).elim (λz=>Dg _ (Dg _ z)) λz=>Ca _ z));have a4:=I4.pin (aw,o) (Ca _ (Dg _ (Ca _ (Cw.mpr rfl))));rw[hb];exact next s4 G w P4 L j ⟨j.unpinned,r4,z5,((st.same.trans e2).trans e3).trans e4,(st.pre.trans zz).trans zs,(jY T A pl j).2,a4.2.1,a4.1,B.mono ((e2.trans e3).trans e4) (zz.trans zs) st.acc⟩ (jY T A pl j).1
  cases run with
  |no U e q _ q1 q2 run=>exact two U e false q q1 q2 λs4 G w P4 L I4 O zy=>⟨λ_=>hA s4 G w P4 L o U q ds I O zy run,λz=>(by cases z)⟩
  |yes U e q l z2 S5 _ q1 q2 q3 run =>
   refine two U e true q q1 q2 λs4 G w P4 L I4 O zy=>⟨λz=>(by cases z),λ_=>?_⟩
   refine pF (he (aj++vF fp s2.heap) P1 α1 aw U l q S5 ds z2 s4 (λH hn=>WW (c H hn) zx) ⟨G,w,P4,L,o,I4,O.rel,O.env,O.same,O.pre,λb hb=>(by cases hb),O.acn,O.at',O.acc⟩ q3) λ_ h ⟨z8,H5,P5,z7,o5,M⟩=>?_
   exact hA h z8 H5 P5 z7 o5 l S5 z2 I ⟨M.inv.unpinned,M.rel,M.env,M.same,M.pre,(jY T A pl M.inv).2,M.acn,M.at',M.acc⟩ (jY T A pl M.inv).1 run
 .rw[Pj li] at run
  obtain⟨z,rfl,rfl,rfl⟩:=M8 run;refine pF (T.done Y rfl rfl rfl hc i _ s σ H (λ_ _=>Ex) I1 (zb H st.fpn) zl (n.stop i H P α _ li st.rel z st.same st.pre)) λr s1 ⟨hr,I2⟩=>⟨λ_=>?_,λv hv=>(by rw[hr] at hv;cases hv)⟩
  have a:=_D.Inv.pinned1 I2;exact hD s1 σ H P α o ⟨I2.unpinned,st.rel,st.env,st.same,st.pre,st.fpn,a.2,a.1,st.acc⟩
def K9 (P:Bi)(w:Bz)(m:Au)(cw:By)(bi:Aa Eg)(am:Ep)(aq:Ev)(k:Ah)(it aw:Ac)(ak:Ix):(Av P w).den (.compLoop (w6 m cw bi am aq) k it aw ak)=(AbD (w6 m cw bi am aq) k it aw ak).onRaise (λx=>do Tp x ak;theTreesLotGoes x):=by cases m <;> rfl
def KA (A:Bp)(m:Au)(cw:By)(bi:Aa Eg)(am:Ep)(aq:Ev)(k:Ah)(it aw:Ac)(ak:Ix):A.under (.compLoop (w6 m cw bi am aq) k it aw ak)=A:=by cases m <;> rfl
def tP {kk:DK}{s:Ag}{σ:_L.St}{H P:Hp}{G:Aa D}{o:Cp}(e:Y.calm=true)(v:Y.xe=λ_ _=>Ex)(p:bi[k]? = Ab ⟨tg,be,df,0⟩)(has:∀ g',bi[k+1]? = Ab g'->g'.is_async=0)
  (T:mw Y.prog Y.w Y.K tg J fp it tn) (w:me Y.K J P1 α1 o' items) (hg:PG Y tg (nz Y g)) (ht:rn Y df t) (a:PK B Y (λaw=>zZ B.m cw bi am aq k aw Y.env) kk) (L:∀ H:Hp,H aw=none->xR Y aj H aw) (c:∀ H:Hp,(∀ b∈fp,H b=none)->∀ b∈fp,xR Y aj H b) (d:aw ∉ fp)
  (st:ge B Y aj P1 α1 fp aw ak S G s σ H P α o) (j:tn 0 s.heap) (run:jy o' g t kk items ak S G=.ok (gh,tj) SF)
  (hR:∀ s' U z q O o',ge B Y aj P1 α1 fp aw gh SF tj s' U z q O o'->R (.ok .next) s') :
  Ik (Av Y.prog Y.w) Y.A (.compLoop (w6 B.m cw bi am aq) k (.ref it) (.ref aw) Y.env) R s:=by
 refine codeAny_loop rfl (H_ B Y aj P1 α1 fp aw tn (jy o' g t kk) items (gh,tj) SF) (λn s r=>?_) items.length ⟨0,σ,H,P,α,o,ak,S,G,rfl,Hg _,st,j,run⟩;obtain⟨i,σ,H,P,α,o,ak,S,ds,hn,hi,st,y,run⟩:=r;subst hn;rw[K9,KA];refine wpAny_noted (LA (m:=B.m) p has (Qa:=λs'=>∃ m,m<items.length-i/\H_ B Y aj P1 α1 fp aw tn (jy o' g t kk) items (gh,tj) SF m s') (Qd:=R (.ok .next)) (λ_ h=>⟨rfl,h⟩) (λ_ h=>h) ?_);exact ZK e v T w hg ht a L c d hi st y run (λs' U z q O x A f l I M u E=>⟨_,Nat.sub_succ_lt_self _ _ I,i+1,U,z,q,O,x,A,f,l,rfl,I,M,u,E⟩) hR
set_option tactic.hygienic true in
def N3 (n:Y.xe=λ_ _=>Ex)(L:bi[k+1]? = none)(he:PE Y cw (tD Y fe)):PK ko Y (λaw=>zZ false cw bi am aq k aw Y.env) (zL fe):=by
 intro aj P1 α1 aw ak b_ S x ds zb s O ⟨σ,H,P,α,o,st⟩ run;show Aq _ _ (zZ false cw bi am aq k (.ref aw) Y.env) _ _ s;unfold zZ;rw[L];dsimp only[zw];unfold zL at run;cases j:fe ak S with
 |bad=>rw[j] at run;cases run
 |ex c z x=>rw[j] at run;cases run
 |ok d5 S5 =>
  rw[j,bb.bind_ok] at run
  split at run
  .rename_i f
   cases run;have fA:=O H st.acn;have I1:=_D.Inv.pin1 st.inv fA st.at' (ko.cell st.acc);refine Ad (pF (n▸_Y he I1 st.rel st.env j) λM w ⟨h,v,r,d,U⟩=>?_);have J:=_D.Inv.pinned1 U.inv;have J1:=U.inv.unpinned;obtain⟨u,p⟩:=J;obtain⟨I,n5,vs,ho,T,E,hz⟩:=st.acc;subst ho;have l:vs.length=ds.length:=E.length.symm;have i:=T.length;refine Ad (Pi Zw ⟨_,u,rfl⟩ Zc (Yh _ _) (Aa6 aw I.toArray n5 M (by rw[Be];rw[<- zV];lia)) ⟨u,?_⟩)
   have q:=AaN u (·.push M)
   have G:=O v p;have A:∀ b o,b≠aw->w.heap.get? b=Ab o->(w.heap.update aw (Fg (·.push M))).get? b=Ab o:=λb o y e=>(Dm w.heap _ (Gj y)).trans e
   have a:=J1.turned (t':=w.toks) A p G.2.1 G.2.2.2.1 G.2.2.2.2.1 G.2.2.2.2.2;refine Am ⟨σ,v,r,d,_,a,U.rel,U.env,st.same.trans U.same,st.pre.trans U.pre,λb y=>(by simp at y),p,q,?_⟩
   refine⟨I++[M],_,vs++[h],by simp <;> rfl,T.append (.cons U.val .nil),?_,by simp;lia⟩
   exact(qE.mono U.same U.pre _ _ E).append (.cons U.rep .nil)
  .cases run
end
def pX {prog:Bi}{w:Bz}{A:Bp}{s:Ag}{U:By}{Y:Aa Eg}{am:Ep}{J:Ev}{k:Ah}{it aw:Ac}{ak:Ix}{m:Au}(I:Y[k]? = Ab g)(L:g.is_async=0)
  (h0:Ik (Av prog w) A (.compLoop (w6 m U Y am J) k it aw ak) R s)
  (h:Aq (Av prog w) A (Rj it) (λG s'=>Ik (Av prog w) A (.compLoop (w6 m U Y am J) k G aw ak) R s') (notedBy (Av prog w) A ak λx s'=>R (.error x) s') s) :
  Ik (Av prog w) A (.compStart (w6 m U Y am J) k it aw ak) R s:=by
 refine Wq ?_;have E:(Av prog w).den (.compStart (w6 m U Y am J) k it aw ak)=(compStart (w6 m U Y am J) k it aw ak).onRaise (λx=>do Tp x ak;To theWindowsPlace):=by cases m <;> rfl
 have H:A.under (.compStart (w6 m U Y am J) k it aw ak)=A:=by cases m <;> rfl
 have B:(AbY (w6 m U Y am J) k it aw ak).quiet=true/\∀ G,(AbY (w6 m U Y am J) k G aw ak).quiet=true:=by cases m <;> exact⟨rfl,λ_=>rfl⟩
 rw[E,H];refine wpAny_notedAt ?_;have O:clausesOf (w6 m U Y am J)=Y:=by cases m <;> rfl
 have T:(g.is_async != 0)=false:=by rw[L];rfl
 unfold compStart;simp only[O,I,Option.elim,T,Bx,Dx];refine Ad (Kl (wpAny_ite ?_))
 split
 .exact Am (And.intro B.1 h0)
 .refine Ad (Ho ?_)
  exact Ad (Nb (Ad (Gr h (λG s' h'=>Am (And.intro (B.2 _) h')) λ_ _ x=>x)))
section
variable {B:Acc}{Y:Cx}{cw tg be:By}{df:Aa By}{bi:Aa Eg}{am:Ep}{aq:Ev}{k:Ah}{g:DG}{t:DT}{fi:nq}{kk:DK}
def WV {X:Cx}{aj pl:aa}{b:Af}(f:xR X (aj++pl) H b):xR X aj H b:=by
 obtain⟨T,U,G,L,E,J⟩:=f;refine⟨T,U,G,L,E,λp O=>J p ?_⟩;rcases Bq.mp O with z|z
 .exact Dg _ z
 .exact Ca _ (Dg _ z)
theorem qAb (hc:Y.calm=true)(hx:Y.xe=λ_ _=>Ex)(I:bi[k+1]? = Ab ⟨tg,be,df,0⟩)(has:∀ g',bi[k+1+1]? = Ab g'->g'.is_async=0)(hi:PI Y tg be (ng Y fi))(hg:PG Y tg (nz Y g))(ht:rn Y df t)
  (he:PK B Y (λaw=>zZ B.m cw bi am aq (k+1) aw Y.env) kk) (hs:∀ x,El be Y.env x=pure x):PK B Y (λaw=>zZ B.m cw bi am aq k aw Y.env) (kIn fi g t kk):=by
 intro aj P1 α1 aw ak b_ S S' ds e s E ⟨σ,H,P,α,o,st⟩ run;show Aq _ _ (zZ B.m cw bi am aq k (.ref aw) Y.env) _ _ s;unfold zZ;rw[I];dsimp only;unfold kIn at run;cases q:fi ak S with
 |bad=>rw[q] at run;cases run
 |ex c z S'=>rw[q] at run;cases run
 |ok p S1 =>
  rw[q,bb.bind_ok] at run;have fA:=E H st.acn;have I1:=_D.Inv.pin1 st.inv fA st.at' (B.cell st.acc);have M:=hi (aj++[(aw,o)]) s σ H (λJ H1=>∃ L U,bf Y.K H1 L U S1/\qF P L/\α<+:U/\me Y.K J L U p.1 p.2) I1 ⟨P,α,ak,S,st.rel,st.env,by rw[q];exact λJ H' L U r' j w it=>⟨L,U,r',j,w,it⟩⟩
  rw[hx] at M;refine Ad (pF M λv s1 h1=>Ad (Nb ?_));rw[hs];refine Ad (Am (Ad (Ee (pF h1 λzb s2 h2=>?_))));obtain⟨it,fp,tn,J,H2,rfl,I2,T,y,u,L,U,r2,j,w,n⟩:=h2;have a2:=_D.Inv.pinned1 I2;have d:aw ∉ fp:=λhm=>(u aw hm).2.2.2.2.2 (aw,o) (Ca _ (Ca _ bB)) rfl
  have O:Ik (Av Y.prog Y.w) Y.A (.compLoop (w6 B.m cw bi am aq) (k+1) (.ref it) (.ref aw) Y.env) (λr i=>match r with
    |.ok f=>QZ B Y aj P1 α1 aw b_ S' e i
    |.error _=>Ex) s2:=by
   refine tP (aj:=aj) (fp:=fp) (P1:=L) (α1:=U) (σ:=σ) (H:=H2) (P:=L) (α:=U) (o:=o) hc hx I has T n hg ht he E (λH hn b A=>?_) d
    ⟨I2.unpinned,r2,st.env.mono j w,qF.refl _,AT _,λb A=>(u b A).1,a2.2,a2.1,B.mono j w st.acc⟩ y run λi l H' Pf a o' G=>?_
   .obtain⟨_,g1,g2,g3,g4,g5⟩:=WV (u b A)
    exact⟨hn b A,g1,g2,g3,g4,g5⟩
   .exact⟨l,H',Pf,a,o',G.inv,G.rel,G.env,(st.same.trans j).trans G.same,(st.pre.trans w).trans G.pre,λb A=>(by simp at A),G.acn,G.at',G.acc⟩
  refine Ad (wpAny_runOwn (Mp (pX I rfl O (T.self Y.A 0 _ _ _ y O)) λr i h=>?_));cases r with
  |error x=>exact Ao h
  |ok f=>exact Am h
end
noncomputable def vy (m:Au)(r:bb (qD × Aa D)):bb D:=match r with
 |.ok p Y=>if m then .ok (.loc Y.length) (Y++[.lst p.2]) else .ok (.lst p.2) Y
 |_=>.bad
def zH (m:Au)(bw:Aa (Ak Ah))(fi:nq)(g:DG)(t:DT)(k:DK):DE:=λak S=>(fi ak S).bind λp Y=>vy m (jy p.1 g t k p.2 (w4 bw ak) Y [])
section
variable {X:Cx}{cw tg be:By}{df:Aa By}{am:Ep}{aq:Ev}{N':Aa As}{bw:Aa (Ak Ah)}{fi:nq}{g:DG}{t:DT}{kk:DK}{ay:Aa Eg}{mm:Au}
def YI {P:Hp}{Ok:D->ap->Prop}(h:qK X P α (vy mm r) Ok):∃ gh ds SF,r=.ok (gh,ds) SF/\(if mm then Ok (.loc SF.length) (SF++[.lst ds]) else Ok (.lst ds) SF):=by
 cases r with
 |ok p S =>
  obtain⟨gh,ds⟩:=p;refine⟨gh,ds,S,rfl,?_⟩;cases mm <;> exact h
 |ex c x S=>exact Ao h
 |bad=>exact Ao h
def JE {σ:_L.St}{Q:VK}(c:kL X aj σ P1 Y ds SF aw C s)(ok:if mm then jf X P1 Y Q (.loc SF.length) (SF++[.lst ds]) else jf X P1 Y Q (.lst ds) SF):EP X aj σ Q (.ref aw) s:=by
 cases mm with
 |false=>exact M0 c ok
 |true =>
  obtain⟨j,z,T,vs,I,r,U,L,A,O,_⟩:=c;exact⟨.ref aw,_,I,rfl,fD r U O λv H w J B G M E=>ok v H w J B (L.trans G) (A.trans M) E⟩
def WN {M:Lb}{A:Bp}{E:ae}{s:Ag}{J:Af}{Y:Aa (As × Af)}{O:As}{ak:Ix}{Q:Ix->Ag->Prop}
  (L:Q (newEnv am s.heap.objs.size J (Il (s.heap.objs.size+1) am.names Y) O none .none (Ab ak) Rm) { s with heap:=AaC (s.heap.push { cls:=.type "dict",data:=.dict #[] }) am.names }) :
  Aq M A (Xy am J Y [] O none .none (Ab ak)) Q E s:=by
 simp only[Xy,Zx,Eb];refine Ad (wpAny_alloc ?_);refine Ad (wpAny_layCells _ (λB U T=>by cases G:U == Pz <;> simp[G]) _ _ _ _ ?_)
 rw[show ({ s with heap:=s.heap.push { cls:=.type "dict",data:=.dict #[] } } : Ag).heap.objs.size=s.heap.objs.size+1 from Fl ..]
 refine Ad ?_;rw[Ov];exact Am (Am L)
def fU {B:Acc}{o0:Cp}{aj:aa}{σ:_L.St}{d P1:Hp}{α1:ag}{U:Ag}{S1:ap}{items:Aa D}{it:Af}{fp:ag}{tn:Ah->Bt->Prop}{J:It}{E:ae}{RR:Ac->Af->Zp->Ag->Prop}
  (hc:X.calm=true) (S:d_ X.env.scope X.N am N' bw) (has:∀ g',(⟨tg,be,df,0⟩::ay:Aa Eg)[0+1]? = Ab g'->g'.is_async=0)
  (hg:∀ j C f G O,PG (z0 X N' am j C f G O) tg (nz (z0 X N' am j C f G O) g))
  (ht:∀ j C f G O,rn (z0 X N' am j C f G O) df t) (he:∀ j C f G O,PK B (z0 X N' am j C f G O) (λaw=>zZ B.m cw (⟨tg,be,df,0⟩::ay) am aq 0 aw (z0 X N' am j C f G O).env) kk)
  (i:Inv X aj σ d U) (r:bf X.K d P1 α1 S1) (re:zA X.K P1 α1 σ ak) (T:mw X.prog X.w X.K tg J fp it tn) (a:tn 0 U.heap) (hf:∀ b∈fp,xR X aj d b) (z2:me X.K J P1 α1 o' items) (run:jy o' g t kk items (w4 bw ak) S1 [] = .ok (gh,ds) SF)
  (h0:B.O X.K P1 α1 [] o0) (z3:o0.isFreed=false) (zz:∀ aw C s',U.heap.objs.size<=aw->(∃ m,s'.heap.Ns C m)->U.heap.objs.size<=C->aw≠C->(∃ j zb H' P' zy o',ge B (z0 X N' am j C fp U d) [] P1 α1 fp aw gh SF ds s' zb H' P' zy o')->RR (.ref aw) C (.ok .next) s') :
  ce X (Xy am X.env.globals (wY X.env.cells am.names []) [] X.env.qual none .none (Ab X.env)) (λq zl =>
   Ik (Av X.prog X.w) X.A (.compStart (w6 B.m cw (⟨tg,be,df,0⟩::ay) am aq) 0 (.ref it) (.ref U.heap.objs.size) { q with scope:=relabel am X.env }) (RR (.ref U.heap.objs.size) q.locals) zl) E { U with heap:=U.heap.push o0 }:=by
 have y:∀ b∈fp,b<U.heap.objs.size:=λb M=>by
  obtain⟨o,e,_⟩:=T.obj 0 _ a b M;exact Bf e
 refine WN ?_;dsimp only;generalize s:U.heap.push o0=L;have zc:L.objs.size=U.heap.objs.size+1:=by rw[<- s,Fl]
 have hC:U.heap.objs.size<=L.objs.size:=by rw[zc];exact Ss _
 have zs:U.heap.objs.size≠L.objs.size:=by rw[zc];exact Cn (Kk _)
 have kp:∀ b o,L.get? b=Ab o->(AaC (L.push { cls:=.type "dict",data:=.dict #[] }) am.names).get? b=Ab o:=λb o e=>pushCells_keeps _ _ b o (Aj _ e);have A:(AaC (L.push { cls:=.type "dict",data:=.dict #[] }) am.names).Ns L.objs.size (λ_=>none):=(Heap.Ns.new L (.type "dict")).keeps (pushCells_keeps _ _);have co:=cellsFrom_ok am.names (L.push { cls:=.type "dict",data:=.dict #[] }) (L.objs.size+1) [] ⟨λ_ _ u=>(nomatch u),Pa⟩ (by rw[Fl];exact Ax _)
 rw[Fl] at co;generalize z1:AaC (L.push { cls:=.type "dict",data:=.dict #[] }) am.names=I at kp A co ⊢;have w:∀ b o,U.heap.get? b=Ab o->I.get? b=Ab o:=λb o e=>kp b o (s▸Aj _ e);have zv:I.get? U.heap.objs.size=Ab o0:=kp _ _ (s▸Bl _ z3);have I4:∀ n,Inv (z0 X N' am (gJ X am L.objs.size) L.objs.size fp U d) [] (vI bw σ) d { U with heap:=I,toks:=n }:=λn =>
  UQ (s4:={ U with heap:=I,toks:=n }) S i hf y hC A rfl rfl w co
 have l:∀ n,Ik (Av X.prog X.w) X.A (.compLoop (w6 B.m cw (⟨tg,be,df,0⟩::ay) am aq) 0 (.ref it) (.ref U.heap.objs.size) (compEnvC am (gJ X am L.objs.size) L.objs.size X.env)) (RR (.ref U.heap.objs.size) L.objs.size) { U with heap:=I,toks:=n }:=λn=>by
  refine tP (B:=B) (kk:=kk) (o':=o') (Y:=z0 X N' am (gJ X am L.objs.size) L.objs.size fp U d) (aj:=[]) (fp:=fp) (aw:=U.heap.objs.size) (P1:=P1) (α1:=α1) (σ:=vI bw σ) (H:=d) (P:=P1) (α:=α1) (o:=o0) hc rfl rfl has T z2
   (hg _ _ _ _ _) (ht _ _ _ _ _) (he _ _ _ _ _) (λH hn=>?_) (λH hn b M=>?_) (λu=>Fe _ (y _ u)) ⟨I4 n,r,VL re bw,qF.refl _,AT _,λb M=>(hf b M).1,i.hok.fresh (Ax _),zv,h0⟩ (T.keep _ _ _ a λb M o e=>w b o e) run λs' zb H' P' zy o' st=>?_
  .refine⟨hn,zs,λu=>?_,.inr (Ax _),λx c h z=>?_,λp hp=>absurd (show p∈([]:aa) from hp) bB⟩
   .obtain⟨_,o,ho,_⟩:=i.stack.mem u
    exact Fe _ (Bf ho)
   .rcases xV S i.ok h with⟨m,_⟩|⟨m,_⟩
    .exact Fe _ (Kw hC (z▸(co.empty x c m).2))
    .obtain⟨v,ob,zx,_⟩:=i.cell x c m
     rw[z] at zx;exact Fe _ (Bf zx)
  .obtain⟨_,h1,h2,h3,h4,h5⟩:=hf b M
   refine⟨hn b M,Cn (Bh (y b M) hC),λu=>?_,.inl M,λx c h=>(by
    rcases xV S i.ok h with⟨m,_⟩|⟨m,_⟩
    .exact Gj (Cn (Ie (Bh (y b M) hC) (co.empty x c m).2))
    .exact h4 x c m),λp hp=>absurd (show p∈([]:aa) from hp) bB⟩
   rcases Ba.mp (i.stkSub b u) with z|z
   .exact h1 z
   .exact h2 z
  .obtain⟨m,u,_⟩:=st.inv.loc
   exact zz _ _ s' (Ax _) ⟨m,u⟩ hC zs ⟨_,_,_,_,_,_,st⟩
 exact pX (k:=0) rfl rfl (l _) (T.self X.A 0 _ _ _ (T.keep _ _ _ a λb M o e=>w b o e) (l _))
theorem UX (hc:X.calm=true)(S:d_ X.env.scope X.N am N' bw)(hi:PI X tg be (ng X fi))
  (hg:∀ L C ex Y U,PG (z0 X N' am L C ex Y U) tg (nz (z0 X N' am L C ex Y U) g))
  (ht:∀ L C ex Y U,rn (z0 X N' am L C ex Y U) df t) (has:∀ g',(⟨tg,be,df,0⟩::ay:Aa Eg)[0+1]? = Ab g'->g'.is_async=0) (he:∀ L C ex Y U,PK ko (z0 X N' am L C ex Y U) (λaw=>zZ false cw (⟨tg,be,df,0⟩::ay) am aq 0 aw (z0 X N' am L C ex Y U).env) kk)
  (hs:∀ x,El be X.env x=pure x:=by intro _;rfl):PE X (.ListComp cw (⟨tg,be,df,0⟩::ay) am aq) (tD X (zH mm bw fi g t kk)):=by
 intro b s σ H Q I h;obtain⟨P,α,ak,u,r,re,af⟩:=h;rw[eval_ListComp];have O:qK X P α ((fi ak u).bind λp A=>vy mm (jy p.1 g t kk p.2 (w4 bw ak) A [])) (jf X P α Q):=af;refine Ui (use:=none) rfl hs (iW S I.ok) S.kind S.names ?_;refine bv (hi b s σ H (λJ H1=>∃ (E:Hp) (G:ag) (p:Ak (Ah × MO) × Aa _D.D) (A:ap),bf X.K H1 E G A/\qF P E/\α<+:G/\me X.K J E G p.1 p.2/\qK X P α (vy mm (jy p.1 g t kk p.2 (w4 bw ak) A [])) (jf X P α Q)) I ⟨P,α,ak,u,r,re,?_⟩) λxv s1 h1=>bv h1 λzc s2 h2=>?_
 .cases q:fi ak u with
  |bad=>rw[q] at O;exact O
  |ex c x S'=>rw[q] at O;exact O
  |ok p A=>rw[q] at O;exact λJ H1 E G a z w it=>⟨E,G,p,A,a,z,w,it,O⟩
 obtain⟨it,fp,tn,J,H2,rfl,I2,T,n,hf,E,G,p,A,a,z,w,f,e⟩:=h2;obtain⟨gh,ds,SF,run,ok⟩:=YI e;refine De (fU (B:=ko) (o0:={ cls:=.type "list",dict:=none,data:=.seq ([] : Aa Ac).toArray }) (RR:=λaw C=>compPost (Av X.prog X.w) X.A X.xe none (EP X b σ Q) aw C) hc S has hg ht he I2 a (re.mono z w) T n hf f run ⟨[],0,[],rfl,.nil,.nil,Hg _⟩ rfl ?_);intro aw C s' hA ⟨m,hm⟩ hC o ⟨L,zl,Hf,Pf,zs,of,zb⟩;have d:∀ h',Go C s'.heap h'->kL X b σ E G ds SF aw C { s' with heap:=h' }:=λh' sb=>eY I2 hf rfl hC hA o zb sb
 refine⟨m,hm,λh' sb=>JE (mm:=mm) (d h' sb) ?_⟩;cases mm with
 |false=>exact λv j P3 M y i k l=>ok v j P3 M y (z.trans i) (w.trans k) l
 |true=>exact λv j P3 M y i k l=>ok v j P3 M y (z.trans i) (w.trans k) l
theorem J8 {i:Ah}{y:As}{py j:Ev}(hc:X.calm=true)(hN:X.N.Nodup)(S:d_ X.env.scope X.N am N' bw)(hi:PI X tg be (ng X fi))
  (hg:∀ M C ex Y U,PG (z0 X N' am M C ex Y U) tg (nz (z0 X N' am M C ex Y U) g))
  (ht:∀ M C ex Y U,rn (z0 X N' am M C ex Y U) df t) (has:∀ g',(⟨tg,be,df,0⟩::ay:Aa Eg)[0+1]? = Ab g'->g'.is_async=0) (he:∀ M C ex Y U,PK ko (z0 X N' am M C ex Y U) (λaw=>zZ false cw (⟨tg,be,df,0⟩::ay) am aq 0 aw (z0 X N' am M C ex Y U).env) kk)
  (hy:X.N[i]? = Ab y:=by rfl) (zx:Loc X.env.scope y:=by first|exact AaO rfl|exact Zr rfl) (hf:X.fn y=true\/X.env.scope.names.lookup y=Ab .local:=by first|exact .inl rfl|exact .inr rfl|assumption)
  (hsw:Pb (.ListComp cw (⟨tg,be,df,0⟩::ay) am aq) (Ab (.Name y py)) j.line X.env=pure true:=by rfl)
  (hs:∀ x,El be X.env x=pure x:=by intro _;rfl):PS X (.Assign [.Name y py] (.ListComp cw (⟨tg,be,df,0⟩::ay) am aq) j) (ii X (qS (zH mm bw fi g t kk) (bh i))):=by
 intro aj s σ H D I h;obtain⟨P,α,ak,S0,r,re,af⟩:=h;have zs:=xG af;have O:qK X P α ((fi ak S0).bind λp l=>vy mm (jy p.1 g t kk p.2 (w4 bw ak) l [])) (λd S=>qX X P α (.nx (ak.set i (Ab d)) S) D):=zs;rw[exec_Assign_Name_used _ _ _ _ hsw];refine Ad (Nb (Ad ?_));show Aq _ X.A (do let _ <- comprehension (.ListComp cw (⟨tg,be,df,0⟩::ay) am aq) am X.env _ (newList []) false (eval be X.env) (Ab (assign (.Name y py) X.env))) _ _ s
 refine Ad (Gr (Ui (use:=Ab (assign (.Name y py) X.env)) (Q:=λ_ E=>SP X aj D .next E) rfl hs (iW S I.ok) S.kind S.names ?_) (λ_ E hq=>Am (Am hq)) λ_ _ e=>e);refine bv (hi aj s σ H (λJ H1=>∃ (u:Hp) (G:ag) (p:Ak (Ah × MO) × Aa _D.D) (l:ap),bf X.K H1 u G l/\qF P u/\α<+:G/\me X.K J u G p.1 p.2/\qK X P α (vy mm (jy p.1 g t kk p.2 (w4 bw ak) l [])) (λd S=>qX X P α (.nx (ak.set i (Ab d)) S) D)) I ⟨P,α,ak,S0,r,re,?_⟩) λxv s1 h1=>bv h1 λz5 s2 h2=>?_
 .cases q:fi ak S0 with
  |bad=>rw[q] at O;exact O
  |ex c x S'=>rw[q] at O;exact O
  |ok p l=>rw[q] at O;exact λJ H1 u G r1 v k it=>⟨u,G,p,l,r1,v,k,it,O⟩
 obtain⟨it,fp,tn,J,H2,rfl,I2,T,z1,zc,u,G,p,l,r1,v,k,zz,z3⟩:=h2;obtain⟨gh,ds,SF,run,ok⟩:=YI z3;refine De (fU (B:=ko) (o0:={ cls:=.type "list",dict:=none,data:=.seq ([] : Aa Ac).toArray }) (RR:=λaw C=>compPost (Av X.prog X.w) X.A X.xe (Ab (assign (.Name y py) X.env)) (λ_ E=>SP X aj D .next E) aw C) hc S has hg ht he I2 r1 (re.mono v k) T z1 zc zz run ⟨[],0,[],rfl,.nil,.nil,Hg _⟩ rfl ?_);intro aw C E hA ⟨m,hm⟩ hC zb ⟨M,z6,Hf,Pf,z7,of,z4⟩;have zy:∀ h',Go C E.heap h'->kL X aj σ u G ds SF aw C { E with heap:=h' }:=λh' sb=>eY I2 zc rfl hC hA zb z4 sb
 show Aq _ X.A (assign (.Name y py) X.env (.ref aw)) _ _ E;obtain⟨H3,P3,A,vs,I3,r3,n,q1,q2,rp,zv⟩:=zy E.heap (AaD _ _);obtain⟨r4,e4⟩:=r3.pure (o:=.lst vs) n;have w:(cc H3 aw (.lst vs)) C=none:=by rw[qL (Gj zb)];exact zv
 have f:=I2.fpOk hC w;refine xL (rA I3 hN hy zx (show qJ (V.ref aw) (Cb aw) from rfl) (λs5 I5 ⟨a,sb,ha⟩=>?_) hf)
 have zl:C≠a:=by
  rcases ha with rfl|ha
  .exact f.2.1
  .exact λz=>f.2.2.2.2.1 _ _ ha z.symm
 refine⟨m,hm.sameBut sb zl,λh' z2=>?_⟩;have I6:Inv X aj (σ.set i (Ab (V.ref aw))) (cc H3 aw (.lst vs)) { s5 with heap:=h' }:=I5.turned (t':=s5.toks) (λb o hb e=>(z2.2 b hb).trans e) w f.2.1 f.2.2.2.1 f.2.2.2.2.1 f.2.2.2.2.2
 cases mm with
 |false =>
  refine⟨_,_,I6,ok _ _ (cc P3 aw (.lst vs)) A r4 ?_ ((v.trans q1).trans e4) (k.trans q2)⟩;exact((re.mono v k).mono (q1.trans e4) q2).set i (fO (.inl (.inl qV)) (qE.mono e4 (AT _) _ _ rp))
 |true =>
  have L:A<+:A++[aw]:=Fh _ _;have r5:=r3.new (o:=.lst vs) (m:=.lst ds) n ⟨vs,qV,qE.mono (qF.refl _) L _ _ rp⟩;refine⟨_,_,I6,ok _ _ P3 (A++[aw]) r5 ?_ (v.trans q1) ((k.trans q2).trans L)⟩;refine((re.mono v k).mono q1 (q2.trans L)).set i ?_;simp only[au];exact⟨aw,rfl,by rw[<- r3.len];simp⟩
end
section
def qCF:D->Aa D->ap->bb D:=λa ds S=>match a,ds with
 |.loc n,[i,x]=>match S[n]? with
  |some (.dct Y)=>match kE i with
   |some k=>match yC Y k with
    |some d=>.ok d S
    |none=>if Y.length<bq then .ok x (S.set n (.dct (jH Y k x))) else .bad
   |none=>.bad
  |_=>.bad
 |_,_=>.bad
def fR (a b c:Ac):AaU "dict.setdefault" ⟨[a,b,c],[]⟩:=by unfold AaU;kernel_rfl
noncomputable def yP:Aa D->Ak (Aa An)
 |[]=>Ab []
 |.int i::r=>(yP r).map (i::·)
 |_::_=>none
def sM (Y:Aa An):yP (Y.map D.int)=Ab Y:=by
 induction Y with
 |nil=>rfl
 |cons n r J=>exact congrArg (Option.map (n::·)) J
theorem gW:∀ {ds:Aa D} {Y:Aa An},yP ds=Ab Y->ds=Y.map D.int
 |[],Y,h=>by cases h;rfl
 |d::r,Y,h=>by
  cases d with
  |int i =>
   obtain⟨m,J,rfl⟩:=Dn.mp (show (yP r).map (i::·)=Ab Y from h)
   rw[gW J];rfl
  |_=>exact nn h
theorem jS {K:Ai}{P:Hp}:∀ {Y:Aa An} {vs:Aa V},qE K P α (Y.map D.int) vs->vs=Y.map V.int
 |[],vs,r=>by rw[r.nil_inv];rfl
 |n::Y,vs,r=>by
  obtain⟨w,J,rfl,p,t⟩:=r.cons_inv;simp only[au] at p;rw[p,jS t];rfl
def lR:G2:=λa b S=>match a,b with
 |.tup xs,.tup ys=>match yP xs,yP ys with
  |some J,Ab Y=>.ok (.bl (_H.lexLt J Y)) S
  |_,_=>.bad
 |_,_=>ph a b S
end
section
variable {X:Cx}
def aY {σ:_L.St}{H P:Hp}{xs:Aa D}(I:Inv X aj σ H s)(r:bf X.K H P α S)(O:qJ v J)(p:au X.K P α (.tup xs) v)(h:yP xs=Ab U) :
  ∃ a its,J=.ref a/\Rw s.heap a (List.toArray its)/\Mi its U:=by
 have:=gW h;subst this;obtain⟨a,vs,its,rfl,L,B,Y,G,T,_⟩:=uF I r p;have:=jS B;subst this;exact⟨a,its,O,G,by simpa using ZW Y⟩
set_option tactic.hygienic true in
def HM (z:X.A.units<Eu):f_ X (Cy .Lt) lR:=by
 intro M σ H s P α S v u E w a b Q I r B G O J Y;unfold lR at Y
 split at Y
 .rename_i xs ys
  split at Y
  .rename_i q o j L
   obtain⟨a,A,rfl,y,k⟩:=aY I r B O j;obtain⟨b,U,rfl,T,i2⟩:=aY I r G J L;exact _H.n_ y T (by simpa using k) (by simpa using i2) z ⟨.bl _,H,I,rfl,xr Y r (by simp only[au])⟩
  .exact Ao Y
 .exact BN M σ H s P α S v u E w a b Q I r B G O J Y
end
section
variable {X:Cx}
def gU:G2:=λa b S=>match a,b with
 |.lst xs,.int k=>if 0<=k/\k<2 ^ 62/\xs.length*k.toNat<=bq then .ok (.lst (Dk k.toNat xs).flatten) S else .bad
 |_,_=>zG a b S
theorem aK {K:Ai}{P:Hp}(r:qE K P α ds vs):∀ k:Ah,qE K P α (Dk k ds).flatten (Dk k vs).flatten
 |0=>by simpa using qE.nil
 |k+1=>by
  rw[Gy,Gy,IN,IN];exact r.append (aK r k)
inductive G_ (a b:D)(S:ap):Prop
 |old (e:gU a b S=zG a b S)
 |of (xs:Aa D) (k:An) (ea:a=.lst xs) (eb:b=.int k)
def qBn (a b:D)(S:ap):G_ a b S:=by
 cases a with
 |lst xs=>cases b with
  |int k=>exact .of xs k rfl rfl
  |_=>exact .old rfl
 |_=>exact .old rfl
def TN:f_ X (Ej .Mult) gU:=by
 intro x σ H s P α S v u j h a b Q I r p q o z B;cases qBn a b S with
 |old e =>
  rw[e] at B;exact oV x σ H s P α S v u j h a b Q I r p q o z B
 |of xs k g i =>
  subst g i;obtain⟨f,B⟩:=xT (X:=X) B;obtain⟨h1,h2,y⟩:=f;obtain⟨l,vs,Y,n,rfl,q1,t1,A,e,c,_⟩:=u9 I r o;cases (show j=Cb l from p)
  have:=xF z;subst this;obtain⟨t,rfl⟩:=q;have hl:Y.length=vs.length:=A.length.symm;have E:Y.toArray.size*k.toNat<=sizeLine:=by rw[Be,<- c,<- zV];exact y
  have L:¬ Y.toArray.size*k.toNat>(2 ^ 63-1)/8:=by
   have:(sizeLine:Ah)<=(2 ^ 63-1)/8:=by decide
   fin2
  have G:¬ (!Builtin.List.listFitsIndex k)=true:=by
   rw[fitsIndex_both om om];exact En
  have J:¬ Od (Y.toArray.size*k.toNat)=true:=by
   rw[KP E];exact En
  have O:AbH (λw M=>w++M) #[] (Dk (if Y.toArray.isEmpty=true then 0 else k.toNat) Y.toArray)=(Dk k.toNat Y).flatten.toArray:=by
   have f0:∀ m:Ah,AbH (λw M=>w++M) #[] (Dk m Y.toArray)=(Dk m Y).flatten.toArray:=λm=>by
    have:=sJ Y m [];rw[Hi] at this;exact this
   rw[f0];cases Y with
   |nil=>simp
   |cons a r'=>rw[Bd bB]
  refine wpAny_binaryOp_repeat_ref (T:="list") (U:="int") bU ⟨_,e,rfl⟩ (λd=>typeIs_int d k t) noFill_list_mul F.fills_int_mul F.slot_int_rmul repeat_list F.slot_int_index.lookup
   (Pi F.slot_int_rmul (typeIs_int s k t) F.entry_int_rmul (F.args_int_rmul_2 _ _) (int___rmul___int_list k t l Y.toArray n)
    ⟨e,rfl,⟨_,e,rfl⟩,Pi F.slot_list_mul ⟨_,e,rfl⟩ F.entry_list_mul (F.args_list_mul_2 _ _) (AutoListH.list___mul___list_int_3 l Y.toArray n k t G L J) ⟨e,?_⟩⟩)
  rw[O];exact mV I r (aK t1 k.toNat) (A.rep k.toNat) (by rw[MX,Nat.mul_comm];exact y) B
def UK:Gn "set" = Ab (.type "set"):=by decide +kernel
end
structure vj (X:Cx)(tg it:By)(f:nq):Prop where
 get:PI X tg it (ng X f)
structure QK (B:Acc)(Y:Cx)(step:Ac->Kj Ro)(k:DK):Prop where
 get:PK B Y step k
section
variable {B:Acc}{X Y:Cx}{tg it e cw be:By}{df:Aa By}{fa fe:DE}{fI:DI}{f2:nq}{g:DG}{t:DT}{kk:DK}{aq:Ev}{k:Ah}{x:As}{cm:Au}{f:DS}{bi fu:Aa Eg}{am:Ep}{N':Aa As}{bw:Aa (Ak Ah)}{mm:Au}
def VE (h:QI X tg it fI):vj X tg it (zY fI):=⟨FQ h.1⟩
def A4 (h:QE X e fa):vj X tg e (nw fa):=⟨OA h.1⟩
def NM (hp:ki X)(J:X.calm=true)(hi:vj X tg be f2)(G:QG X tg g)(U:QB X bo f)(hs:∀ x,El be X.env x=pure x:=by intro _;rfl):QS X (.For tg be bo [] aq) (l5 f2 g f):=⟨FV hp.1 J hi.1 G.1 U.1 hs⟩
def Q1 (G:Y.xe=λ_ _=>Ex)(J:bi[k+1]? = none)(U:QE Y cw fe):QK ko Y (λaw=>zZ false cw bi am aq k aw Y.env) (zL fe):=⟨N3 G J U.1⟩
def qAh (U:Y.calm=true)(L:Y.xe=λ_ _=>Ex)(J:bi[k+1]? = Ab ⟨tg,be,df,0⟩)(has:∀ g',bi[k+1+1]? = Ab g'->g'.is_async=0)(hi:vj Y tg be f2)(O:QG Y tg g)(T:vh Y df t)(G:QK B Y (λaw=>zZ B.m cw bi am aq (k+1) aw Y.env) kk)(hs:∀ x,El be Y.env x=pure x) :
  QK B Y (λaw=>zZ B.m cw bi am aq k aw Y.env) (kIn f2 g t kk):=⟨qAb U L J has hi.1 O.1 T.1 G.1 hs⟩
def GG (L:X.calm=true)(S:d_ X.env.scope X.N am N' bw)(hi:vj X tg be f2)(E:∀ O C G J U,QG (z0 X N' am O C G J U) tg g)(I:∀ O C G J U,vh (z0 X N' am O C G J U) df t)
  (has:∀ g',(⟨tg,be,df,0⟩::fu:Aa Eg)[0+1]? = Ab g'->g'.is_async=0)
  (T:∀ O C G J U,QK ko (z0 X N' am O C G J U) (λaw=>zZ false cw (⟨tg,be,df,0⟩::fu) am aq 0 aw (z0 X N' am O C G J U).env) kk) (hs:∀ x,El be X.env x=pure x) :
  QE X (.ListComp cw (⟨tg,be,df,0⟩::fu) am aq) (zH mm bw f2 g t kk):=
 ⟨UX L S hi.1 (λO C G s H=>(E O C G s H).1) (λO C G s H=>(I O C G s H).1) has (λO C G s H=>(T O C G s H).1) hs⟩
def GM {y:As}{L:Ev}(E:X.calm=true)(z:X.N.Nodup)(S:d_ X.env.scope X.N am N' bw)(hi:vj X tg be f2)(M:∀ O C G J U,QG (z0 X N' am O C G J U) tg g)(I:∀ O C G J U,vh (z0 X N' am O C G J U) df t)
  (has:∀ g',(⟨tg,be,df,0⟩::fu:Aa Eg)[0+1]? = Ab g'->g'.is_async=0)
  (j:∀ O C G J U,QK ko (z0 X N' am O C G J U) (λaw=>zZ false cw (⟨tg,be,df,0⟩::fu) am aq 0 aw (z0 X N' am O C G J U).env) kk) (A:X.N[m]? = Ab y) (T:Loc X.env.scope y) (w:X.fn y=true\/X.env.scope.names.lookup y=Ab .local)
  (hsw:Pb (.ListComp cw (⟨tg,be,df,0⟩::fu) am aq) (Ab (.Name y py)) L.line X.env=pure true) (hs:∀ x,El be X.env x=pure x):QS X (.Assign [.Name y py] (.ListComp cw (⟨tg,be,df,0⟩::fu) am aq) L) (qS (zH mm bw f2 g t kk) (bh m)):=
 ⟨J8 E z S hi.1 (λO C G s H=>(M O C G s H).1) (λO C G s H=>(I O C G s H).1) has (λO C G s H=>(j O C G s H).1) A T w hsw hs⟩
def qA9 (J:ax cm k X.A):je X (Cy .Lt) lR:=⟨HM (by have:=vz J;fin2)⟩
def IR:je X (Ej .Mult) gU:=⟨TN⟩
end
def kK (H:Hp):Aa (Af × HO)->Hp
 |[]=>H
 |p::Y=>kK (cc H p.1 p.2) Y
theorem dS {b:Af}:∀ {L:Aa (Af × HO)} {H:Hp},b ∉ L.map (·.1)->kK H L b=H b
 |[],_,_=>rfl
 |p::Y,H,h=>by
  simp only[Cu,Ba,not_or] at h;show kK (cc H p.1 p.2) Y b=H b;rw[dS h.2,qL h.1]
theorem i6 {b:Af}:∀ {L:Aa (Af × HO)} {H:Hp},kK H L b=Ab u->(b,u)∈L\/H b=Ab u
 |[],_,h=>.inr h
 |p::J,H,h=>by
  rcases i6 (L:=J) (H:=cc H p.1 p.2) h with h|h
  .exact .inl (Cs _ h)
  .by_cases Y:b=p.1
   .subst Y
    rw[qV] at h;cases h;exact .inl (DL ..)
   .rw[qL Y] at h
    exact .inr h
section
variable {X:Cx}{aj:aa}{σ: _L.St}{H:Hp}{s:Ag}
def Inv.laidL {L:Aa (Af × HO)}{t':Ah}(I:Inv X aj σ H s)(k:∀ b u,s.heap.get? b=Ab u->h'.get? b=Ab u)(hp:∀ p∈L,s.heap.objs.size<=p.1)(O:∀ p∈L,zE X.prog X.w (kK H L) h' p.1 p.2) :
  Inv X aj σ (kK H L) { s with heap:=h',toks:=t' }:=by
 have Y:∀ b u,H b=Ab u->kK H L b=Ab u:=λb u e=>by
  rw[dS (L:=L)]
  .exact e
  .intro hb
   obtain⟨p,J,rfl⟩:=Br.mp hb;rw[I.hok.fresh (hp p J)] at e;cases e
 have U:∀ b,b<s.heap.objs.size->kK H L b=H b:=λb hb=>dS λG=>by
  obtain⟨p,J,rfl⟩:=Br.mp G;exact absurd (Bh hb (hp p J)) (Fe _)
 refine I.un ⟨λb u q _ _ _=>k b u q,λb u q _ _ _=>⟨u.slots,k b u q⟩,λb u q n _=>by rw[U b (Bf q)];exact n,λb u q _=>⟨u,k b u q⟩,λb xs q=>Y b _ q,λb o xs q=>Y b _ q,λb B q=>⟨#[],by rw[Y b _ q];simp⟩⟩ λb u e=>?_
 rcases i6 e with G|hb
 .exact O (b,u) G
 .exact(I.hok b u hb).stay (λc v _ q=>k c v q) (λc q=>Y c _ q) λc xs q=>Y c _ q
end
def W5:Gn "list" = Ab (.type "list"):=by decide +kernel
end _D
namespace _S
variable {mask:Ah}{xs:Az Ah}
def Rs (xs:Az Ah):Prop:=xs.toList.Pairwise (· < ·)
def Rs.lt (h:Rs xs){a b:Ah}{x y:Ah}(Q:a<b)(Y:xs[a]? = Ab x)(U:xs[b]? = Ab y):x<y:=by
 obtain⟨O,N⟩:=Ec.mp Y;obtain⟨J,G⟩:=Ec.mp U;have:=Jx.mp h a b (by simpa using O) (by simpa using J) Q
 rw[<- N,<- G];simpa using this
def pf {i x d:Ah}(h:xs[i]? = Ab x):xs.getD i d=x:=by
 obtain⟨Y,Q⟩:=Ec.mp h;simp[Hc,Y,Q]
structure _u (xs:Az Ah)(j p:Ah):Prop where
 le:p<=xs.size
 lo:∀ i x,i<p->xs[i]? = Ab x->x<j
 hi:∀ i x,p<=i->xs[i]? = Ab x->j<=x
set_option tactic.hygienic true in
theorem mD (h:Rs xs)(j:Ah):∀ (fuel lo hi:Ah),hi-lo<=fuel->lo<=hi->hi<=xs.size ->
  (∀ i x,i<lo->xs[i]? = Ab x->x<j)->(∀ i x,hi<=i->xs[i]? = Ab x->j<=x)->_u xs j (AaE xs j fuel lo hi)
 |0,lo,hi,L,C,G,J,U=>by
  have:lo=hi:=by lia
  subst this;exact⟨G,J,U⟩
 |fuel+1,lo,hi,L,C,G,J,U=>by
  unfold AaE;by_cases Y:lo<hi
  .rw[Bg Y]
   have B:(lo+hi)/2<xs.size:=by lia
   have e:xs[(lo+hi)/2]? = Ab xs[(lo+hi)/2]:=Dp B;simp only[pf e]
   split
   .rename_i O
    refine mD h j fuel _ hi bA bA G (λi x N Q=>?_) U
    by_cases q:i=(lo+hi)/2
    .subst q;rw[e] at Q;cases Q;exact O
    .exact Ie (h.lt bA Q e) O
   .rename_i O
    refine mD h j fuel lo _ bA bA bA J (λi x N Q=>?_)
    by_cases q:i=(lo+hi)/2
    .subst q;rw[e] at Q;cases Q;lia
    .have:=h.lt (show (lo+hi)/2<i by lia) e Q
     lia
  .rw[Bd Y]
   have:lo=hi:=by lia
   subst this;exact⟨G,J,U⟩
def j7 (h:Rs xs)(j:Ah):_u xs j (Cj xs j):=
 mD h j _ _ _ bA bA (Ax _) (λi x Q=>by lia) λi x Q Y=>by
  have:=(Ec.mp Y).1
  lia
def mC (h:Rs xs){i j:Ah}(e:xs[i]? = Ab j):Cj xs j=i:=by
 have b:=j7 h j;have U:=(Ec.mp e).1;by_cases J:Cj xs j<i
 .have Q:xs[Cj xs j]? = Ab xs[Cj xs j]:=Dp bA
  have:=h.lt J Q e;have:=b.hi _ _ (Ax _) Q
  lia
 .by_cases Y:i<Cj xs j
  .have:=b.lo _ _ Y e
   lia
  .lia
def ZG (h:Rs xs){i j:Ah}(e:xs[i]? = Ab j):Cj xs (j+1)=i+1:=by
 have b:=j7 h (j+1);have U:=(Ec.mp e).1;have G:i<Cj xs (j+1):=by
  apply Gf;intro q;have:=b.hi _ _ bA e
  lia
 by_cases Y:i+1<Cj xs (j+1)
 .have J:i+1<xs.size:=by have:=b.le;lia
  have Q:xs[i+1]? = Ab xs[i+1]:=Dp J;have:=b.lo _ _ Y Q;have:=h.lt (Kk i) e Q
  lia
 .lia
def ZH (h:Rs xs):Cj xs 0=0:=by
 have b:=j7 h 0;apply Gf;intro q;have Q:0<xs.size:=by have:=b.le;lia
 have Y:xs[0]? = Ab xs[0]:=Dp Q;have:=b.lo _ _ bA Y
 lia
structure Tb (t:Gg):Prop where
 rs:Rs t.place
 dm:t.dummies=#[]
def oA (j:Ah):wP #[] j=false:=by simp[wP]
def r0 {t:Gg}(T:Tb t){i j:Ah}(e:t.place[i]? = Ab j):t.slot j=.live i:=by
 unfold AbZ;simp only[mC T.rs e,e];simp
def XI {t:Gg}(T:Tb t)(j:Ah):(∃ i,t.slot j=.live i/\t.place[i]? = Ab j)\/(t.slot j=.empty/\j ∉ t.place.toList):=by
 by_cases h:j∈t.place.toList
 .obtain⟨i,Y,e⟩:=Ct.mp h
  have Q:t.place[i]? = Ab j:=by rw[<- Bo,Ar Y,e]
  exact .inl ⟨i,r0 T Q,Q⟩
 .refine .inr ⟨?_,h⟩
  unfold AbZ;simp only[T.dm,oA];rw[Bd,Bd bB]
  intro q;apply h;have:t.place[Cj t.place j]? = Ab j:=by simpa using q
  obtain⟨U,J⟩:=Ec.mp this;rw[<- J];simp
def VQ (h:Rs xs){j:Ah}(O:j ∉ xs.toList):Rs (Ei xs (Cj xs j) j):=by
 have b:=j7 h j;unfold Rs;rw[Uj];have Y:∀ (i:Ah) (x:Ah),xs.toList[i]? = Ab x->(i<Cj xs j->x<j)/\(Cj xs j<=i->j<x):=λi x e=>by
  have U:xs[i]? = Ab x:=by rw[<- Bo];exact e
  refine⟨λq=>b.lo _ _ q U,λq=>?_⟩;have C:=b.hi _ _ q U;have:x≠j:=by
   rintro rfl;exact O (Bw e)
  lia
 have G:∀ x∈xs.toList.take (Cj xs j),x<j:=λx Q=>by
  obtain⟨i,J,e⟩:=Ct.mp Q;rw[Gh] at J;rw[Tw] at e;exact(Y i x (by rw[Ar bA,e])).1 bA
 have N:∀ x∈xs.toList.drop (Cj xs j),j<x:=λx Q=>by
  obtain⟨i,J,e⟩:=Ct.mp Q;rw[Gs] at J;rw[Tx] at e;exact(Y (Cj xs j+i) x (by rw[Ar bA,e])).2 bA
 rw[Dh,Ea];refine⟨List.Pairwise.take h,⟨N,List.Pairwise.drop h⟩,λx Q y hy=>?_⟩;rcases Ba.mp hy with rfl|hy
 .exact G x Q
 .exact Ie (G x Q) (N y hy)
def n8 {α:Type}(xs:Az α){p:Ah}(hp:p<=xs.size)(x:α)(i:Ah):(Ei xs p x)[i]? = if i<p then xs[i]? else if i=p then Ab x else xs[i-1]?:=by
 rw[<- Bo,Uj];have J:(xs.toList.take p).length=p:=by simp;lia
 by_cases Q:i<p
 .rw[Bg Q,Bb bA,Ob Q,Bo]
 .rw[Bd Q,Cq bA,J]
  by_cases Y:i=p
  .subst Y;simp
  .rw[Bd Y]
   obtain⟨k,U⟩:∃ k,i-p=k+1:=⟨i-p-1,by lia⟩
   rw[U,Vn,dL,Bo]
   congr 1;lia
def kD {α:Type}(xs:Az α)(p:Ah)(x:α):(Ei xs p x).size=xs.size+1:=by
 have:=(Lh xs p x).length_eq;simpa using this
def CN {t:Gg}(T:Tb t){j:Ah}(Q:j ∉ t.place.toList):Tb (t.put j).1:=by
 refine⟨VQ T.rs Q,?_⟩;show (if wP t.dummies j then _ else t.dummies)=#[]
 rw[T.dm,oA];rfl
open PySem.SetTable (Probe leap runEnd turns bits)
noncomputable def ox (mask:Ah)(p:Pc):Pc:=if p.more>0 then { p with j:=p.j+1,more:=p.more-1 } else { p with j:=(leap mask p.i p.perturb).1,more:=Ib mask (leap mask p.i p.perturb).1-(leap mask p.i p.perturb).1,i:=(leap mask p.i p.perturb).1,perturb:=(leap mask p.i p.perturb).2 }
def DC (t:Gg)(p:Pc):t.advance p=ox t.mask p:=rfl
def it (mask:Ah):Ah->Pc->Pc
 |0,p=>p
 |n+1,p=>it mask n (ox mask p)
theorem bW (mask:Ah):∀ (n:Ah) (p:Pc),it mask (n+1) p=ox mask (it mask n p)
 |0,p=>rfl
 |n+1,p=>bW mask n (ox mask p)
theorem nE (mask:Ah):∀ (m n:Ah) (p:Pc),it mask (m+n) p=it mask n (it mask m p)
 |0,n,p=>by rw[Ig];rfl
 |m+1,n,p=>by rw[Si];exact nE mask m n (ox mask p)
def rs (mask i Q:Ah):Pc:={ j:=i,more:=Ib mask i-i,i,perturb:=Q,dummy:=none }
def st (mask:Ah)(h:An):Pc:=rs mask (bits h % (mask+1)) (bits h)
def bD (mask i Q:Ah):∀ k,k<=Ib mask i-i->it mask k (rs mask i Q)={ j:=i+k,more:=Ib mask i-i-k,i,perturb:=Q,dummy:=none }
 |0,_=>rfl
 |k+1,Y=>by
  rw[bW,bD mask i Q k bA]
  unfold ox;rw[Bg (by show Ib mask i-i-k>0;lia)]
  simp only[Probe.mk.injEq,and_true,true_and]
  lia
def oH (mask i Q:Ah):it mask (Ib mask i-i+1) (rs mask i Q)=rs mask (leap mask i Q).1 (leap mask i Q).2:=by
 rw[bW,bD mask i Q _ (Ax _)];unfold ox;rw[Bd (by show ¬ (Ib mask i-i-(Ib mask i-i)>0);lia)]
 rfl
def AH (mask i:Ah):Ib mask i-i+1<=10:=by
 unfold Ib
 split <;> lia
def lp (mask:Ah):Ah->Ah × Ah->Ah × Ah
 |0,q=>q
 |n+1,q=>lp mask n (leap mask q.1 q.2)
theorem YB (mask:Ah):∀ (m n:Ah) (q:Ah × Ah),lp mask (m+n) q=lp mask n (lp mask m q)
 |0,n,p=>by rw[Ig];rfl
 |m+1,n,p=>by rw[Si];exact YB mask m n _
theorem BG (mask:Ah):∀ (n i Q:Ah),∃ k,k<=10*n/\it mask k (rs mask i Q)=rs mask (lp mask n (i,Q)).1 (lp mask n (i,Q)).2
 |0,i,Q=>⟨0,by lia,rfl⟩
 |n+1,i,Q=>by
  obtain⟨k,Y,e⟩:=BG mask n (leap mask i Q).1 (leap mask i Q).2;refine⟨(Ib mask i-i+1)+k,by have:=AH mask i;lia,?_⟩
  rw[nE,oH,e];rfl
theorem oQ (mask:Ah):∀ (n i Q:Ah),(lp mask n (i,Q)).2=Q/32 ^ n
 |0,i,Q=>by simp[lp]
 |n+1,i,Q=>by
  show (lp mask n ((leap mask i Q).1,Q/32)).2=_;rw[oQ mask n _ (Q/32),Nat.div_div_eq_div_mul,<- Nat.pow_succ']
def d3 (mask i Q:Ah):(leap mask i Q).1<=mask:=Ly (Po _ (Rl _))
theorem BH (mask:Ah):∀ (n i Q:Ah),i<=mask->(lp mask n (i,Q)).1<=mask
 |0,i,Q,h=>h
 |n+1,i,Q,h=>BH mask n _ _ (d3 mask i Q)
def iT (h:An):bits h<2 ^ 64:=by
 unfold bits;have Y:(0:An)<=h % 2 ^ 64:=Nu _ bU
 have Q:h % 2 ^ 64<(2 ^ 64:An):=Ky _ bU
 lia
def su (mask:Ah):Ah->Ah->Ah
 |0,i=>i
 |n+1,i=>su mask n ((i*5+1) % (mask+1))
theorem bQ (mask:Ah):∀ (m n i:Ah),su mask (m+n) i=su mask n (su mask m i)
 |0,n,p=>by rw[Ig];rfl
 |m+1,n,p=>by rw[Si];exact bQ mask m n _
theorem YC (mask:Ah):∀ (n i:Ah),(lp mask n (i,0)).1=su mask n i
 |0,i=>rfl
 |n+1,i=>by
  show (lp mask n (leap mask i 0)).1=_;have:leap mask i 0=((i*5+1) % (mask+1),0):=by simp[leap]
  rw[this,YC mask n];rfl
def rq (mask:Ah):Prop:=mask=7\/mask=31\/mask=127\/mask=511\/mask=2047
noncomputable def xg (mask:Ah):Ah->Ah->Ah->Ah
 |0,_,Q=>Q
 |n+1,i,Q=>xg mask n ((i*5+1) % (mask+1)) (Q ||| 1 <<< i)
def WC (mask:Ah):Au:=xg mask (mask+1) 0 0 == 2 ^ (mask+1)-1&&su mask (mask+1) 0 == 0
def WD (h:rq mask):WC mask=true:=by
 rcases h with rfl|rfl|rfl|rfl|rfl <;> decide +kernel
theorem oW (mask e:Ah):∀ (n i aw:Ah),(xg mask n i aw).testBit e=true->aw.testBit e=true\/∃ m,m<n/\su mask m i=e
 |0,i,aw,h=>.inl h
 |n+1,i,aw,h=>by
  rcases oW mask e n _ _ h with q|⟨m,Q,q⟩
  .rw[Nat.testBit_or,Ra] at q
   rcases q with q|q
   .exact .inl q
   .rw[Nat.one_shiftLeft,Nat.testBit_two_pow,Cc] at q
    exact .inr ⟨0,by lia,q⟩
  .exact .inr ⟨m+1,by lia,q⟩
def UT (h:rq mask){i e:Ah}(hi:i<=mask)(Y:e<=mask):∃ n,n<=mask/\su mask n i=e:=by
 have a:=WD h;unfold WC at a;rw[Aw] at a;obtain⟨Q,N⟩:=a;have Q:xg mask (mask+1) 0 0=2 ^ (mask+1)-1:=by simpa using Q
 have g:∀ e,e<=mask->∃ n,n<=mask/\su mask n 0=e:=λe Y=>by
  have q:(xg mask (mask+1) 0 0).testBit e=true:=by rw[Q,Nat.testBit_two_pow_sub_one];simp;lia
  rcases oW mask e _ _ _ q with q|⟨n,U,q⟩
  .simp at q
  .exact⟨n,by lia,q⟩
 have G:su mask (mask+1) 0=0:=by simpa using N
 obtain⟨m,O,em⟩:=g i hi;obtain⟨n,U,J⟩:=g e Y;by_cases q:m<=n
 .refine⟨n-m,by lia,?_⟩
  rw[<- em,<- bQ,show m+(n-m)=n by lia]
  exact J
 .refine⟨n+(mask+1)-m,by lia,?_⟩
  rw[<- em,<- bQ,show m+(n+(mask+1)-m)=(mask+1)+n by lia,bQ,G]
  exact J
def cQ (h:rq mask){i Q e:Ah}(hi:i<=mask)(hp:Q<2 ^ 64)(Y:e<=mask):∃ n,n<=mask+13/\(lp mask n (i,Q)).1=e:=by
 have J:(lp mask 13 (i,Q)).2=0:=by
  rw[oQ];apply Nat.div_eq_of_lt;exact Ie hp bU
 obtain⟨n,U,q⟩:=UT h (BH mask 13 i Q hi) Y;refine⟨13+n,by lia,?_⟩
 rw[YB];have:lp mask 13 (i,Q)=((lp mask 13 (i,Q)).1,0):=by rw[<- J]
 rw[this,YC];exact q
def JT (h:rq mask)(hs:An){e:Ah}(Q:e<=mask):∃ n,n<10*turns mask/\(it mask n (st mask hs)).j=e:=by
 obtain⟨n,J,q⟩:=cQ h (i:=bits hs % (mask+1)) (Ly (Po _ (Rl _))) (iT hs) Q;obtain⟨k,U,Y⟩:=BG mask n (bits hs % (mask+1)) (bits hs);refine⟨k,by unfold turns;lia,?_⟩
 show (it mask k (rs mask _ _)).j=e;rw[Y];exact q
theorem mS (mask:Ah):∀ (n:Ah) (p:Pc),(it mask n p).dummy=p.dummy
 |0,p=>rfl
 |n+1,p=>by
  show (it mask n (ox mask p)).dummy=_;rw[mS mask n];unfold ox
  split <;> rfl
def qr (t:Gg)(p:Pc)(n:Ah):Prop:=∀ m,m<n->(it t.mask m p).j∈t.place.toList
inductive Meets (t:Gg)(hashAt:Ah->An)(h:An)(p:Pc)(fuel:Ah):Ak SetTable.Met->Prop
 |emp (n:Ah) (hn:n<fuel) (w:qr t p n) (e:(it t.mask n p).j ∉ t.place.toList) (q:∀ m i,m<n->t.place[i]? = Ab (it t.mask m p).j->hashAt i≠h):Meets t hashAt h p fuel (Ab (.empty (it t.mask n p).j none))
 |cand (n i:Ah) (hn:n<fuel) (w:qr t p n) (e:t.place[i]? = Ab (it t.mask n p).j) (hh:hashAt i=h) (q:∀ m i,m<n->t.place[i]? = Ab (it t.mask m p).j->hashAt i≠h):Meets t hashAt h p fuel (Ab (.candidate (it t.mask n p).j i (it t.mask (n+1) p)))
def VP (h:Rs xs){a b x:Ah}(Q:xs[a]? = Ab x)(Y:xs[b]? = Ab x):a=b:=by rw[<- mC h Q,mC h Y]
set_option tactic.hygienic true in
theorem mP {t:Gg}(T:Tb t)(hashAt:Ah->An)(h:An):∀ (fuel:Ah) (p:Pc),p.dummy=none->(∃ n,n<fuel/\(it t.mask n p).j ∉ t.place.toList)->Meets t hashAt h p fuel (Pd t hashAt h fuel p)
 |0,p,_,⟨n,z,_⟩=>by lia
 |fuel+1,p,A,⟨n,z,U⟩=>by
  unfold Pd;rcases XI T p.j with⟨i,e,G⟩|⟨e,q⟩
  .rw[e]
   simp only
   split
   .rename_i I
    exact Meets.cand 0 i bA (λm Q=>by lia) G (by simpa using I) λm i Q=>by lia
   .rename_i I
    have L:hashAt i≠h:=by simpa using I
    have y:n≠0:=by
     rintro rfl;exact U (Bw (by rw[Bo];exact G))
    obtain⟨N,rfl⟩:∃ N,n=N+1:=⟨n-1,by lia⟩
    have H:=mP T hashAt h fuel (ox t.mask p) (by rw[<- A];exact mS t.mask 1 p) ⟨N,by lia,U⟩
    rw[DC];have Y:p.j∈t.place.toList:=Bw (by rw[Bo];exact G)
    have up:∀ {k:Ah},qr t (ox t.mask p) k->qr t p (k+1):=λ{k} w m Q=>by
     cases m with
     |zero=>exact Y
     |succ m=>exact w m bA
    have J:∀ {k:Ah},(∀ m i,m<k->t.place[i]? = Ab (it t.mask m (ox t.mask p)).j->hashAt i≠h)->∀ m i,m<k+1->t.place[i]? = Ab (it t.mask m p).j->hashAt i≠h:=λ{k} q m B Q M=>by
     cases m with
     |zero=>rw[VP T.rs M G];exact L
     |succ m=>exact q m B bA M
    generalize o:Pd t hashAt h fuel (ox t.mask p)=r at H;cases H with
    |emp k u w C O=>exact Meets.emp (p:=p) (k+1) bA (up w) C (J O)
    |cand k B u w C E O=>exact Meets.cand (p:=p) (k+1) B bA (up w) C E (J O)
  .rw[e]
   simp only[A];exact Meets.emp (p:=p) 0 bA (λm Q=>by lia) q λm i Q=>by lia
end _S
namespace _S
open PySem.SetTable (Probe leap runEnd turns bits)
variable {us:Aa Ah}{mask:Ah}{owner:Az (Ak Ah)}
structure tz (mask:Ah)(owner:Az (Ak Ah))(us:Aa Ah):Prop where
 size:owner.size=mask+1
 nd:us.Nodup
 le:∀ u∈us,u<=mask
 at':∀ j k,j<=mask->(owner.getD j (Ab 0)=Ab k↔us[k]? = Ab j)
def dJ {i:Ah}(hi:i<=mask):Ib mask i<=mask:=by
 unfold Ib
 split <;> lia
def dM (mask i:Ah):i<=Ib mask i:=by
 unfold Ib
 split <;> lia
def tz.none (O:tz mask owner us){j:Ah}(Q:j<=mask):(owner.getD j (Ab 0)).isNone=true↔j ∉ us:=by
 constructor
 .intro h J
  obtain⟨k,Y,e⟩:=Ct.mp J;have:=(O.at' j k Q).mpr (by rw[Ar Y,e])
  rw[this] at h;cases h
 .intro h
  cases q:owner.getD j (Ab 0) with
  |none=>rfl
  |some k=>exact absurd (Bw ((O.at' j k Q).mp q)) h
theorem sL (O:tz mask owner us):∀ (fuel i Q:Ah),i<=mask->(∃ L,L<fuel/\(lp mask L (i,Q)).1 ∉ us) ->
  ∃ n,Jk mask owner fuel i Q=Ab (it mask n (rs mask i Q)).j/\(it mask n (rs mask i Q)).j<=mask/\(it mask n (rs mask i Q)).j ∉ us/\∀ m,m<n->(it mask m (rs mask i Q)).j∈us
 |0,i,Q,E,⟨L,o,_⟩=>by lia
 |fuel+1,i,Q,E,⟨L,o,J⟩=>by
  unfold Jk;have M:=dJ E;have w:=dM mask i;cases T:(Cf (Ib mask i+1-i)).find? λk=>(owner.getD (i+k) (Ab 0)).isNone with
  |some k =>
   obtain⟨l,A,y⟩:=List.find?_range_eq_some.mp T;have C:k<Ib mask i+1-i:=Dt.mp A;have N:(it mask k (rs mask i Q)).j=i+k:=by rw[bD mask i Q k bA]
   refine⟨k,?_,?_,?_,λm B=>?_⟩
   .rw[N]
   .rw[N];lia
   .rw[N];exact(O.none bA).mp l
   .rw[bD mask i Q m bA]
    have:=y m B;apply Gf;intro q;rw[(O.none (show i+m<=mask by lia)).mpr q] at this
    cases this
  |none =>
   have Y:∀ k,k<Ib mask i+1-i->i+k∈us:=λk C=>by
    have:=Oh.mp T k (Dt.mpr C);apply Gf;intro q;exact this ((O.none (show i+k<=mask by lia)).mpr q)
   have u:L≠0:=by
    rintro rfl;exact J (Y 0 bA)
   obtain⟨G,rfl⟩:∃ G,L=G+1:=⟨L-1,by lia⟩
   obtain⟨n,z,p,g,I⟩:=sL O fuel (leap mask i Q).1 (leap mask i Q).2 (d3 mask i Q) ⟨G,by lia,J⟩
   have e:∀ m,it mask (Ib mask i-i+1+m) (rs mask i Q)=it mask m (rs mask (leap mask i Q).1 (leap mask i Q).2):=λm=>by rw[nE,oH]
   refine⟨Ib mask i-i+1+n,?_,?_,?_,λm B=>?_⟩
   .rw[e];exact z
   .rw[e];exact p
   .rw[e];exact g
   .by_cases H:m<Ib mask i-i+1
    .rw[bD mask i Q m bA]
     exact Y m bA
    .obtain⟨U,rfl⟩:∃ U,m=Ib mask i-i+1+U:=⟨m-(Ib mask i-i+1),by lia⟩
     rw[e];exact I U bA
def gap (h:us.length<=mask):∃ e,e<=mask/\e ∉ us:=by
 apply Gf;intro q;have:Cf (mask+1) ⊆ us:=λe Q=>by
  apply Gf;intro r;exact q ⟨e,by have:=Dt.mp Q;lia,r⟩
 have:=List.Nodup.length_le_of_subset AaV this;rw[Jy] at this
 lia
def TY (mask:Ah):tz mask (Array.replicate (mask+1) none) []:=by
 refine⟨by simp,AbM,λu Q=>by simp at Q,λj k Y=>?_⟩
 have:j<mask+1:=by lia
 simp[Hc,this]
def G7 (O:tz mask owner us){j:Ah}(H:j<=mask)(N:j ∉ us):tz mask (owner.setIfInBounds j (Ab us.length)) (us++[j]):=by
 refine⟨by simp[O.size],?_,λu E=>?_,λi k I=>?_⟩
 .rw[Gz]
  refine⟨O.nd,by simp,λa B b C=>?_⟩
  simp at C;rintro rfl;subst C;exact N B
 .rcases Bq.mp E with h|h
  .exact O.le u h
  .simp at h;lia
 .have T:=O.size
  have Y:i<owner.size:=by lia
  have L:∀ {k},us[k]? = Ab i->k<us.length:=λq=>(Ay.mp q).1;by_cases Q:j=i
  .subst Q
   have U:(owner.setIfInBounds j (Ab us.length)).getD j (Ab 0)=Ab us.length:=by simp[Hc,Y]
   rw[U];constructor
   .intro q;cases q;simp
   .intro q
    by_cases G:k<us.length
    .rw[Bb G] at q
     exact absurd (Bw q) N
    .rw[Cq bA] at q
     have:k-us.length=0:=by
      cases J:k-us.length with
      |zero=>rfl
      |succ z=>rw[J] at q;simp at q
     congr 1;lia
  .have U:(owner.setIfInBounds j (Ab us.length)).getD i (Ab 0)=owner.getD i (Ab 0):=by
    simp[Hc,Y,Array.getElem_setIfInBounds,Q]
   rw[U,O.at' i k I];constructor
   .intro q;rw[Bb (L q)];exact q
   .intro q
    by_cases G:k<us.length
    .rw[Bb G] at q;exact q
    .rw[Cq bA] at q
     cases J:k-us.length with
     |zero=>rw[J] at q;simp at q;exact absurd q Q
     |succ z=>rw[J] at q;simp at q
def Z5 (mask:Ah)(us:Aa Ah)(hs:Aa An):Prop:=∀ (k:Ah) (h:An),hs[k]? = Ab h->∃ n,us[k]? = Ab (it mask n (st mask h)).j/\∀ m,m<n->(it mask m (st mask h)).j∈us
theorem sI (H:rq mask):∀ (hs done:Aa An) (owner:Az (Ak Ah)) (us:Aa Ah),tz mask owner us->us.length=done.length->done.length+hs.length<=mask->Z5 mask us done ->
  ∃ Q Y,hs.foldl (λaw h=>do
   let (owner,k) <- aw
   let j <- Jk mask owner (turns mask) (bits h % (mask+1)) (bits h)
   pure (owner.setIfInBounds j (Ab k),k+1)) (Ab (owner,us.length))=Ab (Q,Y.length)/\tz mask Q Y/\Y.length=done.length+hs.length/\Z5 mask Y (done++hs)
 |[],done,owner,us,O,G,_,E=>⟨owner,us,rfl,O,by simpa using G,by simpa using E⟩
 |h::hs,done,owner,us,O,G,U,E=>by
  rw[Bs] at U;obtain⟨e,f,I⟩:=gap (mask:=mask) (us:=us) bA
  obtain⟨L,v,T⟩:=cQ H (i:=bits h % (mask+1)) (Ly (Po _ (Rl _))) (iT h) f;obtain⟨n,q,r,s,w⟩:=sL O (turns mask) (bits h % (mask+1)) (bits h) (Ly (Po _ (Rl _))) ⟨L,by unfold turns;lia,by rw[T];exact I⟩
  have o:=G7 O r s;have N:Z5 mask (us++[(it mask n (rs mask (bits h % (mask+1)) (bits h))).j]) (done++[h]):=λk l J=>by
   by_cases p:k<done.length
   .rw[Bb p] at J
    obtain⟨y,t,M⟩:=E k l J;exact⟨y,by rw[Bb bA];exact t,λm C=>Dg _ (M m C)⟩
   .rw[Cq bA] at J
    cases B:k-done.length with
    |succ z=>rw[B] at J;simp at J
    |zero =>
     rw[B] at J;simp at J;subst J;refine⟨n,?_,λm C=>Dg _ (w m C)⟩;rw[Cq bA,G,B]
     rfl
  obtain⟨Q,Y,A,g,d,c⟩:=sI H hs (done++[h]) _ _ o (by simp[G]) (by simp;lia) N
  refine⟨Q,Y,?_,g,by simpa [Nh,Vi 1] using d,by simpa using c⟩
  rw[Wi];rw[Bj] at A;have u:(do
   let (owner,k) <- Ab (owner,us.length)
   let j <- Jk mask owner (turns mask) (bits h % (mask+1)) (bits h)
   pure (owner.setIfInBounds j (Ab k),k+1))=Ab (owner.setIfInBounds (it mask n (rs mask (bits h % (mask+1)) (bits h))).j (Ab us.length),us.length+1):=by
   show (Jk mask owner (turns mask) (bits h % (mask+1)) (bits h)).bind _=_;rw[q];rfl
  rw[u];exact A
def rC (C:rq mask)(hs:Az An)(Y:hs.size<=mask):∃ owner us,AaF mask hs=Ab owner/\tz mask owner us/\us.length=hs.size/\Z5 mask us hs.toList:=by
 obtain⟨Q,J,U,G,O,N⟩:=sI C hs.toList [] _ [] (TY mask) rfl (by simpa using Y) (λk h e=>by simp at e)
 refine⟨Q,J,?_,G,by simpa using O,by simpa using N⟩
 unfold AaF;rw[<- Array.foldl_toList];have:(([]:Aa Ah).length)=0:=rfl;rw[this] at U
 erw [U]
 rfl
structure Laid (mask:Ah)(hs:Az An)(t:Gg)(qY:Az Ah):Prop where
 msk:t.mask=mask
 tb:Tb t
 size:t.place.size=hs.size
 le:∀ x∈t.place.toList,x<=mask
 perm:qY.toList.Perm (Cf hs.size)
 way:∀ (i k:Ah) (h:An),qY[i]? = Ab k->hs[k]? = Ab h->∃ n,t.place[i]? = Ab (it mask n (st mask h)).j/\qr t (st mask h) n
def Y6 (hM:rq mask)(hs:Az An)(B:hs.size<=mask)(finger moves:Ah)(led plain:Au) :
  ∃ t qY,Zg mask finger moves led plain hs=Ab (t,qY)/\t.led=led/\t.plain=plain/\Laid mask hs t qY:=by
 obtain⟨owner,us,e,O,hl,hL⟩:=rC hM hs B;have p:∀ j,j<=mask->owner.getD j none=owner.getD j (Ab 0):=λj A=>by
  have:j<owner.size:=by rw[O.size];lia
  simp[Hc,this]
 generalize N:((Cf (mask+1)).filterMap λj=>(owner.getD j none).map (j,·))=live
 have mem:∀ (j k:Ah),(j,k)∈live↔us[k]? = Ab j:=λj k=>by
  rw[<- N,Hj];constructor
  .rintro⟨L,M,q⟩
   have J:L<=mask:=by have:=Dt.mp M;lia
   rw[p L J] at q;cases Y:owner.getD L (Ab 0) with
   |none=>rw[Y] at q;cases q
   |some g =>
    rw[Y] at q;simp at q;obtain⟨rfl,rfl⟩:=q;exact(O.at' _ _ J).mp Y
  .intro q
   have A:j<=mask:=O.le j (Bw q);refine⟨j,Dt.mpr bA,?_⟩
   rw[p j A,(O.at' j k A).mpr q];rfl
 have C:live.map (·.1)=(Cf (mask+1)).filter λj=>(owner.getD j none).isSome:=by
  rw[<- N,List.map_filterMap];generalize owner.getD=f
  induction Cf (mask+1) with
  |nil=>rfl
  |cons a l w =>
   rw[Gw,List.filter_cons];cases Y:f a none with
   |none=>simpa using w
   |some k=>simpa using w
 have o:(live.map (·.1)).Pairwise (· < ·):=by
  rw[C];exact List.Pairwise.filter _ List.pairwise_lt_range
 have T:(live.map (·.2)).Nodup:=by
  unfold Vc;rw[Dq];have G:=Dq.mp o;refine Uk (λ{a b} ha v zb=>?_) G;intro q;have c:=(mem a.1 a.2).mp ha;have y:=(mem b.1 b.2).mp v;rw[<- q,c] at y;simp at y
  lia
 have u:(live.map (·.2)).Perm (Cf hs.size):=by
  rw[Sv T AaV];intro k;rw[Br,Dt,<- hl];constructor
  .rintro⟨⟨j,g⟩,G,rfl⟩
   exact(Ay.mp ((mem j g).mp G)).1
  .intro H
   exact⟨(us[k],k),(mem _ _).mpr (Ar H),rfl⟩
 have U:∀ j,j∈live.map (·.1)↔j∈us:=λj=>by
  rw[Br];constructor
  .rintro⟨⟨L,k⟩,G,rfl⟩
   exact Bw ((mem _ _).mp G)
  .intro G
   obtain⟨k,H,e⟩:=Ct.mp G;exact⟨(j,k),(mem _ _).mpr (by rw[Ar H,e]),rfl⟩
 refine⟨{ mask,place:=(live.map (·.1)).toArray,dummies:=#[],finger,led,moves,plain },(live.map (·.2)).toArray,?_,rfl,rfl,rfl,⟨?_,rfl⟩,?_,λx d=>?_,?_,λi k h r s=>?_⟩
 .unfold Zg
  rw[e,<- N];rfl
 .exact o
 .have:=u.length_eq
  simp at this ⊢;exact this
 .exact O.le x ((U x).mp d)
 .exact u
 .have Q:(live.map (·.2))[i]? = Ab k:=by simpa using r
  rw[Do] at Q;cases Y:live[i]? with
  |none=>rw[Y] at Q;cases Q
  |some z =>
   rw[Y] at Q;simp at Q;have I:=Bw Y;have hu:=(mem z.1 z.2).mp I;obtain⟨n,E,w2⟩:=hL k h (by rw[Bo];exact s)
   rw[<- Q] at E;rw[hu] at E;refine⟨n,?_,λm hm=>?_⟩
   .rw[<- E]
    simp[Y]
   .have:=(U _).mpr (w2 m hm)
    simpa using this
def NY {t:Gg}{hs:Az An}:SetTable.relaid t hs w=Zg (Fi w-1) t.finger (t.movedTo (Fi w-1)) t.led t.plain hs:=rfl
end _S
namespace _S
open PySem.SetTable (Probe leap runEnd turns bits)
structure gy {K:Type}(is:K->Ac->Prop)(hash:K->An)(es:Az (An × Ac))(seen:Aa K):Prop where
 good:∀ e∈es.toList,∃ k,e.1=hash k/\is k e.2
 nd:es.toList.Pairwise λa b=>∀ k,is k a.2->¬ is k b.2
 mem:∀ k,k∈seen↔∃ e∈es.toList,is k e.2
section
variable {K:Type}{is:K->Ac->Prop}{az:K->An}{es mh:Az (An × Ac)}{seen:Aa K}
def gy.perm (Z:gy is az es seen)(p:mh.toList.Perm es.toList):gy is az mh seen:=
 ⟨λe Q=>Z.good e (p.mem_iff.mp Q),(p.pairwise_iff λ{x y} h k Y J=>h k J Y).mpr Z.nd,λk=>(Z.mem k).trans ⟨λ⟨e,Q,q⟩=>⟨e,p.mem_iff.mpr Q,q⟩,λ⟨e,Q,q⟩=>⟨e,p.mem_iff.mp Q,q⟩⟩⟩
def gy.nil:gy is az #[] []:=⟨λe Q=>by simp at Q,by simp,λk=>by simp⟩
def gy.push (Z:gy is az es seen)(Q:∀ {k Y:K} {v:Ac},is k v->is Y v->k=Y){k:K}{x:Ac}(J:is k x)(N:k ∉ seen)(p:mh.toList.Perm (es.toList++[(az k,x)])):gy is az mh (k::seen):=by
 refine gy.perm (es:=es.push (az k,x)) ⟨λe he=>?_,?_,λY=>?_⟩ (by simpa using p)
 .rw[Ff] at he
  rcases Bq.mp he with he|he
  .exact Z.good e he
  .simp at he;subst he;exact⟨k,rfl,J⟩
 .rw[Ff,Dh]
  refine⟨Z.nd,by simp,λa G b U Y C O=>?_⟩
  simp at U;subst U;have:=Q J O;subst this;exact N ((Z.mem k).mpr ⟨a,G,C⟩)
 .rw[Ba,Z.mem,Ff]
  constructor
  .rintro (rfl|⟨e,he,q⟩)
   .exact⟨(az Y,x),by simp,J⟩
   .exact⟨e,Dg _ he,q⟩
  .rintro⟨e,he,q⟩
   rcases Bq.mp he with he|he
   .exact .inr ⟨e,he,q⟩
   .simp at he;subst he;exact .inl (Q q J)
def gy.again (Z:gy is az es seen){k:K}(Q:k∈seen):gy is az es (k::seen):=
 ⟨Z.good,Z.nd,λY=>by rw[Ba,Z.mem];exact⟨λh=>h.elim (λe=>by subst e;exact(Z.mem _).mp Q) id,.inr⟩⟩
end
section
open Classical in
theorem mX {K:Type}{is:K->Ac->Prop}:∀ (L:Aa (An × Ac)) (U:Aa K),L.Pairwise (λa b=>∀ k,is k a.2->¬ is k b.2)->(∀ e∈L,∃ k∈U,is k e.2)->L.length<=U.length
 |[],U,_,_=>Hg _
 |e::L,U,G,h=>by
  rw[Ea] at G;obtain⟨J,Q,B⟩:=h e bB
  have O:=mX L (U.erase J) G.2 λN Y=>by
   obtain⟨k,C,q⟩:=h N (by simp[Y])
   have:k≠J:=λz=>G.1 N Y J B (z▸q);exact⟨k,(Yi this).mpr C,q⟩
  rw[Ul Q] at O;have:0<U.length:=Wr Q;rw[Bs]
  lia
open Classical in
def gy.few {K:Type}{is:K->Ac->Prop}{C:K->An}{seen U:Aa K}{k:K}(Z:gy is C es seen)(N:∀ Q∈seen,Q∈U)(G:k∈U)(O:k ∉ seen):es.size<U.length:=by
 have:=mX es.toList (U.erase k) Z.nd λe J=>by
  obtain⟨Q,_,q⟩:=Z.good e J;have hs:=(Z.mem Q).mpr ⟨e,J,q⟩;have Y:Q≠k:=λz=>O (z▸hs);exact⟨Q,(Yi Y).mpr (N Q hs),q⟩
 rw[Ul G,Bu] at this;have:0<U.length:=Wr G
 lia
end
structure jq (t:Gg)(es:Az (An × Ac)):Prop where
 tb:Tb t
 msk:rq t.mask
 size:t.place.size=es.size
 le:∀ x∈t.place.toList,x<=t.mask
 few:es.size*5<t.mask*3
 way:∀ (i:Ah) (e:An × Ac),es[i]? = Ab e->∃ n,t.place[i]? = Ab (it t.mask n (st t.mask e.1)).j/\qr t (st t.mask e.1) n
 plain:t.plain=true
def jq.fits {t:Gg}(T:jq t es):t.fits es.size=true:=by
 have Q:=T.size;have J:=T.few;have Y:t.fill=es.size:=by unfold Tz;rw[T.tb.dm,Q];rfl
 unfold Ac0;rw[Y,Q];rcases T.msk with h|h|h|h|h <;> rw[h] at J ⊢ <;> simp <;> lia
def jq.gap {t:Gg}(T:jq t es):∃ e,e<=t.mask/\e ∉ t.place.toList:=by
 apply _S.gap;rw[Bu,T.size];have Q:=T.few;rcases T.msk with h|h|h|h|h <;> rw[h] at Q ⊢ <;> lia
def jq.odd {t:Gg}(T:jq t es):t.gaveWay=false:=by
 unfold SetTable.gaveWay;rcases T.msk with h|h|h|h|h <;> rw[h] <;> rfl
def jq.put {t:Gg}(T:jq t es){h:An}{x:Ac}{n:Ah}(w:qr t (st t.mask h) n)(L:(it t.mask n (st t.mask h)).j ∉ t.place.toList)(U:(it t.mask n (st t.mask h)).j<=t.mask) :
  let mh:=Ei es (t.put (it t.mask n (st t.mask h)).j).2 (h,x)
  Tb (t.put (it t.mask n (st t.mask h)).j).1/\(t.put (it t.mask n (st t.mask h)).j).1.place.size=mh.size/\(∀ y∈(t.put (it t.mask n (st t.mask h)).j).1.place.toList,y<=t.mask) /\
  (∀ (i:Ah) (e:An × Ac),mh[i]? = Ab e->∃ m,(t.put (it t.mask n (st t.mask h)).j).1.place[i]? = Ab (it t.mask m (st t.mask e.1)).j/\qr (t.put (it t.mask n (st t.mask h)).j).1 (st t.mask e.1) m):=by
 generalize E:(it t.mask n (st t.mask h)).j=j at *;have C:∀ y,y∈(t.put j).1.place.toList↔y=j\/y∈t.place.toList:=λy=>by
  show y∈(Ei t.place (Cj t.place j) j).toList↔_;rw[(Lh _ _ _).mem_iff];simp[or_comm]
 have O:Cj t.place j<=t.place.size:=(j7 T.tb.rs j).le;have J:∀ {p:Pc} {m:Ah},qr t p m->qr (t.put j).1 p m:=λ{p m} w q I=>(C _).mpr (.inr (w q I));refine⟨CN T.tb L,?_,λy hy=>?_,λi e H=>?_⟩
 .show (Ei t.place _ j).size=(Ei es _ (h,x)).size
  rw[kD,kD,T.size]
 .rcases (C y).mp hy with rfl|hy
  .exact U
  .exact T.le y hy
 .have Q:(if i<Cj t.place j then es[i]? else if i=Cj t.place j then Ab (h,x) else es[i-1]?)=Ab e:=by
   rw[<- n8 es (by rw[<- T.size];exact O)]
   exact H
  have pl:(t.put j).1.place[i]? = if i<Cj t.place j then t.place[i]? else if i=Cj t.place j then Ab j else t.place[i-1]?:=n8 t.place O j i
  rw[pl];by_cases B:i<Cj t.place j
  .rw[Bg B] at Q ⊢
   obtain⟨m,Y,G⟩:=T.way i e Q;exact⟨m,Y,J G⟩
  .rw[Bd B] at Q ⊢
   by_cases N:i=Cj t.place j
   .rw[Bg N] at Q ⊢
    cases Q;exact⟨n,by rw[E],J w⟩
   .rw[Bd N] at Q ⊢
    obtain⟨m,Y,G⟩:=T.way _ e Q;exact⟨m,Y,J G⟩
theorem BF {mask:Ah}(p:Pc)(hp:p.j+p.more<=mask):∀ n,(it mask n p).j+(it mask n p).more<=mask
 |0=>hp
 |n+1=>by
  rw[bW];have Q:=BF p hp n;unfold ox
  split
  .show (it mask n p).j+1+((it mask n p).more-1)<=mask
   lia
  .show (leap mask _ _).1+(Ib mask (leap mask _ _).1-(leap mask _ _).1)<=mask
   have J:=dJ (d3 mask (it mask n p).i (it mask n p).perturb);have Y:=dM mask (leap mask (it mask n p).i (it mask n p).perturb).1
   lia
def qAr (mask:Ah)(h:An)(n:Ah):(it mask n (st mask h)).j<=mask:=by
 have Q:bits h % (mask+1)<=mask:=Ly (Po _ (Rl _));have:=BF (mask:=mask) (st mask h) (by
  show bits h % (mask+1)+(Ib mask (bits h % (mask+1))-bits h % (mask+1))<=mask;have J:=dJ Q;have Y:=dM mask (bits h % (mask+1))
  lia) n
 lia
def iK {t:Gg}{es:Az (An × Ac)}(f:rq t.mask)(hp:t.plain=true)(h1:t.place.size=es.size)(h2:es.size<=1001)(H:t.tooFull=true)(g:t.dummies=#[])(h3:(es.size-1)*5<t.mask*3)(m:0<es.size) :
  Fi (Iu es.size)<=2048/\∃ t' qY,t.relaid (es.map (·.1)) (Iu es.size)=Ab (t',qY)/\t'.led=t.led/\(qY.filterMap (es[·]?)).toList.Perm es.toList/\jq t' (qY.filterMap (es[·]?))/\qY.toList.Perm (Cf es.size):=by
 have N:t.fill=es.size:=by unfold Tz;rw[g,h1];rfl
 have C:t.mask*3<=es.size*5:=by
  unfold AaW at H;rw[N] at H;simpa using H
 have Q:(es.size=5/\Fi (Iu es.size)=32)\/(es.size=19/\Fi (Iu es.size)=128)\/(es.size=77/\Fi (Iu es.size)=512)\/(es.size=307/\Fi (Iu es.size)=2048):=by
  rcases f with h|h|h|h|h <;> rw[h] at C h3
  .have:es.size=5:=by lia
   exact .inl ⟨this,by rw[this];decide⟩
  .have:es.size=19:=by lia
   exact .inr (.inl ⟨this,by rw[this];decide⟩)
  .have:es.size=77:=by lia
   exact .inr (.inr (.inl ⟨this,by rw[this];decide⟩))
  .have:es.size=307:=by lia
   exact .inr (.inr (.inr ⟨this,by rw[this];decide⟩))
  .lia
 have E:rq (Fi (Iu es.size)-1):=by
  rcases Q with⟨_,h⟩|⟨_,h⟩|⟨_,h⟩|⟨_,h⟩ <;> rw[h]
  .exact .inr (.inl rfl)
  .exact .inr (.inr (.inl rfl))
  .exact .inr (.inr (.inr (.inl rfl)))
  .exact .inr (.inr (.inr (.inr rfl)))
 have A:(es.map (·.1)).size<=Fi (Iu es.size)-1:=by
  rw[Xz];rcases Q with⟨J,h⟩|⟨J,h⟩|⟨J,h⟩|⟨J,h⟩ <;> rw[h,J] <;> lia
 obtain⟨t',qY,e,p,c,L⟩:=Y6 E (es.map (·.1)) A t.finger (t.movedTo (Fi (Iu es.size)-1)) t.led t.plain
 have w:qY.size=es.size:=by
  have:=L.perm.length_eq;simpa using this
 have G:∀ i k,qY[i]? = Ab k->k<es.size:=λi k q=>by
  have:k∈Cf (es.map (·.1)).size:=L.perm.mem_iff.mp (Bw (by rw[Bo];exact q))
  simpa using this
 have T:(qY.filterMap (es[·]?)).toList=qY.toList.map λk=>es.toList.getD k (0,.none):=by
  rw[Array.toList_filterMap];have:∀ l:Aa Ah,(∀ k∈l,k<es.size)->l.filterMap (es[·]?)=l.map λk=>es.toList.getD k (0,.none):=by
   intro l
   induction l with
   |nil=>intro _;rfl
   |cons a l y =>
    intro z;have M:=z a bB
    rw[Gw,Cu,y λk O=>z k (by simp[O])]
    rw[Dp M];simp[M]
  refine this _ λk O=>?_;obtain⟨i,r,q⟩:=Ct.mp O;exact G i k (by rw[<- Bo,Ar r,q])
 have Y:(qY.filterMap (es[·]?)).toList.Perm es.toList:=by
  rw[T];have o:=L.perm.map λk=>es.toList.getD k (0,Cz);refine o.trans ?_;have v:(Cf (es.map (·.1)).size).map (λk=>es.toList.getD k (0,Cz))=es.toList:=by
   apply Qe
   .simp
   .intro i n d
    have u:i<es.size:=by simpa using d
    simp[u]
  rw[v]
 have B:(qY.filterMap (es[·]?)).size=es.size:=by rw[<- Bu,Y.length_eq,Bu]
 have U:∀ i,(qY.filterMap (es[·]?))[i]? = (qY[i]?).map λk=>es.toList.getD k (0,.none):=λi=>by
  rw[<- Bo,T,Do,Bo]
 refine⟨by rcases Q with⟨_,h⟩|⟨_,h⟩|⟨_,h⟩|⟨_,h⟩ <;> rw[h] <;> decide,t',qY,by rw[NY];exact e,p,Y,⟨L.tb,by rw[L.msk];exact E,by rw[L.size,B,Xz],by rw[L.msk];exact L.le,?_,λi j q=>?_,by rw[c];exact hp⟩,by have:=L.perm;rwa [Xz] at this⟩
 .rw[B,L.msk]
  rcases Q with⟨J,h⟩|⟨J,h⟩|⟨J,h⟩|⟨J,h⟩ <;> rw[h,J] <;> lia
 .rw[U] at q
  cases I:qY[i]? with
  |none=>rw[I] at q;cases q
  |some k =>
   rw[I] at q;simp only[Rc,Option.some.injEq] at q;have O:=G i k I;have:(es.map (·.1))[k]? = Ab j.1:=by
    rw[Array.getElem?_map,Dp O];rw[<- q];simp[O]
   rw[L.msk];exact L.way i k j.1 I this
end _S
namespace _S
open PySem.SetTable (Probe leap runEnd turns bits)
variable {Q:Au->Ag->Prop}
def l_ (h0 h:Bt):Prop:=∀ b o,h0.get? b=Ab o->h.get? b=Ab o
def g_ (prog:Bi)(w:Bz)(h0:Bt)(ks:Aa An)(v:Ac):Prop:=∃ a,v=.ref a/\Vd (Ek prog w) h0 ks a
section
variable {prog:Bi}{w:Bz}{h0:Bt}
def g_.inj (U:g_ prog w h0 x v)(Y:g_ prog w h0 y v):x=y:=by
 obtain⟨a,rfl,G⟩:=U;obtain⟨b,e,J⟩:=Y;cases e;exact G.inj J
def uE {a:Af}(G:l_ h0 h)(J:Vd (Ek prog w) h0 ks a):Vd (Ek prog w) h ks a:=by
 obtain⟨o,Y,n,U,r⟩:=J;exact⟨o,Y,n,G _ _ U,r⟩
variable {A:Bp}{E:ae}{s:Ag}
def ZU {k:Aa An}{Q:An->Ag->Prop}(U:A.units<Eu)(J:l_ h0 s.heap)(Y:g_ prog w h0 k v)(h:Q (Vo (Ek prog w) k) { s with toks:=s.toks+(k.length+1) }) : Aq (Av prog w) A (pyHash v) Q E s:=by
 obtain⟨a,rfl,Y⟩:=Y;exact wpAny_pyHash_tuple U (uE J Y) h
def eqT {k G:Aa An}(O:A.units<Eu)(U:l_ h0 s.heap)(J:g_ prog w h0 k v)(Y:g_ prog w h0 G N)(h:Q (decide (k=G)) s):Aq (Av prog w) A (eqBool v N) Q E s:=by
 obtain⟨a,rfl,J⟩:=J;obtain⟨b,rfl,Y⟩:=Y;exact wpAny_eqBool_tuple O (uE U J) (uE U Y) h
def nF:∀ {ks:Aa An} {vs:ai},ItemsAre (Ek prog w) ks vs->∀ v∈vs,∃ i t,v=.int i t:=by
 intro ks vs h
 induction h with
 |nil=>intro v hv;simp at hv
 |@cons k U ks vs J _ Y =>
  intro v hv;rcases Ba.mp hv with rfl|hv
  .cases v <;> first|exact⟨_,_,rfl⟩|exact absurd J (by rintro⟨⟩)
  .exact Y v hv
def qBP {k:Aa An}(T:l_ h0 s.heap)(U:g_ prog w h0 k v)(h:Q true s):Aq (Av prog w) A (Sw 8 v) Q E s:=by
 obtain⟨a,rfl,U⟩:=U;have U:=uE T U;have L:=U.typeIs;obtain⟨o,J,n,B,_,H,I⟩:=U;unfold Sw;refine Ad (Wk L F.slot_tuple_hash.lookup ?_);show Aq _ _ (seqItems? (.ref a) >>= _) Q E s;refine Ad (Hu B H ?_);refine Ad ?_;show Aq _ _ (forIn J _ _) _ _ s;rw[<- f8];refine Mt _ (λC r N=>r.1=none/\N=s/\∀ v∈C,∃ i t,v=.int i t) _ ?_ ?_ _ _ ⟨rfl,rfl,nF I⟩
 .rintro v C r N ⟨G,rfl,Y⟩
  obtain⟨i,t,rfl⟩:=Y v DL;show Aq _ _ (Sw 7 (.int i t) >>= _) _ _ _;rw[show Sw 7 (.int i t)=pure true from rfl]
  refine Ad (Am ?_);simp only[Li,Bx,Dx];exact Am ⟨rfl,rfl,λu O=>Y u (Cs _ O)⟩
 .rintro⟨M,z⟩ N ⟨G,rfl,_⟩
  simp only at G;subst G;exact Am h
def DX {k:Aa An}(T:l_ h0 s.heap)(U:g_ prog w h0 k v)(h:Q false s):Aq (Av prog w) A (Lz 8 v) Q E s:=by
 obtain⟨a,rfl,U⟩:=U;have U:=uE T U;have L:=U.typeIs;obtain⟨o,J,n,B,_,H,I⟩:=U;unfold Lz;refine Ad (Mn L ?_);dsimp only;refine Ad (Am ?_);simp only[Li,Bx,Dx];refine Ad (Hu B H ?_);refine Ad ?_;show Aq _ _ (forIn J _ _) _ _ s;rw[<- f8];refine Mt _ (λC r N=>r.1=none/\N=s/\∀ v∈C,∃ i t,v=.int i t) _ ?_ ?_ _ _ ⟨rfl,rfl,nF I⟩
 .rintro v C r N ⟨G,rfl,Y⟩
  obtain⟨i,t,rfl⟩:=Y v DL;show Aq _ _ (Lz 7 (.int i t) >>= _) _ _ _;rw[show Lz 7 (.int i t)=pure false from rfl]
  refine Ad (Am ?_);simp only[Bx,Dx];exact Am ⟨rfl,rfl,λu O=>Y u (Cs _ O)⟩
 .rintro⟨M,z⟩ N ⟨G,rfl,_⟩
  simp only at G;subst G;exact Am h
def AD {k:Aa An}(J:l_ h0 s.heap)(Y:g_ prog w h0 k v)(h:Q true s):Aq (Av prog w) A (eqIsQuiet 8 v) Q E s:=by
 obtain⟨a,rfl,Y⟩:=Y;exact wpAny_eqIsQuiet_tuple (uE J Y) h
def JV {α:Type}{c:Prop}[Ih c]{M:Lb}{t u:Kj α}{Q:α->Ag->Prop}(h1:c->Aq M A t Q E s)(h2:¬ c->Aq M A u Q E s):Aq M A (if c then t else u) Q E s:=by
 by_cases h:c
 .rw[Bg h];exact h1 h
 .rw[Bd h];exact h2 h
structure ye (prog:Bi)(w:Bz){K:Type}[Sm K](is:K->Ac->Prop)(hash:K->An)(h0:Bt):Prop where
 inj:∀ {k k':K} {v:Ac},is k v->is k' v->k=k'
 ref:∀ {k:K} {v:Ac},is k v->∃ a,v=.ref a
 hsh:∀ {A:Bp} {E:ae} {s:Ag} {k:K} {v:Ac} {Q:An->Ag->Prop},A.units+8<Eu->l_ h0 s.heap->is k v->(∀ tk,s.toks<=tk->Q (hash k) { s with toks:=tk }) -> Aq (Av prog w) A (pyHash v) Q E s
 eq:∀ {A:Bp} {E:ae} {s:Ag} {k k':K} {v v':Ac} {Q:Au->Ag->Prop},A.units+8<Eu->l_ h0 s.heap->is k v->is k' v'->Q (decide (k=k')) s->Aq (Av prog w) A (eqBool v v') Q E s
 byV:∀ {A:Bp} {E:ae} {s:Ag} {k:K} {v:Ac} {Q:Au->Ag->Prop},l_ h0 s.heap->is k v->Q true s->Aq (Av prog w) A (Sw 8 v) Q E s
 cls:∀ {A:Bp} {E:ae} {s:Ag} {k:K} {v:Ac} {Q:Au->Ag->Prop},l_ h0 s.heap->is k v->Q false s->Aq (Av prog w) A (Lz 8 v) Q E s
 quiet:∀ {A:Bp} {E:ae} {s:Ag} {k:K} {v:Ac} {Q:Au->Ag->Prop},l_ h0 s.heap->is k v->Q true s->Aq (Av prog w) A (eqIsQuiet 8 v) Q E s
def qBm:ye prog w (g_ prog w h0) (Vo (Ek prog w)) h0:=⟨g_.inj,λ⟨a,e,_⟩=>⟨a,e⟩,λG Y J h=>ZU om Y J (h _ (Mv _ _)),λG Y J U h=>eqT om Y J U h,qBP,DX,AD⟩
variable {K:Type}[Sm K]{is:K->Ac->Prop}{az:K->An}
def qAo (M:ye prog w is az h0){k:K}{x:Ac}{L:ai}{Q:Au->Ag->Prop}(G:l_ h0 s.heap)(T:is k x)(I:∀ y∈L,∃ U,is U y)(h:Q false s):Aq (Av prog w) A (searchCouldBeSeen x L) Q E s:=by
 unfold searchCouldBeSeen;refine Ad ?_;refine Mt _ (λN r C=>r.1=none/\C=s/\∀ v∈N,∃ U,is U v) _ ?_ ?_ _ _ ⟨rfl,rfl,I⟩
 .rintro v N r C ⟨O,rfl,J⟩
  obtain⟨U,hv⟩:=J v DL;have Y:∀ u∈N,∃ U,is U u:=λu B=>J u (Cs _ B);dsimp only;refine JV (λ_=>Am ⟨rfl,rfl,Y⟩) λ_=>?_
  .refine Ad (M.quiet G T ?_)
   simp only[Li,Bx,Dx];refine Ad (M.quiet G hv ?_);simp only[Li,Bx,Dx];refine Ad (M.cls G T ?_);simp only[Bx,Dx];refine Ad (M.cls G hv ?_);simp only[Bx,Dx];exact Am ⟨rfl,rfl,Y⟩
 .rintro⟨H,z⟩ C ⟨O,rfl,_⟩
  simp only at O;subst O;exact Am h
def qAn (M:ye prog w is az h0){k:K}{v:Ac}{Q:Au->Ag->Prop}(Y:is k v)(h:Q true s):Aq (Av prog w) A (isSame v v) Q E s:=by
 obtain⟨a,rfl⟩:=M.ref Y;unfold isSame;simp only[Fo,Eb];exact Am h
theorem BC (M:ye prog w is az h0){k:K}{x:Ac}{S:Af}{o:Cp}{es:Az (An × Ac)}{ep:Ah}{t:Gg}{seen:Aa K}(hu:A.units+8<Eu)(hS:l_ h0 s.heap)(ho:s.heap.get? S=Ab o)(hd:o.data=.set es ep t)
  (T:jq t es) (Z:gy is az es seen) (hx:is k x) (N:Ah) (v:qr t (st t.mask (az k)) N)
  (U:(it t.mask N (st t.mask (az k))).j ∉ t.place.toList) (zc:N<10*turns t.mask) {Q:SetFound->Ag->Prop}
  (h1:k∈seen->Q (.there none) s) (h2:k ∉ seen->Q (.free (it t.mask N (st t.mask (az k))).j false) s) :
  ∀ (fuel n:Ah) (Y:Ak Pc),Y.getD (t.probeStart (az k))=it t.mask n (st t.mask (az k))->n<=N->N-n<fuel ->
   (∀ (m i:Ah) (e:An × Ac),m<n->t.place[i]? = Ab (it t.mask m (st t.mask (az k))).j->es[i]? = Ab e->¬ is k e.2) ->
   Aq (Av prog w) A (T0 S x (az k) true fuel Y) Q E s
 |0,n,Y,_,_,hf,_=>by lia
 |fuel+1,n,Y,zl,hn,hf,hq=>by
  unfold T0;refine Ad (Hd ho hd T.fits ?_);dsimp only;rw[T.odd];simp only[Bx,Dx];rw[zl];generalize hg:t.probe _ (az k) (it t.mask n (st t.mask (az k)))=r;obtain⟨H,hH,hg⟩:∃ H:Ah->An,(∀ i,H i=(es[i]?.map (·.1)).getD 0)/\t.probe H (az k) (it t.mask n (st t.mask (az k)))=r:=⟨_,λi=>rfl,hg⟩
  have J:∀ m,it t.mask m (it t.mask n (st t.mask (az k)))=it t.mask (n+m) (st t.mask (az k)):=λm=>(nE _ _ _ _).symm;have gm:Meets t H (az k) (it t.mask n (st t.mask (az k))) (10*turns t.mask) r:=by
   rw[<- hg];refine mP T.tb H _ _ _ (by rw[mS];rfl) ⟨N-n,by lia,?_⟩
   rw[J,show n+(N-n)=N by lia]
   exact U
  have C:∀ j:Ah,(∀ m i:Ah,m<j->t.place[i]? = Ab (it t.mask m (it t.mask n (st t.mask (az k)))).j->H i≠az k) ->
    ∀ (m i:Ah) (e:An × Ac),m<n+j->t.place[i]? = Ab (it t.mask m (st t.mask (az k))).j->es[i]? = Ab e->¬ is k e.2:=λj qj m i e hm B u z=>by
   by_cases zb:m<n
   .exact hq m i e zb B u z
   .refine qj (m-n) i bA (by rw[J,show n+(m-n)=m by lia];exact B) ?_
    rw[hH,u];obtain⟨a,e1,e2⟩:=Z.good e (Bw (by rw[Bo];exact u))
    rw[M.inj z e2];simpa using e1
  cases gm with
  |emp j hj w' O q =>
   rw[J] at O;have d:n+j=N:=by
    rcases Ma (n+j) N with h|h|h
    .exact absurd (v _ h) O
    .exact h
    .have:=w' (N-n) bA
     rw[J,show n+(N-n)=N by lia] at this
     exact absurd this U
   dsimp only;rw[J,d];refine Am (h2 λz=>?_);obtain⟨e,b,c⟩:=(Z.mem k).mp z;obtain⟨i,hi,B⟩:=Ct.mp b;have G:es[i]? = Ab e:=by rw[<- Bo,Ar hi,B]
   obtain⟨m,w1,w2⟩:=T.way i e G;obtain⟨a,g1,p⟩:=Z.good e b;have:=M.inj c p;subst this;rw[g1] at w1 w2;have f:m<N:=by
    apply Gf;intro hc;by_cases f:m=N
    .subst f
     exact U (Bw (by rw[Bo];exact w1))
    .exact U (w2 N bA)
   exact C j q m i e bA w1 G c
  |cand j i hj w' O hh q =>
   rw[J] at O;have hi:i<es.size:=by
    rw[<- T.size];exact(Ec.mp O).1
   have B:es[i]? = Ab es[i]:=Dp hi;have d:n+j<N:=by
    rcases Ma (n+j) N with h|h|h
    .exact h
    .rw[h] at O
     exact absurd (Bw (by rw[Bo];exact O)) U
    .have:=w' (N-n) bA
     rw[J,show n+(N-n)=N by lia] at this
     exact absurd this U
   obtain⟨a,g1,p⟩:=Z.good es[i] bB
   dsimp only;have L:Aq (Av prog w) A (do
     let Ab (_,y):=es[i]?|unsupported "internal:set-entry"
     let equal <- holding [y] (eqBool y x)
     let (mh,_,t') <- Zs S
     if true&&equal then return .there none
     let Ab same:=t'.sameMemory t.moves t.mask|unsupported "set.changed-during-lookup:is-the-new-block-at-the-old-address"
     let still <- match (if same then t'.slot (it t.mask j (it t.mask n (st t.mask (az k)))).j else .empty) with
      |.live l=>match mh[l]? with
       |some (_,y')=>do pure (if <- isSame y' y then Ab l else none)
       |none=>pure none
      |_=>pure none
     match still with
     |none=>rule "set.search.anew";T0 S x (az k) true fuel none
     |some l=>if equal then return .there (Ab l) else T0 S x (az k) true fuel (Ab (it t.mask (j+1) (it t.mask n (st t.mask (az k)))))) Q E s:=by
    rw[B];dsimp only;refine Ad (Ee (M.eq hu hS p hx ?_));refine Ad (Hd ho hd T.fits ?_);by_cases I:a=k
    .subst I
     simp only[Km,Bool.and_self,Eb];exact Am (h1 ((Z.mem a).mpr ⟨es[i],by simp,p⟩))
    .simp only[I,Ks,Kh,Bx,Dx]
     have hm:t.sameMemory t.moves t.mask=Ab true:=by simp[SetTable.sameMemory]
     rw[hm];dsimp only;rw[J,r0 T.tb O];simp only[Eb,B];refine Ad (qAn M p ?_);simp only[Eb];refine Ad (Am ?_);dsimp only;refine BC M hu hS ho hd T Z hx N v U zc h1 h2 fuel (n+j+1) _ ?_ bA bA λm l e hm G u z=>?_
     .rw[Py,J]
      rfl
     .by_cases zs:m<n+j
      .exact C j q m l e zs G u z
      .have:m=n+j:=by lia
       subst this;have:=VP T.tb.rs G O;subst this;rw[B] at u;cases u;exact I (M.inj p z)
   refine JV (λ_=>?_) λ_=>?_
   .refine Ad (qAo M hS hx (λy hy=>?_) ?_)
    .obtain⟨e,b,rfl⟩:=Br.mp hy
     have:e∈es.toList:=by
      have:=(Qp.mp b);exact Qp.mpr (Array.mem_filter.mp this).1
     obtain⟨k2,_,g⟩:=Z.good e this;exact⟨k2,g⟩
    .simp only[Bx,Dx]
     exact L
   .exact L
end
end _S
namespace _S
open PySem.SetTable (Probe leap runEnd turns bits)
@[reducible] noncomputable def kn (es:Az (An × Ac))(Q:Ah)(t:Gg):Cp:={ cls:=.type "set",dict:=none,data:=.set es Q t }
def oY {h:Bt}{S:Af}{t t':Gg}(Y:h.get? S=Ab (kn es Q t)):(h.update S (Obj.putSet mh t')).get? S=Ab (kn mh (Q+1) t'):=EQ _ Y rfl
structure kq {K:Type}(is:K->Ac->Prop)(hash:K->An)(S:Af)(led:Au)(V:ai)(seen:Aa K)(h:Bt):Prop where
 ex:∃ es ep t,h.get? S=Ab (kn es ep t)/\gy is hash es seen/\jq t es/\t.led=led/\∀ e∈es.toList,e.2∈V
section
variable {prog:Bi}{w:Bz}{h0:Bt}{A:Bp}{E:ae}{s:Ag}{S:Af}{led:Au}{V:ai}
def GX (a:Af)(Q:Ah):setRelay a Q=(do
  let (es,_,t) <- Zs a
  if Fi Q>sizeLine then unsupported "set:memory"
  let (es,t) <- (do
   let Ab (t,qY):=t.relaid (es.map (·.1)) Q|unsupported "internal:set-table-without-room"
   let mh:=qY.filterMap (es[·]?)
   if mh.size != es.size then unsupported "internal:set-table-lost-an-element"
   pure (mh,t))
  storeSet a es t):=rfl
def qBM {K:Type}[Sm K]{is:K->Ac->Prop}{J:K->An}(M:ye prog w is J h0){seen:Aa K}{k:K}{x:Ac}{Q:Au->Ag->Prop}(hu:A.units+8<Eu)(hS:l_ h0 s.heap)(Z:kq is J S led V seen s.heap)(y:is k x)(hV:x∈V){U:Aa K}(hU:U.length<=1000)(zc:∀ k'∈seen,k'∈U)(zs:k∈U)
  (h:∀ (b:Au) (h':Bt) (tk:Ah),s.toks<=tk->Go S s.heap h'->kq is J S led V (k::seen) h'->Q b { s with heap:=h',toks:=tk }) : Aq (Av prog w) A (setAdd S x) Q E s:=by
 obtain⟨G,ep,t,H,Z,T,hl,hm⟩:=Z;unfold setAdd;refine Ee (Ad (M.hsh hu hS y λtk I=>?_));unfold setAddHashed setAddHashedIn;refine Ee (Ad (Hd (s:={ s with toks:=tk }) H rfl T.fits ?_))
 dsimp only;have zl:byScan x G=false:=by
  obtain⟨a,rfl⟩:=M.ref y;rfl
 rw[zl];simp only[Bx,Dx];obtain⟨e,g,zz⟩:=T.gap;have first:∃ N,qr t (st t.mask (J k)) N/\(it t.mask N (st t.mask (J k))).j ∉ t.place.toList/\N<10*turns t.mask:=by
  obtain⟨N,hN,eN⟩:=JT T.msk (J k) g;have gm:=mP T.tb (λ_=>J k+1) (J k) (10*turns t.mask) (st t.mask (J k)) rfl ⟨N,hN,by rw[eN];exact zz⟩
  generalize Pd t _ _ _ _=r at gm;cases gm with
  |emp j hj w' e' q=>exact⟨j,w',e',hj⟩
  |cand j i hj w' e' hh q=>exact absurd hh bA
 obtain⟨N,f,v,zv⟩:=first
 have z2:N<100000:=by
  have:turns t.mask<=2200:=by
   unfold turns;rcases T.msk with h|h|h|h|h <;> rw[h] <;> lia
  lia
 refine Ad (BC M (s:={ s with toks:=tk }) hu hS H rfl T Z y N f v zv (λhk=>?_) (λhk=>?_) 100000 0 none rfl bA bA λm i e hm=>by lia)
 .exact Am (h _ s.heap _ I (AaD _ _) ⟨G,ep,t,H,Z.again hk,T,hl,hm⟩)
 .have z1:G.size<1000:=Bh (Z.few zc zs hk) hU
  dsimp only;refine Ad (Hd (s:={ s with toks:=tk }) H rfl T.fits ?_)
  obtain⟨u,z,p3,p4⟩:=T.put (h:=J k) (x:=x) f v (qAr _ _ _);generalize hj:(it t.mask N (st t.mask (J k))).j=j at *;have L:(t.put j).1.mask=t.mask:=rfl;have m2:(t.put j).1.plain=true:=T.plain;have m3:(t.put j).1.led=led:=hl;generalize hp:t.put j=tp at *;obtain⟨B,p⟩:=tp;dsimp only at u z p3 p4 L m2 m3 ⊢;rw[m2];simp only[Eb];refine Ad (M.byV (s:={ s with toks:=tk }) hS y ?_)
  simp only[Eb,XV,Bool.true_and];have Y:(Ei G p (J k,x)).size=G.size+1:=kD _ _ _;have O:G.size+1<=sizeLine:=by rw[Gb];lia
  refine Ad (wpAny_storeSet_of (s:={ s with toks:=tk }) H rfl ?_ (by rw[Y];exact O))
  have Z1:gy is J (Ei G p (J k,x)) (k::seen):=by
   refine Z.push (λa b=>M.inj a b) y hk ?_;have:=Lh G p (J k,x);rw[Ff] at this;exact this
  have c:∀ e∈(Ei G p (J k,x)).toList,e.2∈V:=λe g=>by
   have:=(Lh G p (J k,x)).mem_iff.mp g;rw[Ff] at this;rcases Bq.mp this with h1|h1
   .exact hm e h1
   .simp at h1;subst h1;exact hV
  have C:=oY (mh:=Ei G p (J k,x)) (t':=B) H;have o:=Fp s.heap S (Obj.putSet (Ei G p (J k,x)) B);have d:B.fits (Ei G p (J k,x)).size=true:=by
   have n:B.fill=G.size+1:=by unfold Tz;rw[u.dm,z,Y];rfl
   have h2:=T.few;unfold Ac0;rw[n,z,Y,L];rcases T.msk with h|h|h|h|h <;> rw[h] at h2 ⊢ <;> simp <;> lia
  refine JV (λl=>?_) λl=>?_
  .have zx:rq B.mask:=by rw[L];exact T.msk
   have n:((Ei G p (J k,x)).size-1)*5<B.mask*3:=by rw[Y,L];exact T.few
   obtain⟨q1,t2,qY,q2,q3,q4,q5,_⟩:=iK zx m2 z (by rw[Y];lia) (by simpa using l) u.dm n (by rw[Y];lia)
   rw[Y] at q1 q2;rw[GX];refine Ad ?_;refine Ad (Hd (s:={ s with heap:=_,toks:=tk }) C rfl d ?_)
   dsimp only;rw[Bd (by rw[Gb];lia)]
   refine Ad ?_;rw[q2];dsimp only;have zb:(qY.filterMap λzy=>(Ei G p (J k,x))[zy]?).size=G.size+1:=by rw[<- Bu,q4.length_eq,Bu,Y]
   rw[Bd (by rw[zb,Y];simp)]
   refine Am ?_;refine wpAny_storeSet_of (s:={ s with heap:=_,toks:=tk }) C rfl ?_ (by rw[zb];exact O)
   refine Am (h _ _ _ I (o.trans (Fp _ S _)) ⟨_,_,t2,oY C,Z1.perm q4,q5,by rw[q3];exact m3,λe g=>c e (q4.mem_iff.mp g)⟩)
  .refine Am (h _ _ _ I o ⟨_,_,B,C,Z1,⟨u,by rw[L];exact T.msk,z,by rw[L];exact p3,?_,by rw[L];exact p4,m2⟩,m3,c⟩)
   have n:B.fill=G.size+1:=by unfold Tz;rw[u.dm,z,Y];rfl
   unfold AaW at l;rw[n] at l;rw[Y];simpa using l
end
end _S
namespace _S
open PySem.SetTable (Probe leap runEnd turns bits)
def wo (prog:Bi)(w:Bz)(k:An)(v:Ac):Prop:=(Ek prog w).is k v=true
section
variable {prog:Bi}{w:Bz}
set_option tactic.hygienic true in
def lW {k:An}(h:wo prog w k v):∃ t,v=.int k t:=by
 cases v <;> first|(exact absurd h (by rintro⟨⟩)) | skip
 rename_i i t;refine⟨t,?_⟩;have:i=k:=(Ek prog w).inj (.int i t) i k (intKind_is _ _ _ _) h;rw[this]
end
end _S
namespace _S
variable {Q:ae}{i:Ah}
structure uj (prog:Bi)(w:Bz){K:Type}(is:K->Ac->Prop)(hash:K->An)(h0:Bt):Prop where
 add:∀ {A:Bp} {E:ae} {s:Ag} {S:Af} {led:Au} {V:ai} {seen U:Aa K} {k:K} {x:Ac} {Q:Au->Ag->Prop},A.units+8<Eu->l_ h0 s.heap->kq is hash S led V seen s.heap->is k x->x∈V->U.length<=1000->(∀ k'∈seen,k'∈U)->k∈U ->
  (∀ (b:Au) (h':Bt) (tk:Ah),s.toks<=tk->Go S s.heap h'->kq is hash S led V (k::seen) h'->Q b { s with heap:=h',toks:=tk }) -> Aq (Av prog w) A (setAdd S x) Q E s
def D8 (h0:Bt):uj prog w (g_ prog w h0) (Vo (Ek prog w)) h0:=⟨λU Y Z N O C G J h=>qBM qBm U Y Z N O C G J h⟩
def vV {K:Type}(Y:Ah->K):Ah->Aa K
 |0=>[]
 |i+1=>Y i::vV Y i
theorem jU {K:Type}{Y:Ah->K}{k:K}:∀ {n:Ah},k∈vV Y n↔∃ i,i<n/\Y i=k
 |0=>by simp[vV]
 |n+1=>by
  rw[vV,Ba,jU];constructor
  .rintro (rfl|⟨i,h,e⟩)
   .exact⟨n,by fin2,rfl⟩
   .exact⟨i,by fin2,e⟩
  .rintro⟨i,h,e⟩
   by_cases J:i=n
   .subst J;exact .inl e.symm
   .exact .inr ⟨i,by fin2,e⟩
section
variable {prog:Bi}{w:Bz}{A:Bp}{R:Zp->Ag->Prop}{I:Af}{fp wr:ag}{G:Az Ab7->Az Ab7->Prop}{n:Ah}{P:Ah->Ac->Prop}{St:Ah->Ag->Prop}
variable {K:Type}{is:K->Ac->Prop}{az:K->An}{h0:Bt}{led:Au}{V:ai}{U:Aa K}
def kq.sup {S:Af}{seen:Aa K}{h h':Bt}(Z:kq is az S led V seen h)(e:∀ o,h.get? S=Ab o->h'.get? S=Ab o):kq is az S led V seen h':=by
 obtain⟨J,N,t,Y,r⟩:=Z;exact⟨J,N,t,e _ Y,r⟩
theorem NW (a:uj prog w is az h0)(W:WalksS prog w A.in1 I fp wr G n P St)(S:Af)(y:S ∉ fp)(x:A.in1.units+8<Eu)(Y:Ah->K)(T:∀ i v,P i v->is (Y i) v/\v∈V)(hU:U.length<=1000)(H:∀ i,i<n->Y i∈U)
  (r:h0.get? S=none) (g:∀ b∈wr,h0.get? b=none):∀ (k i:Ah) (s:Ag),n-i=k->i<=n->St i s->l_ h0 s.heap->kq is az S led V (vV Y i) s.heap ->
   (∀ s',Moved (S::wr) G s s'->kq is az S led V (vV Y n) s'.heap->R (.ok (.ret .none)) s')->Ik (Av prog w) A (.builtin "set.update.loop" ⟨[.ref S,.ref I],[]⟩) R s:=by
 have M:S ∉ wr:=λh=>y (W.sub _ h);have J:∀ b∈wr,b∈S::wr:=λb N=>Cs _ N;intro k
 induction k with
 |zero =>
  intro i s hk hi B t Z f;have d:i=n:=by fin2
  subst d;refine Jv Nv ?_;rw[Ka Jl _];show Aq _ A.in1 (Ms (.ref I) >>= _) _ _ s;refine Ad (W.done s _ _ B λs' L=>?_);exact Am (f s' (L.mono J) (Z.sup λo e=>L.heap S _ M e))
 |succ k m =>
  intro i s hk hi B t Z f;have C:i<n:=by fin2
  refine Jv Nv ?_;rw[Ka Jl _];show Aq _ A.in1 (Ms (.ref I) >>= _) _ _ s;refine Ad (W.item i s _ _ C B λv s' hP z L=>?_);obtain⟨q1,q2⟩:=T i v hP;have u:l_ h0 s'.heap:=λb o e=>L.heap b o (λN=>by rw[g b N] at e;cases e) (t b o e)
  show Aq _ A.in1 (holding [v] (setAdd S v) >>= _) _ _ s';refine Ad (Ee (a.add x u (Z.sup λo e=>L.heap S _ M e) q1 q2 hU (λk' c=>?_) (H i C) λb h' tk q O Z'=>?_))
  .obtain⟨j,hj,e⟩:=jU.mp c
   exact e▸H j om
  .refine Am ⟨TD Jl _,m (i+1) _ om C (W.frame _ s' _ _ z q λb N o e=>?_) (λb o e=>?_) Z' λp E l=>?_⟩
   .rw[O.2 b (λh:b=S=>y (by rw[<- h];exact N))];exact e
   .rw[O.2 b (λh:b=S=>by rw[h,r] at e;cases e)];exact u b o e
   .refine f p (Moved.trans W.gtrans ((L.mono J).then_heap q λb o N e=>?_) E) l
    rw[O.2 b (λh:b=S=>N (by rw[h];exact DL))];exact e
end
section
variable {prog:Bi}{w:Bz}{A:Bp}{E:ae}{s:Ag}
noncomputable def vD (w:Bz):Au:=!w.params.followText "set-order"
@[reducible] def mj (w:Bz):Cp:=kn #[] 0 (.fresh 0 0 (vD w))
def iI (a:Ac){Q₁:ae}(h:Q₁ (.ref s.heap.objs.size) { s with heap:=s.heap.push (mj w) }) : Ik (Av prog w) A (.call (.builtin "set.__new__") ⟨[.type "set",a],[]⟩) (wants Q₁ E) s:=by
 refine Wq ?_;show Aq _ A.in1 (do Ux "set.__new__" ⟨[.type "set",a],[]⟩;again (.builtin "set.__new__" ⟨[.type "set",a],[]⟩)) _ _ s
 refine Ad (Px (PySem.F.newCall_set_1 a) (Am ⟨TD Xf _,Jv PySem.F.entry_set_new ?_⟩));rw[Ka Xf _];unfold Hz.«set.__new__» AbT;have Y:=PySem.sub_set_self;obtain⟨J,g,d,U,os⟩:=s;dsimp only
 wp_walk
 refine Kl (Am ?_);dsimp only;simp only[newObj];exact Ad (wpAny_alloc (Am (Am h)))
def VZ (w:Bz):jq (.fresh 0 0 (vD w)) #[]:=⟨⟨by unfold Rs;exact Pa,rfl⟩,.inl rfl,rfl,λx Y=>(by cases Y),(show 0*5<7*3 by decide),λi e h=>(by simp at h),rfl⟩
variable {K:Type}{is:K->Ac->Prop}{az:K->An}{U:Aa K}
theorem ZI (a:uj prog w is az s.heap){l:Af}{items:Az Ac}{Q:ae}(hh:A.handled=none)(hu:A.units+16<Eu)(hl:s.heap.IsList l items\/s.heap.IsTuple l items)(J:Ah->K)(u:∀ i v,items[i]? = Ab v->is (J i) v)(hU:U.length<=1000)(zb:∀ i,i<items.size->J i∈U)
  (h:∀ (h':Bt) (tk:Ah),kq is az s.heap.objs.size (vD w) items.toList (vV J items.size) h'->(∀ b o,s.heap.get? b=Ab o->h'.get? b=Ab o)->Q (.ref s.heap.objs.size) { s with heap:=h',toks:=tk }) :
  Aq (Av prog w) A (call (.type "set") [.ref l]) Q E s:=by
 obtain⟨c,tl,zx⟩:=Hm.mro;have zc:=Hm.made;have zv:=Hm.sub;refine Uw (Wq ?_);show Aq _ _ (callAny (.type "set") _) _ _ _;refine Am ⟨Zz _ (by decide +kernel),Jv PySem.F.entry_type_call ?_⟩
 rw[Around.under_plain (weight_type_call_type "set" [.ref l] []) rfl];have h1:=Hm.notType;have h2:=Hm.canCreate;have zy:=PySem.F.typeCall_set_1 (.ref l)
 repeat (any_goals (first|assumption|wp_step))
 refine Mp (iI (.ref l) (E:=E) (Q₁:=λp B=>p=.ref s.heap.objs.size/\B={ s with heap:=s.heap.push (mj w) }) ⟨rfl,rfl⟩) λr B hr=>?_
 cases r with
 |error e=>exact hr
 |ok fl =>
  cases fl with
  |ret p =>
   obtain⟨rfl,rfl⟩:=hr;have hS:(s.heap.push (mj w)).get? s.heap.objs.size=Ab (mj w):=Bl _ rfl;have hT:Zh { s with heap:=s.heap.push (mj w) } (.ref s.heap.objs.size) "set":=⟨_,hS,rfl⟩
   have z1:=Hm.init.lookup;have zz:=Hm.init.bind (.ref s.heap.objs.size)
   repeat (any_goals (first|assumption|wp_step))
   refine Mp (Qs (R:=wants (λr O=>r=.none/\∃ h' tk,O={ s with heap:=h',toks:=tk } /\ kq is az s.heap.objs.size (vD w) items.toList (vV J items.size) h'/\∀ b o,s.heap.get? b=Ab o->h'.get? b=Ab o) E) Hm.init.plain PySem.F.entry_set_init (check_set_init_1 hT ?_)) λf O Y=>?_
   .have g:l<s.heap.objs.size:=by rcases hl with⟨_,e,_⟩|⟨_,e,_⟩ <;> exact Bf e
    have C:l≠(s.heap.push (mj w)).objs.size:=by
     rw[Fl];exact Cn (AaG g)
    have nS:s.heap.get? s.heap.objs.size=none:=Qo (Ax _);have nI:s.heap.get? (s.heap.push (mj w)).objs.size=none:=Qo (by rw[Fl];exact Ss _)
    rcases hl with⟨⟨y,T,H,G⟩,q,z,nl,I⟩|⟨⟨y,T,H,G⟩,q,z,nl,I⟩
    all_goals
     simp only at z I;subst z;subst I;have L:=Aj (mj w) q
    case' inl =>
     have k:=PySem.F.sub_list_set;have d:=PySem.F.sub_list_frozenset;have zs:(Hw "list" == Hw "dict")=false:=by decide
     have N:(s.heap.push (mj w)).IsList l items:=⟨_,L,rfl,nl,rfl⟩
    case' inr =>
     have k:=PySem.F.sub_tuple_set;have d:=PySem.F.sub_tuple_frozenset;have zs:(Hw "tuple" == Hw "dict")=false:=by decide
     have N:(s.heap.push (mj w)).IsTuple l items:=⟨_,L,rfl,nl,rfl⟩
    all_goals
     unfold Hz.«set.__init__» noKeywords AbJ;generalize zl:Rj=PI
     wp_walk
     subst zl
     first
      |(refine Ja N ?_;have W:=(Walks.list (prog:=prog) (w:=w) (A:=A.in1.in1.in1) (by simp[hh]) _ l C items).toS)
      |(refine Jn N ?_;have W:=(Walks.tuple (prog:=prog) (w:=w) (A:=A.in1.in1.in1) (by simp[hh]) _ l C items).toS)
     refine Ad (wpAny_runValue ?_);refine NW (led:=vD w) (V:=items.toList) a W s.heap.objs.size ?_ (by show A.units+3+8<Eu;fin2) J (λi v hv=>⟨u i v hv,?_⟩) hU zb nS (λb hb=>?_) (items.size-0) 0 _ om (Hg _)
      ⟨⟨_,Bl _ rfl,rfl,rfl⟩,N.push _⟩ (λb o e=>Aj _ (Aj _ e)) ?_ λs' t M=>?_
     .rw[Fl];simp only[Ba,Cw,Dv,HT,not_or]
      exact⟨Cn (Kk _),Jc g⟩
     .exact Bw (by rw[Bo];exact hv)
     .rw[Cw.mp hb];exact nI
     .exact⟨#[],0,_,Aj _ hS,gy.nil,VZ w,rfl,λe he=>by simp at he⟩
     .obtain⟨h',g',d',m,n⟩:=s'
      have eg:g'=s.gens:=t.gens;have ed:d'=s.drawn:=t.drawn;have eo:n=s.os:=t.os;subst eg;subst ed;subst eo;refine Am (Am ⟨rfl,h',m,rfl,M,λb o e=>?_⟩);refine t.heap b o (λhb=>?_) (Aj _ (Aj _ e));rcases Ba.mp hb with rfl|hb
      .rw[nS] at e;cases e
      .rw[Cw.mp hb,nI] at e;cases e
   .cases f with
    |error e=>exact Y
    |ok j =>
     cases j with
     |ret r =>
      obtain⟨rfl,h',tk,rfl,M,x⟩:=Y
      repeat (any_goals (first|assumption|wp_step))
      exact h _ _ M x
     |_=>exact Y.elim
  |_=>exact hr.elim
end
theorem vA {α:Type}:∀ {l:Aa α} {i:Ah} (h:i<l.length),(l[i]::l.eraseIdx i).Perm l
 |a::l,0,h=>by simp
 |a::l,i+1,h=>by
  rw[List.eraseIdx_cons_succ,List.getElem_cons_succ];exact(AbN _ _ _).trans ((vA (l:=l) (i:=i) (by simpa using h)).cons a)
theorem sX {α:Type}(next:Ah->Ah):∀ (fuel k:Ah) (left:Aa α) (Y:Az α),left.length=fuel->(wS next fuel k left Y).toList.Perm (Y.toList++left)
 |0,k,left,Y,h=>by
  have:left=[]:=Re h;subst this;unfold wS;simp
 |fuel+1,k,left,Y,h=>by
  unfold wS;have J:next k % left.length<left.length:=Po _ om
  rw[Ar J];dsimp only;refine(sX next fuel (k+1) _ _ (by rw[Yj,Bg J];fin2)).trans ?_
  rw[Ff,Cd];refine Im _ ?_;exact vA J
def dF {α:Type}(next:Ah->Ah)(xs:Az α) : (Rf next xs).toList.Perm xs.toList:=by
 have:=sX next xs.size 0 xs.toList #[] bB
 simpa [Rf] using this
def yZ:Slot "set_iterator" "__next__" "set_iterator.__next__":=
 .of (owner:="set_iterator") (n:="__next__") (by rw[typeLookup_type,Xg];kernel_rfl) (by decide +kernel) (by decide +kernel) (by decide +kernel) (.inl (by decide +kernel)) (by rw[Ya];kernel_rfl)
def tW:entryFor table "set_iterator.__next__" = Ab Hz.«set_iterator.__next__»:=entryFor_of_fast (by kernel_rfl)
def dU (a:Ac):AaU "set_iterator.__next__" ⟨[a],[]⟩:=by unfold AaU;kernel_rfl
def r8:Slot "set_iterator" "__iter__" "set_iterator.__iter__":=
 .of (owner:="set_iterator") (n:="__iter__") (by rw[typeLookup_type,Xg];kernel_rfl) (by decide +kernel) (by decide +kernel) (by decide +kernel) (.inl (by decide +kernel)) (by rw[Ya];kernel_rfl)
def ZQ:entryFor table "set_iterator.__iter__" = Ab Hz.«dict_keyiterator.__iter__»:=entryFor_alias (id':="dict_keyiterator.__iter__") (by kernel_rfl) rfl (by decide +kernel) (by kernel_rfl)
def W0 (a:Ac):AaU "set_iterator.__iter__" ⟨[a],[]⟩:=by unfold AaU;kernel_rfl
def ZP:entryFor table "set.__iter__" = Ab Hz.«frozenset.__iter__»:=entryFor_alias (id':="frozenset.__iter__") (by kernel_rfl) rfl (by decide +kernel) (by kernel_rfl)
def T6 (a:Af)(slot given Y:Ah):setNext a slot given Y=(do
  let (es,epoch,t) <- Zs a
  if <- setsByText then
   if epoch != Y then unsupported "set_iterator.__next__:elements-changed"
   return ((<- setWalk a)[given]?).map λe=>(e.2,slot)
  if !t.plain&&es.size>1 then unsupported "set_iterator.__next__:the-table-is-plain-no-more"
  (do if !t.led&&!es.isEmpty then unsupported "set:maker-not-led")
  return match es[Cj t.place slot]?,t.place[Cj t.place slot]? with
   |some (_,x),Ab j=>Ab (x,j+1)
   |_,_=>none):=rfl
def LK (a:Af):setWalk a=(do
  let (es,epoch,t) <- Zs a
  if <- setsByText then return Rf ((<- ask).params.setOrder a epoch) es
  if !t.plain&&es.size>1 then return (<- drawOrder es.size es.toList).toArray
  (do if !t.led&&es.size>1 then unsupported "set:maker-not-led")
  return es):=rfl
def J7 (a:Af):setDrawn a=(do
  let (es,_,t) <- Zs a
  let byText <- setsByText
  return !byText&&(!t.plain&&es.size>1)):=rfl
structure ma (w:Bz)(S:Af)(es:Az (An × Ac))(ep:Ah)(t:Gg):Prop where
 tab:jq t es
 led:t.led=vD w
def qY (w:Bz)(S:Af)(Y:Ah)(es:Az (An × Ac)):Az (An × Ac):=if w.params.followText "set-order" = true then Rf (w.params.setOrder S Y) es else es
def nU (w:Bz)(S:Af)(Y:Ah)(es:Az (An × Ac)):(qY w S Y es).toList.Perm es.toList:=by
 unfold qY
 split
 .exact dF _ _
 .exact Ml _
def uR (w:Bz)(S:Af)(Y:Ah)(es:Az (An × Ac)):(qY w S Y es).size=es.size:=by
 rw[<- Bu,(nU w S Y es).length_eq,Bu]
noncomputable def ur (slot i:Ah)(S:Af)(n Y:Ah):Cp:={ cls:=.type "set_iterator",data:=.fields #[.int slot 0,.int i 0,.ref S,.int n 0,.int Y 0] }
def At (w:Bz)(I S:Af)(es:Az (An × Ac))(Y:Ah)(t:Gg)(i:Ah)(h:Bt):Prop:=
 ∃ slot,h.get? I=Ab (ur slot i S es.size Y)/\h.get? S=Ab (kn es Y t)/\(w.params.followText "set-order" = true\/Cj t.place slot=i)
section
variable {prog:Bi}{w:Bz}{A:Bp}{E:ae}{s:Ag}{S I:Af}{es:Az (An × Ac)}{ep:Ah}{t:Gg}
theorem XH {slot:Ah}{Q:Ak (Ac × Ah)->Ag->Prop}(Z:ma w S es ep t)(C:s.heap.get? S=Ab (kn es ep t))(hs:w.params.followText "set-order" = true\/Cj t.place slot=i)
  (h1:∀ e Y,(qY w S ep es)[i]? = Ab e->(w.params.followText "set-order" = true\/Cj t.place Y=i+1)->Q (Ab (e.2,Y)) s) (h2:(qY w S ep es)[i]? = none->Q none s):Aq (Av prog w) A (setNext S slot i ep) Q E s:=by
 rw[T6];refine Ad (Hd C rfl Z.tab.fits ?_);dsimp only;refine Ad (Ad (Kl (Am ?_)));cases J:w.params.followText "set-order" with
 |true =>
  show Aq _ _ (if (w.params.followText "set-order")=true then _ else _) _ _ _
  rw[Bg J];have N:(ep != ep)=false:=by simp
  rw[N];simp only[Bx,Dx];refine Ad ?_;rw[LK];refine Ad (Hd C rfl Z.tab.fits ?_);dsimp only;refine Ad (Ad (Kl (Am ?_)));show Aq _ _ (if (w.params.followText "set-order")=true then _ else _) _ _ _
  rw[Bg J];refine Ad (Kl (Am (Am ?_)));show Q (((Rf (w.params.setOrder S ep) es)[i]?).map λe=>(e.2,slot)) s;have U:qY w S ep es=Rf (w.params.setOrder S ep) es:=by unfold qY;rw[Bg J]
  rw[U] at h1 h2;cases G:(Rf (w.params.setOrder S ep) es)[i]? with
  |none=>exact h2 G
  |some e=>exact h1 e slot G (.inl J)
 |false =>
  show Aq _ _ (if (w.params.followText "set-order")=true then _ else _) _ _ _
  rw[Bd (by rw[J];decide),Z.tab.plain,Z.led]
  unfold vD;rw[J];simp only[Li,Hs,Bx,Dx,XV];have N:Cj t.place slot=i:=by
   rcases hs with h|h
   .rw[J] at h;cases h
   .exact h
  rw[N];have U:qY w S ep es=es:=by unfold qY;rw[Bd (by rw[J];decide)]
  rw[U] at h1 h2;refine Am ?_;cases G:es[i]? with
  |none=>exact h2 G
  |some e =>
   have B:i<t.place.size:=by rw[Z.tab.size];exact(Ec.mp G).1
   have O:t.place[i]? = Ab t.place[i]:=Dp B;rw[O];exact h1 e _ G (.inr (ZG Z.tab.tb.rs O))
def At.type (h:At w I S es ep t i s.heap):s.TypeIs (.ref I) "set_iterator":=by
 obtain⟨slot,h,_⟩:=h;exact⟨_,h,rfl⟩
def sV (Z:ma w S es ep t)(L:At w I S es ep t i s.heap)
  (h1:∀ e Y slot,(qY w S ep es)[i]? = Ab e->s.heap.get? I=Ab (ur slot i S es.size ep)->s.heap.get? S=Ab (kn es ep t)->(w.params.followText "set-order" = true\/Cj t.place Y=i+1) ->
   Q e.2 { s with heap:=(s.heap.update I (Ni (·.setIfInBounds 0 (Gk Y)))).update I (Ni (·.setIfInBounds 1 (Gk ((i:An)+1)))) })
  (h2:(qY w S ep es)[i]? = none->Aq (Av prog w) A (do setField (.ref I) 2 .none;AbB (<- AaQ (.type "StopIteration") [])) (λ(fin:PySem.Fin) s'=>∃ r,fin=.done (.ret r)/\Q r s') E s) :
  Aq (Av prog w) A (Hz.«set_iterator.__next__» ⟨[.ref I],[]⟩) (λfin s'=>∃ r,fin=.done (.ret r)/\Q r s') E s:=by
 obtain⟨slot,J,N,B⟩:=L;show Aq _ _ (fieldsOf (.ref I) >>= _) _ _ s;refine Ad (Yb J rfl ?_);show Aq _ _ (setEntries S >>= _) _ _ s;refine Ad (Zi N rfl Z.tab.fits ?_);have C:(((es.size:Ah):An) != ((es.size:Ah):An))=false:=by simp
 rw[C];simp only[Bx,Dx];show Aq _ _ (setNext S (slot:An).toNat (i:An).toNat (ep:An).toNat >>= _) _ _ s;rw[Em,Em,Em];refine Ad (XH Z N B (λe Y O U=>?_) λO=>?_)
 .dsimp only
  refine Ad (Ki J rfl (by show 0<5;decide) ?_)
  have G:=EQ (Ni (·.setIfInBounds 0 (Gk Y))) J rfl
  refine Ad (Ki G rfl (by show 1<5;decide) ?_)
  exact Am ⟨_,rfl,h1 e Y slot O J N U⟩
 .exact h2 O
def LJ (M:A.handled=none)(N:S≠I)(Z:ma w S es ep t):Walks prog w A I [I,S] [I] es.size (λi v=>∃ e,(qY w S ep es)[i]? = Ab e/\e.2=v) (λi h=>At w I S es ep t i h) where
 sub:=λb Y=>by simp at Y;simp[Y]
 frame:=λi h y ⟨slot,j,L,H⟩ B=>⟨slot,B I bB _ j,B S bB _ L,H⟩
 item:=λi s Q E k st G=>by
  unfold Ms;refine Ad (Jg (Ed (name:=Ic "__next__") st.type yZ (Ef yZ st.type tW (sV Z st (λe J slot U O C Y=>?_) λU=>?_) (dU _))))
  .refine Am (G e.2 _ s.toks ⟨e,U,rfl⟩ ⟨J,?_,?_,Y⟩ λb o Y e=>?_)
   .exact EQ _ (EQ _ O rfl) rfl
   .rw[Dm _ _ N.symm,Dm _ _ N.symm];exact C
   .have Y:I≠b:=λz=>Y (by simp[z])
    rw[Dm _ _ Y,Dm _ _ Y];exact e
  .have:=Sx.mp U
   rw[uR] at this;fin2
 done:=λs Q E st G=>by
  unfold Ms;refine Ad (Jg (Ed (name:=Ic "__next__") st.type yZ (Ef yZ st.type tW (sV Z st (λe J slot U O C Y=>?_) λU=>?_) (dU _))))
  .have:=(Ec.mp U).1
   rw[uR] at this;fin2
  .obtain⟨slot,O,C,Y⟩:=st
   refine Ad (Ki O rfl (by show 2<5;decide) ?_)
   refine Ad ?_;simp only[AaQ,newTuple];refine Ad (De ?_ (by size_fits))
   refine Ad (m:=Mk _ _) (Px (a:=Cz) (by first|rfl|(simp only[Mk];rfl)) ?_)
   refine De ?_ (by size_fits)
   simp only[AbB];refine Ad (Zf ?_);rw[show A.in1.handled=none from M]
   refine Ad (Am (AaR ?_));refine Ad (Qc (T:="StopIteration") (b:=true) ⟨_,Bl _ rfl,rfl⟩ Xx ?_);refine Am (G _ s.toks λb o Y e=>?_);exact(((Fp ..).extBut.push _).push _) b o (λz=>Y (by simp[z])) e
 self:=λi s Q E st G=>by
  refine TW st.type r8 (Ef r8 st.type ZQ ?_ (W0 _));show Aq _ _ (ret (.ref I)) _ _ s;exact Am ⟨_,rfl,"set_iterator",_,st.type,yZ.lookup,G⟩
def JW (Z:ma w S es ep t)(Y:s.heap.get? S=Ab (kn es ep t))(h:Q (.ref s.heap.objs.size) { s with heap:=s.heap.push (ur 0 0 S es.size ep) }) : Aq (Av prog w) A (Rj (.ref S)) Q E s:=by
 have J:s.TypeIs (.ref S) "set":=⟨_,Y,rfl⟩;refine TW J Xh (Ef Xh J ZP ?_ (PySem.F.args_set_iter_1 _));show Aq _ _ (Um S >>= _) _ _ s;unfold Um;refine Ad (Ad (Zi Y rfl Z.tab.fits (Am ?_)));refine Ad ?_;rw[J7];refine Ad (Hd Y rfl Z.tab.fits ?_);dsimp only;refine Ad (Ad (Kl (Am (Am ?_))));rw[Z.tab.plain];simp only[Li,Hs,Kh,Bx,Dx];refine Ad (Am ?_);unfold setEpoch;refine Ad (Ad (Hd Y rfl Z.tab.fits (Am ?_)));refine Ad (De (Am ⟨_,rfl,"set_iterator",_,⟨_,Bl _ rfl,rfl⟩,yZ.lookup,h⟩))
def F2 (Z:ma w S es ep t)(Y:s.heap.get? S=Ab (kn es ep t)):At w s.heap.objs.size S es ep t 0 (s.heap.push (ur 0 0 S es.size ep)):=
 ⟨0,Bl _ rfl,Aj _ Y,.inr (ZH Z.tab.tb.rs)⟩
end
end _S
namespace _S
open PySem.W
variable {n lo:Ah}{arr m:Az Bm}
structure Ord {K:Type}(lt:K->K->Au):Prop where
 irr:∀ a,lt a a=false
 tr:∀ {a b c},lt a b=true->lt b c=true->lt a c=true
 tri:∀ {a b},lt a b=false->a=b\/lt b a=true
theorem oO:∀ a:Aa An,_H.lexLt a a=false
 |[]=>rfl
 |x::Q=>by rw[_H.ba,Bg rfl];exact oO Q
theorem Y8:∀ {a b c:Aa An},_H.lexLt a b=true->_H.lexLt b c=true->_H.lexLt a c=true
 |_,[],[],_,h=>by cases h
 |_,_::_,[],_,h=>by cases h
 |[],_,_::_,_,_=>rfl
 |_::_,[],_::_,h,_=>by cases h
 |x::O,y::G,z::N,Y,Q=>by
  rw[_H.ba] at Y Q ⊢;by_cases U:x=y
  .subst U
   rw[Bg rfl] at Y;by_cases J:x=z
   .rw[Bg J] at Q ⊢;exact Y8 Y Q
   .rw[Bd J] at Q ⊢;exact Q
  .rw[Bd U] at Y
   have Y:=Ce Y;by_cases J:y=z
   .subst J;rw[Bd U];exact Dc Y
   .rw[Bd J] at Q
    have Q:=Ce Q;rw[Bd om]
    exact Dc om
theorem oP:∀ {a b:Aa An},_H.lexLt a b=false->a=b\/_H.lexLt b a=true
 |[],[],_=>.inl rfl
 |[],_::_,h=>by cases h
 |_::_,[],_=>.inr rfl
 |x::Y,y::Q,h=>by
  rw[_H.ba] at h ⊢;by_cases e:x=y
  .subst e
   rw[Bg rfl] at h ⊢;rcases oP h with h|h
   .exact .inl (by rw[h])
   .exact .inr h
  .rw[Bd e] at h
   have h:=Ol h;rw[Bd (Gj e)];exact .inr (Dc om)
def xZ:Ord _H.lexLt:=⟨oO,Y8,oP⟩
theorem sE {α:Type}{p q:α->Au}:∀ {l:Aa α},(∀ x∈l,p x=true->q x=true)->(∃ x∈l,q x=true/\p x=false)->l.countP p<l.countP q
 |[],_,⟨x,h,_⟩=>by simp at h
 |a::l,h,⟨x,hx,J,Y⟩=>by
  have G:l.countP p<=l.countP q:=Qf λy Q=>h y (by simp[Q])
  rw[AaX,AaX];rcases Ba.mp hx with rfl|hx
  .rw[Bd (by rw[Y];decide),Bg J];fin2
  .have N:=sE (l:=l) (λy Q=>h y (by simp[Q])) ⟨x,hx,J,Y⟩
   have:=h a bB
   cases U:p a with
   |false=>rw[Bd bU];split <;> fin2
   |true=>rw[Bg rfl,Bg (this U)];fin2
section
variable {K:Type}{lt':K->K->Au}
def pB (lt':K->K->Au)(ks:Aa K)(x:K):An:=(ks.countP (λk=>lt' k x):Ah)
def aI (O:Ord lt'){ks:Aa K}{x y:K}(Y:x∈ks):lt' x y=decide (pB lt' ks x<pB lt' ks y):=by
 unfold pB;cases h:lt' x y with
 |true =>
  refine(Dc ?_).symm;have:=sE (l:=ks) (p:=λk=>lt' k x) (q:=λk=>lt' k y) (λz _ Q=>O.tr Q h) ⟨x,Y,h,O.irr x⟩;fin2
 |false =>
  refine(Co ?_).symm;have:ks.countP (λk=>lt' k y)<=ks.countP (λk=>lt' k x):=by
   rcases O.tri h with e|h'
   .rw[e];exact Ax _
   .exact Qf λz _ Q=>O.tr Q h'
  fin2
def lE (lt':K->K->Au)(ks:Aa K)(d:K)(i j:Ah):Au:=lt' (ks.getD i d) (ks.getD j d)
def Nf (lt':K->K->Au)(l:Aa K):Prop:=l.Pairwise λa b=>lt' b a=false
theorem fE (O:Ord lt'):∀ {a b:Aa K},Nf lt' a->Nf lt' b->a.Perm b->a=b
 |[],b,_,_,p=>(List.nil_perm.mp p).symm
 |x::a,b,Q,Y,p=>by
  cases b with
  |nil=>exact absurd p.symm bB
  |cons y b =>
   unfold Nf at Q Y;rw[Ea] at Q Y;have e:x=y:=by
    rcases Ba.mp (p.mem_iff.mp (.head _)) with e|e
    .exact e
    .rcases Ba.mp (p.mem_iff.mpr (.head _)) with e'|e'
     .exact e'.symm
     .have U:=Q.1 y e'
      have J:=Y.1 x e;rcases O.tri U with e|h
      .exact e.symm
      .rw[J] at h;cases h
   subst e;rw[fE O Q.2 Y.2 (List.Perm.cons_inv p)]
def YM (O:Ord lt'){l:Aa K}(h:Nf lt' l)(nd:l.Nodup):l.Pairwise λa b=>lt' a b=true:=by
 refine List.Pairwise.imp₂ (λ{a b} Y Q=>?_) h nd;exact(O.tri Y).elim (λe=>absurd e.symm Q) id
noncomputable def kJ (lt':K->K->Au)(l:Aa K):Aa K:=l.mergeSort λa b=>!lt' b a
def v3 (l:Aa K):(kJ lt' l).Perm l:=List.mergeSort_perm _ _
def gE (O:Ord lt')(l:Aa K):Nf lt' (kJ lt' l):=by
 have:=Vp (le:=λa b=>!lt' b a) (λa b c J Q=>?_) (λa b=>?_) l
 .exact this.imp λh=>by simpa using h
 .have J:lt' b a=false:=by simpa using J
  have Q:lt' c b=false:=by simpa using Q
  cases Y:lt' c a with
  |false=>rfl
  |true =>
   rcases O.tri J with e|h
   .rw[<- e] at Y;rw[Y] at Q;cases Q
   .have:=O.tr Y h;rw[Q] at this;cases this
 .cases h:lt' b a with
  |false=>rfl
  |true =>
   cases U:lt' a b with
   |false=>rfl
   |true=>have:=O.tr h U;rw[O.irr] at this;cases this
def j9 (lt':K->K->Au)(x:K):Aa K->Aa K
 |[]=>[x]
 |y::l=>if lt' x y then x::y::l else if lt' y x then y::j9 lt' x l else y::l
def kj (lt':K->K->Au):Aa K->Aa K
 |[]=>[]
 |x::Q=>j9 lt' x (kj lt' Q)
set_option tactic.hygienic true in
theorem mQ (O:Ord lt')(x y:K):∀ l:Aa K,y∈j9 lt' x l↔y=x\/y∈l
 |[]=>by simp[j9]
 |z::l=>by
  unfold j9
  split
  .simp
  .rename_i Y
   split
   .rw[Ba,mQ O x y l,Ba]
    exact⟨λh=>by rcases h with h|h|h <;> simp[h],λh=>by rcases h with h|h|h <;> simp[h]⟩
   .rename_i Q
    have:x=z:=(O.tri (by simpa using Y)).elim id λh=>absurd h Q
    subst this;simp
set_option tactic.hygienic true in
theorem oD (O:Ord lt')(x:K):∀ l:Aa K,l.Pairwise (λa b=>lt' a b=true)->(j9 lt' x l).Pairwise (λa b=>lt' a b=true)
 |[],_=>by simp[j9]
 |z::l,h=>by
  rw[Ea] at h;unfold j9
  split
  .rename_i Q
   refine Ea.mpr ⟨λy hy=>?_,Ea.mpr h⟩;rcases Ba.mp hy with rfl|hy
   .exact Q
   .exact O.tr Q (h.1 y hy)
  .split
   .rename_i Y
    refine Ea.mpr ⟨λy hy=>?_,oD O x l h.2⟩;rcases (mQ O x y l).mp hy with rfl|hy
    .exact Y
    .exact h.1 y hy
   .exact Ea.mpr h
theorem vP (O:Ord lt')(y:K):∀ l:Aa K,y∈kj lt' l↔y∈l
 |[]=>by simp[kj]
 |x::l=>by rw[kj,mQ O,vP O y l,Ba]
theorem bL (O:Ord lt'):∀ l:Aa K,(kj lt' l).Pairwise (λa b=>lt' a b=true)
 |[]=>by simp[kj]
 |x::l=>oD O x _ (bL O l)
theorem dR (O:Ord lt'):∀ {a b:Aa K},a.Pairwise (λa b=>lt' a b=true)->b.Pairwise (λa b=>lt' a b=true)->(∀ x,x∈a↔x∈b)->a=b
 |[],[],_,_,_=>rfl
 |[],y::b,_,_,h=>by have:=(h y).mpr bB;simp at this
 |x::a,[],_,_,h=>by have:=(h x).mp bB;simp at this
 |x::a,y::b,J,U,h=>by
  rw[Ea] at J U;have Y:∀ {u v},lt' u v=true->lt' v u=true->Ex:=λp q=>by have:=O.tr p q;rw[O.irr] at this;cases this
  have e:x=y:=by
   rcases Ba.mp ((h x).mp bB) with e|e
   .exact e
   .rcases Ba.mp ((h y).mpr bB) with e'|e'
    .exact e'.symm
    .exact(Y (U.1 x e) (J.1 y e')).elim
  subst e;have G:∀ {z:K} {l:Aa K},(∀ y∈l,lt' x y=true)->z∈l->z≠x:=λh Q e=>by subst e;have:=h _ Q;rw[O.irr] at this;cases this
  rw[dR O J.2 U.2 λz=>⟨λQ=>?_,λQ=>?_⟩]
  .exact(Ba.mp ((h z).mp (by simp[Q]))).elim (λe=>absurd e (G J.1 Q)) id
  .exact(Ba.mp ((h z).mpr (by simp[Q]))).elim (λe=>absurd e (G U.1 Q)) id
def ET (O:Ord lt'){l xs:Aa K}(h:Nf lt' l)(nd:l.Nodup)(m:∀ x,x∈l↔x∈xs):l=kj lt' xs:=
 dR O (YM O h nd) (bL O xs) λx=>by rw[m,vP O]
end
def MY:typeLookup (.type "set") "__len__" = pure (Ab (.builtin "set.__len__")):=PySem.F.slot_set_len.lookup
section
variable {prog:Bi}{w:Bz}{A:Bp}{E:ae}{s:Ag}{S:Af}{es:Az (An × Ac)}{ep:Ah}{t:Gg}
def JQ (hT:s.TypeIs (.ref r) "set"){Q:Au->Ag->Prop}(h:Q false s):Aq (Av prog w) A (Sb (.ref r)) Q E s:=by
 unfold Sb;refine Ad (Wk hT MY ?_);generalize J:("set.__len__" : Es)=id0
 wp_delta
 rw[show splitId id0=Ab ("set","__len__") from by subst J;decide +kernel]
 subst J;refine Ad (Qc (T:="set") (b:=true) hT (by rw[Ya];kernel_rfl) ?_)
 refine Ws (λY=>absurd Y bU) (λ_=>?_)
 refine Ws (λ_=>?_) (λY=>absurd (by decide +kernel) Y)
 exact Ad (Mn hT (Am h))
def iA {Q:Aa Ac->Ag->Prop}(hh:A.handled=none)(Z:ma w S es ep t)(v:s.heap.get? S=Ab (kn es ep t))(hn:es.size<=1000)
  (h:∀ h' tk,(∀ b o,s.heap.get? b=Ab o->h'.get? b=Ab o)->s.heap.objs.size<h'.objs.size->Q ((qY w S ep es).toList.map (·.2)) { s with heap:=h',toks:=tk }) : Aq (Av prog w) A (collect (.ref S)) Q E s:=by
 have L:S<s.heap.objs.size:=Bf v;unfold collect;refine Ad (wpAny_runValue (Jv PySem.F.entry_proto_collect ?_));rw[Ka PySem.F.plain_proto_collect _];show Aq _ A.in1 (newList [] >>= λl=>again (.builtin "list.__iadd__" ⟨[l,.ref S],[]⟩)) _ _ s;refine Ad (De (Am ⟨TD Vq _,Jv PySem.F.entry_list_iadd ?_⟩));rw[Ka Vq _];have hD:(s.heap.push { cls:=.type "list",data:=.seq ([] : Aa Ac).toArray }).get? s.heap.objs.size=Ab { cls:=.type "list",data:=.seq #[] }:=Bl _ rfl;have J:(s.heap.push { cls:=.type "list",data:=.seq ([] : Aa Ac).toArray }).get? S=Ab (kn es ep t):=Aj _ v;show Aq _ A.in1 (Sc (.ref s.heap.objs.size) (.ref S) (.ref s.heap.objs.size)) _ _ _;unfold Sc;have p:Zh { s with heap:=s.heap.push { cls:=.type "list",data:=.seq ([] : Aa Ac).toArray } } (.ref S) "set":=⟨_,J,rfl⟩
 refine Ad (Mn p ?_);have h1:Uo (.ref s.heap.objs.size) (.ref S)=false:=by simp[Uo];exact Jc L
 rw[Bd (by rw[h1];decide)]
 refine Ad (JW (s:={ s with heap:=s.heap.push { cls:=.type "list",data:=.seq ([] : Aa Ac).toArray } }) Z J ?_)
 have N:=Aj (ur 0 0 S es.size ep) hD;have u:Zh { s with heap:=(s.heap.push { cls:=.type "list",data:=.seq ([] : Aa Ac).toArray }).push (ur 0 0 S es.size ep) } (.ref S) "set":=⟨_,Aj _ J,rfl⟩
 refine Ad (Ee (JQ u ?_));refine Ws (λ_=>?_) (λy=>absurd bU y)
 refine Ad (Ho (Ad ?_));show Aq _ _ (updateSeq s.heap.objs.size (·.push .none) >>= λ_=>updateSeq s.heap.objs.size (·.pop)) _ _ _
 refine Ad (wpAny_updateSeq N rfl ?_);have C:=EQ (Fg (·.push Cz)) N rfl
 refine wpAny_updateSeq (hz:=by seq_fits) C rfl ?_
 have g:=EQ (Fg (·.pop)) C rfl
 have M:(s.heap.push { cls:=.type "list",data:=.seq ([] : Aa Ac).toArray }).objs.size=s.heap.objs.size+1:=Fl ..;have U:∀ {b:Af} {o:Cp},b≠s.heap.objs.size->((s.heap.push { cls:=.type "list",data:=.seq ([] : Aa Ac).toArray }).push (ur 0 0 S es.size ep)).get? b=Ab o ->
   ((((s.heap.push { cls:=.type "list",data:=.seq ([] : Aa Ac).toArray }).push (ur 0 0 S es.size ep)).update s.heap.objs.size (Fg (·.push Cz))).update s.heap.objs.size (Fg (·.pop))).get? b=Ab o:=
  λG e=>(Dm _ _ (Gj G)).trans ((Dm _ _ (Gj G)).trans e)
 have k:=F2 (w:=w) (s:={ s with heap:=s.heap.push { cls:=.type "list",data:=.seq ([] : Aa Ac).toArray } }) Z J
 refine Am ⟨TD PySem.F.plain_extend_loop _,?_⟩;refine codeAny_extend_loopS ((LJ (prog:=prog) (A:=A.in1) (I:=(s.heap.push { cls:=.type "list",data:=.seq ([] : Aa Ac).toArray }).objs.size) hh (by rw[M];exact Cn (AaG L)) Z).toS) (by rw[Gb];lia) s.heap.objs.size ?_ _ es.size 0 _ #[] _ rfl (Hg _) ?_ g (ItemsOf.nil _) λd H c T B Y=>?_
 .rw[M]
  simp only[Ba,Dv,HT,not_or];exact⟨Cn (Kk _),Jc L⟩
 .obtain⟨slot,a,a2,r⟩:=k
  exact⟨slot,U (by rw[M];exact Jc (Kk _)) a,U (Cn L) a2,r⟩
 .show Aq _ A (load s.heap.objs.size >>= _) _ _ d
  refine Ad (wpAny_load B ?_);obtain⟨h',x,d',z,j⟩:=d;have f:x=s.gens:=T.gens;have ed:d'=s.drawn:=T.drawn;have eo:j=s.os:=T.os;subst f;subst ed;subst eo;have e:H.toList=(qY w S ep es).toList.map (·.2):=by
   refine Ua λi=>?_;rw[Bo,Do,Bo];by_cases hi:i<es.size
   .have O:i<H.size:=by rw[Y.1];exact hi
    obtain⟨e,he,q⟩:=Y.2 i H[i] (Dp O);rw[Dp O,he,Rc,q]
   .rw[Pp (by rw[Y.1];lia),Pp (by rw[uR];lia)]
    rfl
  refine Am ?_;show Q H.toList _;rw[e];refine h h' z (λb o q=>?_) (Bf B);have G:b<s.heap.objs.size:=Bf q;refine T.heap b o (λhx=>?_) (U (Cn G) (Aj _ (Aj _ q)));simp only[Ba,Dv,HT] at hx;rcases hx with hx|hx
  .exact absurd G (by rw[hx];exact Fe _)
  .exact absurd G (by rw[hx,M];exact Pk.mpr (Ss _))
end
def lT:Au->Bm->Az Bm->Ah->Ah->Ah->Mw Fq Kj (Ak Ah):=sortPriv% PySem.Builtin.gallop
def KJ:Az Bm->Az Bm->Mw Fq Kj (Az Bm):=sortPriv% PySem.Builtin.mergeLo
def KH:Az Bm->Az Bm->Mw Fq Kj (Az Bm):=sortPriv% PySem.Builtin.mergeHi
def nv:Bm:=(Cz,Cz)
section
variable {M:Lb}{A:Bp}{E:ae}{s:Ag}{κ: Nw}{U:Bm->Prop}{r:Bm->An}
structure Cm (M:Lb)(A:Bp)(s:Ag)(κ : Nw)(U:Bm->Prop)(r:Bm->An):Prop where
 lt:∀ {x y:Bm},U x->U y->∀ {E:ae} {Q:Ak Au->Fq->Prop} {st:Fq},kindOf st=κ->Q (Ab (decide (r x<r y))) st->wpS M A E s (lt' x y) Q st
def zF {i:Ah}{Q:Bm->Fq->Prop}{st:Fq}(h:i<arr.size)(q:Q (arr.getD i nv) st):wpS M A E s (elem' arr i) Q st:=by
 rw[elem'_eq,getElem?_pos arr i h];have e:arr.getD i nv=arr[i]:=by simp[Hc,h]
 rw[e] at q;exact Bv q
theorem XX (C:Cm M A s κ U r){left:Au}{Y:Bm}{arr:Az Bm}{i:Ah}{Q:Ak Au->Fq->Prop}{st:Fq}(N:kindOf st=κ)(hi:i<arr.size)(G:U (arr.getD i nv))(J:U Y)
  (q:Q (Ab (if left then decide (r (arr.getD i nv)<r Y) else !decide (r Y<r (arr.getD i nv)))) st) :
  wpS M A E s (do let x <- elem' arr i;if left then lt' x Y else (do let a <- lt' Y x;pure (a.map (λb=>!b)))) Q st:=by
 refine Bc (zF hi ?_);cases left with
 |true=>exact C.lt G J N q
 |false=>exact Bc (C.lt J G N (Bv q))
def lA (C:Cm M A s κ U r){left:Au}{N:Bm}{arr:Az Bm}{base n Y G:Ah}{Q:Ak Ah->Fq->Prop}{st:Fq}(l:kindOf st=κ)(hh:Y<n)(hb:base+n<=arr.size)(y:∀ i,i<n->U (arr.getD (base+i) nv))(w:U N)(hc:G<=n)
  (p:∀ i,i<n->(if left then decide (r (arr.getD (base+i) nv)<r N) else !decide (r N<r (arr.getD (base+i) nv)))=decide (i<G)) (h:Q (Ab G) st):wpS M A E s (lT left N arr base n Y) Q st:=by
 have B:∀ {i:Ah} {E:ae} {Q:Ak Au->Fq->Prop},i<n->Q (Ab (decide (i<G))) st->wpS M A E s (do let x <- elem' arr (base+i);if left then lt' x N else (do let a <- lt' N x;pure (a.map (λb=>!b)))) Q st:=by
  intro i E Q hi q;exact XX C l bA (y i hi) w (by rw[p i hi];exact q)
 have z_:∀ {lo hi:Ah} {f:Ah->Ak (Ak Ah) × Ah × Ah->Mw Fq Kj (ForInStep (Ak (Ak Ah) × Ah × Ah))},lo<=G->G<=hi->hi<=n ->
   (∀ x a b,f x (none,a,b)=if a>=b then pure (.done (none,a,b)) else ((do let x <- elem' arr (base+(a+(b-a)/2));if left then lt' x N else (do let a <- lt' N x;pure (a.map (λb=>!b)))) >>= λo=>match o with
    |some e=>if e then pure (.yield (none,a+(b-a)/2+1,b)) else pure (.yield (none,a,a+(b-a)/2))
    |_=>pure (.done (Ab none,a,b))))->wpS M A E s (forIn [0:n] (none,lo,hi) f) (λc J=>J=st/\∃ a,c=(none,a,G)) st:=by
  intro lo hi f h1 u d t;refine Fv (I:=λx c J=>J=st/\∃ a b,c=(none,a,b)/\a<=G/\G<=b/\b<=n/\b+x<=n+a) ?_ ?_ ⟨rfl,lo,hi,rfl,h1,u,d,by lia⟩
  .rintro x c J _ j ⟨rfl,a,b,rfl,O,L,T,k⟩
   rw[t];by_cases g:a>=b
   .rw[Bg g];exact Bv ⟨rfl,a,by rw[show b=G by lia]⟩
   .rw[Bd g]
    have v:a<=a+(b-a)/2/\a+(b-a)/2<b:=by lia
    generalize a+(b-a)/2=m at v;refine Bc (B bA ?_)
    by_cases z:m<G
    .simp only[z,Km,Eb]
     exact Bv ⟨rfl,_,_,rfl,by lia,L,T,by lia⟩
    .simp only[z,Ks,Bx,Dx]
     exact Bv ⟨rfl,_,_,rfl,O,by lia,by lia,by lia⟩
  .rintro c J ⟨rfl,a,b,rfl,O,L,T,k⟩
   exact⟨rfl,a,by rw[show b=G by lia]⟩
 refine Bc (B hh ?_);dsimp only;by_cases H:Y<G
 .simp only[H,Km,Eb]
  refine Bc (Ia (Fv (I:=λx c J=>J=st/\∃ a b,c=(none,a,b)/\Y+a<G/\a<b/\x<b)
   (Q:=λc J=>J=st/\∃ a b,c=(none,a,b)/\Y+a<G/\G<=Y+min b (n-Y)) ?_ ?_ ⟨rfl,0,1,rfl,H,by lia,by lia⟩) ?_)
  .rintro x c J _ j ⟨rfl,a,b,rfl,O,L,T⟩
   dsimp only;by_cases g:b>=n-Y
   .rw[Bg g];exact Bv ⟨rfl,a,b,rfl,O,by lia⟩
   .rw[Bd g]
    refine Bc (B bA ?_)
    by_cases z:Y+b<G
    .simp only[z,Km,Li,Bx,Dx]
     exact Bv ⟨rfl,_,_,rfl,z,by lia,by lia⟩
    .simp only[z,Ks,XV,Eb]
     exact Bv ⟨rfl,a,b,rfl,O,by lia⟩
  .rintro c J ⟨rfl,a,b,rfl,O,L,T⟩
   exact⟨rfl,a,b,rfl,O,by lia⟩
  .rintro c J ⟨rfl,a,b,rfl,O,L⟩
   dsimp only;refine Bc (Ia (z_ (lo:=Y+a+1) (hi:=Y+min b (n-Y)) bA L bA λ_ _ _=>rfl) ?_)
   rintro c J ⟨rfl,a',rfl⟩;exact Bv h
 .simp only[H,Ks,Bx,Dx]
  refine Bc (Ia (Fv (I:=λx c J=>J=st/\∃ a b,c=(none,a,b)/\G+a<=Y/\a<b/\x<b)
   (Q:=λc J=>J=st/\∃ a b,c=(none,a,b)/\G+a<=Y/\Y+1<=G+min b (Y+1)) ?_ ?_ ⟨rfl,0,1,rfl,by lia,by lia,by lia⟩) ?_)
  .rintro x c J _ j ⟨rfl,a,b,rfl,O,L,T⟩
   dsimp only;by_cases g:b>=Y+1
   .rw[Bg g];exact Bv ⟨rfl,a,b,rfl,O,by lia⟩
   .rw[Bd g]
    refine Bc (B bA ?_)
    by_cases z:Y-b<G
    .simp only[z,Km,Eb]
     exact Bv ⟨rfl,a,b,rfl,O,by lia⟩
    .simp only[z,Ks,Bx,Dx]
     exact Bv ⟨rfl,_,_,rfl,by lia,by lia,by lia⟩
  .rintro c J ⟨rfl,a,b,rfl,O,L,T⟩
   exact⟨rfl,a,b,rfl,O,by lia⟩
  .rintro c J ⟨rfl,a,b,rfl,O,L⟩
   dsimp only;refine Bc (Ia (z_ (lo:=Y+1-min b (Y+1)) (hi:=Y-a) bA bA bA λ_ _ _=>rfl) ?_)
   rintro c J ⟨rfl,a',rfl⟩;exact Bv h
end
def Le (r:Bm->An)(x y:Bm):Prop:=r x<=r y
structure Mg (r:Bm->An)(o A B T:Aa Bm):Prop where
 p1:(o++A).Pairwise (Le r)
 p2:(o++B).Pairwise (Le r)
 pm:(o++A++B).Perm T
structure Mh (r:Bm->An)(A B o T:Aa Bm):Prop where
 p1:(A++o).Pairwise (Le r)
 p2:(B++o).Pairwise (Le r)
 pm:(A++B++o).Perm T
section
variable {r:Bm->An}{o A B A1 A2 B1 B2 T:Aa Bm}
def Mg.b (h:Mg r o A (B1++B2) T)(l:∀ x∈B1,∀ y∈A,Le r x y):Mg r (o++B1) A B2 T:=by
 obtain⟨Y,Q,U⟩:=h;refine⟨?_,by rw[Cd];exact Q,?_⟩
 .rw[Cd]
  rw[Dh] at Y Q ⊢;refine⟨Y.1,?_,λx J y hy=>?_⟩
  .rw[Dh]
   exact⟨(Dh.mp Q.2.1).1,Y.2.1,l⟩
  .rcases Bq.mp hy with hy|hy
   .exact Q.2.2 x J y (Dg _ hy)
   .exact Y.2.2 x J y hy
 .refine Rg ?_ U
  simp only[Cd];refine Im _ ?_;simp only[<- Cd];exact Lj _ Mb
def Mg.a (h:Mg r o (A1++A2) B T)(l:∀ x∈A1,∀ y∈B,Le r x y):Mg r (o++A1) A2 B T:=by
 obtain⟨Y,Q,U⟩:=h;refine⟨by rw[Cd];exact Y,?_,by simpa only [Cd] using U⟩
 rw[Cd];rw[Dh] at Y Q ⊢;refine⟨Q.1,?_,λx J y hy=>?_⟩
 .rw[Dh]
  exact⟨(Dh.mp Y.2.1).1,Q.2.1,l⟩
 .rcases Bq.mp hy with hy|hy
  .exact Y.2.2 x J y (Dg _ hy)
  .exact Q.2.2 x J y hy
def Mh.a (h:Mh r (A1++A2) B o T)(l:∀ x∈B,∀ y∈A2,Le r x y):Mh r A1 B (A2++o) T:=by
 obtain⟨Q,Y,U⟩:=h;refine⟨by rw[<- Cd];exact Q,?_,?_⟩
 .rw[Cd] at Q
  rw[Dh] at Q Y ⊢;refine⟨Y.1,Q.2.1,λx J y hy=>?_⟩;rcases Bq.mp hy with hy|hy
  .exact l x J y hy
  .exact Y.2.2 x J y hy
 .refine Rg ?_ U
  simp only[Cd];refine Im _ ?_;simp only[<- Cd];exact Lj _ Mb
def Mh.b (h:Mh r A (B1++B2) o T)(l:∀ x∈A,∀ y∈B2,Le r x y):Mh r A B1 (B2++o) T:=by
 obtain⟨Y,Q,U⟩:=h;refine⟨?_,by rw[<- Cd];exact Q,by simpa only [Cd] using U⟩
 rw[Cd] at Q;rw[Dh] at Y Q ⊢;refine⟨Y.1,Q.2.1,λx J y hy=>?_⟩;rcases Bq.mp hy with hy|hy
 .exact l x J y hy
 .exact Y.2.2 x J y hy
end
structure Mo (r:Bm->An)(T:Aa Bm)(m:Az Bm):Prop where
 pm:m.toList.Perm T
 up:m.toList.Pairwise (Le r)
abbrev aQ (st:Fq)(g:Ah):Fq:=Df (kindOf st) (arrOf st) (pendingOf st) g (failedOf st)
def lL {a:Az Bm}{i:Ah}(h:i<a.size):a.toList.drop i=a.getD i nv::a.toList.drop (i+1):=by
 rw[Ha (by simpa using h)]
 congr 1
 simp[Hc,h]
def zS {a:Az Bm}{i:Ah}(h:i<a.size):a.getD i nv∈a.toList:=by
 have e:a.getD i nv=a[i]:=by simp[Hc,h]
 rw[e];exact Array.getElem_mem_toList h
def yD {r:Bm->An}{a:Az Bm}(s:a.toList.Pairwise (Le r)){i j:Ah}(h:i<=j)(Q:j<a.size):r (a.getD i nv)<=r (a.getD j nv):=by
 rcases Js i j with l|l
 .have e:=Jx.mp s i j (by simpa using Ie l Q) (by simpa using Q) l
  have Y:i<a.size:=Ie l Q;simpa [Hc,Y,Q,Le] using e
 .rw[Wt h l];exact Qg _
def gY {a:Az Bm}{x:Bm}(h:x∈a.toList.drop i):∃ j,i<=j/\j<a.size/\x=a.getD j nv:=by
 obtain⟨k,Q,e⟩:=Ct.mp h;rw[Tx] at e;have Y:k<a.size-i:=by simpa using Q
 refine⟨i+k,by lia,by lia,?_⟩
 have:i+k<a.size:=by lia
 simp[Hc,this,<- e]
def gZ {a:Az Bm}{x:Bm}(h:x∈a.toList.take n):∃ j,j<n/\j<a.size/\x=a.getD j nv:=by
 obtain⟨k,Y,e⟩:=Ct.mp h;rw[Tw] at e;have Q:k<n/\k<a.size:=by rw[Gh,Bu] at Y;lia
 refine⟨k,Q.1,Q.2,?_⟩;simp[Hc,Q.2,<- e]
def mL {a:Az Bm}{i k:Ah}:(a.extract i (i+k)).toList++a.toList.drop (i+k)=a.toList.drop i:=by
 rw[Kb,Io,Gq,<- List.drop_drop];exact Qh _ _
def bR {a:Az Bm}:(a.extract i a.size).toList=a.toList.drop i:=by
 rw[Kb,Io];exact Ll bB
def kX {a:Az Bm}{i k:Ah}{x:Bm}(h:x∈(a.extract i (i+k)).toList):∃ j,i<=j/\j<i+k/\j<a.size/\x=a.getD j nv:=by
 rw[Kb,Io,Gq] at h;obtain⟨m,Y,e⟩:=Ct.mp h;rw[Tw,Tx] at e;have Q:m<k/\i+m<a.size:=by rw[Gh,Gs,Bu] at Y;lia
 refine⟨i+m,by lia,by lia,Q.2,?_⟩
 simp[Hc,Q.2,<- e]
def GL (r:Bm->An)(a b o:Az Bm)(i j:Ah):Prop:=Mg r o.toList (a.toList.drop i) (b.toList.drop j) (a.toList++b.toList)
section
variable {r:Bm->An}{a b o:Az Bm}{i j k:Ah}
def GL.pb (J:a.toList.Pairwise (Le r))(h:GL r a b o i j)(G:j<b.size)(l:i<a.size->r (b.getD j nv)<=r (a.getD i nv)):GL r a b (o.push (b.getD j nv)) i (j+1):=by
 have Y:Mg r o.toList (a.toList.drop i) ([b.getD j nv]++b.toList.drop (j+1)) (a.toList++b.toList):=by rw[Xi,<- lL G];exact h
 have:=Y.b λx N y Q=>by
  cases Cw.mp N;obtain⟨m,O,U,rfl⟩:=gY Q;exact Gi (l bA) (yD J O U)
 unfold GL;rw[Ff];exact this
def GL.pa (G:b.toList.Pairwise (Le r))(h:GL r a b o i j)(hi:i<a.size)(l:j<b.size->r (a.getD i nv)<=r (b.getD j nv)):GL r a b (o.push (a.getD i nv)) (i+1) j:=by
 have Y:Mg r o.toList ([a.getD i nv]++a.toList.drop (i+1)) (b.toList.drop j) (a.toList++b.toList):=by rw[Xi,<- lL hi];exact h
 have:=Y.a λx U y Q=>by
  cases Cw.mp U;obtain⟨m,N,J,rfl⟩:=gY Q;exact Gi (l bA) (yD G N J)
 unfold GL;rw[Ff];exact this
def GL.ea (N:b.toList.Pairwise (Le r))(h:GL r a b o i j)(L:j<b.size)(l:∀ m,m<k->r (a.getD (i+m) nv)<=r (b.getD j nv)):GL r a b (o++a.extract i (i+k)) (i+k) j:=by
 have J:Mg r o.toList ((a.extract i (i+k)).toList++a.toList.drop (i+k)) (b.toList.drop j) (a.toList++b.toList):=by rw[mL];exact h
 have:=J.a λx U y Q=>by
  obtain⟨m,T,C,O,rfl⟩:=kX U;obtain⟨B,Y,G,rfl⟩:=gY Q;have:=l (m-i) bA
  rw[show i+(m-i)=m by lia] at this
  exact Gi this (yD N Y G)
 unfold GL;rw[Dw];exact this
def GL.eb (U:a.toList.Pairwise (Le r))(h:GL r a b o i j)(hi:i<a.size)(l:∀ m,m<k->r (b.getD (j+m) nv)<=r (a.getD i nv)):GL r a b (o++b.extract j (j+k)) i (j+k):=by
 have J:Mg r o.toList (a.toList.drop i) ((b.extract j (j+k)).toList++b.toList.drop (j+k)) (a.toList++b.toList):=by rw[mL];exact h
 have:=J.b λx N y Q=>by
  obtain⟨m,L,C,O,rfl⟩:=kX N;obtain⟨B,Y,G,rfl⟩:=gY Q;have:=l (m-j) bA
  rw[show j+(m-j)=m by lia] at this
  exact Gi this (yD U Y G)
 unfold GL;rw[Dw];exact this
def GL.fin (h:GL r a b o i j)(e:i=a.size\/j=b.size):Mo r (a.toList++b.toList) (o++a.extract i a.size++b.extract j b.size):=by
 refine⟨?_,?_⟩ <;> rw[Dw,Dw,bR,bR]
 .exact h.pm
 .rcases e with rfl|rfl
  .rw[Pq bB,Fk];exact h.p2
  .rw[Pq (l:=b.toList) bB,Fk];exact h.p1
def GL.last (h:GL r a b o i j)(e:i+1=a.size)(l:∀ x∈b.toList,Le r x (a.getD (a.size-1) nv)):Mo r (a.toList++b.toList) (o++b.extract j b.size++a.extract i a.size):=by
 have J:i<a.size:=by lia
 have U:a.toList.drop i=[a.getD i nv]:=by rw[lL J,Pq (by simp;lia)]
 refine⟨?_,?_⟩ <;> rw[Dw,Dw,bR,bR]
 .refine Rg ?_ h.pm
  rw[Cd,Cd];exact Im _ Mb
 .have Q:=h.p1
  rw[U] at Q ⊢;rw[Dh] at Q ⊢;refine⟨h.p2,Vr _ _,λx hx y Y=>?_⟩;rcases Bq.mp hx with hx|hx
  .exact Q.2.2 x hx y Y
  .cases Cw.mp Y
   have:=l x (Qu hx);rw[show a.size-1=i by lia] at this
   exact this
end
theorem h8 {p:Ah->Au}:∀ (n:Ah),(∀ i j,i<=j->j<n->p j=true->p i=true)->∃ c,c<=n/\∀ i,i<n->p i=decide (i<c)
 |0,_=>⟨0,Ax _,λi h=>by lia⟩
 |n+1,h=>by
  obtain⟨c,Y,e⟩:=h8 n λi j a b=>h i j a bA
  by_cases q:p n=true
  .refine⟨n+1,Ax _,λi Q=>?_⟩
   rw[h i n bA bA q]
   simp[Q]
  .refine⟨c,by lia,λi Q=>?_⟩
   rcases Js i n with l|l
   .exact e i l
   .have:i=n:=by lia
    subst this;have:¬ i<c:=by lia
    simp[this,q]
section
variable {M:Lb}{A:Bp}{E:ae}{s:Ag}{κ: Nw}{U:Bm->Prop}{r:Bm->An}
def qQ {σ α:Type}{c:Prop}[Ih c]{x y:Mw σ Kj α}{Q:α->σ->Prop}{st:σ}(h1:c->wpS M A E s x Q st)(h2:¬ c->wpS M A E s y Q st):wpS M A E s (if c then x else y) Q st:=by
 by_cases h:c
 .rw[Bg h];exact h1 h
 .rw[Bd h];exact h2 h
def JM (C:Cm M A s κ U r){Y:Bm}{arr:Az Bm}{base n J:Ah}{Q:Ak Ah->Fq->Prop}{st:Fq}(I:kindOf st=κ)(w:J<n)(T:base+n<=arr.size)(B:∀ i,i<n->U (arr.getD (base+i) nv))(N:U Y)
  (H:∀ i j,i<=j->j<n->r (arr.getD (base+i) nv)<=r (arr.getD (base+j) nv)) (h:∀ c,c<=n->(∀ i,i<c->r (arr.getD (base+i) nv)<=r Y)->(∀ i,c<=i->i<n->r Y<r (arr.getD (base+i) nv))->Q (Ab c) st):wpS M A E s (lT false Y arr base n J) Q st:=by
 obtain⟨c,O,e⟩:=h8 (p:=λi=>!decide (r Y<r (arr.getD (base+i) nv))) n λi j a b q=>by
  have:=H i j a b;simp only[Lv,Kt] at q ⊢
  lia
 refine lA C I w T B N O (λi G=>by simpa using e i G) (h c O (λi G=>?_) λi G L=>?_)
 .have:=e i bA
  simp only[G,Km,Lv,Kt] at this
  lia
 .have:=e i L
  simp only[show ¬ i<c by lia,Ks,Bool.not_eq_false',Cc] at this
  exact this
def JN (C:Cm M A s κ U r){Y:Bm}{arr:Az Bm}{base n J:Ah}{Q:Ak Ah->Fq->Prop}{st:Fq}(I:kindOf st=κ)(w:J<n)(T:base+n<=arr.size)(B:∀ i,i<n->U (arr.getD (base+i) nv))(N:U Y)
  (H:∀ i j,i<=j->j<n->r (arr.getD (base+i) nv)<=r (arr.getD (base+j) nv)) (h:∀ c,c<=n->(∀ i,i<c->r (arr.getD (base+i) nv)<r Y)->(∀ i,c<=i->i<n->r Y<=r (arr.getD (base+i) nv))->Q (Ab c) st):wpS M A E s (lT true Y arr base n J) Q st:=by
 obtain⟨c,O,e⟩:=h8 (p:=λi=>decide (r (arr.getD (base+i) nv)<r Y)) n λi j a b q=>by
  have:=H i j a b;simp only[Cc] at q ⊢
  lia
 refine lA C I w T B N O (λi G=>by simpa using e i G) (h c O (λi G=>?_) λi G L=>?_)
 .have:=e i bA
  simp only[G,Km,Cc] at this;exact this
 .have:=e i L
  simp only[show ¬ i<c by lia,Ks,Kt] at this
  lia
end
section
variable {M:Lb}{A:Bp}{E:ae}{s:Ag}{σ α γ δ:Type}{Q:α->σ->Prop}{st:σ}{c c' c2:Prop}[Ih c][Ih c'][Ih c2]
def QX {K:γ->Mw σ Kj α}(h:∀ z,wpS M A E s (K z) Q st):wpS M A E s (if c then K x else K y) Q st:=qQ (λ_=>h x) λ_=>h y
def U8 {K:γ->δ->Mw σ Kj α}(P:γ->δ->Prop)(hK:∀ z w,P z w->wpS M A E s (K z w) Q st)(h1:c->c'->wpS M A E s u Q st)(h2:c->¬ c'->P x w)(h3:¬ c->P y v):wpS M A E s (if c then (if c' then u else K x w) else K y v) Q st:=qQ (λe=>qQ (h1 e) λY=>hK _ _ (h2 e Y)) λe=>hK _ _ (h3 e)
def U9 {K:γ->δ->Mw σ Kj α}(P:γ->δ->Prop)(hK:∀ z w,P z w->wpS M A E s (K z w) Q st)(h1:c->c'->wpS M A E s u Q st)(h1':c->¬ c'->c2->wpS M A E s Y Q st)(h2:c->¬ c'->¬ c2->P x w)(h3:¬ c->P y v):wpS M A E s (if c then (if c' then u else if c2 then Y else K x w) else K y v) Q st:=qQ (λe=>qQ (h1 e) λJ=>qQ (h1' e J) λU=>hK _ _ (h2 e J U)) λe=>hK _ _ (h3 e)
end
inductive MI {ρ γ:Type}(f:Az Bm->Ah->Ah->ρ->γ)(P:Az Bm->Ah->Ah->Prop)(st:Fq)(c:Ak (Az Bm) × γ)(st':Fq):Prop
 |mk (g:Ah) (o:Az Bm) (i j:Ah) (q:ρ) (hs:st'=aQ st g) (hc:c=(none,f o i j q)) (h:P o i j):MI f P st c st'
inductive MQ {ρ γ:Type}(f:Az Bm->Ah->Ah->ρ->γ)(F:Az Bm->Prop)(P:Az Bm->Ah->Ah->Prop)(st:Fq)(c:Ak (Az Bm) × γ)(st':Fq):Prop
 |fin (g:Ah) (m:Az Bm) (hs:st'=aQ st g) (hc:c.1=Ab m) (hm:F m):MQ f F P st c st'
 |on (g:Ah) (o:Az Bm) (i j:Ah) (q:ρ) (hs:st'=aQ st g) (hc:c=(none,f o i j q)) (h:P o i j):MQ f F P st c st'
structure ML (r:Bm->An)(a b:Az Bm)(Z:Ah->Ah->Prop)(o:Az Bm)(i j:Ah):Prop where
 G:GL r a b o i j
 hi:i+1<a.size
 hj:j<b.size
 z:Z i j
section
variable {prog:Bi}{w:Bz}{A:Bp}{E:ae}{s:Ag}{κ: Nw}{U:Bm->Prop}{r:Bm->An}
def iP (C:Cm (Av prog w) A s κ U r){a b:Az Bm}{Q:Az Bm->Fq->Prop}{st:Fq}(hk:kindOf st=κ)(ua:∀ x∈a.toList,U x)(ub:∀ x∈b.toList,U x)(sa:a.toList.Pairwise (Le r))(sb:b.toList.Pairwise (Le r))
  (h:∀ m g,Mo r (a.toList++b.toList) m->Q m (aQ st g)) (ha:0<a.size) (hb:0<b.size) (h0:r (b.getD 0 nv)<=r (a.getD 0 nv)) (h1:∀ x∈b.toList,Le r x (a.getD (a.size-1) nv)):wpS (Av prog w) A E s (KJ a b) Q st:=by
 have G0:GL r a b #[] 0 0:=⟨by simpa using sa,by simpa using sb,by simp⟩
 have G1:=G0.pb sa hb λ_=>h0;refine Bc (Te (Ho ⟨rfl,?_⟩));refine Bc (zF hb ?_);dsimp only;refine qQ (λe=>Bv (h _ (Wu st) (G1.fin (.inr (by simpa using e))))) λe1=>?_
 refine qQ (λe=>Bv (h _ (Wu st) (G1.last (by simpa using e) h1))) λe2=>?_
 have e1:1<b.size:=by
  have:¬ 1=b.size:=by simpa using e1
  lia
 have e2:0+1<a.size:=by
  have:¬ 0+1=a.size:=by simpa using e2
  lia
 refine Bc (Os ?_);refine Bc (Ia (Fv (I:=λx=>MI (λo i j q=>(o,i,j,q)) (ML r a b λi j=>x<i+j) st)
  (Q:=MQ (λo i j q=>(o,i,j,q)) (Mo r (a.toList++b.toList)) (λ_ _ _=>Ex) st) ?_ ?_ ⟨Wu st,_,0,1,_,rfl,rfl,G1,e2,e1,by lia⟩) ?_)
 .rintro x c B _ hx ⟨g,o,i,j,mg,rfl,rfl,G,N,Y,hp⟩
  dsimp only;refine Bc (Ia (Fv (I:=λy=>MI (λo i j q=>(o,i,j,q)) (ML r a b λJ O=>i+j+y<=J+O) st)
   (Q:=MQ (λo i j q=>(o,i,j,q)) (Mo r (a.toList++b.toList)) (ML r a b λJ O=>x+1<J+O) st) ?_ ?_ ⟨g,o,i,j,(0,0),rfl,rfl,G,N,Y,by lia⟩) ?_)
  .rintro y c B _ hy ⟨g,o,J,O,⟨p,q⟩,rfl,rfl,G,N,Y,M⟩
   dsimp only;refine Bc (zF Y (Bc (zF (i:=J) bA (Bc (C.lt (ub _ (zS Y)) (ua _ (zS (i:=J) bA)) hk ?_)))))
   dsimp only;refine qQ (λl=>?_) λl=>?_
   .have l:r (b.getD O nv)<r (a.getD J nv):=by simpa using l
    have G2:=G.pb sa Y λ_=>Hq l;refine Bc (zF Y ?_);refine qQ (λe=>?_) λe=>?_
    .exact Bv (.fin _ _ rfl rfl (G2.fin (.inr (by simpa using e))))
    .have e:¬ O+1=b.size:=by simpa using e
     refine qQ (λ_=>?_) λ_=>?_
     .exact Bv (.on _ _ _ _ (_,_) rfl rfl ⟨G2,N,by lia,by lia⟩)
     .exact Bv ⟨_,_,_,_,(_,_),rfl,rfl,G2,N,by lia,by lia⟩
   .have l:¬ r (b.getD O nv)<r (a.getD J nv):=by simpa using l
    have G2:=G.pa sb bA λ_=>AbK.mp l
    refine Bc (zF (i:=J) bA ?_)
    refine qQ (λe=>?_) λe=>?_
    .exact Bv (.fin _ _ rfl rfl (G2.last (by simpa using e) h1))
    .have e:¬ J+1+1=a.size:=by simpa using e
     refine qQ (λ_=>?_) λ_=>?_
     .exact Bv (.on _ _ _ _ (_,_) rfl rfl ⟨G2,by lia,Y,by lia⟩)
     .exact Bv ⟨_,_,_,_,(_,_),rfl,rfl,G2,by lia,Y,by lia⟩
  .rintro c B ⟨g,o,J,O,q,rfl,rfl,G,N,Y,M⟩
   exact .on g _ _ _ _ rfl rfl ⟨G,N,Y,by lia⟩
  .rintro c B (⟨g,m,rfl,f,hm⟩|⟨g,o,J,O,⟨p,q⟩,rfl,rfl,G,N,Y,M⟩)
   .obtain⟨c0,c1⟩:=c
    cases f;exact Bv (.fin _ m rfl rfl hm)
   dsimp only;refine Bc (Te (Ho ⟨rfl,?_⟩));refine Bc (Ia (Fv (I:=λy=>MI (λo i j q=>(o,i,j,q)) (ML r a b λJ O=>x+1<J+O) st)
    (Q:=MQ (λo i j q=>(o,i,j,q)) (Mo r (a.toList++b.toList)) (ML r a b λJ O=>x+1<J+O) st) ?_ ?_ ⟨g,o,J,O,(_,_,_),rfl,rfl,G,N,Y,M⟩) ?_)
   .rintro y c B _ hy ⟨g,o,i,j,⟨p,q,t⟩,rfl,rfl,G,N,Y,M⟩
    dsimp only;generalize p-1=p1;apply QX (x:=p1) (y:=p);intro mg;have u:i<a.size:=Ub N;refine Bc (Jt ?_);refine Bc (zF Y ?_);refine Bc (JM C hk (Uc u) (wT (Zj (Eo u))) (λJ zs=>ua _ (zS (Mc zs))) (ub _ (zS Y)) (λJ O h1 h2=>yD sa (Jh h1 _) (Mc h2)) λk k1 k2 k3=>?_);dsimp only;have G2:=G.ea sb Y k2;have k4:i+k<=a.size:=Xj (Eo u) k1;have k5:i+k<a.size->r (b.getD j nv)<r (a.getD (i+k) nv):=λh=>k3 k (Ax _) (Yk (by rw[Vi];exact h))
    have k6:x+1<i+k+j:=Bh M (Yl (Mv _ _) _);have k7:k=0->i=i+k:=λh=>by rw[h];rfl
    generalize i+k=i1 at G2 k4 k5 k6 k7 ⊢;generalize o++a.extract i i1=o1 at G2 ⊢;apply U9 (x:=o1) (w:=i1) (y:=o) (v:=i) (P:=λL T=>GL r a b L T j/\T+1<a.size/\x+1<T+j/\r (b.getD j nv)<r (a.getD T nv))
    case h1=>exact λ_ e=>Bv (.fin _ _ rfl rfl (G2.last (by simpa using e) h1))
    case h1'=>exact λ_ _ e=>Bv (.fin _ _ rfl rfl (G2.fin (.inl (by simpa using e))))
    case h2 =>
     intro _ e3 e4;have e3:¬ i1+1=a.size:=by simpa using e3
     have e4:¬ i1=a.size:=by simpa using e4
     have e5:i1<a.size:=Iq k4 e4;exact⟨G2,Iq e5 e3,k6,k5 e5⟩
    case h3 =>
     intro e;have e:=k7 (Lm e);exact⟨G,N,M,by rw[e];exact k5 (by rw[<- e];exact u)⟩
    case hK =>
     rintro L T ⟨G2,hl,M,f⟩;have H:T<a.size:=Ub hl;refine Bc (zF Y ?_);have G3:=G2.pb sa Y λ_=>Hq f;refine qQ (λe=>Bv (.fin _ _ rfl rfl (G3.fin (.inr (by simpa using e))))) λe5=>?_
     have e5:¬ j+1=b.size:=by simpa using e5
     have d:j+1<b.size:=Iq Y e5;refine Bc (zF H ?_);refine Bc (JN C hk (Uc d) (wT (Zj Y)) (λi N=>ub _ (zS (Mc N))) (ua _ (zS H)) (λi j h1 h2=>yD sb (Jh h1 _) (Mc h2)) λm m1 m2 m3=>?_);dsimp only;have G4:=G3.eb sa H λi N=>Hq (m2 i N);have m4:j+1+m<=b.size:=Xj Y m1;have m5:j+1+m<b.size->r (a.getD T nv)<=r (b.getD (j+1+m) nv):=λh=>m3 m (Ax _) (Yk (by rw[Vi];exact h))
     have m6:j+1<=j+1+m:=Mv _ _;have m7:m=0->j+1=j+1+m:=λh=>by rw[h]
     generalize j+1+m=j1 at G4 m4 m5 m6 m7 ⊢;generalize L.push (b.getD j nv)++b.extract (j+1) j1=o2 at G4 ⊢;apply U8 (x:=o2) (w:=j1) (y:=L.push (b.getD j nv)) (v:=j+1) (P:=λL ib=>GL r a b L T ib/\ib<b.size/\j+1<=ib/\r (a.getD T nv)<=r (b.getD ib nv))
     case h1=>exact λ_ e=>Bv (.fin _ _ rfl rfl (G4.fin (.inr (by simpa using e))))
     case h2 =>
      intro _ e6;have e6:¬ j1=b.size:=by simpa using e6
      have e7:=Iq m4 e6;exact⟨G4,e7,m6,m5 e7⟩
     case h3 =>
      intro e;have e:=m7 (Lm e);exact⟨G3,d,Ax _,by rw[e];exact m5 (by rw[<- e];exact d)⟩
     case hK =>
      rintro L ib ⟨G4,zb,zc,zl⟩;refine Bc (zF H ?_);have G5:=G4.pa sb H λ_=>zl;refine qQ (λe=>Bv (.fin _ _ rfl rfl (G5.last (by simpa using e) h1))) λe7=>?_
      have e7:¬ T+1+1=a.size:=by simpa using e7
      have e8:T+1+1<a.size:=Iq hl e7;have e9:x+1<T+1+ib:=Bh M (AbO (Ss _) (Nat.le_of_succ_le zc));exact qQ (λ_=>Bv (.on _ _ _ _ (_,_,_) rfl rfl ⟨G5,e8,zb,e9⟩)) λ_=>Bv ⟨_,_,_,_,(_,_,_),rfl,rfl,G5,e8,zb,e9⟩
   .rintro c B ⟨g,o,J,O,q,rfl,rfl,G,N,Y,M⟩
    exact .on g _ _ _ _ rfl rfl ⟨G,N,Y,by lia⟩
   .rintro c B (⟨g,m,rfl,f,hm⟩|⟨g,o,J,O,⟨p,q,t⟩,rfl,rfl,G,N,Y,M⟩)
    .obtain⟨c0,c1⟩:=c
     cases f;exact Bv (.fin _ m rfl rfl hm)
    dsimp only;refine Bc (Jt ?_);exact Bv ⟨_,_,_,_,_,rfl,rfl,G,N,Y,by lia⟩
 .rintro c B ⟨g,o,J,O,p,rfl,rfl,G,N,Y,M⟩
  exfalso
  lia
 .rintro c B (⟨g,m,rfl,f,hm⟩|⟨_,_,_,_,_,_,_,z⟩);rotate_left;exact z.elim
  obtain⟨c0,c1⟩:=c;cases f;exact Bv (h m g hm)
end
def dP {a:Az Bm}(h:0<n)(Y:n<=a.size):a.toList.take n=a.toList.take (n-1)++[a.getD (n-1) nv]:=by
 obtain⟨m,rfl⟩:∃ m,n=m+1:=⟨n-1,by lia⟩
 rw[Ir,List.take_add_one];have Q:m<a.size:=by lia
 simp[Hc,Q]
def cA {a:Az Bm}{i:Ah}(h:i<=n):a.toList.take i++(a.extract i n).toList=a.toList.take n:=by
 rw[Kb,Io]
 conv=>rhs;rw[show n=i+(n-i) by lia,List.take_add]
def gQ {a:Az Bm}:(a.extract 0 n).toList=a.toList.take n:=by
 rw[Kb,Io];simp
def cR {a:Az Bm}{i:Ah}{x:Bm}(Q:i<=n)(h:x∈(a.extract i n).toList):∃ j,i<=j/\j<n/\j<a.size/\x=a.getD j nv:=by
 obtain⟨k,rfl⟩:∃ k,n=i+k:=⟨n-i,by lia⟩
 exact kX h
def GH (r:Bm->An)(a b o:Az Bm)(i j:Ah):Prop:=Mh r (a.toList.take i) (b.toList.take j) o.toList.reverse (a.toList++b.toList)
section
variable {r:Bm->An}{a b o:Az Bm}{i j k:Ah}
def GH.pa (U:b.toList.Pairwise (Le r))(h:GH r a b o i j)(h1:0<i)(h2:i<=a.size)(N:j<=b.size)(l:0<j->r (b.getD (j-1) nv)<=r (a.getD (i-1) nv)):GH r a b (o.push (a.getD (i-1) nv)) (i-1) j:=by
 have J:Mh r (a.toList.take (i-1)++[a.getD (i-1) nv]) (b.toList.take j) o.toList.reverse (a.toList++b.toList):=by rw[<- dP h1 h2];exact h
 have:=J.a λx Y y Q=>by
  cases Cw.mp Q;obtain⟨m,G,O,rfl⟩:=gZ Y;exact Gi (yD U bA bA) (l bA)
 unfold GH;rw[Ff,Nj];exact this
def GH.pb (Y:a.toList.Pairwise (Le r))(h:GH r a b o i j)(h1:0<j)(h2:j<=b.size)(hi:i<=a.size)(l:0<i->r (a.getD (i-1) nv)<=r (b.getD (j-1) nv)):GH r a b (o.push (b.getD (j-1) nv)) i (j-1):=by
 have U:Mh r (a.toList.take i) (b.toList.take (j-1)++[b.getD (j-1) nv]) o.toList.reverse (a.toList++b.toList):=by rw[<- dP h1 h2];exact h
 have:=U.b λx J y Q=>by
  cases Cw.mp Q;obtain⟨m,G,N,rfl⟩:=gZ J;exact Gi (yD Y bA bA) (l bA)
 unfold GH;rw[Ff,Nj];exact this
def GH.ea (C:b.toList.Pairwise (Le r))(h:GH r a b o i j)(Q:k<=i)(T:j<=b.size)(l:0<j->∀ m,k<=m->m<i->m<a.size->r (b.getD (j-1) nv)<=r (a.getD m nv)):GH r a b (o++(a.extract k i).reverse) k j:=by
 have O:Mh r (a.toList.take k++(a.extract k i).toList) (b.toList.take j) o.toList.reverse (a.toList++b.toList):=by rw[cA Q];exact h
 have:=O.a λx N y Y=>by
  obtain⟨m,L,E,rfl⟩:=gZ N;obtain⟨G,B,U,J,rfl⟩:=cR Q Y;exact Gi (yD C bA bA) (l bA G B U J)
 unfold GH;rw[Dw,Mr,Nj,Ym];exact this
def GH.eb (G:a.toList.Pairwise (Le r))(h:GH r a b o i j)(Q:k<=j)(hi:i<=a.size)(l:0<i->∀ m,k<=m->m<j->m<b.size->r (a.getD (i-1) nv)<=r (b.getD m nv)):GH r a b (o++(b.extract k j).reverse) i k:=by
 have C:Mh r (a.toList.take i) (b.toList.take k++(b.extract k j).toList) o.toList.reverse (a.toList++b.toList):=by rw[cA Q];exact h
 have:=C.b λx O y Y=>by
  obtain⟨m,L,T,rfl⟩:=gZ O;obtain⟨N,B,U,J,rfl⟩:=cR Q Y;exact Gi (yD G bA bA) (l bA N B U J)
 unfold GH;rw[Dw,Mr,Nj,Ym];exact this
def GH.fin (h:GH r a b o i j)(e:i=0\/j=0):Mo r (a.toList++b.toList) (a.extract 0 i++b.extract 0 j++o.reverse):=by
 refine⟨?_,?_⟩ <;> rw[Dw,Dw,gQ,gQ,Mr]
 .exact h.pm
 .rcases e with rfl|rfl
  .rw[AbP,Hi];exact h.p2
  .rw[AbP,Fk];exact h.p1
def GH.first (h:GH r a b o i j)(e:j=1)(U:0<b.size)(l:∀ x∈a.toList,Le r (b.getD 0 nv) x):Mo r (a.toList++b.toList) (b.extract 0 j++a.extract 0 i++o.reverse):=by
 subst e;have J:b.toList.take 1=[b.getD 0 nv]:=by rw[dP bA bA];rfl
 refine⟨?_,?_⟩ <;> rw[Dw,Dw,gQ,gQ,Mr]
 .refine Rg ?_ h.pm
  exact Lj _ Mb
 .have Q:=h.p2
  rw[J] at Q ⊢;rw[Cd];rw[Dh] at Q ⊢;refine⟨Q.1,h.p1,λx Y y hy=>?_⟩;rcases Bq.mp hy with hy|hy
  .cases Cw.mp Y
   exact l y (Qv hy)
  .exact Q.2.2 x Y y hy
end
structure MH (r:Bm->An)(a b:Az Bm)(Z:Ah->Ah->Prop)(o:Az Bm)(i j:Ah):Prop where
 G:GH r a b o i j
 hi:0<i
 hi2:i<=a.size
 hj:1<j
 hj2:j<=b.size
 z:Z i j
section
variable {prog:Bi}{w:Bz}{A:Bp}{E:ae}{s:Ag}{κ: Nw}{U:Bm->Prop}{r:Bm->An}
def iO (C:Cm (Av prog w) A s κ U r){a b:Az Bm}{Q:Az Bm->Fq->Prop}{st:Fq}(hk:kindOf st=κ)(ua:∀ x∈a.toList,U x)(ub:∀ x∈b.toList,U x)(sa:a.toList.Pairwise (Le r))(sb:b.toList.Pairwise (Le r))
  (h:∀ m g,Mo r (a.toList++b.toList) m->Q m (aQ st g)) (ha:0<a.size) (hb:0<b.size) (h0:∀ x∈a.toList,Le r (b.getD 0 nv) x) (h1:r (b.getD (b.size-1) nv)<=r (a.getD (a.size-1) nv)):wpS (Av prog w) A E s (KH a b) Q st:=by
 have G0:GH r a b #[] a.size b.size:=by
  unfold GH;rw[Ll bB,Ll bB]
  exact⟨by simpa using sa,by simpa using sb,by simp⟩
 have G1:=G0.pa sb ha (Ax _) (Ax _) λ_=>h1;refine Bc (Te (Ho ⟨rfl,?_⟩));refine Bc (zF (i:=a.size-1) bA ?_)
 dsimp only;refine qQ (λe=>Bv (h _ (Wu st) (G1.fin (.inl (by simpa using e))))) λe1=>?_
 refine qQ (λe=>Bv (h _ (Wu st) (G1.first (by simpa using e) hb h0))) λe2=>?_
 have e1:¬ a.size-1=0:=by simpa using e1
 have e2:¬ b.size=1:=by simpa using e2
 refine Bc (Os ?_);refine Bc (Ia (Fv (I:=λx=>MI (λo i j q=>(i,j,o,q)) (MH r a b λi j=>x+i+j<a.size+b.size) st)
  (Q:=MQ (λo i j q=>(i,j,o,q)) (Mo r (a.toList++b.toList)) (λ_ _ _=>Ex) st) ?_ ?_ ⟨Wu st,_,a.size-1,b.size,_,rfl,rfl,G1,by lia,by lia,by lia,by lia,by lia⟩) ?_)
 .rintro x c L _ hx ⟨g,o,i,j,mg,rfl,rfl,G,B,Y,T,J,hp⟩
  dsimp only;refine Bc (Ia (Fv (I:=λy=>MI (λo i j q=>(i,j,o,q)) (MH r a b λN O=>N+O+y<=i+j) st)
   (Q:=MQ (λo i j q=>(i,j,o,q)) (Mo r (a.toList++b.toList)) (MH r a b λN O=>x+1+N+O<a.size+b.size) st) ?_ ?_ ⟨g,o,i,j,(0,0),rfl,rfl,G,B,Y,T,J,by lia⟩) ?_)
  .rintro y c L _ hy ⟨g,o,N,O,⟨p,q⟩,rfl,rfl,G,B,Y,T,J,d⟩
   dsimp only;refine Bc (zF (i:=O-1) bA (Bc (zF (i:=N-1) bA (Bc (C.lt (ub _ (zS (i:=O-1) bA)) (ua _ (zS (i:=N-1) bA)) hk ?_)))))
   dsimp only;refine qQ (λl=>?_) λl=>?_
   .have l:r (b.getD (O-1) nv)<r (a.getD (N-1) nv):=by simpa using l
    have G2:=G.pa sb B Y J λ_=>Hq l;refine Bc (zF (i:=N-1) bA ?_)
    refine qQ (λe=>Bv (.fin _ _ rfl rfl (G2.fin (.inl (by simpa using e))))) λe=>?_
    have e:¬ N-1=0:=by simpa using e
    exact qQ (λ_=>Bv (.on _ _ _ _ (_,_) rfl rfl ⟨G2,by lia,by lia,T,J,by lia⟩)) λ_=>Bv ⟨_,_,_,_,(_,_),rfl,rfl,G2,by lia,by lia,T,J,by lia⟩
   .have l:¬ r (b.getD (O-1) nv)<r (a.getD (N-1) nv):=by simpa using l
    have G2:=G.pb sa bA J Y λ_=>AbK.mp l
    refine Bc (zF (i:=O-1) bA ?_)
    refine qQ (λe=>Bv (.fin _ _ rfl rfl (G2.first (by simpa using e) hb h0))) λe=>?_
    have e:¬ O-1=1:=by simpa using e
    exact qQ (λ_=>Bv (.on _ _ _ _ (_,_) rfl rfl ⟨G2,B,Y,by lia,by lia,by lia⟩)) λ_=>Bv ⟨_,_,_,_,(_,_),rfl,rfl,G2,B,Y,by lia,by lia,by lia⟩
  .rintro c L ⟨g,o,N,O,q,rfl,rfl,G,B,Y,T,J,d⟩
   exact .on g _ _ _ _ rfl rfl ⟨G,B,Y,T,J,by lia⟩
  .rintro c L (⟨g,m,rfl,hc,hm⟩|⟨g,o,N,O,⟨p,q⟩,rfl,rfl,G,B,Y,T,J,d⟩)
   .obtain⟨c0,c1⟩:=c
    cases hc;exact Bv (.fin _ m rfl rfl hm)
   dsimp only;refine Bc (Te (Ho ⟨rfl,?_⟩));refine Bc (Ia (Fv (I:=λy=>MI (λo i j q=>(i,j,o,q)) (MH r a b λN O=>x+1+N+O<a.size+b.size) st)
    (Q:=MQ (λo i j q=>(i,j,o,q)) (Mo r (a.toList++b.toList)) (MH r a b λN O=>x+1+N+O<a.size+b.size) st) ?_ ?_ ⟨g,o,N,O,(_,_,_),rfl,rfl,G,B,Y,T,J,d⟩) ?_)
   .rintro y c L _ hy ⟨g,o,i,j,⟨p,q,t⟩,rfl,rfl,G,B,Y,T,J,d⟩
    dsimp only;generalize p-1=p1;apply QX (x:=p1) (y:=p);intro mg;refine Bc (Jt ?_);have j0:0<j:=Ub T;have jb:j-1<b.size:=Bh (Nk j0 Md) J;refine Bc (zF jb ?_);refine Bc (JM C hk (Nk B Md) (by rw[Ig];exact Y) (λN zs=>ua _ (zS (by rw[Ig];exact Bh zs Y))) (ub _ (zS jb)) (λN O h1 h2=>yD sa (Jh h1 0) (by rw[Ig];exact Bh h2 Y)) λk k1 k2 k3=>?_)
    simp only[Ig] at k2 k3;dsimp only;have G2:=G.ea sb k1 J λ_ m q1 q2 _=>Hq (k3 m q1 q2);have kc:i-k=0->k=i:=λh=>Wt k1 (Xk h);generalize i-k=ac at kc ⊢;generalize o++(a.extract k i).reverse=o1 at G2 ⊢;apply U8 (x:=k) (w:=o1) (y:=i) (v:=o) (P:=λu H=>GH r a b H u j/\0<u/\u<=a.size/\x+1+u+j<a.size+b.size/\r (a.getD (u-1) nv)<=r (b.getD (j-1) nv))
    case h1=>exact λ_ e=>Bv (.fin _ _ rfl rfl (G2.fin (.inl (by simpa using e))))
    case hK =>
     rintro u H ⟨G2,hl,zb,d,hc⟩;have M:u-1<a.size:=Bh (Nk hl Md) zb;refine Bc (zF jb ?_);have G3:=G2.pb sa j0 J zb λ_=>hc;refine qQ (λe=>Bv (.fin _ _ rfl rfl (G3.first (by simpa using e) hb h0))) λe5=>?_
     have e5:¬ j-1=1:=by simpa using e5
     have j1:0<j-1:=Uc T;refine Bc (zF M ?_);refine Bc (JN C hk (Nk j1 Md) (by rw[Ig];exact Eo jb) (λi B=>ub _ (zS (by rw[Ig];exact Ie B jb))) (ua _ (zS M)) (λi j h1 h2=>yD sb (Jh h1 0) (by rw[Ig];exact Ie h2 jb)) λm m1 m2 m3=>?_)
     simp only[Ig] at m2 m3;dsimp only;have G4:=G3.eb sa m1 zb λ_ m q1 q2 _=>m3 m q1 q2;have mc:j-1-m=0->m=j-1:=λh=>Wt m1 (Xk h);generalize j-1-m=bc at mc ⊢;generalize H.push (b.getD (j-1) nv)++(b.extract m (j-1)).reverse=o2 at G4 ⊢;apply U9 (x:=m) (w:=o2) (y:=j-1) (v:=H.push (b.getD (j-1) nv)) (P:=λnb H=>GH r a b H u nb/\1<nb/\nb<=j-1/\r (b.getD (nb-1) nv)<=r (a.getD (u-1) nv))
     case h1=>exact λ_ e=>Bv (.fin _ _ rfl rfl (G4.first (by simpa using e) hb h0))
     case h1'=>exact λ_ _ e=>Bv (.fin _ _ rfl rfl (G4.fin (.inr (by simpa using e))))
     case hK =>
      rintro nb H ⟨G4,h4,h5,zl⟩;have h6:nb<=b.size:=Cg h5 (Eo jb);have zc:x+1+(u-1)+nb<a.size+b.size:=Kw (AbO (Jh (Nat.sub_le _ _) _) (Cg h5 (Nat.sub_le _ _))) d;refine Bc (zF M ?_);have G5:=G4.pa sb hl zb h6 λ_=>zl;refine qQ (λe=>Bv (.fin _ _ rfl rfl (G5.fin (.inl (by simpa using e))))) λf=>?_
      have f:0<u-1:=Om (by simpa using f)
      exact qQ (λ_=>Bv (.on _ _ _ _ (_,_,_) rfl rfl ⟨G5,f,Eo M,h4,h6,zc⟩)) λ_=>Bv ⟨_,_,_,_,(_,_,_),rfl,rfl,G5,f,Eo M,h4,h6,zc⟩
     case h2 =>
      intro _ e6 f;have e6:¬ m=1:=by simpa using e6
      have f:¬ m=0:=by simpa using f
      exact⟨G4,Iq (Om f) (Gj e6),m1,Hq (m2 (m-1) (Nk (Om f) Md))⟩
     case h3 =>
      intro e;cases mc (Lm e);exact⟨G3,Iq j1 (Gj e5),Ax _,Hq (m2 (j-1-1) (Nk j1 Md))⟩
    case h2 =>
     intro _ e;have e3:0<k:=Om (by simpa using e)
     exact⟨G2,e3,Cg k1 Y,Kw (Yl (Jh k1 _) _) d,k2 (k-1) (Nk e3 Md)⟩
    case h3 =>
     intro e;have e:=kc (Lm e);exact⟨G,B,Y,d,k2 (i-1) (by rw[e];exact Nk B Md)⟩
   .rintro c L ⟨g,o,N,O,q,rfl,rfl,G,B,Y,T,J,d⟩
    exact .on g _ _ _ _ rfl rfl ⟨G,B,Y,T,J,by lia⟩
   .rintro c L (⟨g,m,rfl,hc,hm⟩|⟨g,o,N,O,⟨p,q,t⟩,rfl,rfl,G,B,Y,T,J,d⟩)
    .obtain⟨c0,c1⟩:=c
     cases hc;exact Bv (.fin _ m rfl rfl hm)
    dsimp only;refine Bc (Jt ?_);exact Bv ⟨_,_,_,_,_,rfl,rfl,G,B,Y,T,J,by lia⟩
 .rintro c L ⟨g,o,N,O,p,rfl,rfl,G,B,Y,T,J,d⟩
  exfalso
  lia
 .rintro c L (⟨g,m,rfl,hc,hm⟩|⟨_,_,_,_,_,_,_,z⟩);rotate_left;exact z.elim
  obtain⟨c0,c1⟩:=c;cases hc;exact Bv (h m g hm)
end
theorem XU:∀ (l:Aa Bm) (arr:Az Bm) (o d:Ah),o+d+l.length<=arr.size->∀ k,((l.zipIdx d).foldl (λa p=>a.setIfInBounds (o+p.2) p.1) arr)[k]? = if o+d<=k/\k<o+d+l.length then l[k-(o+d)]? else arr[k]?
 |[],arr,o,d,h,k=>by
  rw[Bd (by simp only[Fc];lia)];rfl
 |x::l,arr,o,d,h,k=>by
  rw[Bs] at h;rw[Vb,Wi,XU l _ o (d+1) (by rw[Array.size_setIfInBounds];lia) k,Bs]
  by_cases Y:k=o+d
  .subst Y
   rw[Bd bA,Bg bA,Vs,Array.getElem?_setIfInBounds_self_of_lt bA]
   rfl
  .by_cases Q:o+(d+1)<=k/\k<o+(d+1)+l.length
   .rw[Bg Q,Bg bA,show k-(o+d)=(k-(o+(d+1)))+1 by lia,Vn]
   .rw[Bd Q,Bd bA,Array.getElem?_setIfInBounds_ne bA]
def wb (arr:Az Bm)(o:Ah)(m:Az Bm):Az Bm:=m.toList.zipIdx.foldl (λa p=>a.setIfInBounds (o+p.2) p.1) arr
def QV {o:Ah}(h:o+m.size<=arr.size)(k:Ah):(wb arr o m).getD k nv=if o<=k/\k<o+m.size then m.getD (k-o) nv else arr.getD k nv:=by
 have e:=XU m.toList arr o 0 (by simpa using h) k
 simp only[Nat.add_zero,Bu,Bo] at e;rw[Fm,Fm,Fm];unfold wb;rw[e]
 split <;> rfl
def XW {o d:Ah}(h:o+m.size<=arr.size)(Q:d<m.size):(wb arr o m).getD (o+d) nv=m.getD d nv:=by
 rw[QV h,Bg ⟨Mv _ _,Nat.add_lt_add_left Q _⟩,Gq]
def jM {o k:Ah}(h:o+m.size<=arr.size)(Q:k<o\/o+m.size<=k):(wb arr o m).getD k nv=arr.getD k nv:=by
 rw[QV h,Bd bA]
def BA {a:Az Bm}{i:Ah}(h:i+n<=a.size):(a.extract i (i+n)).size=n:=by rw[Kz];lia
def LN {o:Ah}(h:o+m.size<=arr.size):(wb arr o m).toList=arr.toList.take o++(m.toList++arr.toList.drop (o+m.size)):=by
 apply Ua;intro k;have e:=XU m.toList arr o 0 (by simpa using h) k
 simp only[Nat.add_zero,Bu,Bo] at e;unfold wb;rw[Bo,e];have Y:(arr.toList.take o).length=o:=by rw[Gh,Bu];lia
 by_cases Q:k<o
 .rw[Bd bA,Bb bA,Ob Q,Bo]
 .rw[Cq bA,Y]
  by_cases J:k<o+m.size
  .rw[Bg bA,Bb (by rw[Bu];lia),Bo]
  .rw[Bd bA,Cq (by rw[Bu];lia),dL,Bu,Bo]
   congr 1
   lia
def LO {o:Ah}(h:o+n<=arr.size)(p:m.toList.Perm (arr.extract o (o+n)).toList):(wb arr o m).toList.Perm arr.toList:=by
 have Q:m.size=n:=by
  have:=p.length_eq;rw[Bu,Bu,Kz] at this
  lia
 rw[LN bA,Q]
 have e:arr.toList=arr.toList.take o++((arr.extract o (o+n)).toList++arr.toList.drop (o+n)):=by rw[mL,Qh]
 conv=>rhs;rw[e]
 exact Im _ (Lj _ p)
def Seg (r:Bm->An)(a:Az Bm)(lo n:Ah):Prop:=∀ i j,lo<=i->i<=j->j<lo+n->r (a.getD i nv)<=r (a.getD j nv)
def QF {r:Bm->An}{a:Az Bm}(h:Seg r a lo n){i k:Ah}(h1:lo<=i)(h2:i+k<=lo+n)(h3:i+k<=a.size):(a.extract i (i+k)).toList.Pairwise (Le r):=by
 rw[Jx];intro x y J Q l;have U:x<k:=by rw[Bu,Kz] at J;lia
 have Y:y<k:=by rw[Bu,Kz] at Q;lia
 have e:=h (i+x) (i+y) bA bA bA
 have G:i+x<a.size:=by lia
 have N:i+y<a.size:=by lia
 simpa [Hc,G,N,Le] using e
def c9 {a:Az Bm}{i k m:Ah}(h:m<k)(h3:i+k<=a.size):(a.extract i (i+k)).getD m nv=a.getD (i+m) nv:=by
 have Q:i+m<a.size:=by lia
 have J:m<(a.extract i (i+k)).size:=by rw[Kz];lia
 have Y:m<min (i+k) a.size-i:=by lia
 simp[Hc,Q,Y]
def JI {a:Az Bm}{i j k:Ah}(h1:i<=j)(h2:j<=k):(a.extract i j).toList++(a.extract j k).toList=(a.extract i k).toList:=by
 rw[<- Dw,Array.extract_append_extract]
 congr 2 <;> lia
section
variable {prog:Bi}{w:Bz}{A:Bp}{E:ae}{s:Ag}{κ: Nw}{U:Bm->Prop}{r:Bm->An}
def LP {σ:Type}{Q:PUnit->σ->Prop}{st Y:σ}(h:Q ⟨⟩ Y):wpS M A E s (set Y:Mw σ Kj PUnit) Q st:=by
 unfold wpS;rw[StateT.run_set];exact Am ⟨rfl,h⟩
def iN (C:Cm (Av prog w) A s κ U r){i Y B pw L pz:Ah}{Q:Au->Fq->Prop}{arr:Az Bm}{pd:Az (Ah × Ah × Ah)}{g:Ah}(ua:∀ x∈arr.toList,U x)(e1:pd[i]? = Ab (Y,B,pw))(e2:pd[i+1]? = Ab (Y+B,L,pz))(p1:0<B)(p2:0<L)(hz:Y+B+L<=arr.size)
  (o:Seg r arr Y B) (l:Seg r arr (Y+B) L)
  (h:∀ N g,N.toList.Perm arr.toList->(∀ k,k<Y\/Y+B+L<=k->N.getD k nv=arr.getD k nv)->Seg r N Y (B+L)->Q true (Df κ N ((pd.setIfInBounds i (Y,B+L,pw)).eraseIdxIfInBounds (i+1)) g none)) :
  wpS (Av prog w) A E s (mergeAt' i) Q (Df κ arr pd g none):=by
 refine Bc (Os ?_);dsimp only;rw[e1,e2];dsimp only;refine Bc (LP ?_);refine Bc (zF (i:=Y+B) bA ?_)
 refine Bc (JM C rfl bA bA (λi hi=>ua _ (zS bA)) (ua _ (zS bA)) (λi j a b=>o _ _ bA bA bA) λk k1 k2 k3=>?_)
 obtain⟨t,rfl⟩:=Fw k1;clear k1 p1 e1 e2;simp only[Gq,<- Nh] at *;refine qQ (λe=>Bv (h arr g (Ml _) (λ_ _=>rfl) λi j a b c=>?_)) λe=>?_
 .have e:t=0:=by simpa using e
  subst e;by_cases q1:j<Y+k
  .exact o i j a b q1
  .by_cases q2:Y+k<=i
   .exact l i j q2 b bA
   .have:=k2 (i-Y) bA
    rw[show Y+(i-Y)=i by lia] at this
    exact Gi this (l _ _ (Ax _) bA bA)
 have e:t≠0:=by simpa using e
 obtain⟨u,rfl⟩:∃ u,t=u+1:=⟨t-1,by lia⟩
 clear e;rw[show Y+k+(u+1)-1=Y+k+u from rfl]
 refine Bc (zF (i:=Y+k+u) bA ?_)
 refine Bc (JN C rfl bA bA (λi hi=>ua _ (zS bA)) (ua _ (zS bA)) (λi j a b=>l _ _ bA bA bA) λm m1 m2 m3=>?_)
 dsimp only;have hk:=k3 k (Ax _) bA
 have hq:=o (Y+k) (Y+k+u) bA bA bA
 refine qQ (λe=>?_) λe=>?_
 .have e:m=0:=by simpa using e
  subst e;exact absurd (Sj hk (Gi hq (m3 0 (Ax _) p2))) (Int.lt_irrefl _)
 have e:m≠0:=by simpa using e
 have zx:=BA (a:=arr) (i:=Y+k) (n:=u+1) bA
 have zy:=BA (a:=arr) (i:=Y+k+(u+1)) (n:=m) bA
 have px:=QF o (i:=Y+k) (k:=u+1) bA bA bA
 have py:=QF l (Ax _) (k:=m) bA bA
 have H:∀ x∈(arr.extract (Y+k) (Y+k+(u+1))).toList,U x/\r (arr.getD (Y+k+(u+1)) nv)<=r x/\r x<=r (arr.getD (Y+k+u) nv):=λx O=>by
  obtain⟨j,q1,q2,q3,rfl⟩:=kX O;exact⟨ua _ (zS q3),Hq (Sj hk (o (Y+k) j bA q1 bA)),o j _ bA bA bA⟩
 have I:∀ x∈(arr.extract (Y+k+(u+1)) (Y+k+(u+1)+m)).toList,U x/\r (arr.getD (Y+k+(u+1)) nv)<=r x/\r x<=r (arr.getD (Y+k+u) nv):=λx O=>by
  obtain⟨j,q1,q2,q3,rfl⟩:=kX O;obtain⟨d,rfl⟩:=Fw q1;exact⟨ua _ (zS q3),l _ _ (Ax _) q1 bA,Hq (m2 d bA)⟩
 have zb:∀ G T,Mo r ((arr.extract (Y+k) (Y+k+(u+1))).toList++(arr.extract (Y+k+(u+1)) (Y+k+(u+1)+m)).toList) G->Q true (Df κ (wb arr (Y+k) G) ((pd.setIfInBounds i (Y,k+(u+1)+L,pw)).eraseIdxIfInBounds (i+1)) T none):=by
  intro G T M;have hm:G.size=u+1+m:=by
   have:=M.pm.length_eq;rw[Bj,Bu,Bu,Bu,zx,zy] at this;exact this
  have J:Y+k+G.size<=arr.size:=by lia
  have bd:∀ d,d<G.size->r (arr.getD (Y+k+(u+1)) nv)<=r (G.getD d nv)/\r (G.getD d nv)<=r (arr.getD (Y+k+u) nv):=λd hd=>(Bq.mp (M.pm.mem_iff.mp (zS hd))).elim (λq=>(H _ q).2) λq=>(I _ q).2;refine h _ T (LO (n:=u+1+m) bA ?_) (λj hj=>jM J bA) λi j a b c=>?_
  .rw[<- Nh (Y+k),<- JI (j:=Y+k+(u+1)) bA bA]
   exact M.pm
  rcases Js i (Y+k) with i1|i1
  .obtain⟨x,rfl⟩:=Fw a
   have v:=k2 x bA
   rw[jM J (.inl i1)];rcases Js j (Y+k) with j1|j1
   .rw[jM J (.inl j1)];exact o _ j a b bA
   obtain⟨y,rfl⟩:=Fw j1;refine Gi v ?_;rcases Js y G.size with j2|j2
   .rw[XW J j2];exact(bd y j2).1
   .rw[jM J (.inr bA)];exact l _ _ (Ax _) bA bA
  obtain⟨x,rfl⟩:=Fw i1;obtain⟨y,rfl⟩:=Fw (Cg i1 b);rcases Js x G.size with i2|i2
  .rw[XW J i2]
   rcases Js y G.size with j2|j2
   .rw[XW J j2];exact yD M.up bA j2
   .rw[jM J (.inr bA)]
    obtain⟨z,rfl⟩:∃ z,y=u+1+z:=⟨y-(u+1),by lia⟩
    have v:=m3 z bA bA
    rw[Nh (Y+k)] at v;exact Gi (bd x i2).2 v
  .rw[jM J (.inr bA),jM J (.inr bA)]
   exact l _ _ bA b bA
 have y0:(arr.extract (Y+k+(u+1)) (Y+k+(u+1)+m)).getD 0 nv=arr.getD (Y+k+(u+1)) nv:=c9 bA bA
 have xl:(arr.extract (Y+k) (Y+k+(u+1))).getD ((arr.extract (Y+k) (Y+k+(u+1))).size-1) nv=arr.getD (Y+k+u) nv:=by rw[zx];exact c9 bA bA
 have ux:=λx O=>(H x O).1;have uy:=λx O=>(I x O).1;have nx:0<(arr.extract (Y+k) (Y+k+(u+1))).size:=by lia
 have ny:0<(arr.extract (Y+k+(u+1)) (Y+k+(u+1)+m)).size:=by lia
 have p:∀ x∈(arr.extract (Y+k) (Y+k+(u+1))).toList,r (arr.getD (Y+k+(u+1)) nv)<=r x:=λx O=>(H x O).2.1;have f:∀ x∈(arr.extract (Y+k+(u+1)) (Y+k+(u+1)+m)).toList,r x<=r (arr.getD (Y+k+u) nv):=λx O=>(I x O).2.2;rw[<- y0] at p;rw[<- xl] at f;refine qQ (λ_=>Bc (iP C rfl ux uy px py (λG T M=>Bc (Jt (Bc (Os (Bv (zb G T M)))))) nx ny (p _ (zS nx)) f)) λ_=>Bc (iO C rfl ux uy px py (λG T M=>Bc (Jt (Bc (Os (Bv (zb G T M)))))) nx ny p (f _ (zS bA)))
end
def mir (a:Az Bm)(i j:Ah):Az Bm:=mirror a i j ((j-i)/2)
def yA {a:Az Bm}{i j:Ah}(Q:j<=a.size)(k:Ah):(mir a i j).getD k nv=if i<=k/\k<j then a.getD (i+j-1-k) nv else a.getD k nv:=by
 rw[Fm,Fm,Fm];unfold mir;rw[getElem?_mirror_all Q]
 split <;> rfl
structure Cr (a b:Az Bm)(lo n:Ah):Prop where
 pm:b.toList.Perm a.toList
 out:∀ k,k<lo\/lo+n<=k->b.getD k nv=a.getD k nv
def Cr.z {a b:Az Bm}(h:Cr a b lo n):b.size=a.size:=by
 have:=h.pm.length_eq;simpa using this
def Cr.rfl' {a:Az Bm}:Cr a a lo n:=⟨Ml _,λ_ _=>rfl⟩
def Cr.mir {a b:Az Bm}{i j:Ah}(h:Cr a b lo n)(h1:lo<=i)(h2:j<=lo+n)(h3:j<=a.size):Cr a (mir b i j) lo n:=
 ⟨(Sy.mp (mirror_perm _ _ _ _)).trans h.pm,λk Q=>by rw[yA (by rw[h.z];exact h3),Bd bA];exact h.out k Q⟩
def vq (r:Bm->An)(a:Az Bm)(lo n:Ah):Prop:=∀ i j,lo<=i->i<=j->j<lo+n->r (a.getD j nv)<=r (a.getD i nv)
def P7 {r:Bm->An}{a:Az Bm}(h:Seg r a lo n)(h1:1<=n)(l:r (a.getD (lo+n-1) nv)<=r (a.getD (lo+n) nv)):Seg r a lo (n+1):=λi j Q Y U=>by
 by_cases q:j<lo+n
 .exact h i j Q Y q
 .have:j=lo+n:=by lia
  subst this;by_cases J:i=lo+n
  .subst J;exact Qg _
  .exact Gi (h i (lo+n-1) Q bA bA) l
def gO {r:Bm->An}{a:Az Bm}(h:vq r a lo n)(h1:1<=n)(l:r (a.getD (lo+n) nv)<=r (a.getD (lo+n-1) nv)):vq r a lo (n+1):=λi j Q Y U=>by
 by_cases q:j<lo+n
 .exact h i j Q Y q
 .have:j=lo+n:=by lia
  subst this;by_cases J:i=lo+n
  .subst J;exact Qg _
  .exact Gi l (h i (lo+n-1) Q bA bA)
def QH {r:Bm->An}{a:Az Bm}:Seg r a lo 1:=λi j J Y Q=>by
 have:i=j:=by lia
 subst this;exact Qg _
def FX {r:Bm->An}{a:Az Bm}:vq r a lo 1:=λi j J Y Q=>by
 have:i=j:=by lia
 subst this;exact Qg _
def Z4 (r:Bm->An)(a:Az Bm)(lo n q:Ah):Prop:=q+1<=n/\∀ k,lo+n-(q+1)<=k->k<lo+n->r (a.getD k nv)=r (a.getD (lo+n-1) nv)
set_option tactic.hygienic true in
def gP {r:Bm->An}{a:Az Bm}(Q:lo+n<=a.size)(h:Z4 r a lo n q)(k:Ah):r ((mir a (lo+n-(q+1)) (lo+n)).getD k nv)=r (a.getD k nv):=by
 rw[yA Q];have:=h.1
 split
 .rename_i c
  rw[h.2 k bA c.2,h.2 _ bA bA]
 .rfl
def FW {r:Bm->An}{a:Az Bm}(Q:lo+n<=a.size)(h:vq r a lo n):Seg r (mir a lo (lo+n)) lo n:=λi j U J Y=>by
 rw[yA Q,yA Q,Bg bA,Bg bA]
 exact h _ _ bA bA bA
section
variable {prog:Bi}{w:Bz}{A:Bp}{E:ae}{s:Ag}{κ: Nw}{U:Bm->Prop}{r:Bm->An}
def gG (C:Cm (Av prog w) A s κ U r){i j:Ah}{arr:Az Bm}{J:Az (Ah × Ah × Ah)}{g:Ah}{Q:Ak Au->Fq->Prop}(G:∀ x∈arr.toList,U x)(hi:i<arr.size)(Y:j<arr.size)
  (q:Q (Ab (decide (r (arr.getD i nv)<r (arr.getD j nv)))) (Df κ arr J g none)):wpS (Av prog w) A E s (ltAt' i j) Q (Df κ arr J g none):=by
 refine Bc (Os ?_);exact Bc (zF hi (Bc (zF Y (C.lt (G _ (zS hi)) (G _ (zS Y)) rfl q))))
def fQ {Q:PUnit->Fq->Prop}(q:Q ⟨⟩ (Df κ (mir arr i j) Y g none)):wpS (Av prog w) A E s (reverseSlice' i j) Q (Df κ arr Y g none):=Jt q
def IG {σ α:Type}{c:Prop}[Ih c]{Q:α->σ->Prop}{st:σ}{y:Ah}{K:Ah->Mw σ Kj α}{u:Mw σ Kj α}(P:Ah->σ->Prop)(hK:∀ z st,P z st->wpS (Av prog w) A E s (K z) Q st)(h1:c->(∀ z st,P z st->wpS (Av prog w) A E s (K z) Q st)->wpS (Av prog w) A E s u Q st)(h2:¬ c->P y st):wpS (Av prog w) A E s (if c then u else K y) Q st:=qQ (λe=>h1 e hK) λe=>hK _ _ (h2 e)
def UA {σ α:Type}{c:Prop}[Ih c]{Q:α->σ->Prop}{st:σ}{K u:Mw σ Kj α}(P:σ->Prop)(hK:∀ st,P st->wpS (Av prog w) A E s K Q st)(h1:c->(∀ st,P st->wpS (Av prog w) A E s K Q st)->wpS (Av prog w) A E s u Q st)(h2:¬ c->P st):wpS (Av prog w) A E s (if c then u else K) Q st:=qQ (λe=>h1 e hK) λe=>hK _ (h2 e)
def rF (C:Cm (Av prog w) A s κ U r){lo N:Ah}{arr:Az Bm}{L:Az (Ah × Ah × Ah)}{g:Ah}{Q:Ak Ah->Fq->Prop}(ua:∀ x∈arr.toList,U x)(h1:1<=N)(hz:lo+N<=arr.size)
  (h:∀ n b,1<=n->n<=N->Cr arr b lo N->Seg r b lo n->Q (Ab n) (Df κ b L g none)):wpS (Av prog w) A E s (countRun' lo N) Q (Df κ arr L g none):=by
 have y:∀ {b:Az Bm},Cr arr b lo N->∀ x∈b.toList,U x:=λh x M=>ua x (h.pm.mem_iff.mp M);have T:∀ {b:Az Bm} {n:Ah} {f:Ah->Ak (Ak Ah) × Ah->Mw Fq Kj (ForInStep (Ak (Ak Ah) × Ah))},Cr arr b lo N->1<=n->n<=N->Seg r b lo n ->
   (∀ x m,f x (none,m)=(ltAt' (lo+m) (lo+m-1) >>= λo=>match o with
    |some z=>if z then pure (.done (none,m)) else pure (.yield (none,m+1))
    |_=>pure (.done (Ab none,m))))->wpS (Av prog w) A E s (forIn [n:N] (none,n) f) (λc Y=>Y=Df κ b L g none/\∃ m,c=(none,m)/\n<=m/\m<=N/\Seg r b lo m/\(m=N\/r (b.getD (lo+m) nv)<r (b.getD (lo+m-1) nv))) (Df κ b L g none):=by
  intro b n f J hn hN B hf;have zb:=J.z;refine Fv (I:=λx c Y=>Y=Df κ b L g none/\c=(none,x)/\n<=x/\Seg r b lo x) ?_ ?_ ⟨rfl,rfl,Ax _,B⟩
  .rintro x c Y H M ⟨rfl,rfl,t,B⟩
   rw[hf];refine Bc (gG C (y J) bA bA ?_)
   by_cases l:r (b.getD (lo+x) nv)<r (b.getD (lo+x-1) nv)
   .simp only[l,Km,Eb]
    exact Bv ⟨rfl,x,rfl,H,by lia,B,.inr l⟩
   .simp only[l,Ks,Bx,Dx]
    exact Bv ⟨rfl,rfl,by lia,P7 B bA bA⟩
  .rintro c Y ⟨rfl,rfl,t,B⟩
   rw[show max n N=N by lia] at B ⊢
   exact⟨rfl,N,rfl,hN,Ax _,B,.inl rfl⟩
 refine Bc (Ia (T Cr.rfl' (Ax 1) h1 QH λ_ _=>rfl) ?_);rintro c Y ⟨rfl,n,rfl,n1,n2,B,nd⟩;dsimp only;refine qQ (λe=>Bv (h n arr n1 n2 Cr.rfl' B)) λe=>?_;have e:¬ n=N:=by simpa using e
 have nd:r (arr.getD (lo+n) nv)<r (arr.getD (lo+n-1) nv):=by lia
 refine UA (λst=>∃ b,st=Df κ b L g none/\Cr arr b lo N/\vq r b lo (n+1)) ?_ (λnp p=>?_) λnp=>⟨arr,rfl,Cr.rfl',?_⟩
 .rintro _ ⟨b,rfl,J,G⟩
  refine Bc (Te (Ho ⟨rfl,?_⟩));refine Bc (Ia (Fv (I:=λx c Y=>∃ b q,Y=Df κ b L g none/\c=(none,x,q)/\Cr arr b lo N/\vq r b lo x/\Z4 r b lo x q)
   (Q:=λc Y=>∃ b m q,Y=Df κ b L g none/\c=(none,m,q)/\1<=m/\m<=N/\Cr arr b lo N/\vq r b lo m/\Z4 r b lo m q) ?_ ?_ ⟨_,0,rfl,rfl,J,G,by lia,λk a b=>by rw[show k=lo+(n+1)-1 by lia]⟩) ?_)
  .rintro x c Y H M ⟨b,q,rfl,rfl,J,G,O⟩
   dsimp only;have zb:=J.z;refine Bc (gG C (y J) bA bA ?_)
   dsimp only;refine qQ (λl=>?_) λl=>?_
   .have l:r (b.getD (lo+x) nv)<r (b.getD (lo+x-1) nv):=by simpa using l
    have d2:=gO G bA (Hq l)
    have e2:∀ b:Az Bm,Z4 r b lo (x+1) 0:=λb=>⟨by lia,λk a b=>by rw[show k=lo+(x+1)-1 by lia]⟩
    refine qQ (λu=>Bc (fQ (Bv ⟨_,0,rfl,rfl,J.mir (by have:=O.1;lia) bA bA,λi j a c d=>?_,e2 _⟩))) λu=>Bv ⟨_,0,rfl,rfl,J,d2,e2 _⟩
    rw[gP bA O,gP bA O]
    exact d2 i j a c d
   .have l:¬ r (b.getD (lo+x) nv)<r (b.getD (lo+x-1) nv):=by simpa using l
    refine Bc (gG C (y J) bA bA ?_)
    dsimp only;refine qQ (λv=>Bv ⟨b,x,q,rfl,rfl,by lia,by lia,J,G,O⟩) λv=>?_
    have v:¬ r (b.getD (lo+x-1) nv)<r (b.getD (lo+x) nv):=by simpa using v
    have ee:r (b.getD (lo+x) nv)=r (b.getD (lo+x-1) nv):=by lia
    refine Bv ⟨b,q+1,rfl,rfl,J,gO G bA bA,by have:=O.1;lia,λk a c=>?_⟩
    rw[show lo+(x+1)-1=lo+x by lia]
    by_cases kx:k=lo+x
    .rw[kx]
    .rw[ee];exact O.2 k bA bA
  .rintro c Y ⟨b,q,rfl,rfl,J,G,O⟩
   rw[show max (n+1) N=N by lia] at G O ⊢
   exact⟨b,N,q,rfl,rfl,h1,Ax _,J,G,O⟩
  .rintro c Y ⟨b,m,q,rfl,rfl,m1,m2,J,G,O⟩
   dsimp only;have zb:=J.z;refine UA (λst=>∃ b,st=Df κ b L g none/\Cr arr b lo N/\vq r b lo m) ?_ (λu p=>?_) λu=>⟨b,rfl,J,G⟩
   .rintro _ ⟨b,rfl,J,G⟩
    have z2:=J.z;refine Bc (fQ ?_);refine Bc (Ia (T (J.mir (Ax _) bA bA) m1 m2 (FW bA G) λ_ _=>rfl) ?_)
    rintro c Y ⟨rfl,n',rfl,q1,q2,q3,_⟩;exact Bv (h n' _ bA q2 (J.mir (Ax _) bA bA) q3)
   .refine Bc (fQ (p _ ⟨_,rfl,J.mir (by have:=O.1;lia) bA bA,λi j a c d=>?_⟩))
    rw[gP bA O,gP bA O]
    exact G i j a c d
 .refine Bc (gG C ua bA bA ?_)
  dsimp only;refine qQ (λe=>Bv (h n arr n1 n2 Cr.rfl' B)) λl=>?_;have l:¬ r (arr.getD lo nv)<r (arr.getD (lo+n-1) nv):=by simpa using l
  refine Bc (fQ (p _ ⟨_,rfl,Cr.rfl'.mir (Ax _) bA bA,gO (λi j a b c=>?_) n1 ?_⟩))
  .rw[yA bA,yA bA,Bg bA,Bg bA]
   exact B _ _ bA bA bA
  .rw[yA bA,yA bA,Bd bA,Bg bA,show lo+(lo+n)-1-(lo+n-1)=lo by lia]
   lia
 .have:n=1:=by lia
  subst this;exact gO FX (Ax _) (Hq nd)
end
def mE {a:Az Bm}{Q d:Ah}(hs:Q<a.size)(Y:d<=Q)(k:Ah):(bubble a Q d).getD k nv=if k=Q-d then a.getD Q nv else if Q-d<k/\k<=Q then a.getD (k-1) nv else a.getD k nv:=by
 simp only[Fm];rw[getElem?_bubble hs d Y]
 repeat' split
 all_goals rfl
def eK {a:Az Bm}{s d k:Ah}(hs:s+d<a.size)(h:k<s\/s+d<k):(bubble a (s+d) d).getD k nv=a.getD k nv:=by
 rw[mE hs (Wv _ _),Ir,Bd bA,Bd bA]
def eJ {a:Az Bm}{s d:Ah}(hs:s+d<a.size):(bubble a (s+d) d).getD s nv=a.getD (s+d) nv:=by
 rw[mE hs (Wv _ _),Ir,Bg rfl]
def tO {a:Az Bm}{s d z:Ah}(hs:s+d<a.size)(h:s<=z)(h2:z<s+d):(bubble a (s+d) d).getD (z+1) nv=a.getD z nv:=by
 rw[mE hs (Wv _ _),Ir,Bd bA,Bg ⟨by lia,h2⟩]
 rfl
section
variable {prog:Bi}{w:Bz}{A:Bp}{E:ae}{s:Ag}{κ: Nw}{U:Bm->Prop}{r:Bm->An}
def i9 (C:Cm (Av prog w) A s κ U r){lo n ok:Ah}{arr:Az Bm}{B:Az (Ah × Ah × Ah)}{g:Ah}{Q:Au->Fq->Prop}(ua:∀ x∈arr.toList,U x)(h1:ok<=n)(hz:lo+n<=arr.size)(J:Seg r arr lo ok)
  (h:∀ b,Cr arr b lo n->Seg r b lo n->Q true (Df κ b B g none)):wpS (Av prog w) A E s (binarySort' lo n ok) Q (Df κ arr B g none):=by
 have M:∀ {b:Az Bm},Cr arr b lo n->∀ x∈b.toList,U x:=λh x H=>ua x (h.pm.mem_iff.mp H);have T:Seg r arr lo (max ok 1):=by
  by_cases q:ok=0
  .rw[q];exact QH
  .rw[show max ok 1=ok by lia];exact J
 refine Bc (Ia (Fv (I:=λk c Y=>c=(none,())/\∃ b,Y=Df κ b B g none/\Cr arr b lo n/\Seg r b lo k)
  (Q:=λc Y=>c=(none,())/\∃ b,Y=Df κ b B g none/\Cr arr b lo n/\Seg r b lo n) ?_ ?_ ⟨rfl,arr,rfl,Cr.rfl',T⟩) ?_)
 .rintro k c Y p f ⟨rfl,b,rfl,G,J⟩
  have zb:=G.z;dsimp only;refine Bc (Ia (Fv (I:=λx c Y=>Y=Df κ b B g none/\∃ l u,c=(none,l,u)/\l<=u/\u<=k/\u+x<=k+l/\(∀ i,i<l->r (b.getD (lo+i) nv)<=r (b.getD (lo+k) nv))/\∀ i,u<=i->i<k->r (b.getD (lo+k) nv)<r (b.getD (lo+i) nv))
   (Q:=λc Y=>Y=Df κ b B g none/\∃ l u,c=(none,l,u)/\l<=k/\(∀ i,i<l->r (b.getD (lo+i) nv)<=r (b.getD (lo+k) nv))/\∀ i,l<=i->i<k->r (b.getD (lo+k) nv)<r (b.getD (lo+i) nv)) ?_ ?_
   ⟨rfl,0,k,rfl,Hg _,Ax _,Ax _,λi o=>absurd o (AbA _),λi a b=>absurd a (Nat.not_le.mpr b)⟩) ?_)
  .rintro x c Y _ H ⟨rfl,l,u,rfl,L,y,t,N,O⟩
   dsimp only;refine qQ (λe=>Bv ⟨rfl,l,u,rfl,by lia,N,λi a b=>O i bA b⟩) λe=>?_
   refine Bc (gG C (M G) bA bA ?_)
   dsimp only;refine qQ (λz=>?_) λz=>?_
   .have z:r (b.getD (lo+k) nv)<r (b.getD (lo+(l+u)/2) nv):=by simpa using z
    exact Bv ⟨rfl,_,_,rfl,by lia,by lia,by lia,N,λi a c=>Sj z (J _ _ bA bA bA)⟩
   .have z:¬ r (b.getD (lo+k) nv)<r (b.getD (lo+(l+u)/2) nv):=by simpa using z
    exact Bv ⟨rfl,_,_,rfl,by lia,by lia,by lia,λi a=>Gi (J _ _ bA bA bA) (AbK.mp z),O⟩
  .rintro c Y ⟨rfl,l,u,rfl,L,y,t,N,O⟩
   exact⟨rfl,l,u,rfl,by lia,N,λi a b=>O i bA b⟩
  .rintro c Y ⟨rfl,l,u,rfl,L,N,O⟩
   obtain⟨m,rfl⟩:=Fw L;clear L p;dsimp only;simp only[<- Nh] at N O ⊢;have hs:lo+l+m<b.size:=by lia
   have em:lo+l+m-(lo+l)=m:=Gq ..;refine Bc (Jt (Bv ⟨rfl,_,rfl,⟨(Sy.mp (bubble_perm _ _ _)).trans G.pm,λj v=>?_⟩,?_⟩))
   .show (bubble b (lo+l+m) (lo+l+m-(lo+l))).getD j nv=_
    rw[em,eK hs bA]
    exact G.out j v
   .intro i j a c d
    show r ((bubble b (lo+l+m) (lo+l+m-(lo+l))).getD i nv)<=r ((bubble b (lo+l+m) (lo+l+m-(lo+l))).getD j nv);rw[em];rcases Ma i (lo+l) with i1|rfl|i1
    .rw[eK hs (.inl i1)]
     rcases Ma j (lo+l) with j1|rfl|j1
     .rw[eK hs (.inl j1)];exact J _ j a c bA
     .obtain⟨x,rfl⟩:=Fw a
      rw[eJ hs];exact N x bA
     .obtain⟨z,rfl⟩:∃ z,j=z+1:=⟨j-1,by lia⟩
      rw[tO hs bA bA];exact J _ _ a bA bA
    .rw[eJ hs]
     rcases Nat.eq_or_lt_of_le c with rfl|j1
     .rw[eJ hs];exact Qg _
     .obtain⟨z,rfl⟩:∃ z,j=lo+z+1:=⟨j-1-lo,by lia⟩
      rw[tO hs bA bA];exact Hq (O z bA bA)
    .obtain⟨x,rfl⟩:∃ x,i=x+1:=⟨i-1,by lia⟩
     obtain⟨z,rfl⟩:∃ z,j=z+1:=⟨j-1,by lia⟩
     rw[tO hs bA bA,tO hs bA bA];exact J _ _ bA bA bA
 .rintro c Y ⟨rfl,b,rfl,G,J⟩
  refine⟨rfl,b,rfl,G,?_⟩;intro i j a c d;exact J i j a c bA
 .rintro c Y ⟨rfl,b,rfl,G,J⟩
  exact Bv (h b G J)
end
def Rn (r:Bm->An)(a:Az Bm):Aa (Ah × Ah × Ah)->Ah->Ah->Prop
 |[],x,y=>x=y
 |(s,n,_)::t,x,y=>s=x/\0<n/\Seg r a s n/\Rn r a t (x+n) y
section
variable {r:Bm->An}{a b:Az Bm}
theorem Rn.app:∀ {O Q:Aa (Ah × Ah × Ah)} {x y:Ah},Rn r a (O++Q) x y↔∃ m,Rn r a O x m/\Rn r a Q m y
 |[],Q,x,y=>⟨λh=>⟨x,rfl,h⟩,λ⟨m,J,Y⟩=>by cases J;exact Y⟩
 |(s,n,p)::t,Q,x,y=>by
  show s=x/\0<n/\Seg r a s n/\Rn r a (t++Q) (x+n) y↔∃ m,(s=x/\0<n/\Seg r a s n/\Rn r a t (x+n) m)/\Rn r a Q m y;rw[Rn.app];exact⟨λ⟨J,Y,G,m,U,N⟩=>⟨m,⟨J,Y,G,U⟩,N⟩,λ⟨m,⟨J,Y,G,U⟩,N⟩=>⟨J,Y,G,m,U,N⟩⟩
theorem Rn.le:∀ {L:Aa (Ah × Ah × Ah)} {x y:Ah},Rn r a L x y->x+L.length<=y
 |[],x,y,h=>by cases h;simp
 |(s,n,p)::t,x,y,h=>by have:=Rn.le h.2.2.2;have:=h.2.1;simp only[Bs];lia
theorem Rn.congr:∀ {L:Aa (Ah × Ah × Ah)} {x y:Ah},Rn r a L x y->(∀ k,x<=k->k<y->b.getD k nv=a.getD k nv)->Rn r b L x y
 |[],x,y,h,_=>h
 |(s,n,p)::t,x,y,h,e=>by
  obtain⟨rfl,Q,J,Y⟩:=h;have l:=Rn.le Y;refine⟨rfl,Q,λi j a c d=>?_,Rn.congr Y λk U Q=>e k bA Q⟩
  rw[e i bA bA,e j bA bA]
  exact J i j a c d
theorem Rn.mod {f:Ah × Ah × Ah->Ah × Ah × Ah}(Q:∀ u v p,∃ Y,f (u,v,p)=(u,v,Y)):∀ {L:Aa (Ah × Ah × Ah)} {i x y:Ah},Rn r a L x y->Rn r a (L.modify i f) x y
 |[],i,x,y,h=>by simpa using h
 |(s,n,p)::t,0,x,y,h=>by
  obtain⟨Y,e⟩:=Q s n p;rw[List.modify_zero_cons,e];exact h
 |(s,n,p)::t,i+1,x,y,h=>by
  rw[List.modify_succ_cons];exact⟨h.1,h.2.1,h.2.2.1,Rn.mod Q h.2.2.2⟩
end
def AX {α:Type}{l:Aa α}{i:Ah}(h:i+1<l.length):∃ Q x y Y,l=Q++x::y::Y/\Q.length=i:=by
 refine⟨l.take i,l[i],l[i+1],l.drop (i+2),?_,by rw[Gh];lia⟩
 rw[<- Ha h,<- Ha bA,Qh]
section
variable {prog:Bi}{w:Bz}{A:Bp}{E:ae}{s:Ag}{κ: Nw}{U:Bm->Prop}{r:Bm->An}
def nJ (C:Cm (Av prog w) A s κ U r){i e:Ah}{Q:Au->Fq->Prop}{arr:Az Bm}{Y:Az (Ah × Ah × Ah)}{g:Ah}(ua:∀ x∈arr.toList,U x)(hi:i+1<Y.size)(R:Rn r arr Y.toList 0 e)(he:e<=arr.size)
  (h:∀ b G g,b.toList.Perm arr.toList->(∀ k,e<=k->b.getD k nv=arr.getD k nv)->Rn r b G.toList 0 e->G.size+1=Y.size->Q true (Df κ b G g none)):wpS (Av prog w) A E s (mergeAt' i) Q (Df κ arr Y g none):=by
 obtain⟨t,⟨O,B,T⟩,⟨sb,I,z⟩,y,N,L⟩:=AX (l:=Y.toList) (i:=i) (by simpa using hi)
 rw[N] at R;obtain⟨m,v,rfl,j,c,rfl,p,f,R2⟩:=Rn.app.mp R;have l2:=Rn.le R2;have u:Y[i]? = Ab (O,B,T):=by
  rw[<- Bo,N,<- L,Cq (Ax _),Vs];rfl
 have o:Y[i+1]? = Ab (O+B,I,z):=by
  rw[<- Bo,N,<- L,Cq bA,Gq];rfl
 refine iN C ua u o j p bA c f λb g d J a=>?_
 have M:((Y.setIfInBounds i (O,B+I,T)).eraseIdxIfInBounds (i+1)).toList=t++(O,B+I,T)::y:=by
  rw[Array.toList_eraseIdxIfInBounds,Array.toList_setIfInBounds,N,<- L,Xl _ _ (Ax _),Vs,sB,List.eraseIdx_append_of_length_le bA,Gq]
  rfl
 refine h b _ g d (λk H=>J k bA) ?_ ?_
 .rw[M]
  refine Rn.app.mpr ⟨O,v.congr λk _ H=>J k bA,rfl,by lia,a,?_⟩
  rw[<- Nh];exact R2.congr λk H _=>J k bA
 .have:=congrArg Np M
  have q:=congrArg Np N;simp only[Bu,Bj,Bs] at this q
  lia
def rG (C:Cm (Av prog w) A s κ U r){Q:Ro->Fq->Prop}{arr:Az Bm}{g:Ah}(ua:∀ x∈arr.toList,U x)(h2:0<arr.size)
  (h:∀ b Y g,b.toList.Perm arr.toList->b.toList.Pairwise (Le r)->Q () (Df κ b Y g none)):wpS (Av prog w) A E s sortRuns' Q (Df κ arr #[] g none):=by
 have o:∀ {b:Az Bm},b.toList.Perm arr.toList->∀ x∈b.toList,U x:=λh x f=>ua x (h.mem_iff.mp f);have M:∀ {b:Az Bm},b.toList.Perm arr.toList->b.size=arr.size:=λh=>by simpa using h.length_eq
 refine Bc (Os ?_);dsimp only;refine Bc (Ia (Fv (I:=λx c J=>∃ b Y g lo,J=Df κ b Y g none/\c=(none,lo)/\b.toList.Perm arr.toList/\lo<=arr.size/\min x arr.size<=lo/\Rn r b Y.toList 0 lo)
  (Q:=λc J=>∃ b Y g,J=Df κ b Y g none/\c=(none,arr.size)/\b.toList.Perm arr.toList/\Rn r b Y.toList 0 arr.size) ?_ ?_ ⟨arr,#[],g,0,rfl,rfl,Ml _,by lia,by lia,rfl⟩) ?_)
 .rintro x c J _ f ⟨b,Y,g,lo,rfl,rfl,G,lo1,zx,R⟩
  have p:=M G;dsimp only;refine qQ (λe=>Bv ⟨b,Y,g,rfl,by rw[show lo=arr.size by lia],G,by rw[show arr.size=lo by lia];exact R⟩) λe=>?_
  refine Bc (rF C (o G) bA bA λn b2 n1 n2 cr N=>?_)
  have R2:Rn r b2 Y.toList 0 lo:=R.congr λk _ H=>cr.out k (.inl H);have O:=cr.pm.trans G;have z2:=M O;dsimp only;apply IG (y:=n) (P:=λn st=>∃ b,st=Df κ b Y g none/\b.toList.Perm arr.toList/\Rn r b Y.toList 0 lo/\Seg r b lo n/\lo+n<=arr.size/\0<n/\min (x+1) arr.size<=lo+n)
  .rintro n _ ⟨b,rfl,G,R,N,n3,n4,n5⟩
   refine Bc (Os ?_);dsimp only;rcases hb:Y.back? with _|⟨s1,l1,p1⟩
   .dsimp only
    refine Bc (Jt (Bv ⟨_,_,_,_,rfl,rfl,G,n3,n5,?_⟩));show Rn r _ (Y.push _).toList 0 _;rw[Ff];exact Rn.app.mpr ⟨lo,R,rfl,n4,N,rfl⟩
   .dsimp only
    refine Bc (Ia (Fv (I:=λ_ c J=>c=(none,())/\∃ b Y g,J=Df κ b Y g none/\b.toList.Perm arr.toList/\Rn r b Y.toList 0 lo/\Seg r b lo n)
     (Q:=λc J=>c=(none,())/\∃ b Y g,J=Df κ b Y g none/\b.toList.Perm arr.toList/\Rn r b Y.toList 0 lo/\Seg r b lo n) ?_ (λ_ _ z=>z) ⟨rfl,_,Y,g,rfl,G,R,N⟩) ?_)
    .rintro y c J _ hy ⟨rfl,b,Y,g,rfl,G,R,N⟩
     have p:=M G;refine Bc (Os ?_);dsimp only;by_cases hp:Y.size>1
     .rw[Bg hp]
      rcases hq:Y[Y.size-2]? with _|⟨u,v,zy⟩
      .exact Bv ⟨rfl,b,Y,g,rfl,G,R,N⟩
      .dsimp only
       refine qQ (λ_=>Bv ⟨rfl,b,Y,g,rfl,G,R,N⟩) λ_=>?_;refine Bc (nJ C (o G) bA R bA λb' L g' p' B R' _=>?_)
       refine qQ (λe=>by simp at e) λ_=>Bv ⟨rfl,b',L,g',rfl,p'.trans G,R',λi j a c d=>?_⟩
       rw[B i a,B j bA]
       exact N i j a c d
     .rw[Bd hp]
      exact Bv ⟨rfl,b,Y,g,rfl,G,R,N⟩
    .rintro c J ⟨rfl,b,Y,g,rfl,G,R,N⟩
     dsimp only;refine Bc (Jt (Bc (Jt (Bv ⟨_,_,_,_,rfl,rfl,G,n3,n5,?_⟩))));show Rn r b ((Y.modify (Y.size-1) _).push _).toList 0 _;rw[Ff,Array.toList_modify];exact Rn.app.mpr ⟨lo,Rn.mod (λ_ _ _=>⟨_,rfl⟩) R,rfl,n4,N,rfl⟩
  .intro lt H
   refine Bc (Te (Ho ⟨rfl,?_⟩));refine Bc (i9 C (o O) bA bA N λb3 T zl=>?_)
   exact qQ (λe=>by simp at e) λ_=>H _ _ ⟨b3,rfl,T.pm.trans O,R2.congr λk _ H=>T.out k (.inl H),zl,by lia,by lia,by lia⟩
  .exact λlt=>⟨b2,rfl,O,R2,N,by lia,n1,by lia⟩
 .rintro c J ⟨b,Y,g,lo,rfl,rfl,G,lo1,zx,R⟩
  have:lo=arr.size:=by lia
  subst this;exact⟨b,Y,g,rfl,rfl,G,R⟩
 .rintro c J ⟨b,Y,g,rfl,rfl,G,R⟩
  dsimp only;have hl:=R.le;rw[Bu] at hl;refine Bc (Ia (Fv (I:=λx c J=>c=(none,())/\∃ b Y g,J=Df κ b Y g none/\b.toList.Perm arr.toList/\Rn r b Y.toList 0 arr.size/\(Y.size<=1\/Y.size+x<=arr.size))
   (Q:=λc J=>c=(none,())/\∃ b Y g,J=Df κ b Y g none/\b.toList.Perm arr.toList/\Rn r b Y.toList 0 arr.size/\Y.size<=1) ?_ ?_ ⟨rfl,b,Y,g,rfl,G,R,by lia⟩) ?_)
  .rintro x c J _ f ⟨rfl,b,Y,g,rfl,G,R,hs⟩
   have p:=M G;refine Bc (Os ?_);dsimp only;refine qQ (λe=>Bv ⟨rfl,b,Y,g,rfl,G,R,e⟩) λe=>?_;refine Bc (nJ C (o G) ?_ R bA λb' L g' p' B R' z'=>?_)
   .have e:¬ Y.size<=1:=e
    have q:∀ (c:Prop) [Ih c],(if c then Y.size-2-1 else Y.size-2)+1<Y.size:=λc _=>by split <;> lia
    exact q _
   exact qQ (λe=>by simp at e) λ_=>Bv ⟨rfl,b',L,g',rfl,p'.trans G,R',by lia⟩
  .rintro c J ⟨rfl,b,Y,g,rfl,G,R,hs⟩
   exact⟨rfl,b,Y,g,rfl,G,R,by lia⟩
  .rintro c J ⟨rfl,b,Y,g,rfl,G,R,hs⟩
   have p:=M G;refine Bv (h b Y g G ?_);have hs:Y.toList.length<=1:=by simpa using hs
   revert R hs
   cases Y.toList with
   |nil=>intro R;have:0=arr.size:=R;lia
   |cons q t =>
    obtain⟨s0,n0,p0⟩:=q;intro R hs;have:t=[]:=by cases t with|nil=>rfl|cons _ _=>simp at hs
    subst this;obtain⟨rfl,_,N,e⟩:=R;have e:n0=arr.size:=by have:0+n0=arr.size:=e;lia
    subst e;rw[Jx];intro i j hi hj l;have zs:i<b.size:=by simpa using hi
    have zv:j<b.size:=by simpa using hj
    have:=N i j bA bA bA
    simpa [Hc,zs,zv,Le] using this
end
structure ue (prog:Bi)(w:Bz)(h0:Bt)(vs:ai)(f:Ah->Ah->Au):Prop where
 ex:∃ κ,∀ (A:Bp),A.units+8<Eu->∀ (s:Ag),l_ h0 s.heap->(∀ (Q:Nw->Ag->Prop) (E:ae),Q κ s->Aq (Av prog w) A (keyKind' vs.toArray) Q E s)/\∀ i j (C:Au->Ag->Prop),i<vs.length->j<vs.length->C (f i j) s->kas_ask prog w A κ vs i j C s
open Classical in
def kV {K:Type}(is:K->Ac->Prop)(d:K)(v:Ac):K:=if h:∃ k,is k v then choose h else d
open Classical in
def bX {K:Type}{is:K->Ac->Prop}{d:K}(h:∃ k,is k v):is (kV is d v) v:=by
 unfold kV;rw[dif_pos h];exact choose_spec h
section
variable {prog:Bi}{w:Bz}{A:Bp}{E:ae}{s:Ag}
def BI {K:Type}{is:K->Ac->Prop}{lt':K->K->Au}{d:K}(O:Ord lt')(zl:∀ {k k':K} {v:Ac},is k v->is k' v->k=k'){a:Af}{vs:ai}{ks:Aa K}{n:Ah}{h0:Bt}{P:PySem.Fin->Ag->Prop}(J:vs.length=ks.length)(zc:∀ i v,vs[i]? = Ab v->is (ks.getD i d) v)(f:s.heap.get? a=Ab (Ew "list" vs.toArray n))(hu:A.units+8<Eu)(hz:vs.length<=100000)(c:2<=vs.length->ue prog w h0 vs (lE lt' ks d))(hS:l_ h0 s.heap)(ha:h0.get? a=none)
  (h:∀ ps:Aa (K × Ac),ps.Perm (ks.zip vs)->Nf lt' (ps.map (·.1))->P (.done (.ret .none)) { s with heap:=sortedHeap s.heap a vs (ps.map (·.2)).toArray }) : Aq (Av prog w) A (Hz.«list.sort» ⟨[.ref a],[]⟩) P E s:=by
 rw[list_sort_plain];have hb:a<s.heap.objs.size:=Bf f;have zs:vs.toArray.size=vs.length:=by simp
 refine Ad (listItems_at f rfl (Ad (listUpdate_at f rfl ?_ (by rw[zs,Gb];lia) (Hg _))))
 obtain⟨l,T⟩:∃ l,(s.heap.update a (Fg λ_=>#[])).get? a=Ab (Ew "list" #[] l):=⟨_,Ny f (λ_=>#[])⟩;refine Ad (seqEpoch_at T rfl (Ad (wpAny_newTuple (Ad (Zk (Ee ?_) (Hg _))) (by show vs.length<=_;rw[Gb];lia))))
 have I:(((s.heap.update a (Fg λ_=>#[])).push (Ew "tuple" vs.toArray 0)).push (Ew "list" #[] 0)).get? a=Ab (Ew "list" #[] l):=
  Aj _ (Aj _ T)
 have S6:l_ h0 (((s.heap.update a (Fg λ_=>#[])).push (Ew "tuple" vs.toArray 0)).push (Ew "list" #[] 0)):=λb o e =>
  Aj _ (Aj _ ((Dm _ _ (λz:a=b=>by rw[<- z,ha] at e;cases e)).trans (hS b o e)))
 show Aq (Av prog w) A _ P E { s with heap:=((s.heap.update a (Fg λ_=>#[])).push (Ew "tuple" vs.toArray 0)).push (Ew "list" #[] 0) }
 dsimp only;have H:∀ (Y:Fq) (ps:Aa (K × Ac)),(arrOf Y).map (·.2)=(ps.map (·.2)).toArray->failedOf Y=none->ps.Perm (ks.zip vs)->Nf lt' (ps.map (·.1))->Aq (Av prog w) A (do
   let N:=(<- seqEpoch a) != l
   Builtin.List.listUpdate (.ref a) λ_=>(arrOf Y).map (·.2)
   if let Ab e:=failedOf Y then rule "list.sort.comparison-raised";throw e
   if N then rule "list.sort.modified";raiseError "ValueError" "list modified during sort"
   ret .none) P E { s with heap:=((s.heap.update a (Fg λ_=>#[])).push (Ew "tuple" vs.toArray 0)).push (Ew "list" #[] 0) }:=by
  intro Y ps h1 G r h4;have hl:(ps.map (·.2)).length=vs.length:=by rw[Ap,r.length_eq,Ww,J,Vk]
  refine Ad (seqEpoch_at I rfl ?_);rw[h1];refine Ad (listUpdate_at I rfl ?_ (Hg _) (by show (ps.map (·.2)).toArray.size<=_;rw[Be,hl,Gb];lia))
  rw[G];simp only[bne_self_eq_false,Bx,Dx];exact Am (h ps r h4)
 by_cases G:vs.toArray.size<2
 .rw[Bg G,Bg G]
  refine Ad (Am ?_);rw[StateT.run_pure];refine Ad (Am ?_);refine H (Df general' (vs.toArray.zip vs.toArray) #[] 7 none) (ks.zip vs) ?_ rfl (Ml _) ?_
  .show (vs.toArray.zip vs.toArray).map (·.2)=_
   apply AaY.mp;simp[List.map_snd_zip,J]
  .rw[Ve bA]
   match ks,J with
   |[],_=>exact Pa
   |[_],_=>exact Vr _ _
   |_::_::_,e=>simp at e G;lia
 .rw[Bd G,Bd G]
  have zb:2<=vs.length:=by lia
  obtain⟨κ,C⟩:=c zb;obtain⟨k1,k2⟩:=C A hu { s with heap:=((s.heap.update a (Fg λ_=>#[])).push (Ew "tuple" vs.toArray 0)).push (Ew "list" #[] 0) } S6
  have u:∀ i,i<vs.length->kV is d (vs.getD i Cz)=ks.getD i d:=λi U=>by
   have q:=zc i (vs.getD i Cz) (by rw[Sz,Ar U];rfl)
   exact zl (bX ⟨_,q⟩) q
  have km:∀ i,i<vs.length->ks.getD i d∈ks:=λi U=>by
   have:i<ks.length:=by lia
   simp[Hv,this]
  have cm:Cm (Av prog w) A { s with heap:=((s.heap.update a (Fg λ_=>#[])).push (Ew "tuple" vs.toArray 0)).push (Ew "list" #[] 0) } κ (λx=>∃ i,i<vs.length/\x=(vs.getD i Cz,vs.getD i Cz)) (λx=>pB lt' ks (kV is d x.1)):=by
   refine⟨?_⟩;rintro x y ⟨i,U,rfl⟩ ⟨j,L,rfl⟩ E Q st hk q;rw[lt'_eq];refine Bc (Os ?_);rw[hk];rw[u i U,u j L,<- aI O (km i U)] at q;refine Bc (Te (Jg (Gr (k2 i j (λb s'=>s'=_/\b=lE lt' ks d i j) U L ⟨rfl,rfl⟩) ?_ λ_ _ e=>e.elim)));rintro b s' ⟨rfl,rfl⟩;exact⟨rfl,Bv q⟩
  have pl:(vs.toArray.zip vs.toArray).toList=(Cf vs.length).map λi=>(vs.getD i Cz,vs.getD i Cz):=by
   apply Qe
   .simp
   .intro i h1 G
    have:i<vs.length:=by simpa using G
    simp[this]
  refine Ad (k1 _ _ ?_);refine Ad (Gr (rG (E:=E) (Q:=λ_ Y=>∃ b t g,Y=Df κ b t g none/\b.toList.Perm (vs.toArray.zip vs.toArray).toList/\b.toList.Pairwise (Le λx=>pB lt' ks (kV is d x.1))) cm (arr:=vs.toArray.zip vs.toArray) (g:=7) ?_ ?_ λb t g p q=>⟨b,t,g,rfl,p,q⟩) ?_ λ_ _ e=>e)
  .intro x B
   rw[pl] at B;obtain⟨i,U,rfl⟩:=Br.mp B;exact⟨i,Dt.mp U,rfl⟩
  .simp;lia
  .rintro⟨⟨⟩,Y⟩ s' ⟨rfl,b,t,g,rfl,pm,up⟩
   refine H _ (b.toList.map λx=>(kV is d x.1,x.2)) ?_ rfl ?_ ?_
   .show b.map (·.2)=_
    apply AaY.mp;simp
   .refine(pm.map _).trans ?_
    rw[pl,Ds];have:ks.zip vs=(Cf vs.length).map λi=>(ks.getD i d,vs.getD i Cz):=by
     apply Qe
     .simp[J]
     .intro i h1 G
      have r:i<vs.length:=by simpa using G
      have h4:i<ks.length:=by lia
      simp[r,h4]
    rw[this];refine List.Perm.of_eq (Er λi U=>?_);show (kV is d (vs.getD i Cz),_)=_;rw[u i (Dt.mp U)]
   .unfold Nf
    rw[Ds,Dq];refine up.imp_of_mem λ{x y} B M h=>?_;have B:=pm.mem_iff.mp B;have M:=pm.mem_iff.mp M;rw[pl] at B M;obtain⟨i,U,rfl⟩:=Br.mp B;obtain⟨j,L,rfl⟩:=Br.mp M;have h:pB lt' ks (kV is d (vs.getD i Cz))<=pB lt' ks (kV is d (vs.getD j Cz)):=h;show lt' (kV is d (vs.getD j Cz)) (kV is d (vs.getD i Cz))=false;have L:=Dt.mp L;rw[aI O (ks:=ks) (by rw[u j L];exact km j L)]
    exact Co bA
end
section
variable {prog:Bi}{w:Bz}{h0:Bt}
def MZ {b:Au}{Q:Au->Ag->Prop}:∀ {xs Y:Aa An} {us vs:ai} {i:Ah} {N M:Ah},ItemsAre (Ek prog w) xs us->ItemsAre (Ek prog w) Y vs->N+Y.length=M+xs.length->Q (_H.lexLt xs Y) s->KatLex prog w A b (decide (N<M)) Q (us.zip vs) i s:=by
 intro xs Y us vs i N M O
 induction O generalizing Y vs i with
 |nil =>
  intro U J h;cases U with
  |nil =>
   have:decide (N<M)=false:=Co (by simp at J;lia)
   rw[this];exact h
  |@cons k v Y vs q r =>
   have:decide (N<M)=true:=Dc (by simp at J;lia)
   rw[this];exact h
 |@cons x u xs us B E G =>
  intro U J h;cases U with
  |nil =>
   have:decide (N<M)=false:=Co (by simp at J;lia)
   rw[this];exact h
  |@cons y v Y vs C L =>
   obtain⟨t,rfl⟩:=lW (prog:=prog) (w:=w) B;obtain⟨T,rfl⟩:=lW (prog:=prog) (w:=w) C;rw[Jm];refine kat_cons (wpAny_eqBool_int ?_);rw[_H.ba] at h;refine kat_go (λe=>kat_yes ?_) λe=>kat_no ?_
   .rw[Bg (by simpa using e)] at h
    exact G L (by simp at J;lia) h
   .rw[Bd (by simpa using e)] at h
    cases b&&i == 0 with
    |true=>exact oneLt_int h
    |false=>exact kat_one _ _ (Rp h)
theorem QR:∀ {vs:ai} {ks:Aa (Aa An)},vs.length=ks.length->(∀ i v,vs[i]? = Ab v->g_ prog w h (ks.getD i []) v)->(∀ k∈ks,k≠[])->∃ J,KatTups h vs J/\J.length=vs.length/\∀ f∈J,∃ n t,f=Qw n t
 |[],[],_,_,_=>⟨[],trivial,rfl,λf hf=>by simp at hf⟩
 |v::vs,k::ks,E,hv,U=>by
  obtain⟨J,C,L,O⟩:=QR (vs:=vs) (ks:=ks) (by simpa using E) (λi u H=>by simpa using hv (i+1) u (by simpa using H)) λk G=>U k (by simp[G])
  obtain⟨a,rfl,o,Q,n,I,T,B,A⟩:=hv 0 v rfl;have G:k≠[]:=U k bB
  have Y:ItemsAre (Ek prog w) k Q.toList:=A;cases N:Q.toList with
  |nil=>rw[N] at Y;cases Y;exact absurd rfl G
  |cons f M =>
   rw[N] at Y;cases Y with
   |cons q _ =>
    obtain⟨t,rfl⟩:=lW (prog:=prog) (w:=w) q;refine⟨_::J,Ac9 I T B (by rw[<- Bo,N];rfl) C,by simp[L],λf hf=>?_⟩
    rcases Ba.mp hf with rfl|hf
    .exact⟨_,_,rfl⟩
    .exact O f hf
def SA {vs:ai}{ks:Aa (Aa An)}(l:vs.length=ks.length)(hv:∀ i v,vs[i]? = Ab v->g_ prog w h0 (ks.getD i []) v)(U:∀ k∈ks,k≠[])(h2:2<=vs.length):ue prog w h0 vs (lE _H.lexLt ks []):=by
 refine⟨tuples' (Hw "int" != Hw "tuple"),λA hu s G=>⟨λQ E h=>?_,λi j C c u h=>?_⟩⟩
 .obtain⟨fs,M,r,T⟩:=QR (h:=s.heap) l (λi v Y=>by obtain⟨a,e,q⟩:=hv i v Y;exact⟨a,e,uE G q⟩) U
  refine kat_kind M bA (λv Y=>?_) bU h
  obtain⟨n,t,rfl⟩:=T v Y;exact Ac1 rfl
 .have g:∀ k (J:k<vs.length),∃ a,vs.getD k Cz=.ref a/\Vd (Ek prog w) s.heap (ks.getD k []) a:=λk J=>by
   obtain⟨a,e,q⟩:=hv k vs[k] (Ar J);exact⟨a,by rw[<- e];simp[Hv,J],uE G q⟩
  obtain⟨a,L,oa,f,na,B,_,z,O⟩:=g i c;obtain⟨b,y,x,d,nb,I,_,p,N⟩:=g j u;unfold kas_ask;rw[L,y];refine kat_lt B z I p (MZ O N ?_ h);have H:=O.length;have o:=N.length;simp only[Bu] at H o
  lia
end
section
variable {K:Type}
def UC {α:Type}{ks:Aa K}{vs:Aa α}(U:vs.length=ks.length){p:K × α}(h:p∈ks.zip vs):∃ i,vs[i]? = Ab p.2/\ks.getD i d=p.1:=by
 obtain⟨i,Y,e⟩:=Ct.mp h;have J:i<ks.length:=by rw[Ww] at Y;lia
 have Q:i<vs.length:=by lia
 rw[List.getElem_zip] at e;subst e;exact⟨i,Ar Q,by simp[J]⟩
end
structure Kind (prog:Bi)(w:Bz){K:Type}(is:K->Ac->Prop)(hash:K->An)(lt':K->K->Au)(d:K)(Fit:K->Prop)(h0:Bt):Prop where
 ord:Ord lt'
 inj:∀ {k k':K} {v:Ac},is k v->is k' v->k=k'
 cmps:∀ {vs:ai} {ks:Aa K},vs.length=ks.length->(∀ i v,vs[i]? = Ab v->is (ks.getD i d) v)->(∀ k∈ks,Fit k)->2<=vs.length->ue prog w h0 vs (lE lt' ks d)
def OQ (prog:Bi)(w:Bz)(h0:Bt):Kind prog w (g_ prog w h0) (Vo (Ek prog w)) _H.lexLt [] (·≠[]) h0:=⟨xZ,g_.inj,λU J Y Q=>SA U J Y Q⟩
section
variable {prog:Bi}{w:Bz}{A:Bp}{E:ae}{s:Ag}{K:Type}{is:K->Ac->Prop}{az:K->An}{lt':K->K->Au}{d:K}{pr:K->Prop}{h0:Bt}{S:Af}{V:ai}{seen:Aa K}
open Classical in
def sj (is:K->Ac->Prop)(d:K)(e:An × Ac):K:=if h:∃ k,is k e.2 then choose h else d
open Classical in
def EA {e:An × Ac}(h:∃ k,is k e.2):is (sj is d e) e.2:=by
 unfold sj;rw[dif_pos h];exact choose_spec h
def XM {Q:ae}(kd:Kind prog w is az lt' d pr h0)(hh:A.handled=none)(hu:A.units+16<Eu)(hS:l_ h0 s.heap)(Z:kq is az S (vD w) V seen s.heap)(hf:∀ k∈seen,pr k){U:Aa K}(hU:U.length<=1000)(zc:∀ k∈seen,k∈U)
  (h:∀ h' tk D c (ps:Aa (K × Ac)),(∀ b o,s.heap.get? b=Ab o->h'.get? b=Ab o)->s.heap.objs.size<=D->h'.get? D=Ab (Ew "list" (ps.map (·.2)).toArray c)->ps.map (·.1)=kj lt' seen->(∀ p∈ps,is p.1 p.2/\p.2∈V)->ps.length<=1000->Q (.ref D) { s with heap:=h',toks:=tk }) :
  Aq (Av prog w) A (call (.builtin "sorted") [.ref S]) Q E s:=by
 obtain⟨O,M,t,ho,I,T,hl,hV⟩:=Z;have st:ma w S O M t:=⟨T,hl⟩;have hn:O.size<=1000:=by
  have:=mX O.toList U I.nd λe N=>by
   obtain⟨k',_,q⟩:=I.good e N;exact⟨k',zc k' ((I.mem k').mpr ⟨e,N,q⟩),q⟩
  rw[Bu] at this
  lia
 have H:=nU w S M O;have zz:=uR w S M O;have Y:∀ e∈(qY w S M O).toList,is (sj is d e) e.2/\e.2∈V:=λe N=>by
  have l:=H.mem_iff.mp N;obtain⟨k,_,q⟩:=I.good e l;exact⟨EA ⟨k,q⟩,hV e l⟩
 have zx:(qY w S M O).toList.Pairwise λa b=>∀ k,is k a.2->¬ is k b.2:=(H.pairwise_iff λ{x y} h k hy hx=>h k hx hy).mpr I.nd;generalize zv:(qY w S M O).toList=oe at *;have zy:oe.length<=1000:=by rw[H.length_eq,Bu];exact hn
 have C:∀ i v,(oe.map (·.2))[i]? = Ab v->is ((oe.map (sj is d)).getD i d) v/\v∈V:=λi v hv=>by
  rw[Do] at hv;cases r:oe[i]? with
  |none=>rw[r] at hv;cases hv
  |some e =>
   rw[r] at hv;cases hv;have g:=Y e (Bw r);have:(oe.map (sj is d)).getD i d=sj is d e:=by rw[Sz,Do,r];rfl
   rw[this];exact g
 have nd:(oe.map (sj is d)).Nodup:=by
  unfold Vc;rw[Dq];refine Uk (λ{a b} ha L h e=>?_) zx;exact h _ (Y a ha).1 (e▸(Y b L).1)
 have mem:∀ x,x∈oe.map (sj is d)↔x∈seen:=λx=>by
  rw[I.mem,Br];constructor
  .rintro⟨e,N,rfl⟩
   exact⟨e,H.mem_iff.mp N,(Y e N).1⟩
  .rintro⟨e,N,q⟩
   exact⟨e,H.mem_iff.mpr N,kd.inj (Y e (H.mem_iff.mpr N)).1 q⟩
 have G:(oe.map (·.2)).length=(oe.map (sj is d)).length:=by simp
 refine Ud kind_sorted plain_sorted entry_sorted (args_sorted1 _) ?_;unfold Hz.«sorted»;refine Ad (m:=checkCount "sorted" 1 1 _) (Am ?_);refine Ad (iA hh st ho bA λJ j u B=>?_)
 rw[zv];refine Ad (Zk ?_ (by rw[Gb,Ap];lia))
 have hD:(J.push (Ew "list" (oe.map (·.2)).toArray 0)).get? J.objs.size=Ab (Ew "list" (oe.map (·.2)).toArray 0):=Bl _ rfl
 have n0:h0.get? J.objs.size=none:=by
  cases q:h0.get? J.objs.size with
  |none=>rfl
  |some o=>exact absurd (Bf (hS _ _ q)) (Pk.mpr (Eo B))
 show Aq _ _ _ _ _ { s with heap:=J.push (Ew "list" (oe.map (·.2)).toArray 0),toks:=j }
 refine Ad (Ee (Ef slot_list_sort ⟨_,hD,rfl⟩ entry_list_sort (BI (h0:=h0) (is:=is) kd.ord kd.inj (d:=d) (vs:=oe.map (·.2)) G (λi v hv=>(C i v hv).1) hD (by show A.units+2+8<Eu;lia) (by rw[Ap];lia) (λh2=>kd.cmps G (λi v hv=>(C i v hv).1) (λk hk=>hf k ((mem k).mp hk)) h2) (λb o e=>Aj _ (u b o (hS b o e))) n0 λps pm nf=>⟨_,rfl,?_⟩) (args_list_sort _)))
 refine Am ⟨_,rfl,?_⟩;have hz:(J.push (Ew "list" (oe.map (·.2)).toArray 0)).objs.size=J.objs.size+1:=size_push' ..
 have zb:∀ b o,b≠J.objs.size->(J.push (Ew "list" (oe.map (·.2)).toArray 0)).get? b=Ab o->((((J.push (Ew "list" (oe.map (·.2)).toArray 0)).update J.objs.size (Fg λ_=>#[])).push (Ew "tuple" (oe.map (·.2)).toArray 0)).push (Ew "list" #[] 0)).get? b=Ab o:=λb o L e =>
  Aj _ (Aj _ ((Dm _ _ (Gj L)).trans e))
 obtain⟨f,zs⟩:∃ f,((J.push (Ew "list" (oe.map (·.2)).toArray 0)).update J.objs.size (Fg λ_=>#[])).get? J.objs.size=Ab (Ew "list" #[] f):=⟨_,Ny hD (λ_=>#[])⟩
 have zl:=Ny (Aj (Ew "list" #[] 0) (Aj (Ew "tuple" (oe.map (·.2)).toArray 0) zs)) (λ_=>(ps.map (·.2)).toArray)
 have pk:(ps.map (·.1)).Perm (oe.map (sj is d)):=by
  have:=pm.map (·.1)
  rwa [Ve bA] at this
 refine h _ j J.objs.size _ ps (λb o e=>?_) (Eo B) zl (ET kd.ord nf (pk.nodup_iff.mpr nd) λx=>by rw[pk.mem_iff,mem]) (λp hp=>?_) (by have:=pk.length_eq;rw[Ap,Ap] at this;lia)
 .have L:b≠J.objs.size:=λz=>by
   subst z;exact absurd (Bf e) (Pk.mpr (Eo B))
  exact(Dm _ _ (Gj L)).trans (zb b o L (Aj _ (u b o e)))
 .obtain⟨i,f,e2⟩:=UC (d:=d) G (pm.mem_iff.mp hp)
  exact e2▸C i _ f
end
end _S
namespace _D
open _L
variable {aj:aa}{α:ag}{σ:_L.St}
noncomputable def wH:Aa D->Ak (Aa (Aa An))
 |[]=>Ab []
 |.tup Q::r=>(yP Q).bind λk=>(wH r).map (k::·)
 |_::_=>none
def mr (k:Aa An):D:=.tup (k.map D.int)
theorem aZ:∀ {ds:Aa D} {ks:Aa (Aa An)},wH ds=Ab ks->ds=ks.map mr
 |[],ks,h=>by cases h;rfl
 |d::r,ks,h=>by
  cases d with
  |tup Y =>
   obtain⟨k,U,J⟩:=Ft.mp (show (yP Y).bind (λk=>(wH r).map (k::·))=Ab ks from h)
   obtain⟨m,Q,rfl⟩:=Dn.mp J;rw[aZ Q,gW U];rfl
  |_=>cases h
def jX (ks:Aa (Aa An)):wH (ks.map mr)=Ab ks:=by
 induction ks with
 |nil=>rfl
 |cons k ks Q =>
  show (yP (k.map D.int)).bind (λk=>(wH (ks.map mr)).map (k::·))=_
  rw[sM,Q];rfl
def P8:D->Ak (Aa D)
 |.lst Q=>Ab Q
 |.tup Q=>Ab Q
 |_=>none
def PC {K:Type}{lt':K->K->Au}(O:_S.Ord lt')(ks:Aa K)(d:K):_S.kj lt' (_S.vV (λi=>ks.getD i d) ks.length)=_S.kj lt' ks:=
 _S.dR O (_S.bL O _) (_S.bL O _) λx=>by
  rw[_S.vP O,_S.vP O,_S.jU];constructor
  .rintro⟨i,Q,rfl⟩
   simp[Hv,Q]
  .intro Y
   obtain⟨i,Q,e⟩:=Ct.mp Y;exact⟨i,Q,by simp[Hv,Q,e]⟩
section
variable {X:Cx}{e:By}
def W6:Gn "sorted" = Ab (.builtin "sorted"):=by decide +kernel
theorem oI:∀ {k:Aa An} {us:ai},qM (k.map V.int) us->ItemsAre (Ek prog w) k us
 |[],us,h=>by cases h;exact .nil
 |i::k,us,h=>by
  cases h with
  |cons q t =>
   obtain⟨Q,rfl⟩:=q;exact .cons (intKind_is _ _ _ _) (oI t)
theorem aP {H P:Hp}{S:ap}(I:Inv X aj σ H s)(r:bf X.K H P α S)(p:au X.K P α d v)(q:qJ v Y)(h:P8 d=Ab xs) :
  ∃ a vs its,Y=.ref a/\qE X.K P α xs vs/\qM vs its/\(s.heap.IsList a its.toArray\/s.heap.IsTuple a its.toArray)/\xs.length=its.length:=by
 cases d with
 |lst G =>
  cases h;obtain⟨a,vs,its,n,rfl,_,t,Q,e,l,_⟩:=u9 I r p;exact⟨a,vs,its,q,t,Q,.inl ⟨_,e,rfl,n,rfl⟩,l⟩
 |tup G =>
  cases h;obtain⟨a,vs,its,rfl,_,t,Q,⟨o,e,U,n,J⟩,l,_⟩:=uF I r p;exact⟨a,vs,its,q,t,Q,.inr ⟨o,e,U,n,J⟩,l⟩
 |_=>cases h
end
section
variable {X:Cx}
def lstM (d:D)(S:ap):Ak (Aa D):=match d with
 |.lst Q=>Ab Q
 |.loc i=>match S[i]? with
  |some (.lst Q)=>Ab Q
  |_=>none
 |_=>none
def bT:G2:=λa b S=>match lstM a S,lstM b S with
 |some Y,Ab Q=>if Y.length+Q.length<=bq then .ok (.lst (Y++Q)) S else .bad
 |_,_=>.bad
theorem f7 {H P:Hp}{S:ap}(I:Inv X aj σ H s)(r:bf X.K H P α S)(h:lstM d S=Ab xs)(p:au X.K P α d v) :
  ∃ a vs its n,v=.ref a/\qE X.K P α xs vs/\qM vs its/\s.heap.get? a=Ab { cls:=.type "list",data:=.seq its.toArray n } /\ xs.length=its.length:=by
 cases d with
 |lst U =>
  cases h;obtain⟨a,vs,its,n,e,_,t,Q,G,J,_⟩:=u9 I r p;exact⟨a,vs,its,n,e,t,Q,G,J⟩
 |loc i =>
  simp only[lstM] at h;cases Y:S[i]? with
  |none=>rw[Y] at h;cases h
  |some m =>
   rw[Y] at h;cases m with
   |lst U =>
    cases h;simp only[au] at p;obtain⟨a,rfl,q⟩:=p;obtain⟨vs,z,t⟩:=r.at' i a _ q Y;obtain⟨_,its,n,Q,e⟩:=I.hok a _ z;exact⟨a,vs,its,n,rfl,t,Q,e,by rw[t.length,Q.length]⟩
   |_=>cases h
 |_=>cases h
def TJ:f_ X (Ej .Add) bT:=by
 intro aj σ H s P α S v u q g a b Q I r y A j B Y;unfold bT at Y;cases J:lstM a S with
 |none=>rw[J] at Y;exact Ao Y
 |some d =>
  cases U:lstM b S with
  |none=>rw[J,U] at Y;exact Ao Y
  |some p =>
   rw[J,U] at Y;obtain⟨C,Y⟩:=xT (X:=X) Y;obtain⟨a,l,M,n,rfl,k,N,E,T⟩:=f7 I r J j;obtain⟨b,o,O,c,rfl,L,G,z,w⟩:=f7 I r U B;cases y;cases A;refine Va E z ?_ (by rw[Be,Be,<- T,<- w,<- zV];exact C)
   rw[Rr];exact mV I r (k.append L) (N.append G) (by rw[Bj];exact C) Y
end
section
variable {X:Cx}
def IH:je X (Ej .Add) bT:=⟨TJ⟩
end
end _D
section
namespace _D
open _L
mutual
def uq:D->Ak PyData
 |.non=>Ab .none
 |.bl b=>Ab (.bool b)
 |.int i=>Ab (.int i)
 |.str x=>Ab (.str x)
 |.tup Q=>(tE Q).map .tuple
 |.lst Q=>(tE Q).map .list
 |.dct0=>Ab (.dict [])
 |_=>none
def tE:Aa D->Ak (Aa PyData)
 |[]=>Ab []
 |d::Q=>(uq d).bind λx=>(tE Q).map (x::·)
end
end _D
end
section
namespace _H
noncomputable def ft (n:Ah)(k:An):An:=(Gd none none k (n:An)).1
def qw (n:Ah)(k:An):An:=(Gd none none k (n:An)).2
def io (n:Ah)(k:An):Ah:=Gx (ft n k) (qw n k) k
def de {α : Type}(xs:Aa α)(k:An):Aa α:=(Cf (io xs.length k)).filterMap λ(m:Ah)=>xs[(ft xs.length k+(m:An)*k).toNat]?
section
variable {prog:Bi}{w:Bz}{A:Bp}{E:ae}{s:Ag}
def fS {sl:Af}{k:An}{t:Tf}{n:Ah}{Q:An × An × Ah->Ag->Prop}(hs:s.heap.IsSliceOf sl .none .none (.int k t))(U:k≠0)
  (h:Q (ft n k,k,io n k) s):Aq (Av prog w) A (Jp (.ref sl) (pure (n:An))) Q E s:=by
 obtain⟨os,J,G,Y⟩:=id hs;unfold Jp Ti;refine Ad (Ad (Ez J Y (x:=.none) rfl (Ad (Ez J Y (x:=.none) rfl (Ad (Ez J Y (x:=.int k t) rfl (Am ?_)))))));refine Ad (slicePart_int ?_);show Aq _ _ (if (k == 0)=true then _ else _) _ _ s
 rw[Bd (by simpa using U)]
 refine Ad (Ry (Ad (Ry (Ad (Am ?_)))));exact Am h
def ji {α : Type}(xs:Aa α)(k:An):(de xs k).length<=io xs.length k:=by
 unfold de;exact Cg (Uq _ _) (by rw[Jy];exact Ax _)
def jc {t sl:Af}{k:An}{Q:ae}(J:Rw s.heap t items)(hs:s.heap.IsSliceOf sl .none .none (.int k u))(h0:k≠0)(h1:k≠1)
  (h:Q (.ref s.heap.objs.size) { s with heap:=s.heap.push { cls:=.type "tuple",data:=.seq (de items.toList k).toArray } })
  (hsz:io items.size k<=sizeLine):Aq (Av prog w) A (Mj (.ref t) (.ref sl)) Q E s:=by
 have Y:sizeOk (.seq (de items.toList k).toArray):=by
  show (de items.toList k).toArray.size<=sizeLine;rw[Be];exact Cg (ji _ _) (by simpa using hsz)
 obtain⟨os,N,G,C⟩:=id hs;have O:s.TypeIs (.ref sl) "slice":=⟨os,N,G⟩;unfold Mj
 try with_reducible refine Ee ?_
 first|refine Ad (Am ?_)|skip
 refine Ad (Tj J.typeIs bU ?_)
 refine Ad (Ed (name:=Ic "__getitem__") J.typeIs Du
  (Ef Du J.typeIs Rq ?_ (Sg _ _)))
 show Aq _ _ (Mu (.ref t) >>= _) _ _ s;refine Ad (Yz J ?_);refine Ad (Mn O ?_);rw[Bg bU]
 refine Ad (fS hs h0 ?_);have U:¬ ((ft items.size k == 0&&k == 1&&io items.size k == items.size)=true):=by
  intro q;rw[Aw,Aw] at q;exact h1 (eq_of_beq q.1.2)
 show Aq _ _ (if (ft items.size k == 0&&k == 1&&io items.size k == items.size)=true then _ else _) _ _ s
 rw[Bd U];have e:((Cf (io items.size k)).filterMap λ(m:Ah)=>items[(ft items.size k+(m:An)*k).toNat]?)=de items.toList k:=by
  unfold de;simp
 rw[e]
 first
  |exact Ad (m:=Fj _) (De (Am ⟨_,rfl,Am h⟩) Y)
  |exact Ad (m:=Fj _) (De (Ad (Am (Am ⟨_,rfl,Am h⟩))) Y)
  |exact Ad (Ad (m:=Fj _) (De (Am (Am ⟨_,rfl,Am h⟩)) Y))
  |exact Ad (Ad (m:=Fj _) (De (Am ⟨_,rfl,Am h⟩) Y))
end
end _H
namespace _D
open _L
def rQ:G2:=λd k S=>match d,k with
 |.tup Q,.int k=>if k≠0/\k≠1/\_H.io Q.length k<=bq then .ok (.tup (_H.de Q k)) S else .bad
 |_,_=>.bad
def ZN (fe Q:DE):DE:=d2 rQ fe Q
section
variable {X:Cx}{e ek:By}{fe fk:DE}{p2 aq:Ev}
def U5 (Y:qM vs us)(l:Aa Ah)(f:Ah->Ah):qM (l.filterMap λm=>vs[f m]?) (l.filterMap λm=>us[f m]?):=by
 induction l with
 |nil=>exact .nil
 |cons m l Q =>
  simp only[Gw];cases h:vs[f m]? with
  |none =>
   have:us[f m]? = none:=by
    rw[Ue] at h ⊢;rw[<- Y.length];exact h
   rw[this];exact Q
  |some v =>
   obtain⟨u,J,r⟩:=Y.get h;rw[J];exact .cons r Q
def VN {K:Ai}{P:Hp}{α:ag}(Y:qE K P α ds vs)(l:Aa Ah)(f:Ah->Ah):qE K P α (l.filterMap λm=>ds[f m]?) (l.filterMap λm=>vs[f m]?):=by
 induction l with
 |nil=>exact .nil
 |cons m l Q =>
  simp only[Gw];cases h:ds[f m]? with
  |none =>
   have:vs[f m]? = none:=by
    rw[Ue] at h ⊢;rw[<- Y.length];exact h
   rw[this];exact Q
  |some d =>
   obtain⟨u,J,r⟩:=Y.get h;rw[J];exact .cons r Q
set_option tactic.hygienic true in
def FL (he:PE X e (tD X fe))(l:PE X ek (tD X fk)):PE X (.Subscript e (.Slice none none (Ab ek) p2) aq) (tD X (ZN fe fk)):=by
 intro aj s σ H Q I h;obtain⟨P,α,j,S,r,re,af⟩:=h;have M:qK X P α ((fe j S).bind λd z=>(fk j z).bind λk u=>rQ d k u) (jf X P α Q):=af;refine Zb (bv (zT he I r re M) λv s1 ⟨x,H1,P1,p,d,z,N,E⟩=>?_);refine wpAny_Slice ?_;rw[Za];refine Am (Am ?_);rw[evalPart_some];refine bv (zT l N.inv N.rel N.env (qW.base N.same N.pre E)) λvk J ⟨y,i,P2,A,k,u,G2,Y⟩=>?_;have Y:=qW.base G2.same G2.pre Y;cases d with
 |tup o =>
  cases k with
  |int k =>
   simp only[rQ] at Y
   split at Y
   .rename_i G
    have g:=au.mono G2.same G2.pre _ _ N.rep;obtain⟨a,B,U,rfl,q,t,O,f,hl,_⟩:=uF G2.inv G2.rel g;cases (show v=Cb a from N.val)
    have w:=G2.rep;simp only[au] at w;subst w;obtain⟨L,rfl⟩:=G2.val;have n:Inv X aj σ i { J with heap:=J.heap.push { cls:=.type "slice",data:=.fields #[.none,.none,.int k L] } }:=G2.inv.kept (t':=J.toks) λb ob q=>Aj _ q
    have C:Rw (J.heap.push { cls:=.type "slice",data:=.fields #[.none,.none,.int k L] }) a U.toArray:=f.keeps λb ob q=>Aj _ q;refine tail_any (ops:=[.ref a,.ref J.heap.objs.size]) (s:={ J with heap:=J.heap.push { cls:=.type "slice",data:=.fields #[.none,.none,.int k L] } }) C.typeIs Du.lookup ?_ (by with_unfolding_all rfl)
    refine _H.jc (s:={ J with heap:=J.heap.push { cls:=.type "slice",data:=.fields #[.none,.none,.int k L] } }) C (Zv ..) G.1 G.2.1 ?_ ?_
    .have c:B.length=U.length:=O.length
     have ld:o.length=B.length:=t.length;have t':qE X.K P2 A (_H.de o k) (_H.de B k):=by
      unfold _H.de;rw[ld];exact VN t _ λm=>(_H.ft B.length k+(m:An)*k).toNat
     have T:qM (_H.de B k) (_H.de U k):=by
      unfold _H.de;rw[c];exact U5 O _ λm=>(_H.ft U.length k+(m:An)*k).toNat
     exact cM n G2.rel t' T (Cg (_H.ji _ _) G.2.2) Y
    .rw[Be,<- hl,<- zV];exact G.2.2
   .exact Ao Y
  |_=>exact Ao Y
 |_=>exact Ao Y
end
end _D
end
namespace _D
open _L
section
variable {X:Cx}{e ek:By}{fe fk:DE}{p2 aq:Ev}
def NH (Q:QE X e fe)(Y:QE X ek fk):QE X (.Subscript e (.Slice none none (Ab ek) p2) aq) (ZN fe fk):=⟨FL Q.1 Y.1⟩
end
end _D
namespace _S
open PySem.W
section
variable {prog:Bi}{w:Bz}{A:Bp}{E:ae}{s:Ag}{K:Type}{is:K->Ac->Prop}{az:K->An}{lt':K->K->Au}{d:K}{pr:K->Prop}{h0:Bt}
def XJ {Q:ae}(kd:Kind prog w is az lt' d pr h0)(hu:A.units+16<Eu)(g:l_ h0 s.heap){l:Af}{vs:ai}(hl:s.heap.IsList l vs.toArray\/s.heap.IsTuple l vs.toArray)(ks:Aa K)(Y:vs.length=ks.length)(J:∀ i v,vs[i]? = Ab v->is (ks.getD i d) v)(hf:∀ k∈ks,pr k)(G:vs.length<=100000)
  (h:∀ (h1 h':Bt) (tk:Ah) (D:Af) (c:Ah) (ps:Aa (K × Ac)),(∀ b o,s.heap.get? b=Ab o->h1.get? b=Ab o)->(∀ b o,h1.get? b=Ab o->h'.get? b=Ab o)->h1.objs.size<=D->h'.get? D=Ab (Ew "list" (ps.map (·.2)).toArray c)->ps.map (·.1)=kJ lt' ks->(∀ p∈ps,is p.1 p.2/\p.2∈vs)->ps.length=ks.length->Q (.ref D) { s with heap:=h',toks:=tk }) :
  Aq (Av prog w) A (call (.builtin "sorted") [.ref l]) Q E s:=by
 refine Ud kind_sorted plain_sorted entry_sorted (args_sorted1 _) ?_;unfold Hz.«sorted»;refine Ad (m:=checkCount "sorted" 1 1 _) (Am ?_);have O:∀ {R:Aa Ac->Ag->Prop},(∀ h1:Bt,(∀ b o,s.heap.get? b=Ab o->h1.get? b=Ab o)->R vs { s with heap:=h1 }) -> Aq (Av prog w) A.in1 (collect (.ref l)) R E s:=λ{R} u=>by
  have e:vs.toArray.toList=vs:=by simp
  rcases hl with⟨o,j,M,n,H⟩|⟨o,j,M,n,H⟩
  .exact wpAny_collect_seq l (.inl rfl) j M H (λh' I=>by rw[e];exact u h' I) (by rw[Be,Gb];lia)
  .exact wpAny_collect_seq l (.inr rfl) j M H (λh' I=>by rw[e];exact u h' I) (by rw[Be,Gb];lia)
 refine Ad (O λh1 U=>?_);refine Ad (Zk ?_ (by rw[Gb];lia))
 have L:(h1.push (Ew "list" vs.toArray 0)).get? h1.objs.size=Ab (Ew "list" vs.toArray 0):=Bl _ rfl;have n0:h0.get? h1.objs.size=none:=by
  cases q:h0.get? h1.objs.size with
  |none=>rfl
  |some o=>exact absurd (Bf (U _ _ (g _ _ q))) (Fe _)
 show Aq _ _ _ _ _ { s with heap:=h1.push (Ew "list" vs.toArray 0),toks:=s.toks }
 refine Ad (Ee (Ef slot_list_sort ⟨_,L,rfl⟩ entry_list_sort (BI (h0:=h0) (is:=is) kd.ord kd.inj (d:=d) (vs:=vs) Y J L (by show A.units+2+8<Eu;lia) G (λt=>kd.cmps Y J hf t) (λb o e=>Aj _ (U b o (g b o e))) n0 λps r a=>⟨_,rfl,?_⟩) (args_list_sort _)))
 refine Am ⟨_,rfl,?_⟩;have hz:(h1.push (Ew "list" vs.toArray 0)).objs.size=h1.objs.size+1:=size_push' ..;have B:∀ b o,b≠h1.objs.size->(h1.push (Ew "list" vs.toArray 0)).get? b=Ab o->((((h1.push (Ew "list" vs.toArray 0)).update h1.objs.size (Fg λ_=>#[])).push (Ew "tuple" vs.toArray 0)).push (Ew "list" #[] 0)).get? b=Ab o:=λb o C e =>
  Aj _ (Aj _ ((Dm _ _ (Gj C)).trans e))
 obtain⟨N,T⟩:∃ N,((h1.push (Ew "list" vs.toArray 0)).update h1.objs.size (Fg λ_=>#[])).get? h1.objs.size=Ab (Ew "list" #[] N):=⟨_,Ny L (λ_=>#[])⟩;have y:=Ny (Aj (Ew "list" #[] 0) (Aj (Ew "tuple" vs.toArray 0) T)) (λ_=>(ps.map (·.2)).toArray)
 have f:(ps.map (·.1)).Perm ks:=by
  have:=r.map (·.1)
  rwa [Ve bA] at this
 refine h h1 _ s.toks h1.objs.size _ ps U (λb o e=>?_) (Ax _) y (fE kd.ord a (gE kd.ord ks) (f.trans (v3 ks).symm)) (λp hp=>?_) (by have:=f.length_eq;rwa [Ap] at this)
 .have C:b≠h1.objs.size:=λz=>by
   subst z;exact absurd (Bf e) (Fe _)
  exact(Dm _ _ (Gj C)).trans (B b o C (Aj _ e))
 .obtain⟨i,N,x⟩:=UC (d:=d) Y (r.mem_iff.mp hp)
  exact⟨x▸J i _ N,Bw N⟩
end
end _S
namespace _D
open _L
section
variable {X:Cx}{aj:aa}{σ: _L.St}{H P:Hp}{α: Aa Af}{S:ap}{s:Ag}
inductive t_ (X:Cx)(pins:aa)(σ : _L.St)(H P:Hp)(α : Aa Af)(ys:Aa D)(u:Ac)(s':Ag):Prop
 |mk (D:Af) (vs:Aa V) (e:u=.ref D) (hn:H D=none) (I:Inv X pins σ (cc H D (.lst vs)) s') (rp:qE X.K P α ys vs):t_ X pins σ H P α ys u s'
def VV {K:Type}{is:K->Ac->Prop}{l:K->An}{lt':K->K->Au}{d:K}{z:K->Prop}(kd:_S.Kind X.prog X.w is l lt' d z s.heap)(hu:X.A.units+64<Eu)(I:Inv X aj σ H s)(r:bf X.K H P α S){a:Af}{its:ai}
  (n:s.heap.IsList a its.toArray\/s.heap.IsTuple a its.toArray) (ks:Aa K) (t:ks.length=its.length) (hk:∀ i v,its[i]? = Ab v->is (ks.getD i d) v) (hn:ks.length<=100000) (f:∀ k∈ks,z k) (fq:K->D)
  (G:∀ k v,is k v->v∈its->∃ O,qJ O v/\au X.K P α (fq k) O) {E:ae} :
  ce X (call (.builtin "sorted") [.ref a]) (t_ X aj σ H P α ((_S.kJ lt' ks).map fq)) E s:=by
 refine _S.XJ kd li (λ_ _ e=>e) n ks t.symm hk f li λj x U D c Y T M y B A hp zb=>?_;have w:Inv X aj σ H { s with heap:=j,toks:=s.toks }:=I.kept T
 have O:∀ (Y:Aa (K × Ac)),(∀ p∈Y,is p.1 p.2/\p.2∈its)->∃ Q,qM Q (Y.map (·.2))/\qE X.K P α ((Y.map (·.1)).map fq) Q:=by
  intro Y
  induction Y with
  |nil=>exact λ_=>⟨[],.nil,.nil⟩
  |cons p Y u =>
   intro h;obtain⟨Q,N,C⟩:=u λq g=>h q (by simp[g])
   obtain⟨v,m,o⟩:=G p.1 p.2 (h p bB).1 (h p bB).2
   exact⟨v::Q,.cons m N,.cons o C⟩
 obtain⟨Q,N,C⟩:=O Y hp;rw[A] at C;have nd:([(D,HO.lst Q)].map (·.1)).Nodup:=by simp
 have b:Inv X aj σ (kK H [(D,HO.lst Q)]) { s with heap:=x,toks:=U }:=Inv.laidL (s:={ s with heap:=j,toks:=s.toks }) (L:=[(D,HO.lst Q)]) (t':=U) w M (λp J=>by
  have:p=(D,HO.lst Q):=by simpa using J
  subst this;exact y) λp J=>by
  have:p=(D,HO.lst Q):=by simpa using J
  subst this;refine⟨?_,Y.map (·.2),c,N,B⟩
  have:=N.length;rw[Ap] at this;rw[this,Gb]
  lia
 exact⟨D,Q,rfl,w.hok.fresh y,b,C⟩
end
end _D
namespace _L
variable {jx:Aa As}{mg mb:ah}
def qBJ (H:Hp):Prop:=∀ b,H b=none\/(∃ o Q,H b=Ab (.frz o (.lst Q)))\/H b=Ab (.tbl #[])
def ze (K:Ai)(H:Hp):Prop:=∀ x∈wQ,∀ c T,Dy K x=Ab (c,T)->H T=Ab (.tbl #[])
structure xz (K:Ai)(h:Bt):Prop where
 at':∀ x∈wQ,∀ c T,Dy K x=Ab (c,T)->Xu h c T/\h.get? T=Ab (Mm #[]) /\ K.lookup T=none
 inj:∀ x∈wQ,∀ y∈wQ,∀ c d T,Dy K x=Ab (c,T)->Dy K y=Ab (d,T)->x=y
theorem K3 {P:Bi}{w:Bz}{K:Ai}{CX:uh}{k:Ah}{fa a:Af}{fd:Gc}{x:As}{sp:Sp}{Q:Ag}{vs:ai}{ns:Aa An}
  (KX:K.In Q.heap) (i:Q.heap.Ns Ch mg) (J:Q.heap.Ns Rm mb) (zs:∀ x:As,x ≠ "__name__" -> mb x=Gn x) (zc:Q.heap.NoLimit) (hg:Q.gens=#[]) (zy:D0 mg Q.heap) (N:xz K Q.heap)
  (M:Q.heap.get? a=Ab { cls:=.type "list",data:=.seq vs.toArray }) (hi:Mi vs ns) (hl:ns.length<=sizeLine) (hr:jt k Tn)
  (F:∀ base:Bt,K.In base->base.Ns Ch mg->nk P w K mg base CX k fa fd [x] sp) (A:∀ (s:Ag) (u:Ac),Pv s fd ⟨[u],[]⟩ [(x,u)])
  (zx:∀ H:Hp,ze K H->pq K H a (ns.map V.int)->sp [.ref a] H (λv _=>v=.bl true) λ_ _ _=>Ex)
  (zz:∀ H e s',CX [] H Q (λ_ _ _=>Ex) e s'->Ex) :
  Ik (Av P w) Tn (.call (.ref fa) ⟨[.ref a],[]⟩) (λr s'=>r=.ok (.ret (.bool true))/\OldK Q.heap s'.heap/\s'.os=Q.os/\Ps s'.gens) Q:=by
 have rv:=U4 hi;have z1:=hi.length
 let g_:Af->Prop:=λb=>∃ x∈wQ,∃ c,Dy K x=Ab (c,b)
 have tab:∀ b,g_ b->Q.heap.get? b=Ab (Mm #[]) /\ K.lookup b=none:=λb ⟨x,U,c,h⟩=>(N.at' x U c b h).2;have L:∀ H:Hp,qBJ H->ze K H->pq K H a (ns.map V.int)->gw P w H Q.heap->(∀ b,H b≠none->b=a\/g_ b)->(H a≠none->K.lookup a=none) ->
   Ik (Av P w) Tn (.call (.ref fa) ⟨[.ref a],[]⟩) (λr s'=>r=.ok (.ret (.bool true))/\OldK Q.heap s'.heap/\s'.os=Q.os/\Ps s'.gens) Q:=by
  intro H hO hT hS p hA hK;have Y:∀ {b:Af} {o:Cp},Q.heap.get? b=Ab o->H b=none->(gV Q.heap H).get? b=Ab o:=λe n=>JP e n;have f:∀ {b:Af} {o:Cp},Q.heap.get? b=Ab o->o.cls≠.none->(o.cls≠.type "list" \/ ∃ j y,o.data=.dict j y)->H b=none:=λ{b o} e c1 c2=>by
   cases q:H b with
   |none=>rfl
   |some u =>
    rcases hA b (by rw[q];simp) with e'|e'
    .subst e'
     rw[M] at e;cases e;rcases c2 with z|⟨j,y,d⟩
     .exact absurd rfl z
     .cases d
    .rw[(tab b e').1] at e;cases e
     exact absurd rfl c1
  have zl:∀ {b:Af} {o:Cp} {j:Az DictEntry} {y:Ah},Q.heap.get? b=Ab o->o.data=.dict j y->H b=none:=λ{b o j y} e d=>by
   cases q:H b with
   |none=>rfl
   |some u =>
    rcases hA b (by rw[q];simp) with e'|e'
    .subst e'
     rw[M] at e;cases e;cases d
    .rw[(tab b e').1] at e;cases e;cases d
  have G:∀ {b:Af} {m:ah},Q.heap.Ns b m->(gV Q.heap H).Ns b m:=λ{b m} ⟨o,j,y,e,d,r⟩=>⟨o,j,y,Y e (zl e d),d,r⟩;have g:K.In (gV Q.heap H):=λb o e=>Y (KX b o e) (by
   cases q:H b with
   |none=>rfl
   |some u =>
    rcases hA b (by rw[q];simp) with e'|e'
    .subst e'
     rw[hK (by rw[q];simp)] at e;cases e
    .rw[(tab b e').2] at e;cases e)
  have hM:Mod K mg (gV Q.heap H):=by
   refine⟨g,G i,⟨mb,G J,zs⟩,let ⟨mc,h1,h2⟩:=zc;⟨mc,G h1,h2⟩,?_,λx U c T h=>?_,N.inj⟩
   .obtain⟨bm,o,b1,b2,b3,b4,b5⟩:=zy
    exact⟨bm,o,b1,b2,Y b3 (f b3 (by rw[b4];nofun) (.inl (by rw[b4];decide))),b4,b5⟩
   .obtain⟨o,vs,zb,tf,E,tg,zv,l,tt,B,I,r⟩:=(N.at' x U c T h).1
    exact⟨o,vs,zb,tf,E,tg,zv,l,tt,Y B (f B (by rw[I];nofun) (.inl (by rw[I];decide))),I,r⟩
  have e0:mx P w K mg (gV Q.heap H) Tn [] Q H:=⟨rfl,hM,λb o e=>TR e,wT (WX _ _),trivial,λb J=>absurd (show b∈([]:ag) from J) bB,p,.of_eq hg⟩
  refine Mp ((F _ g (G i)).run Tn [] Q H ⟨[.ref a],[]⟩ [.ref a] [.ref a] _ _ hr e0 (A Q (.ref a)) (.cons rfl .nil) (zx H hT hS)) λr s' h=>?_;cases r with
  |error e=>exact(zz H e s' h).elim
  |ok fl =>
   cases fl with
   |next=>exact Ao h
   |brk=>exact Ao h
   |cont=>exact Ao h
   |ret u =>
    obtain⟨v,H',os,t,un,C,r',q⟩:=h;have q':v=.bl true:=q;subst q';obtain rfl:u=Fy true:=r';refine⟨rfl,⟨λb o e=>?_,λb o e=>un.there b o e bB⟩,os,t⟩
    cases q:H b with
    |none=>exact .inl (un.keep b o e q (by intro z;exact absurd (show b∈([]:ag) from z) bB) bB)
    |some u =>
     rcases hO b with z|⟨ob,xs,z⟩|z
     .rw[q] at z;cases z
     .have z2:=un.frzs b ob _ z
      obtain⟨B,_⟩:=p b _ z;obtain⟨I,_⟩:=C b _ z2;rw[e] at B;cases B;exact .inl I
     .obtain⟨gx,z2⟩:=un.tbls b _ z
      have B:Q.heap.get? b=Ab (Mm #[]):=p b _ z;have I:s'.heap.get? b=Ab (Mm (#[] ++ gx)):=C b _ z2;rw[e] at B;cases B;rcases hA b (by rw[q];simp) with e'|⟨x,U,c,h⟩
      .subst e';rw[M] at e;cases e
      .exact .inr (.inl ⟨((N.at' x U c b h).1.tab e).isCodeTable,rfl,#[],gx,rfl,I⟩)
 have nT:¬ g_ a:=λh=>by
  have z:=(tab a h).1;rw[M] at z;cases z
 have tT:∀ x∈wQ,∀ c T,Dy K x=Ab (c,T)->g_ T:=λx U c T h=>⟨x,U,c,h⟩;have z3:∀ b,Ih (g_ b):=λb=>Classical.propDecidable _;cases hk:K.lookup a with
 |some o =>
  have e:=KX a o hk;rw[M] at e;cases e;refine L (λb=>if g_ b then Ab (.tbl #[]) else none) (λb=>?_) (λx U c T h=>Bg (tT x U c T h)) (.inr ⟨vs,_,hk,by rw[Ap];exact hl,rv⟩) (λb u z=>?_) (λb z=>?_) λz=>absurd (Bd nT) z
  .by_cases h:g_ b
   .exact .inr (.inr (Bg h))
   .exact .inl (Bd h)
  .by_cases h:g_ b
   .have O:=(Bg h).symm.trans z
    cases O;exact(tab b h).1
   .have O:=(Bd h).symm.trans z
    cases O
  .by_cases h:g_ b
   .exact .inr h
   .exact absurd (Bd h) z
 |none =>
  refine L (λb=>if b=a then Ab (.frz { cls:=.type "list",data:=.seq vs.toArray } (.lst (ns.map V.int))) else if g_ b then Ab (.tbl #[]) else none) (λb=>?_) (λx U c T h=>?_) (.inl (.inr ⟨{ cls:=.type "list",data:=.seq vs.toArray },Bg rfl⟩)) (λb u z=>?_) (λb z=>?_) λ_=>hk
  .by_cases J:b=a
   .exact .inr (.inl ⟨_,_,Bg J⟩)
   .by_cases h:g_ b
    .exact .inr (.inr ((Bd J).trans (Bg h)))
    .exact .inl ((Bd J).trans (Bd h))
  .have h':=tT x U c T h
   exact(Bd (λ(z:T=a)=>nT (z▸h'))).trans (Bg h')
  .by_cases J:b=a
   .have O:=(Bg J).symm.trans z
    cases O;subst J;exact⟨M,by rw[Ap];exact hl,vs,_,rv,M⟩
   .by_cases h:g_ b
    .have O:=((Bd J).trans (Bg h)).symm.trans z
     cases O;exact(tab b h).1
    .have O:=((Bd J).trans (Bd h)).symm.trans z
     cases O
  .by_cases J:b=a
   .exact .inl J
   .by_cases h:g_ b
    .exact .inr h
    .exact absurd ((Bd J).trans (Bd h)) z
def eU (q:Bi)(K:Ai):Au:=wQ.all λx=>match Dy K x with
 |none=>true
 |some (_,T)=>((recsOf q).find? λe=>e.name == x).isSome&&((K.lookup T).isNone&&wQ.all λy=>match Dy K y with
  |none=>true
  |some (_,U)=>x == y||!decide (T=U))
def L8 {Y:ExcName->Ak Ac}{K:Ai}(T:Top q jx Y mg mb h)(X:K.In h)(c:eU q K=true):xz K h:=by
 unfold eU at c;have g:∀ x∈wQ,∀ d U,Dy K x=Ab (d,U)->((recsOf q).find? λe=>e.name == x).isSome=true/\(K.lookup U).isNone=true/\(wQ.all λy=>match Dy K y with
  |none=>true
  |some (_,V)=>x == y||!decide (U=V))=true:=λx Q d U e=>by
  have z:=Bn.mp c x Q;rw[e] at z;simpa only [Aw] using z
 refine⟨λx Q d U e=>?_,λx Q y J d I U L O=>?_⟩
 .obtain⟨C,E,_⟩:=g x Q d U e
  obtain⟨r,N⟩:=Iw.mp C;obtain⟨G,B⟩:=PySem.W.tab_of T X N e;exact⟨G,B,by simpa using E⟩
 .have z:=Bn.mp (g x Q d U L).2.2 y J
  rw[O] at z;simpa using z
def LL {l:AbE}{n k:Ah}{q:Bi}{jx:Aa As}{XP:(As->Ak Ac)->Bt->Prop}{z:Bz->Bt->Prop}{d:DefRec}{K:Params->Ai}{CX:Bz->uh}{sp:Bz->Sp}{x:As}
  (b:l.most=Ab n) (T:n<=sizeLine) (L:d.params.defaults=[]) (hr:jt k Tn) (i:∀ p,eU q (K p)=true)
  (hY:∀ (w:Bz) (h:Bt),z w h->(K w.params).In h)
  (F:∀ (w:Bz) (mg:ah) (C:Af) (h:Bt),(K w.params).In h->h.Ns Ch mg->mg d.name=Ab (.ref C) ->
   ∃ fd:Gc,(∀ (s:Ag) (u:Ac),Pv s fd ⟨[u],[]⟩ [(x,u)]) /\
    ∀ base:Bt,(K w.params).In base->base.Ns Ch mg->nk l.prog w (K w.params) mg base (CX w) k C fd [x] (sp w))
  (I:∀ (w:Bz) (H:Hp) (a:Af) (O:Aa An),O.length<=n->ze (K w.params) H->pq (K w.params) H a (O.map V.int)->sp w [.ref a] H (λv _=>v=.bl true) λ_ _ _=>Ex)
  (A:∀ (w:Bz) (H:Hp) (s:Ag) (e:Ac) (s':Ag),CX w [] H s (λ_ _ _=>Ex) e s'->Ex) :
  Ac2 q jx XP z l.row.toRowW d [] (λf vs=>AbI f vs):=by
 refine _A.ni b L λw M N mg mb C o pm cd zb a vs O G Y ho hd zc B U J Q hg=>?_;have E:=hY w _ Y;obtain⟨fd,j,m⟩:=F w mg C _ E G.T.g B;exact K3 E G.T.g G.T.b G.T.builtins G.T.nolimit hg (let ⟨bm,ob,t,y,b3,r,b5,b6⟩:=G.T.bmain;⟨bm,ob,t,y,b3,r,b5,b6⟩) (L8 G.T E (i _)) U J (Cg Q T) hr m j (λH g c=>I w H a O Q g c) λH e s'=>A w H N e s'
end _L
namespace _D
open _L
variable {K:Ai}{mg:ah}
def AO (X:K.In h)(G:h.Ns Ch mg){x:As}{st:Fb}{ps:Aa As}{f:Af}{L:Ac}{C J:Ak Af}{N:Az (Ak Ac)}{kV Y O Q U:Ac}
  (a:Dr K Ch x=Ab (Ab (.ref f)))
  (l:K.lookup f=Ab ⟨L,C,.func (He x x (yF st) (zR st) (qH st) .none kV Y O J Q U),N⟩) (c:Mf K Q x=true) (k:Fd K (.ref f)=true)
  (B:∀ (kV Y O:Ac) (J:Ak Af) (Q U:Ac) (us:ai),us.length=ps.length->Wd (He x x (yF st) (zR st) (qH st) .none kV Y O J Q U) ⟨us,[]⟩=pure (ps.zip us)):tw K mg x st ps:=
 have F:=RY (st:=st) l c k
 ⟨f,_,Zl X G a,F,F.binds B⟩
noncomputable def eS (K:Ai)(C:Af):Au:=
 decide (Ou K (.ref C) "__getattribute__" = Ab (Ab (.builtin "BaseException.__getattribute__")))&&decide (Ou K (.ref C) "__getattr__" = Ab none)
 && decide (Ou K (.ref C) "__class__" = Ab (Ab (.builtin "object.__class__")))&&decide (Yv K C (.type "object")=Ab true)&&decide (Yv K C (.type "BaseException")=Ab true)
 && (PySem.W.clsIn K C).isSome&&decide (Me K (.ref C) (.type "ValueError")=Ab true)
noncomputable def UP (K:Ai):Au:=
 decide (Aa1 K (.builtin "object.__class__") "__get__" = Ab (Ab (.builtin "getset_descriptor.__get__")))&&decide (Ab8 K (.builtin "object.__class__")=Ab true)
def DW (K:Ai)(Q:ag):Au:=Q.all λC=>Q.all λB=>decide (Me K (.ref C) (.ref B)=Ab (C == B))
def DZ {Y:ag}(h1:Y.all (eS K)=true)(h2:UP K=true)(h3:DW K Y=true):uf K Y:=by
 have g:=h2;unfold UP at g;simp only[Aw,Cc] at g;have J:∀ C∈Y,eS K C=true:=Bn.mp h1;refine⟨λC Q=>?_,λC Q B T=>?_,λC Q=>?_⟩
 .have e:=J C Q
  unfold eS at e;simp only[Aw,Cc] at e;obtain⟨⟨⟨⟨⟨⟨N,O⟩,L⟩,E⟩,G⟩,U⟩,I⟩:=e;exact⟨N,O,L,g.1,g.2,E,G,U⟩
 .have e:=Bn.mp (Bn.mp h3 C Q) B T
  exact Ce e
 .have e:=J C Q
  unfold eS at e;simp only[Aw,Cc] at e;exact e.2
def qBT (K:Ai)(Q:ai)(A:Af):Au:=Q.all λv=>decide (Kg K v (.ref A)=Ab true)
def qBR (K:Ai)(Q:ag)(A:Af):Au:=Q.all λC=>mH K C A
def qBS (K:Ai)(Q:ag):Au:=Q.all λC=>Fd K (.ref C)
def rX (K:Ai):Sp:=λU H Q E=>ze K H/\∃ a Y,U=[.ref a]/\pq K H a (Rh V.int Y)/\Y.length<=63/\∀ J,Q (.bl true) J
theorem aJ {P:Hp}{α:ag}:∀ Q:Aa An,qE K P α (Q.map D.int) (Q.map V.int)
 |[]=>.nil
 |n::Q=>.cons (by simp only[au]) (aJ Q)
def vw (H:Hp):Hp:=λb=>match H b with
 |some (.tbl _)=>none
 |u=>u
def MW {P:Bi}{w:Bz}{st:Fb}{k:Ah}{x:As}(hs:tw K mg "law" st [x])(p:mg "law" = Ab (.ref r))
  (B:∀ (kV U y:Ac) (A:Ak Af) (J L:Ac) (s:Ag) (v:Ac),Pv s (He "law" "law" (yF st) (zR st) (qH st) .none kV U y A J L) ⟨[v],[]⟩ [(x,v)])
  (O:∀ base:Bt,∃ F,eC P w K mg base true k "law" [x] F/\∀ N:Aa An,N.length<=63->∃ S,F [.lst (N.map D.int)] [] = .ok (.bl true) S) :
  ∃ fd:Gc,(∀ (s:Ag) (v:Ac),Pv s fd ⟨[v],[]⟩ [(x,v)])/\∀ base:Bt,K.In base->base.Ns Ch mg->nk P w K mg base (nr P w) k r fd [x] (rX K):=by
 obtain⟨f,fd,d,F,hb⟩:=hs;cases p.symm.trans d;refine⟨fd,?_,λbase _ _=>?_⟩
 .obtain⟨oc,od,kV,U,y,A,J,L,zl,rfl,_,_⟩:=F.ex
  exact B kV U y A J L
 .obtain⟨G,⟨f',zc,j,_,m,M,X⟩,hG⟩:=O base
  cases d.symm.trans j;cases M.one (bZ F);refine(X.imp λvs H Q E h=>?_).ok;obtain⟨l,a,N,rfl,n,M,k⟩:=h;obtain⟨S,e⟩:=hG N M;have Y:∀ (b:Af) (u:HO),H b=Ab u->(∀ C,u≠.tbl C)->vw H b=Ab u:=λb u q h=>by
   unfold vw;rw[q];cases u with
   |tbl C=>exact absurd rfl (h C)
   |_=>rfl
  have I:pq K (vw H) a (Rh V.int N):=by
   rcases n with (h|⟨o,h⟩)|h
   .exact .inl (.inl (Y _ _ h λ_ z=>by cases z))
   .exact .inl (.inr ⟨o,Y _ _ h λ_ z=>by cases z⟩)
   .exact .inr h
  have sub:qF (vw H) H:=λb u q=>by
   unfold vw at q;cases z:H b with
   |none=>rw[z] at q;cases q
   |some v =>
    rw[z] at q;cases v with
    |tbl C=>cases q
    |_=>exact q
  refine⟨rfl,vw H,[],[.lst (N.map D.int)],[],⟨λx g c T h=>⟨#[],l x g c T h,by unfold vw;rw[l x g c T h],by simp,trivial,λaq cv z=>by cases z⟩,sub,rfl,.nil,by simp,by simp,by simp⟩,.cons (fO I (aJ N)) .nil,?_⟩
  rw[e];intro v i P' zb _ _ _ t;simp only[au] at t;subst t;exact k i
def qA2 {l:AbE}{U:Aa As}{B:(As->Ak Ac)->Bt->Prop}{J:Bz->Bt->Prop}{d:DefRec}{K:Params->Ai}{k:Ah}{x:As}(G:l.most=Ab 63)(Q:d.params.defaults=[])(N:jt k Tn)(E:∀ p,eU q (K p)=true)
  (L:∀ (w:Bz) (h:Bt),J w h->(K w.params).In h)
  (F:∀ (w:Bz) (mg:ah) (Y:Af) (h:Bt),(K w.params).In h->h.Ns Ch mg->mg d.name=Ab (.ref Y) ->
   ∃ fd:Gc,(∀ (s:Ag) (u:Ac),Pv s fd ⟨[u],[]⟩ [(x,u)])/\∀ base:Bt,(K w.params).In base->base.Ns Ch mg->nk l.prog w (K w.params) mg base (nr l.prog w) k Y fd [x] (rX (K w.params))) :
  Ac2 q U B J l.row.toRowW d [] (λf vs=>AbI f vs):=
 _L.LL (n:=63) (k:=k) (x:=x) (CX:=λw=>nr l.prog w) (sp:=λw=>rX (K w.params)) G bU Q N E L F (λ_ _ a T I O C=>⟨O,a,T,rfl,C,I,λ_=>rfl⟩) λw H s e A h=>by
  obtain⟨_,_,_,_,_,_,_,_,_,_,_,_,z⟩:=h;exact z
end _D
namespace _D
variable {us:ai}
def _x (h:us.length=0):us=[]:=Re h
def yr {n:Ah}(h:us.length=n+1):∃ a vs,us=a::vs/\vs.length=n:=by
 cases us with
 |nil=>exact absurd h bB
 |cons a vs=>exact⟨a,vs,rfl,by simpa using h⟩
def W_ (h:us.length=1):∃ a,us=[a]:=by
 obtain⟨a,Y,rfl,Q⟩:=yr h;exact⟨a,by rw[_x Q]⟩
def V_ (h:us.length=2):∃ a b,us=[a,b]:=by
 obtain⟨a,Y,rfl,Q⟩:=yr h;obtain⟨b,rfl⟩:=W_ Q;exact⟨a,b,rfl⟩
def U_ (h:us.length=3):∃ a b c,us=[a,b,c]:=by
 obtain⟨a,Y,rfl,Q⟩:=yr h;obtain⟨b,c,rfl⟩:=V_ Q;exact⟨a,b,c,rfl⟩
def _w (h:us.length=4):∃ a b c d,us=[a,b,c,d]:=by
 obtain⟨a,Y,rfl,Q⟩:=yr h;obtain⟨b,c,d,rfl⟩:=U_ Q;exact⟨a,b,c,d,rfl⟩
end _D
namespace _D
open _L
variable {us:ai}{bx:Aa D}{E:ae}{c':Af}{j:Ah}{oc:Cp}{sc:Ep}{H':Hp}{ak:qD}
def BV (F:DF):∃ G:DF,G=F:=⟨F,rfl⟩
def sh (F:DF):DF:=Qb (BV F)
def zM (F:DF):sh F=F:=Lx (BV F)
def zt:Ak Ip->Au
 |some .local => true
 |some .cell=>true
 |some .free=>true
 |_=>false
noncomputable def yx:Ak Ip->Au
 |some .local => true
 |some .cell=>true
 |_=>false
def isG:Ak Ip->Au
 |some .globalImplicit=>true
 |_=>false
noncomputable def xj (x:As):Au:=!(x == ("__debug__" : As))&&(!(x == ("__classdict__" : As))&&!decide (x = "__name__"))
def qg (X:Cx)(x:As):Au:=isG (X.env.kindOf x)&&xj x
def zp (v:Ac)(x:As):Au:=decide (Gn x=Ab v)
def kF (sc:Ep):Aa As:=sc.names.filterMap λy=>if yx (Ab y.2) then Ab y.1 else none
def yQ (sc:Ep):Aa As:=(sc.names.filterMap λy=>if yx (Ab y.2)&&!(y.1 == (".0" : As)) then Ab y.1 else none)++sc.names.filterMap λy=>if y.2 == .free then Ab y.1 else none
def Ck (b:Au):Prop:=b=true
def ck {b:Au}(h:b=true:=by kernel_rfl):Ck b:=h
structure sy (F:DF)(P:Bi)(w:Bz)(K:Ai)(mg:ah)(base:Bt)(cm:Au)(k:Ah)(x:As)(n:Ah):Prop where
 get:oq P w K mg base cm k x n F
def wn (X:Cx)(m:Ah)(x:As):Au:=decide (X.N[m]? = Ab x)&&(yx (X.env.scope.names.lookup x)&&(decide X.N.Nodup&&(X.fn x||decide (X.env.scope.names.lookup x=Ab .local))))
noncomputable def xi (X:Cx)(m:Ah)(x:As):Au:=decide (X.N[m]? = Ab x)&&decide (X.env.scope.names.lookup x=Ab .local)
def rL (Q:Ep)(Y:Aa As)(am:Ep)(bw:Aa (Ak Ah)):Au:=
 decide (am.kind=.function)&&(decide (∀ y∈am.names,y.2=.local -> am.names.lookup y.1=Ab .local)&&(decide (∀ y∈am.names,y.2=.cell->am.names.lookup y.1=Ab .cell)&&(decide (∀ y∈am.names,y.2=.free->Q.names.lookup y.1=Ab .cell\/Q.names.lookup y.1=Ab .free)
 && (decide (∀ y∈am.names,y.2=.free->am.names.lookup y.1=Ab .free)&&(decide (bw.length=(yQ am).length)&&(((bw.zip (yQ am)).all λp=>match p.1 with|none=>true|some i=>Y[i]? == Ab p.2&&am.names.lookup p.2 == Ab .free)&&decide (yQ am).Nodup))))))
noncomputable def xq (N P:Aa As)(sc:Ep):Au:=
 decide (sc.kind=.function)&&(decide (sc.isCoroutine=false)&&(decide (sc.isGenerator=false)&&(decide N.Nodup&&(decide (N.take P.length=P)&&(decide (∀ x∈P,sc.names.lookup x=Ab .local \/ sc.names.lookup x=Ab .cell)&&decide (∀ y∈sc.names,y.2≠.free))))))
def eX (h:rL Q Y am bw=true):d_ Q Y am (yQ am) bw:=by
 simp only[rL,Aw,Cc] at h;obtain⟨a,b,c,d,e,f,g,k⟩:=h;exact⟨a,b,c,d,e,f,g,k⟩
def cE {N P:Aa As}(h:xq N P sc=true):dc N P sc:=by
 simp only[xq,Aw,Cc] at h;obtain⟨a,b,c,d,e,f,g⟩:=h;exact⟨a,b,c,d,e,f,g⟩
section
variable {X:Cx}{a b c e cw tg be:By}{df ay:Aa By}{f g:DS}{fa:DE}{f2:nq}{dg:DG}{t:DT}{kk:DK}{fu:Aa Eg}{am:Ep}{bw:Aa (Ak Ah)}{mm:Au}{l:Ah}{y z:As}{nj:G2}{es:Aa By}{fA:DA}{x:As}{p aq:Ev}{cm:Au}{k n m:Ah}{F:DF}
def oF (h:zt (sc.names.lookup x)=true):oy sc x:=by
 unfold oy
 revert h
 cases sc.names.lookup x with
 |none=>intro h;cases h
 |some y=>cases y <;> intro h <;> first|cases h;done|exact .inl rfl|exact .inr (.inl rfl)|exact .inr (.inr rfl)
def ME (h:yx (sc.names.lookup x)=true):_L.Loc sc x:=by
 unfold _L.Loc
 revert h
 cases sc.names.lookup x with
 |none=>intro h;cases h
 |some y=>cases y <;> intro h <;> first|cases h;done|exact .inl rfl|exact .inr rfl
def g6 (h:xj x=true):(x == ("__debug__" : As))=false/\(x == ("__classdict__" : As))=false/\x ≠ "__name__":=by
 unfold xj at h;rw[Aw,Aw] at h;exact⟨by simpa using h.1,by simpa using h.2.1,by simpa using h.2.2⟩
def wW (h:qg X x=true):Gl X x/\(x == ("__debug__" : As))=false/\x ≠ "__name__":=by
 have h:=(Aw _ _).mp h;refine⟨?_,(g6 h.2).1,(g6 h.2).2.2⟩;have z:=h.1;unfold Gl
 revert z
 cases X.env.kindOf x with
 |none=>intro z;cases z
 |some y=>cases y <;> intro z <;> first|cases z;done|rfl
def nR (h:wn X m x=true):X.N[m]? = Ab x/\_L.Loc X.env.scope x/\X.N.Nodup/\(X.fn x=true\/X.env.scope.names.lookup x=Ab .local):=by
 simp only[wn,Aw,Cc,Ra] at h;exact⟨h.1,ME h.2.1,h.2.2⟩
def g9 (h:xi X m x=true):X.N[m]? = Ab x/\X.env.scope.names.lookup x=Ab .local:=by
 simp only[xi,Aw,Cc] at h;exact h
def BD (h:Ck (qg X x)):Gl X x:=(wW h).1
def aV (h:Ck (decide (X.N[m]? = Ab x)&&(zt (X.env.scope.names.lookup x)&&xj x))):QE X (.Name x aq) (qB m):=by
 unfold Ck at h;simp only[Aw,Cc] at h;exact A0 m h.1 (oF h.2.1) (g6 h.2.2).1 (g6 h.2.2).2.1
def _g {nm:Es}(h:Ck (qg X x))(hm:X.mg x=none)(Q:Ck (zp (.type nm) x)):QE X (.Name x aq) (dC (.ty nm)):=
 have h:=wW h
 NB h.1 hm (Ce Q) h.2.2 h.2.1
def aCl (h:Ck (qg X x))(hm:X.mg x=Ab (.ref C)/\Fd X.K (.ref C)=true):QE X (.Name x aq) (dC (.obj C)):=
 have h:=wW h
 CQ h.1 hm.1 hm.2 h.2.1
def aGi (h:Ck (qg X x))(hm:∃ t,X.mg x=Ab (.int v t)):QE X (.Name x aq) (dC (.int v)):=
 have h:=wW h
 NF h.1 hm h.2.1
abbrev tu (X:Cx)(e:By)(es:Aa By)(aq:Ev):Prop:=Bk (e::es) X.env=(false,eval e X.env)::Bk es X.env/\(Ga aq (Bk es X.env)).any (·.1)=false
def aN (G:sy F X.prog X.w X.K X.mg X.base cm k x n)(Q:ax cm k X.A)(J:jg X)(h:Ck (qg X x))(Y:QA X (e::es) fA)(s:tu X e es aq):QE X (.Call (.Name x p) (e::es) [] aq) (qN n F fA):=
 have h:=wW h
 _I G.1 Q J h.1 Y h.2.1 s.1 s.2
def aO (G:sy F X.prog X.w X.K X.mg X.base cm k x n)(Q:ax cm k X.A)(h:Ck (qg X x))(Y:QA X (e::es) fA)(s:tu X e es aq):QE X (.Call (.Name x p) (e::es) [] aq) (qN n (qf F) fA):=
 have h:=wW h
 _G G.1 Q h.1 Y h.2.1 s.1 s.2
def aB {id:Es}(Q:fx X (.builtin id) F)(h:Ck (qg X x))(hm:X.mg x=none)(J:Ck (zp (.builtin id) x))(Y:QA X (e::es) fA)(s:tu X e es aq):QE X (.Call (.Name x p) (e::es) [] aq) (qG F fA):=
 have h:=wW h
 GE Q h.1 hm (Ce J) Y h.2.2 h.2.1 s.1 s.2
def aT (Q:fx X (.type T) F)(h:Ck (qg X x))(hm:X.mg x=none)(J:Ck (zp (.type T) x))(Y:QA X (e::es) fA)(s:tu X e es aq):QE X (.Call (.Name x p) (e::es) [] aq) (qG F fA):=
 have h:=wW h
 V8 Q h.1 hm (Ce J) Y h.2.2 h.2.1 s.1 s.2
def aC (S:Ck (rL X.env.scope X.N am bw))(G:X.calm=true)(hi:vj X tg be f2)(O:∀ U C J Q Y,QG (z0 X (yQ am) am U C J Q Y) tg dg)(B:∀ U C J Q Y,vh (z0 X (yQ am) am U C J Q Y) df t)
  (has:∀ g',(⟨tg,be,df,0⟩::fu:Aa Eg)[0+1]? = Ab g'->g'.is_async=0)
  (N:∀ U C J Q Y,QK ko (z0 X (yQ am) am U C J Q Y) (λaw=>zZ false cw (⟨tg,be,df,0⟩::fu) am aq 0 aw (z0 X (yQ am) am U C J Q Y).env) kk) (hs:∀ x,El be X.env x=pure x) :
  QE X (.ListComp cw (⟨tg,be,df,0⟩::fu) am aq) (zH mm bw f2 dg t kk):=GG G (eX S) hi O B has N hs
def aCs {N J:Ev}(hsw:Pb (.ListComp cw (⟨tg,be,df,0⟩::fu) am aq) (Ab (.Name y N)) J.line X.env=pure true)(S:Ck (rL X.env.scope X.N am bw))(L:Ck (wn X m y))(O:X.calm=true)(hi:vj X tg be f2)(B:∀ G C U Q Y,QG (z0 X (yQ am) am G C U Q Y) tg dg)(I:∀ G C U Q Y,vh (z0 X (yQ am) am G C U Q Y) df t)
  (has:∀ g',(⟨tg,be,df,0⟩::fu:Aa Eg)[0+1]? = Ab g'->g'.is_async=0)
  (T:∀ G C U Q Y,QK ko (z0 X (yQ am) am G C U Q Y) (λaw=>zZ false cw (⟨tg,be,df,0⟩::fu) am aq 0 aw (z0 X (yQ am) am G C U Q Y).env) kk) (hs:∀ x,El be X.env x=pure x) :
  QS X (.Assign [.Name y N] (.ListComp cw (⟨tg,be,df,0⟩::fu) am aq) J) (qS (zH mm bw f2 dg t kk) (bh m)):=
 have h:=nR L
 GM O h.2.2.1 (eX S) hi B I has T h.1 h.2.1 h.2.2.2 hsw hs
def _e (h:Ck (wn X m x)):QG X (.Name x aq) (bh m):=
 have h:=nR h
 NI h.2.2.1 h.1 h.2.1 h.2.2.2
def _d (hs:Pb e (Ab (.Name x Q)) aq.line X.env=pure false)(Y:QE X e fa)(h:Ck (wn X m x)):QS X (.Assign [.Name x Q] e aq) (qS fa (bh m)):=
 have h:=nR h
 AA h.2.2.1 Y h.1 h.2.1 hs h.2.2.2
def aAu (h:Ck (wn X m x))(Y:QE X e fa)(J:B_ X op nj):QS X (.AugAssign (.Name x Q) op e aq) (bJ m nj fa):=
 have h:=nR h
 A7 h.2.2.1 Y J h.1 h.2.1 h.2.2.2
def aP2 {Q Y J:Ev} {kt k2 pt2} (h:Ck (decide X.N.Nodup&&(xi X m x&&(xi X l y&&!decide (m=l))))) (U:X.calm=true) (G:QA X [a,b] fA)
  (hw:Mz [.Tuple [.Name x Q,.Name y Y] kt J] (.Tuple [a,b] k2 pt2) X.env=pure (Ab [x,y])) (hs:Na [.Tuple [.Name x Q,.Name y Y] kt J] (.Tuple [a,b] k2 pt2) aq.line X.env=pure false) :
  QS X (.Assign [.Tuple [.Name x Q,.Name y Y] kt J] (.Tuple [a,b] k2 pt2) aq) (uM m l fA):=by
 unfold Ck at h;simp only[Aw,Cc,Lv,Kt] at h;exact A9 U h.1 G (g9 h.2.1).1 (g9 h.2.2.1).1 h.2.2.2 (g9 h.2.1).2 (g9 h.2.2.1).2 hw hs
def aRs {U Q:Ev}(h:Ck (qg X x))(Y:X.calm=true)(G:jg X)(hm:∃ O,X.mg x=Ab (.ref C)/\mH X.K C O=true)(J:QA X (e::ay) fA)(s:tu X e ay Q) :
  QS X (.Raise (Ab (.Call (.Name x U) (e::ay) [] Q)) none aq) (gC (.ref C) fA):=
 have h:=wW h
 let ⟨_,hm,N⟩:=hm
 GN Y G h.1 hm N J h.2.1 s.1 s.2
def aTr {nm:As}{Y:Fb}{Q:Aa Fb}{B J:Ev}{C:ai}(h:Ck (qg X x&&(xi X m nm&&(decide X.N.Nodup&&decide (X.N.length=n)))))(L:jg X)(hm:∃ U,X.mg x=Ab (.ref U)/\∀ c∈C,Kg X.K c (.ref U)=Ab true)(T:∀ E N,ki (Cx.tryIn X E N)->QB (Cx.tryIn X E N) O f)(hs:∀ e,QB (Cx.suite X e) (Y::Q) g) :
  QS X (.Try O [.ExceptHandler (Ab (.Name x B)) (Ab nm) (Y::Q) J] [] [] aq) (tF n m C f g):=by
 unfold Ck at h;simp only[Aw,Cc] at h;obtain⟨U,hm,G⟩:=hm;exact AB L T hs (wW h.1).1 hm G h.2.2.1 (g9 h.2.1).1 (g9 h.2.1).2 (wW h.1).2.1 h.2.2.2
end
structure xx (K:Ai)(mg:ah)(tp:Ah->Fb)(tab:Aa (As × Ah × Aa As))(bl:Aa As)(oh qe:Aa (As × Af))(cs:ai)(exl:ag)(qq:Aa (As × An)):Prop where
 src:∀ (j:Ah) {x:As} {i:Ah} {ps:Aa As},tab[j]? = Ab (x,i,ps)->tw K mg x (tp i) ps
 nb:∀ {x:As},Ck (bl.contains x)->mg x=none
 cl:∀ {x:As} {C:Af},oh.lookup x=Ab C->mg x=Ab (.ref C)/\Fd K (.ref C)=true
 rz:∀ {x:As} {C:Af},qe.lookup x=Ab C->∃ Ae,mg x=Ab (.ref C)/\mH K C Ae=true
 ct:∃ C0,mg "FarError" = Ab (.ref C0)/\∀ c∈cs,Kg K c (.ref C0)=Ab true
 cls:uf K exl
 gi:∀ {x:As} {v:An},qq.lookup x=Ab v->∃ t,mg x=Ab (.int v t)
section
variable {K:Ai}{mg:ah}{cm:Au}{tp:Ah->Fb}{tab:Aa (As × Ah × Aa As)}{bl:Aa As}{oh qe:Aa (As × Af)}{cs:ai}{sr:ag}{qq:Aa (As × An)}{x:As}{i m:Ah}{ps:Aa As}{F:DF}{g:DS}
def dq (P:Bi)(w:Bz)(base:Bt)(k j:Ah)(T:xx K mg tp tab bl oh qe cs sr qq)(J:tab[j]? = Ab (x,i,ps))(h:Ck (xq (kF (qH (tp i))) ps (qH (tp i))&&decide ((kF (qH (tp i))).length=m)))(U:F=qO m g)
  (Y:∀ (f:Af) (Q:Ac) (A:Bp) (G:Aa Ix) (s:Ag) (H:Hp) (E:XK),gH K x Q->ax cm k (A.deeper (Gu x (qH (tp i)) s.heap.objs.size f Q)) ->
   QB (kw cm P w K mg base (kF (qH (tp i))) x (qH (tp i)) f Q A G s H E) (zR (tp i)) g):sy F P w K mg base cm (k+1) x ps.length:=by
 unfold Ck at h;simp only[Aw,Cc] at h;obtain⟨h,rfl⟩:=h;exact⟨U▸qBW (T.src j J) (cE h) rfl Y⟩
def dqP {P:Bi}{w:Bz}{base:Bt}(k j:Ah)(T:xx K mg tp tab bl oh qe cs sr qq)(J:tab[j]? = Ab (x,i,ps))(h:Ck (xq (kF (qH (tp i))) ps (qH (tp i))&&decide ((kF (qH (tp i))).length=m)))
  (Y:∀ (f:Af) (Q:Ac) (A:Bp) (U:Aa Ix) (s:Ag) (H:Hp) (E:XK),gH K x Q->ax cm k (A.deeper (Gu x (qH (tp i)) s.heap.objs.size f Q)) ->
   QB (kw cm P w K mg base (kF (qH (tp i))) x (qH (tp i)) f Q A U s H E) (zR (tp i)) g):eC P w K mg base cm (k+1) x ps (qO m g):=by
 unfold Ck at h;simp only[Aw,Cc] at h;obtain⟨h,rfl⟩:=h;exact O9 (T.src j J) (cE h) rfl Y
end
def hv {a b:Prop}(f:a->b)(h:a):b:=f h
inductive wc (K:Ai)(x:As)(st:Fb)(ps:Aa As):Prop
 |mk {f:Af} {oc:Ac} {od an:Ak Af} {osl:Az (Ak Ac)} {kV doc pm cdv ct:Ac} (a:Dr K Ch x=Ab (Ab (.ref f)))
  (l:K.lookup f=Ab ⟨oc,od,.func (He x x (yF st) (zR st) (qH st) .none kV doc pm an cdv ct),osl⟩) (c:Mf K cdv x=true) (k:Fd K (.ref f)=true):wc K x st ps
def Z7 (K:Ai)(tp:Ah->Fb):Aa (As × Ah × Aa As)->Prop
 |[]=>Qn
 |(x,i,Q)::t=>wc K x (tp i) Q/\Z7 K tp t
def zk (tp:Ah->Fb):Aa (As × Ah × Aa As)->Prop
 |[]=>Qn
 |(x,i,J)::t=>(∀ (kV Y N:Ac) (U:Ak Af) (Q G:Ac) (us:ai),us.length=J.length->Wd (He x x (yF (tp i)) (zR (tp i)) (qH (tp i)) .none kV Y N U Q G) ⟨us,[]⟩=pure (J.zip us))/\zk tp t
def Z2 (K:Ai):Aa (As × Af)->Prop
 |[]=>Qn
 |(x,C)::t=>Dr K Ch x=Ab (Ab (.ref C))/\Z2 K t
def Z3 (K:Ai):Aa (As × An)->Prop
 |[]=>Qn
 |(x,v)::t=>(∃ k,Dr K Ch x=Ab (Ab (.int v k)))/\Z3 K t
def qBd:Ak (Ak Ac)->Au
 |some none=>true
 |_=>false
section
variable {K:Ai}{h:Bt}{mg:ah}{tp:Ah->Fb}
theorem QL (X:K.In h)(G:h.Ns Ch mg):∀ (tab:Aa (As × Ah × Aa As)),Z7 K tp tab->zk tp tab->∀ (j:Ah) {x:As} {i:Ah} {ps:Aa As},tab[j]? = Ab (x,i,ps)->tw K mg x (tp i) ps
 |[],_,_,_,_,_,_,e=>by cases e
 |(x,i,ps)::t,H,B,0,_,_,_,e=>by
  cases e;obtain⟨a,l,c,k⟩:=H.1;exact AO X G a l c k B.1
 |(x,i,ps)::t,H,B,j+1,_,_,_,e=>QL X G t H.2 B.2 j e
theorem y9 {β:Type}{p:As->β->Prop}{C:β}:∀ {l:Aa (As × β)},(∀ y∈l,p y.1 y.2)->l.lookup x=Ab C->p x C
 |[],_,e=>by cases e
 |(y,b)::t,H,e=>by
  rw[Ji] at e;cases q:x == y with
  |true =>
   rw[q] at e;cases e;rw[eq_of_beq q];exact H (y,_) (.head _)
  |false =>
   rw[q] at e;exact y9 (λz Q=>H z (.tail _ Q)) e
theorem bO (X:K.In h)(G:h.Ns Ch mg):∀ {l:Aa (As × Af)},Z2 K l->∀ y∈l,mg y.1=Ab (.ref y.2)
 |(x,C)::t,H,y,hy=>by
  rcases Ba.mp hy with rfl|hy
  .exact Zl X G H.1
  .exact bO X G H.2 y hy
theorem iY (X:K.In h)(G:h.Ns Ch mg):∀ {l:Aa (As × An)},Z3 K l->∀ y∈l,∃ k,mg y.1=Ab (.int y.2 k)
 |(x,C)::t,H,y,hy=>by
  rcases Ba.mp hy with rfl|hy
  .obtain⟨k,e⟩:=H.1
   exact⟨k,Zl X G e⟩
  .exact iY X G H.2 y hy
def qAw {tab:Aa (As × Ah × Aa As)}{bl:Aa As}{oh qe:Aa (As × Af)}{J:ai}{Y:ag}{qq:Aa (As × An)}{uv:Af}(B:zk tp tab)(hp:∀ y∈qe,y∈oh)(N:oh.lookup ("FarError" : As)=Ab uv)(X:K.In h)(G:h.Ns Ch mg)
  (s:Z7 K tp tab) (z:(bl.all λx=>qBd (Dr K Ch x))=true) (q:Z2 K oh) (g:Z3 K qq) (e1:Y.all (eS K)=true) (e2:UP K=true) (e3:DW K Y=true) (e4:qBT K J uv=true) (e5:qBR K (qe.map (·.2)) uv=true) (e6:qBS K (oh.map (·.2))=true):xx K mg tp tab bl oh qe J Y qq where
 src:=QL X G tab s B
 nb:=λ{x} U=>by
  have e:=Bn.mp z x (by simpa using Gm.mp U)
  refine PySem.W.mg_none_of X G ?_
  revert e
  cases Dr K Ch x with
  |none=>intro e;cases e
  |some y=>cases y with
   |none=>intro _;rfl
   |some y=>intro e;cases e
 cl:=λh=>⟨y9 (p:=λx C=>mg x=Ab (.ref C)) (bO X G q) h,y9 (p:=λ_ C=>Fd K (.ref C)=true) (λy Q=>Bn.mp e6 y.2 (Zm Q)) h⟩
 rz:=λh=>⟨uv,y9 (p:=λx C=>mg x=Ab (.ref C)) (λy Q=>bO X G q y (hp y Q)) h,y9 (p:=λ_ C=>mH K C uv=true) (λy Q=>Bn.mp e5 y.2 (Zm Q)) h⟩
 ct:=⟨uv,y9 (p:=λx C=>mg x=Ab (.ref C)) (bO X G q) N,λv hv=>Ce (Bn.mp e4 v hv)⟩
 cls:=DZ e1 e2 e3
 gi:=λh=>y9 (p:=λx v=>∃ k,mg x=Ab (.int v k)) (iY X G g) h
end
structure kr where
 qual:As
 params:Qy
 body:By
 scope:Ep
noncomputable def w8 (sc:Ep):Aa As:=sc.names.filterMap λy=>if y.2 == .free then Ab y.1 else none
inductive ig (h:Bt)(H:Hp)(fs:ag)(L:kr)(a:Af)(cv:Aa V):Prop
 |mk (cl:Aa (As × Af)) (pm ctv:Ac) (c:Af) (oc:Cp) (ws:Az Ac) (t:Tf) (o:h.get? a=Ab (Nz "<lambda>" L.qual L.params L.body L.scope cl pm c ctv)) (hc:H c=Ab (.frz oc (.frz oc (.own 0)))) (hd:oc.data=.fields ws) (ht:ws[1]? = Ab (.str L.qual t))
  (inj:∀ x y d,cl.lookup x=Ab d->cl.lookup y=Ab d->x=y) (cel:∀ x d,cl.lookup x=Ab d->H d=none/\∃ v,h.IsCell d v) (has:∀ x,L.scope.names.lookup x=Ab .free->∃ d,cl.lookup x=Ab d)
  (len:cv.length=(w8 L.scope).length) (val:∀ (j:Ah) x v,(w8 L.scope)[j]? = Ab x->cv[j]? = Ab v->∃ d u,cl.lookup x=Ab d/\qJ v u/\h.IsCell d (Ab u)) (hn:H a=none) (hf:a ∉ fs):ig h H fs L a cv
def ig.at {X:Cx}{σ:_L.St}{a:Af}(C:ig X.s₀.heap X.H₀ X.fs L a A)(F:jg X)(I:Inv X aj σ H s):ig s.heap H (il X.stack) L a A:=by
 obtain⟨l,pm,N,c,oc,f,t,o,r,k,ht,U,Q,has,G,val,O,M⟩:=C;have Y:∀ b,b ∉ X.ex:=λb=>by rw[F.1];simp
 have y:∀ b o,X.s₀.heap.get? b=Ab o->b ∉ X.fs->b ∉ il X.stack:=λb o e n z=>(F.mem.mp z).elim (Cn (Bh (Bf e) I.ok.above)) n;have w:∀ d v,X.H₀ d=none->X.s₀.heap.IsCell d v->s.heap.IsCell d v:=λd v J ⟨o,e,q⟩=>let ⟨_,z⟩:=I.base.any e J (Y d);⟨_,z,q⟩
 refine⟨l,pm,N,c,oc,f,t,I.base.keep a _ o O M (Y a),I.base.frzs _ _ _ r,k,ht,U,λx d e=>?_,has,G,λj x v p i=>?_,I.base.free a _ o O (Y a),y a _ o M⟩
 .obtain⟨J,v,T⟩:=Q x d e
  obtain⟨m,g,q⟩:=id T;exact⟨I.base.free d m g J (Y d),v,w d v J T⟩
 .obtain⟨d,u,B,h,q3⟩:=val j x v p i
  exact⟨d,u,B,h,w d _ (Q x d B).1 q3⟩
noncomputable def JZ (cm:Au)(P:Bi)(w:Bz)(K:Ai)(mg:ah)(base:Bt)(N:Aa As)(L:kr)(Q:Aa (As × Af))(f:Af)(cd:Ac)(A:Bp)(Y:Aa Ix)(s:Ag)(H:Hp)(E:XK):Cx where
 prog:=P
 w:=w
 K:=K
 mg:=mg
 base:=base
 A:=A.deeper (Mq L.qual L.scope s.heap.objs.size f cd Q)
 N:=N
 s₀:=s
 H₀:=H
 env:=Mq L.qual L.scope s.heap.objs.size f cd Q
 outer:=Y
 stack:=Mq L.qual L.scope s.heap.objs.size f cd Q::Y
 ex:=[]
 calm:=cm
 fn:=λ_=>false
 pn:=[]
 xe:=zm P w A (Mq L.qual L.scope s.heap.objs.size f cd Q) Y H s E
structure sd (L:kr)(ps:Aa As):Prop where
 kind:L.scope.kind=.function
 co:L.scope.isCoroutine=false
 gen:L.scope.isGenerator=false
 nocell:∀ y∈L.scope.names,y.2≠.cell
 par:∀ x∈ps,L.scope.names.lookup x=Ab .local
 one:ps.length<=1
 fr:∀ x∈w8 L.scope,L.scope.names.lookup x=Ab .free
def lC (P:Bi)(w:Bz)(K:Ai)(mg:ah)(base:Bt)(cm:Au)(k:Ah)(L:kr)(n:Ah)(G:Aa D->DF):Prop:=
 ∀ (A:Bp) (U:Aa Ix) (s:Ag) (H:Hp) (us:ai) (O N:Aa V) (a:Af) (Y:Hp) (α : Aa Af) (S:ap) (bx J:Aa D) (Q:VK) (E:XK),ax cm k A->mx P w K mg base A U s H->ig s.heap H (il U) L a N->bf K H Y α S ->
  qE K Y α bx N->qE K Y α J O->qM O us->J.length=n->wz K Y α (G bx J S) Q E->Ik (Av P w) A (.call (.ref a) ⟨us,[]⟩) (CR (nr P w) U P w H s Q E) s
section
variable {P:Bi}{w:Bz}{K:Ai}{mg:ah}{base:Bt}{cm:Au}{L:kr}{ps:Aa As}
def MB {U:Aa (As × Af)}{f:Af}{cd:Ac}{A:Bp}{a:Aa Ix}{E:XK}{M I:Aa V}{h':Bt}{tk:Ah}(S:sd L ps)(hd:cm=true->A.handled=none)(Q:mx P w K mg base A a s H)
  (C:∀ x y d,U.lookup x=Ab d->U.lookup y=Ab d->x=y) (G:∀ x d,U.lookup x=Ab d->H d=none/\∃ v,s.heap.IsCell d v) (has:∀ x,L.scope.names.lookup x=Ab .free->∃ d,U.lookup x=Ab d)
  (g:I.length=(w8 L.scope).length) (val:∀ (j:Ah) x v,(w8 L.scope)[j]? = Ab x->I[j]? = Ab v->∃ d u,U.lookup x=Ab d/\qJ v u/\s.heap.IsCell d (Ab u)) (O:M.length=ps.length) (r:qM M us)
  (l:h'.Ns s.heap.objs.size λy=>(ps.zip us).reverse.lookup y) (B:∀ b o,s.heap.get? b=Ab o->h'.get? b=Ab o) :
  Inv (JZ cm P w K mg base (ps++w8 L.scope) L U f cd A a s H E) [] ((M++I).map Ab) H { s with heap:=h',toks:=tk }:=by
 have m:∀ d v,s.heap.IsCell d v->h'.IsCell d v:=λd v ⟨o,e,q⟩=>⟨o,B d o e,q⟩;have k:∀ b:Af,b ∉ ([]:ag):=λb=>by simp
 refine⟨⟨Q.mod,S.kind,rfl,rfl,Ax _,C,λy hy=>?_,(λy c z=>nomatch z),hd,Qq Q.frames,.inr ⟨rfl,rfl⟩,λb z=>absurd z (k b),Q.bs,Q.bsz,λb _ _=>k b,λb z=>absurd z (k b),Q.funs,Q.frf⟩,
  rfl,Q.bare,Un.kept B,⟨_,l,λi y v Y J h3=>?_⟩,λy c h=>?_,Q.hok.fresh (Ax _),λy c h=>(G y c h).1,λp hp=>absurd (show p∈([]:aa) from hp) bB,Q.hok.kept B,?_⟩
 .rcases hy with hy|hy
  .exact absurd rfl (S.nocell _ (Fn hy))
  .exact has y hy
 .have Y:(ps++w8 L.scope)[i]? = Ab y:=Y
  rw[Do] at J;obtain⟨v',J,e⟩:=Dn.mp J;cases e;by_cases N:i<ps.length
  .rw[Bb N] at Y
   rw[Bb (by rw[O];exact N)] at J
   obtain⟨u,n,rv⟩:=r.get J;refine⟨u,rv,.inl ⟨S.par y (Bw Y),?_⟩⟩;have T:=S.one;cases ps with
   |nil=>cases Y
   |cons p t =>
    cases t with
    |cons _ _=>simp at T
    |nil =>
     have i0:i=0:=by simpa using N
     subst i0;cases us with
     |nil=>cases n
     |cons u' us =>
      cases Y;cases n;simp
  .rw[Cq (Uv N)] at Y
   rw[Cq (by rw[O];exact Uv N),O] at J
   obtain⟨d,u,q1,q2,q3⟩:=val _ y v Y J;exact⟨u,q2,.inr ⟨.inr (S.fr y (Bw Y)),d,q1,m d _ q3⟩⟩
 .obtain⟨_,v,q⟩:=G y c h
  exact⟨v,m c v q⟩
 .show _=(ps++w8 L.scope).length
  simp[O,g]
def EI {k:Ah}{fe:DE}(S:sd L ps)(hb:∀ (J:Aa (As × Af)) (pm zx N:Ac) (us:ai),us.length=ps.length->Wd (AbQ "<lambda>" L.qual L.params L.body L.scope J pm zx N) ⟨us,[]⟩=pure (ps.zip us))
  (G:∀ (J:Aa (As × Af)) (f:Af) (cd:Ac) (A:Bp) (m:Aa Ix) (s:Ag) (H:Hp) (E:XK),ax cm k (A.deeper (Mq L.qual L.scope s.heap.objs.size f cd J)) ->
   QE (JZ cm P w K mg base (ps++w8 L.scope) L J f cd A m s H E) L.body fe):lC P w K mg base cm (k+1) L ps.length λbx ds S=>fe ((ds++bx).map Ab) S:=by
 intro A m s H us ws cv a h α St bx ds Q E hr M C r rc T rv hn U;obtain⟨J,pm,N,c,oc,vs,t,o,hc,hd,ht,zv,zy,has,zb,val,zz,hf⟩:=C;have U:wz K h α (fe ((ds++bx).map Ab) St) Q E:=U;have bq:s.heap.NoLimit:=M.mod.nolimit.keeps λb o e=>(M.bs b o e).1;have zs:us.length=ps.length:=by rw[<- rv.length,<- T.length];exact hn
 have B:∀ y∈ps.zip us,L.scope.names.lookup y.1=Ab .local:=λy hy=>S.par _ (No hy).1;refine PySem.W.kla_callFunE hr.depth o rfl S.co S.gen rfl ⟨c,oc,vs,t,rfl,(M.hok c _ hc).1,hd,ht⟩ ?_;rw[hb J pm (.ref c) N us zs];refine Am (wpAny_newFunctionEnv S.nocell B (λO zl n=>?_) S.kind);have Y:∀ b o,s.heap.get? b=Ab o->O.get? b=Ab o:=λb o e=>n.extBut b o (Cn (Bf e)) (Aj _ e);refine⟨bq.keeps Y,?_⟩;show Ik _ _ (.expr L.body (Mq L.qual L.scope s.heap.objs.size a (.ref c) J)) _ _;have I:=MB (cm:=cm) (f:=a) (cd:=.ref c) (E:=E) (tk:=s.toks+(ps.zip us).length) S hr.hd M zv zy has zb val (by rw[<- T.length];exact hn) rv zl Y
 have re:zA K h α ((ws++cv).map Ab) ((ds++bx).map Ab):=by
  have z:=T.append rc;refine⟨by simp[z.length,T.length,rc.length],λi d e=>?_⟩
  rw[Do] at e;obtain⟨d',e1,g⟩:=Dn.mp e;cases g;obtain⟨v,h1,h2⟩:=z.get e1;exact⟨v,by rw[Do,h1];rfl,h2⟩
 refine PySem.W.kla_codeExpr (Gr ((G J a (.ref c) A m s H E (hr.deeper _)).1 [] _ _ H Q I ⟨h,α,_,St,r,re,?_⟩) (λu s' q=>?_) λ_ _ y=>y)
 .cases z:fe ((ds++bx).map Ab) St with
  |ok d S'=>rw[z] at U;exact U
  |ex e x S'=>rw[z] at U;exact λu s' q=>h9 (A:=A) rfl q λH' P1 zc r1 e1 g=>U H' P1 zc r1 e1 g
  |bad=>rw[z] at U;exact Ao U
 .obtain⟨v,H',p,l,q⟩:=q
  exact⟨v,H',p.os,p.bare,p.base,p.hok,l,q⟩
end
open Classical in
def gM (i:Ah)(J:DA)(a:Af)(N:Aa V)(n:Ah)(G:Aa D->DF):DE:=λak S=>match ak[i]? with
 |some (Ab (.clo b Y bx))=>if b=a/\Y=N then (J ak S).bind λQ U=>if Q.length=n then G bx Q U else .bad else .bad
 |_=>.bad
section
variable {X:Cx}{cm:Au}{k n i:Ah}{x:As}{p aq:Ev}{e:By}{fa:DA}{L:kr}{G:Aa D->DF}{a:Af}{cv:Aa V}
set_option tactic.hygienic true in
def F8 {S:ap}{P:Hp}{α:ag}{Ok:D->ap->Prop}(h:qK X P α (gM i fa a cv n G ak S) Ok):∃ bx,ak[i]? = Ab (Ab (.clo a cv bx))/\qK X P α ((fa ak S).bind λds S1=>if ds.length=n then G bx ds S1 else .bad) Ok:=by
 unfold gM at h
 split at h
 .rename_i b Y bx e
  obtain⟨⟨rfl,rfl⟩,Q⟩:=xT h;exact⟨bx,e,Q⟩
 .exact Ao h
def qBZ (C:ig h H Q L a cv):PySem.W.FnAt a h:=by
 obtain⟨J,U,Y,c,oc,N,t,o,_⟩:=C;exact⟨_,_,_,_,o⟩
def F9 {aj:aa}{σ:_L.St}{H P:Hp}{α:ag}{s:Ag}{Q:VK}{J:Aa V}{ds:Aa D}{S:ap}(O:lC X.prog X.w X.K X.mg X.base cm k L n G)(N:ax cm k X.A)(F:jg X)(C:ig X.s₀.heap X.H₀ X.fs L a cv)
  (I:Inv X aj σ H s) (r:bf X.K H P α S) (B:qE X.K P α bx cv) (T:qE X.K P α ds J) (A:qM J us) (Y:qW X P α (if ds.length=n then G bx ds S else .bad) Q):ce X (call (.ref a) us) (EP X aj σ Q) X.xe s:=by
 obtain⟨U,Y⟩:=xT Y;exact mF (λ_=>F) I Y (O X.A X.stack s H us J cv a P α S bx ds Q _ N I.env0 (C.at F I) r B T A U (aU Y))
def EK {aj:aa}{σ:_L.St}{H P:Hp}{α:ag}{s:Ag}{Q:ae}(N:X.N[i]? = Ab x)(hv:oy X.env.scope x)(C:(x == ("__debug__" : As))=false)(J:(x == ("__classdict__" : As))=false)
  (I:Inv X aj σ H s) (z:zA X.K P α σ ak) (w:ak[i]? = Ab (Ab (.clo a cv bx))) (h:∀ Y,Inv X aj σ H Y->qE X.K P α bx cv->Q (.ref a) Y):ce X (eval (.Name x p) X.env) Q X.xe s:=by
 obtain⟨v,B,U⟩:=z.2 i _ w;simp only[au] at U;obtain⟨rfl,O⟩:=U;refine bv (cZ N hv C J aj s σ H (λv H'=>v=.ref a/\H'=H) I ⟨_,B,rfl,rfl⟩) λu Y ⟨v,q,A,y,M,T⟩=>?_;subst M;subst T;cases (show u=Cb a from y)
 exact h Y A O
def FH (B:lC X.prog X.w X.K X.mg X.base cm k L n G)(N:ax cm k X.A)(F:jg X)(C:ig X.s₀.heap X.H₀ X.fs L a cv)(O:X.N[i]? = Ab x)(hv:oy X.env.scope x)(M:(x == ("__debug__" : As))=false)(J:(x == ("__classdict__" : As))=false) :
  PE X (.Call (.Name x p) [] [] aq) (tD X (gM i qC a cv n G)):=by
 intro z s σ H Q I h;obtain⟨P,α,ak,S,r,T,Y⟩:=h;obtain⟨bx,w,Y⟩:=F8 Y;refine Hk (EK O hv M J I T w λy U A=>?_);exact PySem.W.callWith_F0 (qBZ (C.at F U)) (F9 (us:=[]) B N F C U r A .nil .nil Y)
end
def iM {c:Ac}(l:ai)(h:Nd l):Nd (l++[Gk i,Gk j,c]):=by
 fun_induction Nd l with
 |case1=>simp[Nd,Gk]
 |case2 _ _ _ _ _ Y Q=>simp only[Kn,Nd];exact Q h
 |case3=>exact Ao h
set_option tactic.hygienic true in
def XZ {c v:Ac}(l:ai)(h:Nd l)(e:Qz Y (l++[Gk i,Gk j,c])=Ab v):Qz Y l=Ab v\/v=c:=by
 fun_induction Nd l with
 |case1 =>
  simp only[Hi,Qz,Gk] at e
  split at e
  .exact .inr (Dd e).symm
  .cases e
 |case2 _ _ _ _ _ U J =>
  simp only[Kn,Qz] at e ⊢
  split at e
  .rename_i Q;rw[Bg Q];exact .inl e
  .rename_i Q;rw[Bd Q];exact J h e
 |case3=>exact Ao h
theorem sw.at {K:Ai}{H P:Hp}{α:ag}{a:Af}(e:H' a=H a):∀ {o:MO},sw K H P α a o->sw K H' P α a o
 |.dead,_=>trivial
 |.lst _,⟨Q,q,r⟩=>⟨Q,e.trans q,r⟩
 |.dct _,⟨Q,q,r⟩=>⟨Q,e.trans q,r⟩
 |.dcT _,⟨Q,q,r⟩=>⟨Q,e.trans q,r⟩
 |.ins _ _,⟨Y,Q,q,r⟩=>⟨Y,Q,e.trans q,r⟩
section
variable {X:Cx}{aj:aa}{σ: _L.St}{H P:Hp}{α: Aa Af}{s:Ag}{S:ap}{y:As}{c T:Af}
def bf.grown {A:Az Ac}{t:Tf}{i:Ah}(r:bf X.K H P α S)(m:Mod X.K X.mg X.base)(n:y∈wQ)(ht:Dy X.K y=Ab (c,T))(e:H T=Ab (.tbl ps))(f:P T=none)(l:T ∉ α)(ok:Nd ps.toList)
  (cd:∀ Y Q,Qz Y ps.toList=Ab Q->∃ c oc vs t,Q=.ref c/\H c=Ab (.frz oc (.frz oc (.own 0)))/\oc.data=.fields vs/\vs[1]? = Ab (.str (y ++ ".<locals>." ++ "<lambda>") t)) (L:H c'=none) (hd:oc.data=.fields A) (hs:A[1]? = Ab (.str (y ++ ".<locals>." ++ "<lambda>") t)) :
  bf X.K (cc (cc H T (.tbl (ps++#[Gk i,Gk j,.ref c']))) c' (.frz oc (.frz oc (.own 0)))) P α S:=by
 have ne:T≠c':=qT e L;have G:∀ b u,b≠T->H b=Ab u->cc (cc H T (.tbl (ps++#[Gk i,Gk j,.ref c']))) c' (.frz oc (.frz oc (.own 0))) b=Ab u:=λb u h q=>by rw[qL (qT q L),qL h];exact q
 have nT:∀ b∈α,b≠T:=λb h z=>l (z▸h);have nc:∀ (k:Ah) b,α[k]? = Ab b->b≠c':=λk b h z=>r.own k b h (z▸L);have J:∀ (k:Ah) b,α[k]? = Ab b->cc (cc H T (.tbl (ps++#[Gk i,Gk j,.ref c']))) c' (.frz oc (.frz oc (.own 0))) b=H b:=λk b h=>by rw[qL (nc k b h),qL (nT b (Bw h))]
 refine⟨λx w d U v=>?_,λb u q=>G b u (λz=>by rw[z,f] at q;cases q) (r.sub b u q),r.len,r.nd,r.sep,λk b o g h2=>sw.at (J k b g) (r.at' k b o g h2),λk b h=>by rw[J k b h];exact r.own k b h⟩
 by_cases p:U=T
 .subst p
  cases m.inj x w y n d c U v ht;refine⟨_,by rw[qL ne];exact qV,f,l,?_,λY Q q=>?_⟩
  .rw[Dw];exact iM _ ok
  .rw[Dw] at q
   rcases XZ _ ok q with q|q
   .obtain⟨d,M,vs,t,C,I,a⟩:=cd Y Q q
    exact⟨d,M,vs,t,C,G d _ (λz=>by rw[z,e] at I;cases I) I,a⟩
   .exact⟨c',oc,A,t,q,qV,hd,hs⟩
 .obtain⟨qs,e1,p1,C,N,B⟩:=r.tb x w d U v
  exact⟨qs,G U _ p e1,p1,C,N,λY Q q=>let ⟨d,M,vs,t,b1,O,b3⟩:=B Y Q q;⟨d,M,vs,t,b1,G d _ (λz=>by rw[z,e] at O;cases O) O,b3⟩⟩
def Inv.pinned {a:Af}{h':Bt}{tk:Ah}(I:Inv X aj σ H' { s with heap:=h'.push o,toks:=tk })(J:a=h'.objs.size)(hs:s.heap.objs.size<=h'.objs.size)(Y:Inv X aj σ H s)(U:H' a=none)(G:∀ v,o.data≠.cell v)(Q:o.isFreed=false:=by rfl):Inv X ((a,o)::aj) σ H' { s with heap:=h'.push o,toks:=tk }:=by
 refine I.pins_of λp hp=>?_;rcases Ba.mp hp with rfl|hp
 .subst J
  exact⟨Bl _ Q,U,Jc (Bh Y.lt hs),Y.nofs hs,G⟩
 .exact I.pin p (Ca _ hp)
theorem K2 {M:Lb}{m:Qy}{bo:By}{am:Ep}{O:Ev}{cl:Aa (As × Af)}{Q:ae}(I:Inv X aj σ H s)(r:bf X.K H P α S)(hy:y∈wQ)(ht:Dy X.K y=Ab (c,T))(hc:X.env.code=.ref c)(hq:X.env.qual=y ++ ".<locals>.")
  (i:defaultsOf m X.env=([],[])) (p:Uy am X.env=pure cl)
  (h:∀ (a:Af) (H':Hp) (s':Ag) (pm J:Ac) (c':Af) (oc:Cp) (B:Az Ac) (t:Tf),Inv X ((a,Nz "<lambda>" (y ++ ".<locals>." ++ "<lambda>") m bo am cl pm c' J)::aj) σ H' s'->bf X.K H' P α S ->
   H' c'=Ab (.frz oc (.frz oc (.own 0)))->oc.data=.fields B->B[1]? = Ab (.str (y ++ ".<locals>." ++ "<lambda>") t)->Q (.ref a) s'):Aq M X.A (eval (.Lambda m bo am O) X.env) Q E s:=by
 obtain⟨k,e,pn,an,ok,cd⟩:=r.tb y hy c T ht;have hP:s.heap.get? T=Ab (Mm k):=I.hok T _ e;have hC:Xu s.heap c T:=(I.mod.code y hy c T ht).keeps I.bk;have hg:s.heap.Ns Ch X.mg:=I.mod.glob.keeps I.bk;have zc:Ch≠T:=λz=>by
  obtain⟨o,es,ep,f,d1,_⟩:=hg;rw[z,hP] at f;cases f;cases d1
 have Y:s.heap.BuiltinsAt X.mg T:=by
  obtain⟨bm,o,b1,b2,b3,b4,b5,b6⟩:=I.mod.bm;have N:=I.bk _ _ b3;refine⟨bm,o,b1,b2,λz=>?_,λz=>?_,N,b4,b5,b6⟩
  .obtain⟨o',es,ep,f,d1,_⟩:=hg
   rw[<- z,N] at f;cases f;rw[b6] at d1;cases d1
  .rw[z,hP] at N;cases N;cases b4
 refine PySem.W.kla_eval i ?_;rw[hq];cases hf:Qz O k.toList with
 |none =>
  refine PySem.W.kla_makeFunction (mg:=X.mg) p I.ok.glob hg hc hC hP ok hf zc Y λc' J h' tk hx C A x zb=>?_;obtain⟨c2,oc,B,t,z,zl,hd,hs⟩:=x;cases z;have hn:H c'=none:=I.hok.fresh C;have ne:T≠c':=qT e hn;have U:s.heap.objs.size<=h'.objs.size:=Cg C (Eo A)
  let o:=Nz "<lambda>" (y ++ ".<locals>." ++ "<lambda>") m bo am cl ((X.mg "__name__").getD .none) c' J
  have kp:∀ b u,b≠T->s.heap.get? b=Ab u->(h'.push o).get? b=Ab u:=λb u Y q=>Aj _ (hx b u Y q);have eT:(h'.push o).get? T=Ab (Mm (k++#[Gk O.line,Gk O.col,.ref c'])):=Aj _ zb
  let L:=cc (cc H T (.tbl (k++#[Gk O.line,Gk O.col,.ref c']))) c' (.frz oc (.frz oc (.own 0)))
  have l:∀ b u,b≠T->H b=Ab u->L b=Ab u:=λb u h q=>by show cc _ _ _ b=_;rw[qL (qT q hn),qL h];exact q
  have g:∀ b,b≠T->b≠c'->H b=none->L b=none:=λb h h' q=>by show cc _ _ _ b=_;rw[qL h',qL h];exact q
  have nT:∀ b,H b=none->b≠T:=λb q z=>by rw[z,e] at q;cases q
  have eH:L T=Ab (.tbl (k++#[Gk O.line,Gk O.col,.ref c'])):=by show cc _ _ _ T=_;rw[qL ne];exact qV
  have un:Un X.fs [] H L s.heap (h'.push o):=by
   refine⟨λb u q n _ _=>kp b u (nT b n) q,λb u q n _ _=>⟨u.slots,kp b u (nT b n) q⟩,λb u q n _=>g b (nT b n) (Cn (Bh (Bf q) C)) n,λb u q _=>?_,λb xs q=>l b _ (λz=>by rw[z,e] at q;cases q) q,λb u xs q=>l b _ (λz=>by rw[z,e] at q;cases q) q,λb qs q=>?_⟩
   .by_cases Y:b=T
    .rw[Y];exact⟨_,eT⟩
    .exact⟨u,kp b u Y q⟩
   .by_cases Y:b=T
    .rw[Y,e] at q;cases q
     exact⟨_,by rw[Y];exact eH⟩
    .exact⟨#[],by rw[l b _ Y q];simp⟩
  have zs:gw X.prog X.w L (h'.push o):=λb u q=>by
   by_cases Y:b=c'
   .have q':Ab (HO.frz oc (.frz oc (.own 0)))=Ab u:=by rw[<- q,Y];exact qV.symm
    cases q';have z:(h'.push o).get? b=Ab oc:=by rw[Y];exact Aj _ zl
    exact⟨z,z,_,z⟩
   .by_cases G:b=T
    .rw[G,eH] at q;cases q
     rw[G];exact eT
    .have q':H b=Ab u:=by have q2:cc _ _ _ b=Ab u:=q;rw[qL Y,qL G] at q2;exact q2
     refine(I.hok b u q').stay (λd v hd q=>kp d v ?_ q) (λd q=>l d _ (λz=>by rw[z,e] at q;cases q) q) λd xs q=>l d _ (λz=>by rw[z,e] at q;cases q) q
     rcases hd with z|z
     .rw[z];exact G
     .intro w;rw[w,e] at z;cases z
  have I2:=I.un (t':=tk) un zs;refine h h'.objs.size L _ _ J c' oc B t (Inv.pinned I2 rfl U I (g _ (λz=>?_) (Jc A) (I.hok.fresh U)) λv z=>by cases z) (r.grown I.mod hy ht e pn an ok cd hn hd hs) qV hd hs
  rw[<- z] at e;exact absurd (Bh (I.hok.lt e) U) (Fe _)
 |some cv =>
  obtain⟨c',oc,B,t,rfl,a2,a3,a4⟩:=cd O cv hf;refine PySem.W.kla_makeFunctionHit (mg:=X.mg) p I.ok.glob hg hc hC hP ok hf Y λJ h' tk hk U=>?_;have I2:=I.kept (t':=tk) (h':=h'.push (Nz "<lambda>" (y ++ ".<locals>." ++ "<lambda>") m bo am cl ((X.mg "__name__").getD .none) c' J)) λb u q=>Aj _ (hk b u q);exact h h'.objs.size H _ _ J c' oc B t (Inv.pinned I2 rfl U I (I.hok.fresh U) λv z=>by cases z) r a2 a3 a4
end
noncomputable def mG:Aa Ah->qD->Ak (Aa D)
 |[],_=>Ab []
 |i::r,ak=>match ak[i]? with
  |some (Ab d)=>(mG r ak).map (d::·)
  |_=>none
set_option tactic.hygienic true in
theorem iU {K:Ai}{P:Hp}{α:ag}{σ:_L.St}(J:zA K P α σ ak):∀ (bw:Aa Ah) (bx:Aa D),mG bw ak=Ab bx->∃ Q,qE K P α bx Q/\Q.length=bw.length/\∀ (j i:Ah) v,bw[j]? = Ab i->Q[j]? = Ab v->σ[i]? = Ab (Ab v)
 |[],bx,h=>by cases h;exact⟨[],.nil,rfl,λj i v e=>by simp at e⟩
 |i::r,bx,h=>by
  unfold mG at h
  split at h
  .rename_i d e
   obtain⟨L,T,rfl⟩:=Dn.mp h;obtain⟨Q,C,B,G⟩:=iU J r L T;obtain⟨v,O,N⟩:=J.2 i d e;refine⟨v::Q,.cons N C,by simp[B],λj k w U Y=>?_⟩
   cases j with
   |zero=>cases U;cases Y;exact O
   |succ j=>exact G j k w (by simpa using U) (by simpa using Y)
  .cases h
open Classical in
def ul (f:Af->Aa V->bb D):bb D:=if ∀ a Q,f a Q=f 0 [] then f 0 [] else .bad
def ID {f:Af->Aa V->bb D}{R:bb D}(h:∀ a Q,f a Q=R):ul f=R:=by
 unfold ul;rw[Bg λa Q=>(h a Q).trans (h 0 []).symm];exact h 0 []
set_option tactic.hygienic true in
def IC {f:Af->Aa V->bb D}(h:ul f≠.bad)(a:Af)(Q:Aa V):f a Q=ul f:=by
 unfold ul at h ⊢
 split at h
 .rename_i z;rw[Bg z];exact z a Q
 .exact absurd rfl h
def y_ (Q:Au)(R:bb D):bb D:=match Q,R with
 |true,.ex _ _ _=>.bad
 |_,R=>R
def b7 (J:Au)(bw:Aa Ah)(n N:Ah)(U:DA)(g:Af->Aa V->DS):DE:=λak S=>match mG bw ak with
 |none=>.bad
 |some bx=>(U ak S).bind λQ G=>if Q.length+1=n then y_ J (ul λa Y=>qO N (g a Y) (.clo a Y bx::Q) G) else .bad
def D1 (P:Bi)(w:Bz)(K:Ai)(mg:ah)(base:Bt)(cm:Au)(k B m:Ah)(x:As)(n N:Ah)(g:(Aa D->DF)->Af->Aa V->DS):Prop:=
 ∃ f U st J Y,Y.length=n/\J.length=N/\mg x=Ab (.ref f)/\sx K x x st f U/\vS K U Y [] /\ dc J Y (qH st)/\∀ (L:kr) (G:Aa D->DF) (a:Af) (O:Aa V),lC P w K mg base cm B L m G ->
  ∀ (Q:Ac) (A:Bp) (C:Aa Ix) (s:Ag) (H:Hp) (E:XK),ig s.heap H (il C) L a O->ax cm k (A.deeper (Gu x (qH st) s.heap.objs.size f Q))->QB (kw cm P w K mg base J x (qH st) f Q A C s H E) (zR st) (g G a O)
def bE (Q:Ep)(Y:Aa As)(sc:Ep)(bw:Aa Ah):Au:=decide ((w8 sc).length=bw.length)&&(bw.zip (w8 sc)).all λp=>Y[p.1]? == Ab p.2&&(Q.names.lookup p.2 == Ab .cell||Q.names.lookup p.2 == Ab .free)
section
variable {X:Cx}{aj:aa}{σ: _L.St}{H P:Hp}{α: Aa Af}{s:Ag}{S:ap}{y x:As}{c T:Af}{bp:Qy}{bo:By}{am:Ep}{gz p aq:Ev}{es:Aa By}{fa:DA}{nx cm:Au}{k kl m n N:Ah}{bw:Aa Ah}{G:Aa D->DF}{g:(Aa D->DF)->Af->Aa V->DS}
def RO {R:bb D}{Ok:D->ap->Prop}(h:qK X P α (y_ nx R) Ok):R≠.bad/\qK X P α R Ok/\((∃ c x Q,R=.ex c x Q)->nx=false):=by
 cases R with
 |ok d Q=>exact⟨nofun,by cases nx <;> exact h,λ⟨_,_,_,z⟩=>nomatch z⟩
 |bad=>cases nx <;> exact Ao h
 |ex c x Q =>
  cases nx with
  |true=>exact Ao h
  |false=>exact⟨nofun,h,λ_=>rfl⟩
def bf.know {K:Ai}(r:bf K H P α S)(h:H c'=Ab (.frz oc (.frz oc (.own 0)))):bf K H (cc P c' (.frz oc (.frz oc (.own 0)))) α S/\qF P (cc P c' (.frz oc (.frz oc (.own 0)))):=by
 have O:qF P (cc P c' (.frz oc (.frz oc (.own 0)))):=λb u q=>by
  by_cases Q:b=c'
  .have z:=r.sub b u q
   rw[Q,h] at z;cases z;rw[Q];exact qV
  .rw[qL Q];exact q
 refine⟨⟨λx I d T M=>let ⟨A,e,L,l,ok,v⟩:=r.tb x I d T M;⟨A,e,(qL λ(z:T=c')=>by rw[z,h] at e;cases e).trans L,l,ok,v⟩,λb u q=>?_,r.len,r.nd,λi a o J Y B=>?_,λi a o J Y=>(r.at' i a o J Y).mono O (AT _),r.own⟩,O⟩
 .by_cases Q:b=c'
  .rw[Q,qV] at q;cases q;rw[Q];exact h
  .rw[qL Q] at q;exact r.sub b u q
 .have Q:a≠c':=by
   rintro rfl;have z:=r.at' i a o J Y;cases o with
   |dead=>exact B rfl
   |lst t=>obtain⟨U,z,_⟩:=z;rw[h] at z;cases z
   |dct w=>obtain⟨U,z,_⟩:=z;rw[h] at z;cases z
   |dcT w=>obtain⟨U,z,_⟩:=z;rw[h] at z;cases z
   |ins C fs=>obtain⟨f,U,z,_⟩:=z;rw[h] at z;cases z
  rw[qL Q];exact r.sep i a o J Y B
def sU {z:As × Ip}(h:z∈sc.names)(Q:z.2=.free):z.1∈w8 sc:=Hj.mpr ⟨z,h,by rw[Q];rfl⟩
set_option tactic.hygienic true in
def KY {z:As}(h:z∈w8 sc):(z,Hb)∈sc.names:=by
 obtain⟨⟨n,k⟩,Y,Q⟩:=Hj.mp h
 split at Q
 .rename_i e
  have:k=Hb:=by simpa using e
  cases Q;subst this;exact Y
 .cases Q
def lZ (Q:bE X.env.scope X.N am bw=true){j:Ah}{z:As}(h:(w8 am)[j]? = Ab z):∃ i,bw[j]? = Ab i/\X.N[i]? = Ab z/\(X.env.scope.names.lookup z=Ab .cell\/X.env.scope.names.lookup z=Ab .free):=by
 simp only[bE,Aw,Cc] at Q;obtain⟨O,Y⟩:=Q;have J:j<bw.length:=by rw[<- O];exact(Ay.mp h).1
 have e:=Ar J;have U:(bw[j],z)∈bw.zip (w8 am):=Lw.mpr ⟨j,by rw[Ts];exact⟨e,h⟩⟩
 have q:=Bn.mp Y _ U;simp only[Aw,Ra,Pl] at q;exact⟨_,e,q.1,q.2⟩
def K1 (U:bE X.env.scope X.N am bw=true)(ok:X.Ok):Uy am X.env=pure (wY X.env.cells am.names []):=pP λz J Q=>by
 obtain⟨j,Y⟩:=Lw.mp (sU J Q);obtain⟨i,_,_,q⟩:=lZ U Y;exact ok.has z.1 q
def jB (Y:bE X.env.scope X.N am bw=true)(ok:X.Ok){z:As}{d:Af}(h:(wY X.env.cells am.names []).lookup z=Ab d):X.env.cells.lookup z=Ab d:=by
 rcases k9 _ _ h with h|⟨J,Q⟩
 .cases h
 .obtain⟨j,U⟩:=Lw.mp (sU J rfl)
  obtain⟨i,_,_,q⟩:=lZ Y U;obtain⟨O,e⟩:=ok.has z q;rw[e,Py] at Q;rw[e,Q]
def DY {a:Af}{w:Az Ac}{t:Tf}{B:Aa V}(Q:bE X.env.scope X.N am bw=true)(I:Inv X ((a,Nz "<lambda>" (y ++ ".<locals>." ++ "<lambda>") bp bo am (wY X.env.cells am.names []) q c' J)::aj) σ H' s')
  (r:H' c'=Ab (.frz oc (.frz oc (.own 0)))) (hd:oc.data=.fields w) (hs:w[1]? = Ab (.str (y ++ ".<locals>." ++ "<lambda>") t)) (e:B.length=bw.length) (hv:∀ (j i:Ah) v,bw[j]? = Ab i->B[j]? = Ab v->σ[i]? = Ab (Ab v)) :
  ig s'.heap H' (il X.stack) ⟨y ++ ".<locals>." ++ "<lambda>",bp,bo,am⟩ a B:=by
 obtain⟨f,n1,n2,l,_⟩:=I.pin _ (Ca _ (.head _));refine⟨_,q,J,c',oc,w,t,f,r,hd,hs,λz z' d O A=>I.ok.inj z z' d (jB Q I.ok O) (jB Q I.ok A),λz d h=>⟨I.freeC z d (jB Q I.ok h),I.cell z d (jB Q I.ok h)⟩,λz hz=>jR _ _ (.inl (Fn hz)),?_,λj z v O A=>?_,n1,λz=>?_⟩
 .simp only[bE,Aw,Cc] at Q
  rw[e,<- Q.1]
 .obtain⟨i,q1,b,o⟩:=lZ Q O
  obtain⟨m,hm,L⟩:=I.loc;obtain⟨u,ru,lk⟩:=L i z v b (hv j i v q1 A) (o.elim (λk=>.inr (.inl k)) λk=>.inr (.inr k));rcases lk with⟨kl,_⟩|⟨_,d,M,Y⟩
  .have C:X.env.scope.names.lookup z=Ab .local:=kl
   rcases o with k|k <;> (rw[C] at k;cases k)
  .obtain⟨d',U⟩:=jR (iq:=X.env.cells) am.names [] (.inl (KY (Bw O)))
   have:=jB Q I.ok U;rw[M] at this;cases this;exact⟨d,u,U,ru,Y⟩
 .rcases Ba.mp (I.stkSub a z) with z|z
  .exact n2 z
  .exact l z
theorem UV (D:D1 X.prog X.w X.K X.mg X.base cm k kl m x n N g)(LX:lC X.prog X.w X.K X.mg X.base cm kl ⟨y ++ ".<locals>." ++ "<lambda>",bp,bo,am⟩ m G)(hr:ax cm (k+1) X.A)(hF:nx=false->jg X)(hg:Gl X x)(l:(x == ("__debug__" : As))=false)
  (hy:y∈wQ) (ht:Dy X.K y=Ab (c,T)) (hc:X.env.code=.ref c) (hq:X.env.qual=y ++ ".<locals>.") (w:defaultsOf bp X.env=([],[])) (hB:bE X.env.scope X.N am bw=true) (ha:PA X es (ku X fa))
  (he:Bk (.Lambda bp bo am gz::es) X.env=(false,eval (.Lambda bp bo am gz) X.env)::Bk es X.env) (zc:(Ga aq (Bk es X.env)).any (·.1)=false) :
  PE X (.Call (.Name x p) (.Lambda bp bo am gz::es) [] aq) (tD X (b7 nx bw n N fa (g G))):=by
 intro aj s σ H Q I h;obtain⟨P,α,ak,S,r,re,U⟩:=h;obtain⟨f,fd,st,Ns,ps,hn,hN,hm,F,hb,hS,J⟩:=D;subst hn;subst hN;have U:qK X P α (match mG bw ak with
  |none=>.bad
  |some bx=>(fa ak S).bind λi S1=>if i.length+1=ps.length then y_ nx (ul λa O=>qO Ns.length (g G a O) (.clo a O bx::i) S1) else .bad) (jf X P α Q):=U
 cases Y:mG bw ak with
 |none=>rw[Y] at U;exact Ao U
 |some bx =>
  rw[Y] at U;obtain⟨O,rc,d,hv⟩:=iU re bw bx Y;refine Hk (uS I hg hm ?_ l);refine Of (h₀:=X.base) I.ok.mod.kin F.kp ?_ he zc;rw[he];show Aq _ _ (spliced ((false,eval (.Lambda bp bo am gz) X.env)::Ga aq (Bk es X.env))) _ _ s;refine Kv (K2 I r hy ht hc hq w (K1 hB I.ok) λa H1 s1 pm z1 c' oc ws t I1 r1 o hd hs=>?_);obtain⟨rk,q⟩:=bf.know r1 o;refine bv (wV ha I1 rk (re.mono q (AT _)) (qW.base q (AT _) U) aq) λus s2 ⟨vs,H2,P2,zy,i,S2,B,rv,r2,zx,rp,q1,q2,b⟩=>⟨B.kIn,?_⟩;obtain⟨hl,v⟩:=xT b;obtain⟨nb,A,nf⟩:=RO v;have e1:=IC nb a O;rw[<- e1] at A nf;have C:=DY hB B (r2.sub _ _ (q1 _ _ qV)) hd hs d hv;have I3:Inv X aj σ H2 s2:=B.pins_of λp hp=>B.pin p (Ca _ (Cs _ hp));obtain⟨zs,od,kV,z2,zv,an,zb,ct,zz,rfl,lk,zl⟩:=F.ex;have hz:(Cb a::us).length=ps.length:=by rw[<- hl,rp.length,rv.length];rfl
  have M:=hb s2 (.ref a::us) B.kIn (by rw[Fk];exact hz)
  rw[Fk] at M;have e:=qE.mono (q.trans q1) q2 _ _ rc;have u:=qW.base q1 q2 A;have L:qM (V.ref a::vs) (Cb a::us):=.cons rfl rv;exact mF (λz=>hF (nf z)) I3 u (WU lk zl hS (by rw[<- hz];exact L.length) hr I3.env0 M L (eI (J _ G a O LX zb X.A X.stack s2 H2 _ C (hr.deeper _)).1 r2 (.cons (by simp only[au];exact⟨trivial,e⟩) rp) (aU u)))
end
section
variable {X:Cx}{aj:aa}{σ: _L.St}{H P:Hp}{α: Aa Af}{s:Ag}{S:ap}
def gS:DF:=λQ S=>match Q with
 |[d,.tup [.ty b,.ty c]]=>if jF b=true/\jF c=true then match m_ d S with
   |some a=>.ok (.bl (wO a b||wO a c)) S
   |none=>.bad
  else .bad
 |_=>.bad
inductive KitAt (X:Cx)(u:Ac)(t:Ac)(h:Bt):Prop
 |mk (Hh:Bt->Prop) (Z:PySem.W.KitX X.K u t Hh) (p:Hh h) (ne:u≠.builtin "__main__.__loader__#opaque"):KitAt X u t h
def EG {a:Es}(I:Inv X aj σ H s)(r:bf X.K H P α S)(q:qJ v u)(p:au X.K P α d v)(B:m_ d S=Ab a):KitAt X u (.type a) s.heap:=by
 cases BY r p B with
 |tup N A e sq Q =>
  subst e Q;cases (show u=Cb N from q)
  obtain⟨C,G,⟨o,Y,J,_⟩,_⟩:=I.tuple sq;exact⟨_,Oe,⟨o,Y,J⟩,λz=>nomatch z⟩
 |lst N A e sq Q =>
  subst e Q;cases (show u=Cb N from q)
  obtain⟨C,G,⟨o,_,Y,J,_⟩,_⟩:=I.list sq;exact⟨_,Jw,⟨o,Y,J⟩,λz=>nomatch z⟩
 |of w =>
  cases w with
  |non=>cases (show u=Cz from q);exact⟨_,Aa2,Hy,λz=>nomatch z⟩
  |bl y=>cases (show u=Fy y from q);exact⟨_,Aa3,Hy,λz=>nomatch z⟩
  |int i=>obtain⟨t,q⟩:=(show ∃ t,u=Qw i t from q);cases q;exact⟨_,AaJ,Hy,λz=>nomatch z⟩
  |str y=>obtain⟨t,q⟩:=(show ∃ t,u=WP y t from q);cases q;exact⟨_,AaK,Hy,λz=>nomatch z⟩
  |flt y=>cases d <;> first|(exact nn B)|(simp only[au] at p;cases p;done)|(simp only[au] at p;obtain⟨_,p⟩:=p;cases p.1;done)|(simp only[au] at p;obtain⟨_,_,p⟩:=p;cases p.1;done)
  |@lst b U Q =>
   cases (show u=Cb b from q)
   obtain⟨_,_,n,_,Y⟩:=(show zE X.prog X.w H s.heap b (.lst U) from I.hok b _ Q)
   exact⟨_,Jw,⟨_,Y,rfl⟩,λz=>nomatch z⟩
  |@frz b M U Q =>
   cases (show u=Cb b from q)
   obtain⟨_,_,_,n,_,Y⟩:=(show zE X.prog X.w H s.heap b (.frz M (.lst U)) from I.hok b _ Q)
   exact⟨_,Jw,⟨_,Y,rfl⟩,λz=>nomatch z⟩
  |@tup b U Q =>
   cases (show u=Cb b from q)
   obtain⟨_,_,_,p⟩:=(show zE X.prog X.w H s.heap b (.tup U) from I.hok b _ Q)
   obtain⟨o,Y,J,_⟩:=p;exact⟨_,Oe,⟨o,Y,J⟩,λz=>nomatch z⟩
  |@dK b O Q =>
   cases (show u=Cb b from q)
   obtain⟨_,_,k,_,p⟩:=(show zE X.prog X.w H s.heap b (.dK O) from I.hok b _ Q)
   obtain⟨o,L,T,Y,J,_⟩:=p;exact⟨_,Ox,⟨o,Y,J.1⟩,λz=>nomatch z⟩
  |@dT b O Q =>
   cases (show u=Cb b from q)
   obtain⟨_,_,U,_,o,L,T,Y,J,_⟩:=(show zE X.prog X.w H s.heap b (.dT O) from I.hok b _ Q)
   exact⟨_,Ox,⟨o,Y,J.1⟩,λz=>nomatch z⟩
set_option tactic.hygienic true in
def JS {Ok:D->ap->Prop}(h:qK X P α (gS ds S) Ok):∃ d b c a,ds=[d,.tup [.ty b,.ty c]]/\jF b=true/\jF c=true/\m_ d S=Ab a/\Ok (.bl (wO a b||wO a c)) S:=by
 unfold gS at h
 split at h
 .rename_i d b c
  obtain⟨⟨J,Y⟩,h⟩:=xT h
  split at h
  .rename_i a Q
   exact⟨d,b,c,a,rfl,J,Y,Q,h⟩
  .exact Ao h
 .exact Ao h
def F4:wN X (.builtin "isinstance") gS:=by
 intro aj σ H s P α S vs us ds Q I r rv g m;obtain⟨d,b,c,a,rfl,T,f,U,ok⟩:=JS m;obtain⟨v,w,u,x,rfl,rfl,p,N,q,k⟩:=pC g rv;simp only[au] at N;obtain⟨tp,ws,rfl,sq,t⟩:=N;obtain⟨w1,M,rfl,C,t⟩:=t.cons_inv;obtain⟨w2,l,rfl,O,t⟩:=t.cons_inv;cases t.nil_inv;simp only[au] at C O;subst C O;cases (show x=Cb tp from k)
 obtain⟨its,G,⟨o,h1,L,n,y⟩,_⟩:=I.tuple (xW r.sub sq);obtain⟨i1,i2,rfl,i,y2⟩:=eA G;cases (show i1=Hw b from i)
 cases (show i2=Hw c from y2)
 obtain⟨Hh,Z,hp,A⟩:=EG I r q p U;obtain⟨oc,od,h,zb⟩:=o;cases L;cases y;have Y:=lX (K:=X.K) (i4 U) T;have J:=lX (K:=X.K) (i4 U) f;refine PySem.W.kia_tup (its:=[.type b,.type c]) (b:=wO a b||wO a c) Z I.kIn hp h1 ?_ A λe=>⟨.bl _,H,I.tok e,rfl,xr ok r (by simp only[au])⟩
 cases z:wO a b with
 |true=>rw[z] at Y;simp only[Yc,Y];rfl
 |false =>
  rw[z] at Y;cases B:wO a c with
  |true=>rw[B] at J;simp only[Yc,Y,J];rfl
  |false=>rw[B] at J;simp only[Yc,Y,J];rfl
end
abbrev ym:=Aa (Af × Ah × DF)
def _j (X:Cx)(cm:Au)(k:Ah)(Q:ym):Prop:=∀ q∈Q,∃ x,X.mg x=Ab (.ref q.1)/\oq X.prog X.w X.K X.mg X.base cm k x q.2.1 q.2.2
def mJ (i:Ah)(J:ym)(U:DA):DE:=λak S=>match ak[i]? with
 |some (Ab (.obj a))=>match J.lookup a with
  |some (n,F)=>(U ak S).bind λQ Y=>if Q.length=n then F Q Y else .bad
  |none=>.bad
 |_=>.bad
section
variable {X:Cx}{cm:Au}{k i:Ah}{x:As}{p aq:Ev}{e:By}{es:Aa By}{fa:DA}{Fs:ym}
theorem Y9 {β:Type}{a:Af}{b:β}:∀ {l:Aa (Af × β)},l.lookup a=Ab b->(a,b)∈l
 |[],h=>by cases h
 |(c,d)::r,h=>by
  rw[Ji] at h;cases q:a == c with
  |true=>rw[q] at h;cases h;rw[eq_of_beq q];exact .head _
  |false=>rw[q] at h;exact .tail _ (Y9 h)
set_option tactic.hygienic true in
def M5 {S:ap}{P:Hp}{α:ag}{Ok:D->ap->Prop}(h:qK X P α (mJ i Fs fa ak S) Ok):∃ a n F,ak[i]? = Ab (Ab (.obj a))/\(a,n,F)∈Fs/\qK X P α ((fa ak S).bind λds S1=>if ds.length=n then F ds S1 else .bad) Ok:=by
 unfold mJ at h
 split at h
 .rename_i a e
  split at h
  .rename_i n F q
   exact⟨a,n,F,e,Y9 q,h⟩
  .exact Ao h
 .exact Ao h
def SL (Z:_j X cm k Fs)(o:ax cm k X.A)(hF:jg X)(c:X.N[i]? = Ab x)(hv:oy X.env.scope x)(m:(x == ("__debug__" : As))=false)(B:(x == ("__classdict__" : As))=false)(w:PA X (e::es) (ku X fa))
  (he:Bk (e::es) X.env=(false,eval e X.env)::Bk es X.env:=by rfl) (U:(Ga aq (Bk es X.env)).any (·.1)=false:=by rfl):PE X (.Call (.Name x p) (e::es) [] aq) (tD X (mJ i Fs fa)):=by
 intro aj s σ H Q I h;obtain⟨P,α,ak,S,r,M,C⟩:=h;obtain⟨a,n,F,e1,t,C⟩:=M5 C;obtain⟨y,z,f,fd,ps,hn,O,hk,l,A,G⟩:=Z _ t;cases z.symm.trans O;obtain⟨v,e2,Y⟩:=M.2 i _ e1;simp only[au] at Y;obtain⟨rfl,g⟩:=Y;refine Hk (bv (cZ c hv m B aj s σ H (λv H'=>v=.ref a/\H'=H) I ⟨_,e2,rfl,rfl⟩) λu s1 ⟨v,H1,I1,L,z1,z2⟩=>?_);subst z1;subst z2;cases (show u=Cb a from L)
 refine Of (h₀:=X.base) I.ok.mod.kin g (bv (wV w I1 r M C aq) λus s2 ⟨vs,H2,P2,zb,ds,S2,T,L,b,q,Y,d,q2,J⟩=>⟨T.kIn,?_⟩) he U;obtain⟨A,N⟩:=xT J;exact QC G o l hF T b L Y A (qW.base d q2 N)
end
def yw (X:Cx)(i:Ah)(x:As):Au:=decide (X.N[i]? = Ab x)&&(zt (X.env.scope.names.lookup x)&&xj x)
def mW (fe:DE):Aa D->DF:=λbx Q S=>fe ((Q++bx).map Ab) S
def K0 (sc:Ep)(ps:Aa As):Au:=decide (sc.kind=.function)&&(decide (sc.isCoroutine=false)&&(decide (sc.isGenerator=false)&&(decide (∀ y∈sc.names,y.2≠.cell)&&(decide (∀ x∈ps,sc.names.lookup x=Ab .local)&&decide (∀ x∈w8 sc,sc.names.lookup x=Ab .free)))))
structure zh (G:Aa D->DF)(P:Bi)(w:Bz)(K:Ai)(mg:ah)(base:Bt)(cm:Au)(k:Ah)(L:kr)(n:Ah):Prop where
 get:lC P w K mg base cm k L n G
structure zj (g:(Aa D->DF)->Af->Aa V->DS)(P:Bi)(w:Bz)(K:Ai)(mg:ah)(base:Bt)(cm:Au)(k kl m:Ah)(x:As)(n N:Ah):Prop where
 get:D1 P w K mg base cm k kl m x n N g
structure ug (X:Cx)(L:kr)(a:Af)(cv:Aa V):Prop where
 get:ig X.s₀.heap X.H₀ X.fs L a cv
structure ZF (X:Cx)(cm:Au)(k:Ah)(Fs:ym):Prop where
 get:_j X cm k Fs
structure I_ (X:Cx)(y:As):Prop where
 get:y∈wQ/\gH X.K y X.env.code/\X.env.qual=y ++ ".<locals>." /\ ∃ c T,Dy X.K y=Ab (c,T)
section
variable {X:Cx}{cm nx:Au}{k kl n N i:Ah}{x y:As}{p aq gz:Ev}{e:By}{es:Aa By}{fA:DA}{fe:DE}{L:kr}{G:Aa D->DF}{a:Af}{cv:Aa V}{g:(Aa D->DF)->Af->Aa V->DS}{Fs:ym}{bw:Aa Ah}{bp:Qy}{bo:By}{am:Ep}
def YV (h:Ck (yw X i x)):X.N[i]? = Ab x/\oy X.env.scope x/\(x == ("__debug__" : As))=false/\(x == ("__classdict__" : As))=false:=by
 unfold Ck yw at h;simp only[Aw,Cc] at h;exact⟨h.1,oF h.2.1,(g6 h.2.2).1,(g6 h.2.2).2.1⟩
def aK0 (Y:zh G X.prog X.w X.K X.mg X.base cm k L n)(C:ug X L a cv)(Q:ax cm k X.A)(F:jg X)(h:Ck (yw X i x)):QE X (.Call (.Name x p) [] [] aq) (gM i qC a cv n G):=
 have h:=YV h
 ⟨FH Y.1 Q F C.1 h.1 h.2.1 h.2.2.1 h.2.2.2⟩
def aFv (Y:ax cm k X.A)(Z:ZF X cm k Fs)(F:jg X)(h:Ck (yw X i x))(Q:QA X (e::es) fA)(s:tu X e es aq):QE X (.Call (.Name x p) (e::es) [] aq) (mJ i Fs fA):=
 have h:=YV h
 ⟨SL Z.1 Y F h.1 h.2.1 h.2.2.1 h.2.2.2 Q.1 s.1 s.2⟩
def D7:ZF X cm k []:=⟨λq h=>by cases h⟩
def _f {F:DF}(D:sy F X.prog X.w X.K X.mg X.base cm j x n)(Q:j<=k)(hm:X.mg x=Ab (.ref f)/\Fd X.K (.ref f)=true)(Z:ZF X cm k Fs):ZF X cm k ((f,n,F)::Fs):=⟨λq h=>by
 rcases Ba.mp h with rfl|h
 .exact⟨x,hm.1,D.1.mono Q⟩
 .exact Z.1 q h⟩
def qBk {q:As}(h:Ck (K0 am ps))(Q:ps.length<=1):sd ⟨q,bp,bo,am⟩ ps:=by
 unfold Ck at h;simp only[K0,Aw,Cc] at h;obtain⟨a,b,c,d,e,f⟩:=h;exact⟨a,b,c,d,e,Q,f⟩
def qBL (D:zj g X.prog X.w X.K X.mg X.base cm k (kl+1) 0 x n N)(M:I_ X y)(v:ax cm (k+1) X.A)(o:nx=false->jg X)(h:Ck (qg X x&&bE X.env.scope X.N am bw))(hs:Ck (K0 am []))(U:defaultsOf bp X.env=([],[]))
  (w:∀ (q:As) (b:By) (Y:Aa (As × Af)) (B O J:Ac),Wd (AbQ "<lambda>" q bp b am Y B O J) ⟨[],[]⟩ = pure [])
  (Q:∀ (Y:Aa (As × Af)) (f:Af) (cd:Ac) (A:Bp) (l:Aa Ix) (s:Ag) (H:Hp) (E:XK),ax cm kl (A.deeper (Mq (y ++ ".<locals>." ++ "<lambda>") am s.heap.objs.size f cd Y)) ->
   QE (JZ cm X.prog X.w X.K X.mg X.base ([] ++ w8 am) ⟨y ++ ".<locals>." ++ "<lambda>",bp,bo,am⟩ Y f cd A l s H E) bo fe)
  (d:QA X es fA) (s:tu X (.Lambda bp bo am gz) es aq):QE X (.Call (.Name x p) (.Lambda bp bo am gz::es) [] aq) (b7 nx bw n N fA (g (mW fe))):=by
 unfold Ck at h;rw[Aw] at h;obtain⟨r,z,t,c,T,C⟩:=M.1;have I:=wW h.1;exact⟨UV D.1 (EI (ps:=[]) (qBk hs bU) (λY B O J us u=>by cases us with|nil=>exact w _ _ _ _ _ _|cons _ _=>cases u) Q) v o I.1 I.2.1 r C (z c T C) t U h.2 d.1 s.1 s.2⟩
def ug.tr (h:ug X L a cv):ug (Cx.tryIn X E Q) L a cv:=⟨h.1⟩
def lmK {Y:Aa As}(h:(Y.all λy=>(Dy X.K y).isSome)=true)(J:gH X.K y X.env.code)(Q:Ck (Y.contains y&&wQ.contains y))(U:X.env.qual=y ++ ".<locals>."):I_ X y:=by
 unfold Ck at Q;rw[Aw] at Q;obtain⟨⟨c,T⟩,e⟩:=Iw.mp (Bn.mp h y (by simpa using Q.1))
 exact⟨by simpa using Q.2,J,U,c,T,e⟩
def UB:fx X (.builtin "isinstance") gS:=⟨F4⟩
end
section
variable {P:Bi}{w:Bz}{K:Ai}{mg:ah}{base:Bt}{cm:Au}{tp:Ah->Fb}{tab:Aa (As × Ah × Aa As)}{bl:Aa As}{oh qe:Aa (As × Af)}{cs:ai}{sr:ag}{qq:Aa (As × An)}{x:As}{i:Ah}{ps:Aa As}{N:Ah}
def dqL {g:(Aa D->DF)->Af->Aa V->DS}(P:Bi)(w:Bz)(base:Bt)(k O m j:Ah)(T:xx K mg tp tab bl oh qe cs sr qq)(y:tab[j]? = Ab (x,i,ps))(h:Ck (xq (kF (qH (tp i))) ps (qH (tp i))&&decide ((kF (qH (tp i))).length=N)))
  (I:∀ (L:kr) (G:Aa D->DF) (a:Af) (Y:Aa V),zh G P w K mg base cm O L m->∀ (f:Af) (Q:Ac) (A:Bp) (J:Aa Ix) (s:Ag) (H:Hp) (E:XK),ug (kw cm P w K mg base (kF (qH (tp i))) x (qH (tp i)) f Q A J s H E) L a Y->ax cm k (A.deeper (Gu x (qH (tp i)) s.heap.objs.size f Q)) ->
   QB (kw cm P w K mg base (kF (qH (tp i))) x (qH (tp i)) f Q A J s H E) (zR (tp i)) (g G a Y)):zj g P w K mg base cm k O m x ps.length N:=by
 unfold Ck at h;simp only[Aw,Cc] at h;obtain⟨h,rfl⟩:=h;obtain⟨f,u,z,F,U⟩:=T.src j y;exact⟨f,u,tp i,_,ps,rfl,rfl,z,F,U,cE h,λL G a Y M Q A J s H E C B=>I L G a Y ⟨M⟩ f Q A J s H E ⟨C⟩ B⟩
end
section
variable {X:Cx}{aj:aa}{σ: _L.St}{H P:Hp}{α: Aa Af}{s:Ag}{S:ap}
def qCE:D->Aa D->ap->bb D:=λa J S=>match a,J with
 |.loc i,[.lst Q]=>fK S i λY=>if Y.length+Q.length<=bq then .ok .non (S.set i (.lst (Y++Q))) else .bad
 |_,_=>.bad
def bC:D->Aa D->ap->bb D:=λa Y S=>match a,Y with
 |.loc i,[.int k]=>fK S i λQ=>if 0<=k/\k<1000000 then (match Q[k.toNat]? with|some d=>.ok d (S.set i (.lst (Q.eraseIdx k.toNat)))|none=>.bad) else .bad
 |_,_=>.bad
theorem nY {K:Ai}:∀ {ds:Aa D} {vs:Aa V} (k:Ah),qE K P α ds vs->qE K P α (ds.eraseIdx k) (vs.eraseIdx k)
 |[],vs,k,r=>by rw[r.nil_inv];exact .nil
 |d::ds,vs,0,r=>by
  obtain⟨w,J,rfl,_,Q⟩:=r.cons_inv;exact Q
 |d::ds,vs,k+1,r=>by
  obtain⟨w,J,rfl,Y,Q⟩:=r.cons_inv;exact .cons Y (nY k Q)
set_option tactic.hygienic true in
def KE:wx X "list.pop" bC:=by
 intro aj σ H s P α S v M e us a n Q I r f p N O Y;unfold bC at Y
 split at Y
 .rename_i i k
  obtain⟨U,L,Y⟩:=jG Y;obtain⟨m,Y⟩:=xT Y;have G:∃ d,U[k.toNat]? = Ab d/\jf X P α Q d (S.set i (.lst (U.eraseIdx k.toNat))):=by
   cases B:U[k.toNat]? with
   |none=>rw[B] at Y;exact Ao Y
   |some d=>rw[B] at Y;exact⟨d,rfl,Y⟩
  obtain⟨d,g,ok⟩:=G;obtain⟨w,u,rfl,rfl,A,o⟩:=yS O N;cases xF A;simp only[au] at p;obtain⟨l,rfl,q⟩:=p;obtain⟨J,z,t⟩:=r.at' i l _ q L;obtain⟨y,C,c⟩:=t.get g;have T:=(Ay.mp C).1;refine KL aj s σ H (.ref l) [.int k] M [u] Q I f (.cons o .nil) ⟨l,J,k,k.toNat,y,rfl,rfl,z,by fin2,by fin2,?_,C,?_⟩
  .unfold Aa5
   show (if (0<=(if k<0 then k+(J.length:An) else k)&&(if k<0 then k+(J.length:An) else k)<(J.length:An))=true then Ab (if k<0 then k+(J.length:An) else k).toNat else none)=_
   rw[Bd (show ¬ k<0 by fin2),Bg (by simp;fin2)]
  .exact ok _ _ _ _ (r.put (m':=.lst (U.eraseIdx k.toNat)) q L (by intro z;cases z) ⟨J.eraseIdx k.toNat,qV,nY _ t⟩) (qF.refl _) (AT _) c
 .exact Ao Y
def LU:xw X "list.pop" bC:=⟨KE⟩
end
def bV:G2:=λa b S=>match lstM a S,lstM b S with
 |some Y,Ab Q=>if Y.length+Q.length<=bq then .ok (.loc S.length) (S++[.lst (Y++Q)]) else .bad
 |_,_=>.bad
section
variable {X:Cx}
def JY {σ:_L.St}{H P:Hp}{α:ag}{S:ap}{Q:VK}(I:Inv X aj σ H s)(r:bf X.K H P α S)(t:qE X.K P α xs vs)(Y:qM vs its)(hz:xs.length<=bq)
  (ok:jf X P α Q (.loc S.length) (S++[.lst xs])):EP X aj σ Q (.ref s.heap.objs.size) { s with heap:=s.heap.push { cls:=.type "list",data:=.seq its.toArray } }:=by
 refine⟨.ref s.heap.objs.size,_,I.laid (t':=s.toks) (o:=.lst vs) (λb J q=>Aj _ q) (Ax _) ⟨by rw[<- t.length,<- zV];exact hz,its,0,Y,Bl _ rfl⟩,rfl,fD r (I.hok.fresh (Ax _)) t ok⟩
def TK:f_ X (Ej .Add) bV:=by
 intro d σ H s P α S v u p f a b Q I r q M k B Y;unfold bV at Y;cases J:lstM a S with
 |none=>rw[J] at Y;exact Ao Y
 |some m =>
  cases U:lstM b S with
  |none=>rw[J,U] at Y;exact Ao Y
  |some g =>
   rw[J,U] at Y;obtain⟨C,Y⟩:=xT (X:=X) Y;obtain⟨a,c,w,n,rfl,o,N,A,T⟩:=f7 I r J k;obtain⟨b,l,O,t,rfl,L,G,y,z⟩:=f7 I r U B;cases q;cases M;refine Va A y ?_ (by rw[Be,Be,<- T,<- z,<- zV];exact C)
   rw[Rr];exact JY I r (o.append L) (N.append G) (by rw[Bj];exact C) Y
def II:je X (Ej .Add) bV:=⟨TK⟩
end
section
variable {X:Cx}
noncomputable def lO:DF:=λQ S=>match Q with
 |[.int a]=>.ok (.int (if a<0 then -a else a)) S
 |_=>.bad
inductive S_ (ds:Aa D)(S:ap):Prop
 |bad (e:lO ds S=.bad)
 |int (i:An) (e:ds=[.int i])
def UH (ds:Aa D)(S:ap):S_ ds S:=by
 match ds with
 |[]=>exact .bad rfl
 |[.int i]=>exact .int i rfl
 |[.non]=>exact .bad rfl
 |[.bl _]=>exact .bad rfl
 |[.str _]=>exact .bad rfl
 |[.ty _]=>exact .bad rfl
 |[.obj _]=>exact .bad rfl
 |[.tup _]=>exact .bad rfl
 |[.lst _]=>exact .bad rfl
 |[.dct0]=>exact .bad rfl
 |[.loc _]=>exact .bad rfl
 |[.exn _]=>exact .bad rfl
 |[.fd _ _]=>exact .bad rfl
 |[.clo _ _ _]=>exact .bad rfl
 |a::_::_=>cases a <;> exact .bad rfl
def DQ:wN X (.builtin "abs") lO:=by
 intro C σ H s P α S O us U Q I r N J Y;cases UH U S with
 |bad e=>rw[e] at Y;exact Ao Y
 |int i e =>
  subst e;obtain⟨v,u,rfl,rfl,p,q⟩:=yS J N;cases xF p;obtain⟨t,rfl⟩:=q;refine call_abs_int λu G=>?_;exact⟨.int _,H,I.tok G,⟨u,rfl⟩,xr Y r (by simp only[au])⟩
def KZ:kz X (Ej .FloorDiv) (rI (λ_ j=>j≠0/\j.natAbs.log2<9000) λi j=>.int (i.fdiv j)):=xh λ_ _ _ _ _ _ _ Q q=>floordiv_int Q.1 q (.inl (PyProof.noPylong_of_log2 Q.2))
def PV:∃ C:An->An->Au,C=λ_ j=>decide (j≠0/\j.natAbs.log2<9000):=⟨_,rfl⟩
def PU:An->An->Au:=Qb PV
def eL:PU=λ_ j=>decide (j≠0/\j.natAbs.log2<9000):=Lx PV
def gT:G2:=i2 PU λi j=>.int (i.fdiv j)
def TL:f_ X (Ej .FloorDiv) gT:=by
 unfold gT;rw[eL];exact bI KZ (λi j h=>Ce h) λP α i j=>by simp only[au]
def qA3:fx X (.builtin "abs") lO:=⟨DQ⟩
def IJ:je X (Ej .FloorDiv) gT:=⟨TL⟩
end
noncomputable def tH:D->ap->Ak (Aa D)
 |.lst Q,_=>Ab Q
 |.tup Q,_=>Ab Q
 |.loc n,S=>match S[n]? with
  |some (.lst Q)=>Ab Q
  |_=>none
 |_,_=>none
section
variable {X:Cx}{aj:aa}{σ: _L.St}{H P:Hp}{α: Aa Af}{S:ap}{s:Ag}
def iL {K:Type}{is:K->Ac->Prop}{m:K->An}{lt':K->K->Au}{d:K}{b:K->Prop}(kd:_S.Kind X.prog X.w is m lt' d b s.heap)(ad:_S.uj X.prog X.w is m s.heap)(n:X.calm=true)(hu:X.A.units+64<Eu)(I:Inv X aj σ H s)(r:bf X.K H P α S){a:Af}{its:ai}
  (x:s.heap.IsList a its.toArray\/s.heap.IsTuple a its.toArray) (ks:Aa K) (hl:ks.length=its.length) (hk:∀ i v,its[i]? = Ab v->is (ks.getD i d) v) (hn:(_S.kj lt' ks).length<=1000) (hf:∀ k∈ks,b k) (fq:K->D)
  (B:∀ k v,is k v->v∈its->∃ z,qJ z v/\au X.K P α (fq k) z) {E:ae} :
  ce X (call (.type "set") [.ref a]) (λu s1=>ce X (call (.builtin "sorted") [u]) (t_ X aj σ H P α ((_S.kj lt' ks).map fq)) E s1) E s:=by
 have N:its.toArray.size=ks.length:=by rw[Be,hl]
 have mem:∀ k,k∈_S.kj lt' ks↔k∈ks:=λk=>_S.vP kd.ord k ks;have A:∀ i,i<ks.length->ks.getD i d∈ks:=λi M=>by simp[Hv,M]
 refine _S.ZI (U:=_S.kj lt' ks) ad (I.ok.hd n) li x (λi=>ks.getD i d) (λi v hv=>hk i v (by simpa using hv)) li (λi M=>(mem _).mpr (A i (by rw[<- N];exact M))) λg O Z f=>?_
 have seen:∀ k∈_S.vV (λi=>ks.getD i d) its.toArray.size,k∈ks:=λk J=>by
  obtain⟨i,M,rfl⟩:=_S.jU.mp J;exact A i (by rw[<- N];exact M)
 have e:Inv X aj σ H { s with heap:=g,toks:=O }:=I.kept f
 refine _S.XM (s:={ s with heap:=g,toks:=O }) kd (I.ok.hd n) li f Z (λk J=>hf k (seen k J)) (U:=_S.kj lt' ks) li (λk J=>(mem k).mpr (seen k J)) λh2 T D c G l t o C hp zb=>?_
 rw[N,PC kd.ord] at C;have z:∀ (G:Aa (K × Ac)),(∀ p∈G,is p.1 p.2/\p.2∈its)->∃ Y,qM Y (G.map (·.2))/\qE X.K P α ((G.map (·.1)).map fq) Y:=by
  intro G
  induction G with
  |nil=>exact λ_=>⟨[],.nil,.nil⟩
  |cons p G ih =>
   intro h;obtain⟨Y,w,y⟩:=ih λq hq=>h q (by simp[hq])
   obtain⟨v,b1,b2⟩:=B p.1 p.2 (h p bB).1 (h p bB).2
   exact⟨v::Y,.cons b1 w,.cons b2 y⟩
 obtain⟨Y,w,y⟩:=z G λp Q=>by simpa using hp p Q
 rw[C] at y;have nd:([(D,HO.lst Y)].map (·.1)).Nodup:=by simp
 have I2:Inv X aj σ (kK H [(D,HO.lst Y)]) { s with heap:=h2,toks:=T }:=Inv.laidL (s:={ s with heap:=g,toks:=O }) (L:=[(D,HO.lst Y)]) (t':=T) e l (λp Q=>by
  have:p=(D,HO.lst Y):=by simpa using Q
  subst this;exact t) λp Q=>by
  have:p=(D,HO.lst Y):=by simpa using Q
  subst this;refine⟨?_,G.map (·.2),c,w,o⟩
  have:=w.length;rw[Ap] at this;rw[this,Gb]
  lia
 exact⟨D,Y,rfl,e.hok.fresh t,I2,y⟩
set_option tactic.hygienic true in
theorem NU (I:Inv X aj σ H s)(r:bf X.K H P α S)(p:au X.K P α d v)(q:qJ v Q)(h:tH d S=Ab xs) :
  ∃ a vs its,Q=.ref a/\qE X.K P α xs vs/\qM vs its/\(s.heap.IsList a its.toArray\/s.heap.IsTuple a its.toArray)/\xs.length=its.length:=by
 cases d with
 |lst G=>exact aP I r p q h
 |tup G=>exact aP I r p q h
 |loc n =>
  have U:S[n]? = Ab (.lst xs):=by
   have h:(match S[n]? with|some (.lst xs)=>Ab xs|_=>none)=Ab xs:=h
   split at h
   .rename_i e;cases h;exact e
   .cases h
  simp only[au] at p;obtain⟨a,rfl,J⟩:=p;cases (show Q=Cb a from q)
  obtain⟨vs,z,t⟩:=r.at' n a _ J U;obtain⟨its,Y,p,N⟩:=I.list (jw.of z);exact⟨a,vs,its,rfl,t,Y,.inl p.isList,by rw[t.length,Y.length]⟩
 |_=>cases h
end
end _D
section
namespace _D
open _L
mutual
def zK:D->Aa An
 |.int n=>[1,n]
 |.tup Q=>2::zC Q
 |_=>[]
def zC:Aa D->Aa An
 |[]=>[0]
 |x::Q=>zK x++zC Q
end
mutual
def yI:D->D->Au
 |.int _,.int _=>true
 |.tup Y,.tup Q=>yE Y Q
 |_,_=>false
def yE:Aa D->Aa D->Au
 |x::Y,y::Q=>yI x y&&yE Y Q
 |_,_=>true
end
def ltN (a b:D):Au:=_H.lexLt (zK a) (zK b)
noncomputable def um:Ah->D->Au
 |_,.int _=>true
 |n+1,.tup Q=>Q.all (um n)
 |_,_=>false
inductive Tr:Ah->D->Prop
 |int (n:Ah) (i:An):Tr n (.int i)
 |tup (n:Ah) (xs:Aa D) (h:∀ x∈xs,Tr n x):Tr (n+1) (.tup xs)
def qAu:∀ {n:Ah} {d:D},um n d=true->Tr n d:=by
 intro n
 induction n with
 |zero=>intro d h;cases d <;> first|exact .int _ _|exact Dl h
 |succ n Y =>
  intro d h;cases d with
  |int i=>exact .int _ i
  |tup Q=>exact .tup n Q λx J=>Y (Bn.mp (show Q.all (um n)=true from h) x J)
  |_=>exact Dl h
def yY (h:Tr n d):∃ k r,zK d=k::r/\0<k:=by
 cases h with
 |int _ i=>exact⟨1,[i],rfl,by decide⟩
 |tup n Q=>exact⟨2,zC Q,rfl,by decide⟩
def zW (x:D)(xs:Aa D):zC (x::xs)=zK x++zC xs:=rfl
theorem sS:∀ {xs Q:Aa D} {n m:Ah},(∀ x∈xs,Tr n x)->(∀ y∈Q,Tr m y)->(∀ x∈xs,∀ y∈Q,yI x y=true->∀ r Y:Aa An,_H.lexLt (zK x++r) (zK y++Y)=if j_ x y=true then _H.lexLt r Y else ltN x y)->yE xs Q=true ->
  ∀ r Y:Aa An,_H.lexLt (zC xs++r) (zC Q++Y)=if zQ xs Q=true then _H.lexLt r Y else _H.lexLt (zC xs) (zC Q)
 |[],[],_,_,_,_,_,_,r,Y=>rfl
 |[],y::Q,_,_,_,G,_,_,r,Y=>by
  obtain⟨k,t,e,p⟩:=yY (G y bB)
  rw[Bd (by intro z;cases z),zW,e]
  show _H.lexLt (0::r) (k::_)=_H.lexLt [0] (k::_);rw[_H.ba,_H.ba,Bd om,Bd om]
 |x::xs,[],_,_,O,_,_,_,r,Y=>by
  obtain⟨k,t,e,p⟩:=yY (O x bB)
  rw[Bd (by intro z;cases z),zW,e]
  show _H.lexLt (k::_) (0::Y)=_H.lexLt (k::_) [0];rw[_H.ba,_H.ba,Bd om,Bd om]
 |x::xs,y::Q,_,_,O,G,N,C,r,Y=>by
  have J:(yI x y&&yE xs Q)=true:=C;rw[Aw] at J;have L:=sS (λz U=>O z (by simp[U])) (λz U=>G z (by simp[U])) (λz U T B=>N z (by simp[U]) T (by simp[B])) J.2
  rw[zW,zW,Cd,Cd,N x bB y bB J.1,N x bB y bB J.1,L,sG]
  cases j_ x y <;> cases zQ xs Q <;> simp
def K7 {a:D}(L:Tr n a):∀ {m:Ah} {b:D},Tr m b->yI a b=true->∀ r Q:Aa An,_H.lexLt (zK a++r) (zK b++Q)=if j_ a b=true then _H.lexLt r Q else ltN a b:=by
 induction L with
 |int n i =>
  intro m b N Y r Q;cases N with
  |int _ j =>
   show _H.lexLt (1::i::r) (1::j::Q)=if (i == j)=true then _ else _H.lexLt [1,i] [1,j]
   simp only[_H.ba,Eb,Pl]
   split <;> rfl
  |tup _ J=>exact Dl Y
 |tup n C E T =>
  intro m b N Y r Q;cases N with
  |int _ j=>exact Dl Y
  |tup m J B =>
   have h:=sS E B (λx O y G U=>T x O (B y G) U) Y r Q;show _H.lexLt (2::(zC C++r)) (2::(zC J++Q))=if zQ C J=true then _ else _H.lexLt (2::zC C) (2::zC J)
   rw[_H.ba,_H.ba,Bg rfl,Bg rfl,h]
def fB {xs Q:Aa D}:ltN (.tup xs) (.tup Q)=_H.lexLt (zC xs) (zC Q):=by
 show _H.lexLt (2::_) (2::_)=_;rw[_H.ba,Bg rfl]
def uA {n m:Ah}{x y:D}{xs Q:Aa D}(U:Tr n x)(J:Tr m y)(Y:yI x y=true):_H.lexLt (zC (x::xs)) (zC (y::Q))=if j_ x y=true then _H.lexLt (zC xs) (zC Q) else ltN x y:=K7 U J Y _ _
set_option tactic.hygienic true in
def f9 (i j:An):ltN (.int i) (.int j)=decide (i<j):=by
 show _H.lexLt [1,i] [1,j]=_;rw[_H.ba,Bg rfl,_H.ba]
 split
 .rename_i h;subst h;simp[_H.ip]
 .rfl
theorem sD:∀ {xs Y:Aa D} {n m:Ah},(∀ x∈xs,Tr n x)->(∀ y∈Y,Tr m y)->(∀ x∈xs,∀ y∈Y,∀ r Q:Aa An,zK x++r=zK y++Q->x=y/\r=Q)->∀ r Q:Aa An,zC xs++r=zC Y++Q->xs=Y/\r=Q
 |[],[],_,_,_,_,_,r,Q,e=>⟨rfl,by injection e⟩
 |[],y::Y,_,_,_,U,_,r,Q,e=>by
  obtain⟨k,t,N,p⟩:=yY (U y bB)
  rw[zW,N] at e;injection e with G O
  fin2
 |x::xs,[],_,_,C,_,_,r,Q,e=>by
  obtain⟨k,t,N,p⟩:=yY (C x bB)
  rw[zW,N] at e;injection e with G O
  fin2
 |x::xs,y::Y,_,_,C,U,B,r,Q,e=>by
  rw[zW,zW,Cd,Cd] at e;obtain⟨G,O⟩:=B x bB y bB _ _ e
  obtain⟨E,I⟩:=sD (λz J=>C z (by simp[J])) (λz J=>U z (by simp[J])) (λz J T L=>B z (by simp[J]) T (by simp[L])) _ _ O
  exact⟨by rw[G,E],I⟩
def WA {a:D}(C:Tr n a):∀ {m:Ah} {b:D},Tr m b->∀ r Q:Aa An,zK a++r=zK b++Q->a=b/\r=Q:=by
 induction C with
 |int n i =>
  intro m b J r Q e;cases J with
  |int _ j=>injection e with _ e;injection e with G N;exact⟨by rw[G],N⟩
  |tup _ T=>injection e with e _;cases e
 |tup n E L B =>
  intro m b J r Q e;cases J with
  |int _ j=>injection e with e _;cases e
  |tup m T O =>
   injection e with _ e
   obtain⟨G,N⟩:=sD L O (λx U y Y=>B x U (O y Y)) r Q e;exact⟨by rw[G],N⟩
def mI {a b:D}(Q:Tr n a)(Y:Tr m b)(e:zK a=zK b):a=b:=(WA Q Y [] [] (by rw[e])).1
def RM {a:D}(Y:Tr n a):j_ a a=true:=by
 induction Y with
 |int n i=>show (i == i)=true;simp
 |tup n Q _ J =>
  show zQ Q Q=true;rw[vM];simp only[Vk,BEq.rfl,Ze,Bn,Dt];intro j U;exact J _ (by simp[Hv,U])
theorem gK:∀ {xs Q:Aa D},yE xs Q=true->∀ {j:Ah} {x y:D},xs[j]? = Ab x->Q[j]? = Ab y->yI x y=true
 |[],_,_,j,x,y,e,_=>by simp at e
 |_::_,[],_,j,x,y,_,e=>by simp at e
 |a::xs,b::Q,h,j,x,y,J,U=>by
  have Y:(yI a b&&yE xs Q)=true:=h;rw[Aw] at Y;cases j with
  |zero=>cases J;cases U;exact Y.1
  |succ j=>exact gK Y.2 (j:=j) (by simpa using J) (by simpa using U)
def EO {a b c:D}(h1:ltN a b=false)(h2:ltN b c=false):ltN a c=false:=by
 cases h:ltN a c with
 |false=>rfl
 |true =>
  rcases _S.xZ.tri h2 with e|e
  .exact absurd (show ltN a b=true by unfold ltN at *;rw[e];exact h) (by rw[h1];simp)
  .exact absurd (show ltN a b=true from _S.xZ.tr h e) (by rw[h1];simp)
def pD (xs:Aa D):Aa D:=_S.kJ ltN xs
def bK (xs:Aa D):(pD xs).Perm xs:=_S.v3 xs
def r9 (xs:Aa D):(pD xs).map zK=_S.kJ _H.lexLt (xs.map zK):=by
 refine _S.fE _S.xZ ?_ (_S.gE _S.xZ _) (((bK xs).map zK).trans (_S.v3 _).symm);unfold _S.Nf;rw[Dq];have:=Vp (le:=λa b=>!ltN b a) (λa b c J Y=>?_) (λa b=>?_) xs
 .exact this.imp λ{a b} h=>show ltN b a=false by simpa using h
 .simp only[Lv] at *
  exact EO Y J
 .cases h:ltN b a with
  |false=>simp
  |true =>
   cases Q:ltN a b with
   |false=>simp[Q]
   |true=>exact absurd (_S.xZ.tr h Q) (by rw[_S.xZ.irr];simp)
def T4 {xs Q:Aa D}(h:∀ x∈xs,∀ y∈Q,zK x=zK y->x=y)(e:xs.map zK=Q.map zK):xs=Q:=by
 induction xs generalizing Q with
 |nil=>cases Q with
  |nil=>rfl
  |cons y Q=>cases e
 |cons x xs J =>
  cases Q with
  |nil=>cases e
  |cons y Q =>
   injection e with G N
   rw[h x bB y bB G,J (λa Y b U=>h a (by simp[Y]) b (by simp[U])) N]
def QM {xs Q:Aa D}(h:∀ x∈xs,Tr n x)(p:Q.Perm xs)(s:Q.Pairwise λa b=>ltN b a=false):pD xs=Q:=by
 refine T4 (λa Y b J=>mI (h a ((bK xs).mem_iff.mp Y)) (h b (p.mem_iff.mp J))) ?_;rw[r9];refine _S.fE _S.xZ (_S.gE _S.xZ _) ?_ ((_S.v3 _).trans (p.map zK).symm);unfold _S.Nf;rw[Dq];exact s
end _D
end
namespace _D
open _L PySem.SeqAt
variable {xs:Aa D}{n:Ah}{A:Bp}{h:Bt}
def Z6 (A:Bp)(s:Ag)(u v:Ac)(c:Au):Prop:=∀ (Y:Bi) (w:Bz) (E:ae) (Q:ae),Q (.bool c) s->Aq (Av Y w) A (richCompare .Lt u v) Q E s
inductive mn (A:Bp)(s:Ag):Aa Ac->Aa Ac->Au->Prop
 |nn:mn A s [] [] false
 |nc (v:Ac) (vs:ai):mn A s [] (v::vs) true
 |cn (u:Ac) (us:ai):mn A s (u::us) [] false
 |eq (u v:Ac) (us vs:ai) (b:Au) (he:EqAt A s u v true) (h:mn A s us vs b):mn A s (u::us) (v::vs) b
 |ne (u v:Ac) (us vs:ai) (b:Au) (he:EqAt A s u v false) (h:Z6 A s u v b):mn A s (u::us) (v::vs) b
section
open PySem.SeqAt
open PySem.AutoSeq1 (wpAny_loadPart')
open PySem.MeetsSeq PySem.MeetsSeq2 PySem.MeetsSeq3
def XN (l b:Af)(items Q:Az Ac)(n t:Ah)(dd z:Ak Af)(sl j:Az (Ak Ac))(r:Au) :
  Meets (Hz.«tuple.__lt__» ⟨[.ref l,.ref b],[]⟩)
   (λA R s=>s.heap.get? l=Ab { cls:=.type "tuple",dict:=dd,data:=.seq items n,slots:=sl } /\ s.heap.get? b=Ab { cls:=.type "tuple",dict:=z,data:=.seq Q t,slots:=j } /\
    mn A.in1 s items.toList Q.toList r/\R (.ok (.ret (.bool r))) s):=
 .of_wp λJ w A R s h=>by
  obtain⟨p,g,d,o,os⟩:=s;obtain⟨f,c,T,h⟩:=h;have e:=Ug
  wp_walk using wpAny_loadPart' f,wpAny_loadPart' c,Mt _ (λq b k=>b.1=none/\k=⟨p,g,d,o,os⟩/\∃ (U N:ai),q=U.zip N/\mn A.in1 ⟨p,g,d,o,os⟩ U N r/\U.length+Q.size=N.length+items.size) _
  case turn =>
   rintro⟨y,x⟩ q b k ⟨C,rfl,U,N,O,B,Y⟩;cases B with
   |nn=>cases O
   |nc v N=>cases O
   |cn u U=>cases O
   |eq u v U N _ I E =>
    rw[Jm] at O;injection O with L G
    injection L with H T
    subst H T;refine Ad (I J w _ _ ?_)
    wp_walk
    exact⟨rfl,rfl,_,_,G,E,by simp only[Bs] at Y;fin2⟩
   |ne u v U N _ I E =>
    rw[Jm] at O;injection O with L G
    injection L with H T
    subst H T;refine Ad (I J w _ _ ?_);have M:=E J w
    wp_walk using M
    exact⟨_,rfl,by simpa using h⟩
  case fin =>
   rintro⟨i,m⟩ k ⟨C,rfl,U,N,O,B,Y⟩;simp only at C;subst C;have hv:r=decide (items.size<Q.size):=by
    cases B with
    |nn=>simp only[Fc] at Y;exact(Co om).symm
    |nc v N=>simp only[Fc,Bs] at Y;exact(Dc om).symm
    |cn u U=>simp only[Fc,Bs] at Y;exact(Co om).symm
    |eq u v U N _ I E=>cases O
    |ne u v U N _ I E=>cases O
   rw[hv] at h
   wp_walk
   exact⟨_,rfl,by simpa [Pw] using h⟩
  case h =>
   exact⟨rfl,rfl,items.toList,Q.toList,rfl,T,by simp;fin2⟩
end
def KB {s:Ag}{l b:Af}(M:s.heap.IsTuple l items)(H:s.heap.IsTuple b Y)(j:A.units<Eu)(h:mn A.in1 s items.toList Y.toList r):Z6 A s (.ref l) (.ref b) r:=by
 intro C w E Q z;obtain⟨⟨cls,y,data,sl⟩,T,L,n,B⟩:=id M;obtain⟨⟨I,N,data2,O⟩,G,U,k,J⟩:=id H;simp only at L B U J;subst L B U J;exact We (op:=.Lt) ⟨_,T,rfl⟩ ⟨_,G,rfl⟩ Xb Wf (Vh _ _) (XN l b items Y n k y N sl O r)
  ⟨T,G,h,show Fy r≠Yg/\Q (.bool r) s from⟨(λx=>nomatch x),z⟩⟩ j
inductive ju (h:Bt):Ah->D->Ac->Prop
 |int (n:Ah) (i:An) (t:Tf):ju h n (.int i) (.int i t)
 |tup (n:Ah) (a:Af) (xs:Aa D) (its:ai) (ht:h.IsTuple a its.toArray) (hl:xs.length=its.length) (hs:∀ (j:Ah) (x:D) (v:Ac),xs[j]? = Ab x->its[j]? = Ab v->ju h n x v):ju h (n+1) (.tup xs) (.ref a)
def ju.tr (t:ju h n d v):Tr n d:=by
 induction t with
 |int n i t=>exact .int n i
 |tup n a xs Q N G hs Y =>
  refine .tup n xs λx U=>?_;obtain⟨j,J,e⟩:=Ct.mp U;exact Y j x (Q[j]' om) (by rw[Ar J,e]) (Ar om)
def ju.sup (S:_S.l_ h h'){n:Ah}{d:D}{v:Ac}(t:ju h n d v):ju h' n d v:=by
 induction t with
 |int n i t=>exact .int n i t
 |tup n a xs Q G U hs Y =>
  obtain⟨o,J,r⟩:=G;exact .tup n a xs Q ⟨o,S _ _ J,r⟩ U Y
def ju.det (t:ju h n d v):∀ {m:Ah} {d':D},ju h m d' v->d=d':=by
 induction t with
 |int n i t=>intro m d' J;cases J with|int _ _ _=>rfl
 |tup n a xs Y E I hs N =>
  intro m d' J;cases J with
  |tup m _ L Q G C U =>
   have e:=oE E G;have B:Y=Q:=by simpa using congrArg sK e
   subst B;have:xs=L:=Qe om λj T O=>N j _ (Y[j]' om) (Ar T) (Ar om) (U j _ _ (Ar O) (Ar om));rw[this]
def ju.eq {s:Ag}{a:D}(t:ju s.heap n a u):∀ {m:Ah} {b:D} {v:Ac} {A:Bp},ju s.heap m b v->yI a b=true->A.units+n<Eu->EqAt A s u v (j_ a b):=by
 induction t with
 |int n i t =>
  intro m b v A J O y;cases J with
  |int _ j J=>exact EqAt.int_int i t j J
  |tup _ _ _ _ _ _ _=>exact Dl O
 |tup n a xs Y E L hs M =>
  intro m b v A J O y;cases J with
  |int _ j J=>exact Dl O
  |tup m b C Q N U G =>
   refine(B9 om E N L U (λj q w=>?_) λe=>?_).eq
   .have T:j<Y.length:=by simpa using q
    have B:j<Q.length:=by simpa using w
    have I:xs[j]? = Ab (xs.getD j .non):=by simp[Hv,show j<xs.length by fin2]
    have H:C[j]? = Ab (C.getD j .non):=by simp[Hv,show j<C.length by fin2]
    have z:Y[j]? = Ab Y.toArray[j]:=by simp[T]
    have k:Q[j]? = Ab Q.toArray[j]:=by simp[B]
    exact M j _ _ I z (G j _ _ H k) (gK O I H) (by show A.units+1+n<Eu;fin2)
   .subst e
    have:=ju.det (.tup n a xs Y E L hs) (.tup m a C Q N U G);injection this with this
    subst this;exact RM (ju.tr (.tup n a xs Y E L hs))
theorem oN {s:Ag}:∀ {xs Q:Aa D} {us vs:ai} {n m:Ah},xs.length=us.length->Q.length=vs.length->(∀ x∈xs,Tr n x)->(∀ y∈Q,Tr m y)->yE xs Q=true ->
  (∀ (j:Ah) (x y:D) (u v:Ac),xs[j]? = Ab x->Q[j]? = Ab y->us[j]? = Ab u->vs[j]? = Ab v->EqAt A s u v (j_ x y)/\Z6 A s u v (ltN x y))->mn A s us vs (_H.lexLt (zC xs) (zC Q))
 |[],[],[],[],_,_,_,_,_,_,_,_=>.nn
 |[],y::Q,[],v::vs,_,_,_,_,_,O,_,_=>by
  obtain⟨k,t,e,p⟩:=yY (O y bB)
  have:_H.lexLt (zC []) (zC (y::Q))=true:=by
   rw[zW,e];show _H.lexLt [0] (k::_)=_;rw[_H.ba,Bd om];exact Dc p
  rw[this];exact .nc v vs
 |x::xs,[],u::us,[],_,_,_,_,N,_,_,_=>by
  obtain⟨k,t,e,p⟩:=yY (N x bB)
  have:_H.lexLt (zC (x::xs)) (zC []) = false:=by
   rw[zW,e];show _H.lexLt (k::_) [0]=_;rw[_H.ba,Bd om];exact Co om
  rw[this];exact .cn u us
 |x::xs,y::Q,u::us,v::vs,_,_,J,U,N,O,T,h=>by
  have Y:(yI x y&&yE xs Q)=true:=T;rw[Aw] at Y;obtain⟨G,E⟩:=h 0 x y u v rfl rfl rfl rfl;rw[uA (N x bB) (O y bB) Y.1]
  cases B:j_ x y with
  |true =>
   rw[B] at G;exact .eq u v us vs _ G (oN (by simpa using J) (by simpa using U) (λz C=>N z (by simp[C])) (λz C=>O z (by simp[C])) Y.2 λj a b c d H I M L=>h (j+1) a b c d (by simpa using H) (by simpa using I) (by simpa using M) (by simpa using L))
  |false =>
   rw[B] at G;exact .ne u v us vs _ G E
 |[],_,_::_,_,_,_,J,_,_,_,_,_=>by simp at J
 |_::_,_,[],_,_,_,J,_,_,_,_,_=>by simp at J
 |_,[],_,_::_,_,_,_,U,_,_,_,_=>by simp at U
 |_,_::_,_,[],_,_,_,U,_,_,_,_=>by simp at U
def ju.lt {s:Ag}{a:D}(t:ju s.heap n a u):∀ {m:Ah} {b:D} {v:Ac} {A:Bp},ju s.heap m b v->yI a b=true->A.units+n<Eu->Z6 A s u v (ltN a b):=by
 induction t with
 |int n i t =>
  intro m b v A G U d;cases G with
  |int _ j G =>
   intro N w E Q o;rw[f9] at o;exact(Rp o:Aq (Av N w) A (Cy .Lt (.int i t) (.int j G)) Q E s)
  |tup _ _ _ _ _ _ _=>exact Dl U
 |tup n a xs B p q hs l =>
  intro m b v A G U d;cases G with
  |int _ j G=>exact Dl U
  |tup m b c Y T O J =>
   have k:=ju.tr (.tup n a xs B p q hs);have z:=ju.tr (.tup m b c Y T O J);cases k with
   |tup _ _ k =>
    cases z with
    |tup _ _ z =>
     refine KB p T om ?_;rw[fB];refine oN (by simpa using q) (by simpa using O) k z U λj x y u v H M g f=>?_
     have C:A.in1.units+n<Eu:=by show A.units+1+n<Eu;fin2
     have L:B[j]? = Ab u:=by simpa using g
     have I:Y[j]? = Ab v:=by simpa using f
     exact⟨(hs j x u H L).eq (J j y v M I) (gK U H M) C,l j x u H L (J j y v M I) (gK U H M) C⟩
section
variable {X:Cx}{aj:aa}{σ: _L.St}{H P:Hp}{α: Aa Af}{S:ap}{s:Ag}
def AW (I:Inv X aj σ H s)(r:bf X.K H P α S):∀ (n:Ah) {d:D} {v:V} {u:Ac},um n d=true->au X.K P α d v->qJ v u->ju s.heap n d u:=by
 intro n
 induction n with
 |zero =>
  intro d v u h p q;cases d with
  |int i=>simp only[au] at p;subst p;obtain⟨t,rfl⟩:=q;exact .int _ i t
  |_=>exact Dl h
 |succ n G =>
  intro d v u h p q;cases d with
  |int i=>simp only[au] at p;subst p;obtain⟨t,rfl⟩:=q;exact .int _ i t
  |tup xs =>
   obtain⟨a,l,Y,rfl,E,U,Q,T,k,_⟩:=uF I r p;cases (show u=Cb a from q)
   have M:=U.length;have o:=Q.length;refine .tup n a xs Y T om λj x w J O=>?_;obtain⟨y,C,B⟩:=U.get J;obtain⟨z,N,L⟩:=Q.get C;cases N.symm.trans O;exact G (Bn.mp (show xs.all (um n)=true from h) x (Bw J)) B L
  |_=>exact Dl h
end
def neT:D->Au
 |.tup (_::_)=>true
 |_=>false
def w_ (xs:Aa D):Au:=xs.all λa=>neT a&&um 6 a&&xs.all λb=>yI a b
def uC (h:w_ xs=true){x:D}(Y:x∈xs):neT x=true/\Tr 6 x/\∀ y∈xs,yI x y=true:=by
 have:=Bn.mp h x Y;simp only[Aw] at this;exact⟨this.1.1,qAu this.1.2,λy Q=>Bn.mp this.2 y Q⟩
noncomputable def se:D->Ac
 |.tup (.int _::_)=>.type "int"
 |_=>.type "tuple"
def _b (h:Bt)(k:Aa An)(v:Ac):Prop:=∃ d,ju h 6 d v/\zK d=k
section
open PySem.W
variable {prog:Bi}{w:Bz}{h0:Bt}
theorem cN {s:Ag}{b:Au}{Q:Au->Ag->Prop}:∀ {xs J:Aa D} {us vs:ai} {n m i N M:Ah},xs.length=us.length->J.length=vs.length ->
  (∀ (j:Ah) (x:D) (u:Ac),xs[j]? = Ab x->us[j]? = Ab u->ju s.heap n x u)->(∀ (j:Ah) (x:D) (u:Ac),J[j]? = Ab x->vs[j]? = Ab u->ju s.heap m x u)->yE xs J=true->A.units+n<Eu->((b&&i == 0)=true->∀ x,xs[0]? = Ab x->∃ j,x=.int j) ->
  N+vs.length=M+us.length->Q (_H.lexLt (zC xs) (zC J)) s->KatLex prog w A b (decide (N<M)) Q (us.zip vs) i s
 |[],[],[],[],_,_,_,N,M,_,_,_,_,_,_,_,U,h=>by
  have:decide (N<M)=false:=Co (by simp at U;fin2)
  rw[this];exact h
 |[],y::J,[],v::vs,_,_,_,N,M,_,_,_,L,_,_,_,U,h=>by
  have:decide (N<M)=true:=Dc (by simp at U;fin2)
  rw[this];obtain⟨k,t,e,p⟩:=yY (L 0 y v rfl rfl).tr;rw[zW,e] at h;have q:_H.lexLt (zC []) (k::t++zC J)=true:=by
   show _H.lexLt [0] (k::_)=_;rw[_H.ba,Bd om];exact Dc p
  rw[q] at h;exact h
 |x::xs,[],u::us,[],_,_,_,N,M,_,_,C,_,_,_,_,U,h=>by
  have:decide (N<M)=false:=Co (by simp at U;fin2)
  rw[this];obtain⟨k,t,e,p⟩:=yY (C 0 x u rfl rfl).tr;rw[zW,e] at h;have q:_H.lexLt (k::t++zC xs) (zC []) = false:=by
   show _H.lexLt (k::_) [0]=_;rw[_H.ba,Bd om];exact Co om
  rw[q] at h;exact h
 |x::xs,y::J,u::us,v::vs,n,m,i,N,M,G,O,C,L,l,H,o,U,h=>by
  have Y:(yI x y&&yE xs J)=true:=l;rw[Aw] at Y;have B:=C 0 x u rfl rfl;have T:=L 0 y v rfl rfl;rw[uA B.tr T.tr Y.1] at h;rw[Jm];refine kat_cons (B.eq T Y.1 H prog w _ _ ?_);refine kat_go (λe=>kat_yes ?_) λe=>kat_no ?_
  .rw[Bg e] at h
   refine cN (n:=n) (m:=m) (by simpa using G) (by simpa using O) (λj a b E I=>C (j+1) a b (by simpa using E) (by simpa using I)) (λj a b E I=>L (j+1) a b (by simpa using E) (by simpa using I)) Y.2 H (λz=>?_) (by simp at U;fin2) h
   simp at z
  .rw[Bd (by rw[e];simp)] at h
   cases g:b&&i == 0 with
   |true =>
    obtain⟨j,rfl⟩:=o g x rfl;cases B with
    |int _ _ t =>
     cases T with
     |int _ k c =>
      rw[f9] at h;exact oneLt_int h
     |tup _ _ _ _ _ _ _=>exact Dl Y.1
   |false=>exact kat_one _ _ (B.lt T Y.1 H prog w _ _ h)
 |[],_,_::_,_,_,_,_,_,_,G,_,_,_,_,_,_,_,_=>by simp at G
 |_::_,_,[],_,_,_,_,_,_,G,_,_,_,_,_,_,_,_=>by simp at G
 |_,[],_,_::_,_,_,_,_,_,_,O,_,_,_,_,_,_,_=>by simp at O
 |_,_::_,_,[],_,_,_,_,_,_,O,_,_,_,_,_,_,_=>by simp at O
def LG (G:yI (.tup xs) (.tup Y)=true)(h1:xs≠[])(h2:Y≠[]){n m:Ah}(J:Tr n (.tup xs))(t2:Tr m (.tup Y)):se (.tup xs)=se (.tup Y):=by
 cases xs with
 |nil=>exact absurd rfl h1
 |cons x xs =>
  cases Y with
  |nil=>exact absurd rfl h2
  |cons y Y =>
   have Q:(yI x y&&yE xs Y)=true:=G;rw[Aw] at Q;cases J with
   |tup _ _ J =>
    cases t2 with
    |tup _ _ t2 =>
     have N:=J x bB
     have U:=t2 y bB
     cases N with
     |int _ i=>cases U with
      |int _ j=>rfl
      |tup _ _ _=>exact Dl Q.1
     |tup _ _ _=>cases U with
      |int _ j=>exact Dl Q.1
      |tup _ _ _=>rfl
theorem BX {T:Ac}:∀ {vs:ai},(∀ v∈vs,∃ d,ju h 6 d v/\neT d=true/\se d=T)->∃ Y,KatTups h vs Y/\Y.length=vs.length/\∀ f∈Y,Looks M h (typeOf f) T
 |[],_=>⟨[],trivial,rfl,λf H=>by simp at H⟩
 |v::vs,hv=>by
  obtain⟨Y,B,c,C⟩:=BX (M:=M) (vs:=vs) λu y=>hv u (by simp[y])
  obtain⟨d,t,O,N⟩:=hv v bB
  cases t with
  |int _ _ _=>cases O
  |tup n a xs Q p z hs =>
   cases xs with
   |nil=>cases O
   |cons x xs =>
    cases Q with
    |nil=>simp at z
    |cons f Q =>
     obtain⟨o,j,I,k,l⟩:=p;refine⟨f::Y,Ac9 j I l rfl B,by simp[c],λg hg=>?_⟩
     rcases Ba.mp hg with rfl|hg
     .have q:=hs 0 x g rfl rfl
      cases q with
      |int _ i m =>
       rw[<- N];exact Ac1 rfl
      |tup _ b r E U _ _ =>
       obtain⟨L,J,G,_⟩:=U;rw[<- N,show se (.tup (.tup r::xs))=L.cls from G.symm]
       exact(Looks.ld J).andThen .now
     .exact C g hg
def S9 (ok:w_ xs=true){vs:ai}{ks:Aa (Aa An)}(hl:vs.length=ks.length)(hv:∀ i v,vs[i]? = Ab v->_b h0 (ks.getD i []) v)(hf:∀ k∈ks,∃ x∈xs,zK x=k)(h2:2<=vs.length):_S.ue prog w h0 vs (_S.lE _H.lexLt ks []):=by
 have Y:∀ i (J:i<vs.length),∃ d,d∈xs/\ju h0 6 d (vs.getD i Cz)/\zK d=ks.getD i []:=λi J=>by
  obtain⟨d,t,e⟩:=hv i vs[i] (Ar J);obtain⟨x,U,e2⟩:=hf (ks.getD i []) (by simp[Hv,show i<ks.length by fin2])
  have:=mI t.tr (uC ok U).2.1 (e.trans e2.symm);subst this;exact⟨d,U,by simpa [Hv,J] using t,e⟩
 obtain⟨G,N,_,_⟩:=Y 0 om;have ty:∀ d∈xs,se d=se G:=λd hd=>by
  obtain⟨L,f,g⟩:=uC ok hd;obtain⟨I,t2,_⟩:=uC ok N;have c:=g G N;cases d with
  |tup as =>
   cases G with
   |tup bs=>exact LG c (λz=>by subst z;cases L) (λz=>by subst z;cases I) f t2
   |_=>cases I
  |_=>cases L
 refine⟨tuples' (se G != Hw "tuple"),λA hu s y=>⟨λQ E h=>?_,λi j C J hj h=>?_⟩⟩
 .obtain⟨fs,O,a2,H⟩:=BX (M:=Av prog w) (h:=s.heap) (T:=se G) (vs:=vs) λv hm=>by
   obtain⟨i,J,e⟩:=Ct.mp hm;obtain⟨d,q1,q2,_⟩:=Y i J;have:vs.getD i Cz=v:=by simp[Hv,J,e]
   rw[this] at q2;exact⟨d,q2.sup y,(uC ok q1).1,ty d q1⟩
  refine kat_kind O om H ?_ h;unfold se
  split <;> decide
 .obtain⟨a,O,a2,H⟩:=Y i J
  obtain⟨b,b1,b2,b3⟩:=Y j hj;unfold _S.lE at h;unfold kas_ask;rw[<- H,<- b3] at h;have f:=a2.sup y;have t2:=b2.sup y;obtain⟨L,_,g⟩:=uC ok O;obtain⟨I,_,_⟩:=uC ok b1;have l:=ty a O;have c:=g b b1;generalize vs.getD i Cz=u at *;generalize vs.getD j Cz=v at *;cases f with
  |int _ _ _=>cases L
  |tup n p B zs zb l1 s1 =>
   cases t2 with
   |int _ _ _=>cases I
   |tup m q qs zl zc l2 s2 =>
    obtain⟨o1,o,_,k1,d1⟩:=zb;obtain⟨o2,r,_,k2,d2⟩:=zc;have h':C (_H.lexLt (zC B) (zC qs)) s:=by
     have:=@fB B qs;unfold ltN at this;rw[this] at h;exact h
    refine kat_lt o d1 r d2 (cN (n:=5) (m:=5) l1 l2 s1 s2 c om (λz x U=>?_) (by simp;fin2) h')
    rw[<- l] at z;cases B with
    |nil=>cases U
    |cons x' B =>
     cases U;cases x with
     |int i=>exact⟨i,rfl⟩
     |_=>exact absurd z (by simp[se])
def OP (ok:w_ xs=true):_S.Kind prog w (_b h0) (λ_=>0) _H.lexLt [] (λk=>∃ x∈xs,zK x=k) h0:=
 ⟨_S.xZ,λ{k C v} ⟨d,t,e⟩ ⟨O,G,J⟩=>by rw[<- e,<- J,t.det G],λN U Y Q=>S9 ok N U Y Q⟩
end
def ZO (xs:Aa D)(k:Aa An):D:=(xs.find? λx=>zK x == k).getD .non
def o4 (ok:w_ xs=true){x:D}(Q:x∈xs):ZO xs (zK x)=x:=by
 unfold ZO;cases h:xs.find? λy=>zK y == zK x with
 |none=>exact absurd (Oh.mp h x Q) bB
 |some y =>
  have:=Ri h;exact mI (uC ok (Jz h)).2.1 (uC ok Q).2.1 (by simpa using this)
def vB:DF:=λQ S=>match Q with
 |[d]=>match P8 d with
  |some xs=>if (decide (xs.length<=100000)&&w_ xs)=true then .ok (.lst (pD xs)) S else .bad
  |none=>.bad
 |_=>.bad
section
variable {X:Cx}{aj:aa}{σ: _L.St}{H P:Hp}{α: Aa Af}{S:ap}{s:Ag}
def UN (hu:X.A.units+64<Eu):wN X (.builtin "sorted") vB:=by
 intro aj σ H s P α S vs us ds Q I r rv j Y
 match ds,Y,j with
 |[],Y,_=>exact Ao Y
 |_::_::_,Y,_=>exact Ao Y
 |[d],Y,j =>
  simp only[vB] at Y;cases o:P8 d with
  |none=>rw[o] at Y;exact Ao Y
  |some xs =>
   rw[o] at Y;dsimp only at Y;obtain⟨B,Y⟩:=xT (X:=X) Y;rw[Aw,Cc] at B;obtain⟨B,ok⟩:=B;obtain⟨v,u,rfl,rfl,p,q⟩:=yS j rv;obtain⟨a,vs,N,rfl,t1,g,e1,l1⟩:=aP I r p q o;have O:∀ (i:Ah) (u:Ac),N[i]? = Ab u->∃ x U,xs[i]? = Ab x/\ju s.heap 6 x u/\qJ U u/\au X.K P α x U:=λi u J=>by
    have zc:i<N.length:=(Ay.mp J).1;have C:xs[i]? = Ab xs[i]:=Ar om;obtain⟨y,f1,c⟩:=t1.get C;obtain⟨z,g1,f⟩:=g.get f1;cases g1.symm.trans J;refine⟨_,y,C,AW I r 6 ?_ c f,f,c⟩;have:=Bn.mp ok _ (Uz (by fin2:i<xs.length))
    simp only[Aw] at this;exact this.1.2
   have e:(_S.kJ _H.lexLt (xs.map zK)).map (ZO xs)=pD xs:=by
    rw[<- r9,Ds]
    conv=>rhs;rw[<- Qi (pD xs)]
    exact Er λy t=>o4 ok ((bK xs).mem_iff.mp t)
   have G:=VV (X:=X) (aj:=aj) (σ:=σ) (H:=H) (P:=P) (α:=α) (S:=S) (E:=X.xe) (d:=[]) (OP (prog:=X.prog) (w:=X.w) (h0:=s.heap) ok) hu I r e1 (xs.map zK) (by simpa using l1) (λi u J=>by
     obtain⟨x,U,T,l,_⟩:=O i u J;exact⟨x,l,by simp[Hv,T]⟩) (by simpa using B) (λk M=>by
     obtain⟨x,C,e⟩:=Br.mp M;exact⟨x,C,e⟩) (ZO xs) λk u M hm=>by
    obtain⟨i,J,e⟩:=Ct.mp hm;obtain⟨x,U,T,l,q3,b⟩:=O i u (by rw[Ar J,e])
    obtain⟨d',t',e'⟩:=M;have:=t'.det l;subst this;rw[<- e',o4 ok (Bw T)];exact⟨U,q3,b⟩
   rw[e] at G;refine bv G λu' s3 ⟨D,zb,e,m,I',L⟩=>?_;subst e;exact⟨.ref D,_,I',rfl,wR r m L Y⟩
end
end _D
namespace _D
open _L
noncomputable def tV (d:D)(S:ap):Ak (Aa (c_ × D)):=match d with
 |.loc n=>match S[n]? with
  |some (.dct Q)=>Ab Q
  |_=>none
 |_=>none
def mM:G2:=λa b S=>match tV a S,kE b with
 |some Q,Ab k=>match yC Q k with
  |some d=>.ok d S
  |none=>.bad
 |_,_=>.bad
section
variable {X:Cx}{aj:aa}{σ: _L.St}{H P:Hp}{α: Aa Af}{S:ap}{s:Ag}
set_option tactic.hygienic true in
def WH (r:bf X.K H P α S){d:D}{Y:Aa (c_ × D)}{v:V}(h:tV d S=Ab Y)(p:au X.K P α d v):∃ a Q,v=.ref a/\H a=Ab (.dK Q)/\ol X.K P α Y Q:=by
 unfold tV at h
 split at h
 .split at h
  .rename_i J
   cases h;simp only[au] at p;obtain⟨b,rfl,q⟩:=p;obtain⟨Q,z,t⟩:=r.at' _ b _ q J;exact⟨b,Q,rfl,z,t⟩
  .cases h
 .cases h
set_option tactic.hygienic true in
def SN (hu:X.A.units+1<Eu)(e:PE X o (tD X A))(hi:PE X i (tD X fi))(hs:UG i:=by intro _ _;rfl):PE X (.Subscript o i c) (tD X (d2 mM A fi)):=by
 intro aj s σ H Q I h;obtain⟨P,α,ak,S,r,re,m⟩:=h;refine L5 PySem.F.slot_dict_getitem.lookup hs (bv (zT e I r re m) λl s1 ⟨v,H1,L,U,a,S1,J,N⟩=>?_);refine bv (zT hi J.inv J.rel J.env (P:=L) (α:=U) (Ok:=jf X L U Q) (g:=λy E=>mM a y E) (qW.base J.same J.pre N)) λuu s2 ⟨u,T,P2,n,b,E,G2,G⟩=>?_;have pa:=au.mono G2.same G2.pre _ _ J.rep;have j:=G2.rep;have C:=G2.inv;have B:=G2.rel;have Y:=qW.base G2.same G2.pre G;unfold mM at Y
 split at Y
 .rename_i ar k f q
  split at Y
  .rename_i d hv
   obtain⟨p,ws,rfl,z,t⟩:=WH B f pa;have x:=cK q j;subst x;cases (show l=Cb p from J.val)
   obtain⟨w,h1,M⟩:=(lY t).1 d hv;have g:gI T p (kV k) (Ab w):=.inl ⟨_,k,.inl z,rfl,h1.symm⟩;exact⟨iD C g,WE hu C g G2.val λw' s3 I3 O=>⟨w,T,I3,O,xr Y B M⟩⟩
  .exact Ao Y
 .exact Ao Y
end
end _D
section
end
section
end
namespace _D
open _L
variable {xs:Aa (Aa An × Af × V)}{ar:Aa (Aa An × D)}{aj:aa}{Q:ae}{H:Hp}{σ:_L.St}
inductive wl {K:Type}(w:Bz)(hash:K->An)(enc:K->D)(Kf:Ai)(P:Hp)(α : Aa Af)(ds:Aa D)(o:Cp):Prop
 |mk (es:Az (An × Ac)) (ep:Ah) (t:Gg) (ks:Aa K) (kv:Aa (K × Ac)) (ho:o=_S.kn es ep t) (T:_S.jq t es) (led:t.led=_S.vD w) (hds:ds=ks.map enc) (hes:es.toList=kv.map λp=>(hash p.1,p.2)) (nd:(kv.map (·.1)).Nodup) (mem:∀ k,k∈kv.map (·.1)↔k∈ks) (rp:∀ p∈kv,∃ v,qJ v p.2/\au Kf P α (enc p.1) v):wl w hash enc Kf P α ds o
section
variable {K:Type}{w:Bz}{az:K->An}{fq:K->D}{Kf:Ai}{P:Hp}{α:ag}{ds:Aa D}{o:Cp}
def wl.cell (a:wl w az fq Kf P α ds o):∀ v,o.data≠.cell v:=by
 obtain⟨J,U,t,G,Y,rfl,_⟩:=a;intro v z;cases z
end
def eU (ds:Aa D):Au:=match wH ds with
 |some Y=>decide ((_S.kj _H.lexLt Y).length<=1000)&&Y.all λk=>!k.isEmpty
 |none=>false
abbrev TU:=Aa An × Af × Ac
def WM {a:Af}{h1 h2:Bt}(q:eB a xs h1)(k:∀ o,h1.get? a=Ab o->h2.get? a=Ab o):eB a xs h2:=
 let ⟨Y,p,o,J,U,e,c⟩:=q
 ⟨Y,p,o,J,U,k _ e,c⟩
def WL {P:Bi}{a:Af}(q:eB a xs h):zE P w H h a (uw a xs):=
 ⟨q,let ⟨_,_,o,_,_,e,_⟩:=q;⟨o,e⟩,λ_ _=>WM⟩
section
variable {X:Cx}{aq:Ev}
noncomputable def ZM:DE:=λ_ S=>.ok (.loc S.length) (S++[.dcT []])
def FJ:PE X (.Dict [] [] aq) (tD X ZM):=λaj s σ H Q I ⟨P,α,O,S,r,N,U⟩=>by
 have G:=I.hok.fresh (Ax s.heap.objs.size);have Y:=I.laid (a:=s.heap.objs.size) (o:=uw s.heap.objs.size []) (h':=s.heap.push { cls:=.type "dict",data:=.dict #[] }) (t':=s.toks) (λ_ _ q=>Aj _ q) (Ax _) (WL ⟨[],.nil,_,#[],0,Bl _ rfl,⟨rfl,rfl,rfl⟩,rfl,rfl⟩);have J:=r.new (o:=uw s.heap.objs.size []) (m:=.dcT []) G ⟨[],qV,My.mpr (Gj (Cn I.big)),Hg _,AbM,.nil⟩;refine wpAny_Dict_empty ⟨.ref s.heap.objs.size,_,Y,rfl,U _ _ _ _ J (qF.refl _) (Fh _ _) ?_⟩;simp only[au];exact⟨_,rfl,by rw[<- r.len];simp⟩
end
def Y5 {X:Cx}{b:Af}{J:Aa An}(I:Inv X aj σ H s)(q:jh X.K H b (J.map V.int)):(Ey (Ek X.prog X.w)).is s.heap J b:=by
 obtain⟨Y,r,⟨o,O,G,n,N⟩,_⟩:=I.tuple q;refine⟨o,Y.toArray,n,O,G,N,?_⟩;have C:∀ {J:Aa An} {Y:ai},qM (J.map V.int) Y->ItemsAre (Ek X.prog X.w) J Y:=by
  intro J
  induction J with
  |nil=>intro Y v;cases v;exact .nil
  |cons n r U =>
   intro Y v;cases v with
   |cons z t =>
    obtain⟨k,rfl⟩:=(show ∃ t,_=Qw n t from z)
    exact .cons (by show WF n (.int n k)=true;simp[WF]) (U t)
 simpa using C r
def c5 {X:Cx}{P:Hp}{α:ag}{a:Af}(I:Inv X aj σ H s)(sub:qF P H)(z:H a=Ab (uw a xs))(nd:(xs.map (·.1)).Nodup)(t:ud X.K P α ar xs) :
  ∃ us:Aa TU,Paired (λ(p:Aa An × Af × V) (q:TU)=>p.1=q.1/\p.2.1=q.2.1/\qJ p.2.2 q.2.2) xs us/\s.heap.DictOfH (Ey (Ek X.prog X.w)) a us:=by
 obtain⟨⟨us,p,o,O,C,B,G,N,U⟩,_⟩:=(show zE X.prog X.w H s.heap a (uw a xs) from I.hok a _ z)
 refine⟨us,p,o,O,C,B,G,N,U,?_,?_⟩
 .have J:∀ {ar:Aa (Aa An × D)} {xs:Aa (Aa An × Af × V)} {us:Aa TU},ud X.K P α ar xs->Paired (λ(p:Aa An × Af × V) (q:TU)=>p.1=q.1/\p.2.1=q.2.1/\qJ p.2.2 q.2.2) xs us->∀ x∈us,(Ey (Ek X.prog X.w)).is s.heap x.1 x.2.1:=by
   intro ar xs us t
   induction t generalizing us with
   |nil=>intro p x hx;cases p;cases hx
   |cons z t Y =>
    intro p x hx;cases p with
    |cons w p =>
     rcases Ba.mp hx with rfl|hx
     .rw[<- w.1,<- w.2.1]
      exact Y5 I (wD sub z.2.1)
     .exact Y p x hx
  exact J t p
 .have J:∀ {xs:Aa (Aa An × Af × V)} {us:Aa TU},Paired (λ(p:Aa An × Af × V) (q:TU)=>p.1=q.1/\p.2.1=q.2.1/\qJ p.2.2 q.2.2) xs us->us.map (·.1)=xs.map (·.1):=by
   intro xs us p
   induction p with
   |nil=>rfl
   |cons z _ Y=>rw[Cu,Cu,Y,z.1]
  rw[J p];exact nd
section
variable {prog:Bi}{w:Bz}{A:Bp}{E:ae}{s:Ag}{d a:Af}{us:Aa TU}{k:Aa An}{dflt:Ac}
def _F (L:A.units<Eu)(Y:(Ey (Ek prog w)).is s.heap k a)(hm:s.heap.DictOfH (Ey (Ek prog w)) d us)
  (h1:∀ p,Ls us k=Ab p->Q p.2 { s with toks:=s.toks+(Ey (Ek prog w)).draws k })
  (h2:Ls us k=none->∀ h',h'.DictOfH (Ey (Ek prog w)) d (us++[(k,a,dflt)])->Go d s.heap h'->Q dflt { s with heap:=h',toks:=s.toks+(Ey (Ek prog w)).draws k }) (hsz:us.length<=sizeLine) :
  Aq (Av prog w) A (Yd d (.ref a) dflt) Q E s:=by
 obtain⟨o,I,M,U,z,J,O,N,C⟩:=hm;unfold Yd
 try with_reducible refine Ee ?_
 refine Ad ((Ey (Ek prog w)).pyHash (s:=s) L Y ?_);refine Ad (wpAny_dictFind_heap (s:={ s with toks:=s.toks+(Ey (Ek prog w)).draws k }) L Y U J O N C (λG=>?_) λj p B=>?_)
 .have hz:I.size<=sizeLine:=by rw[size_of_entries O];exact hsz
  refine Ad (Ho (Ad (wpAny_updateDictKeys (hz:=hz) (s:={ s with toks:=s.toks+(Ey (Ek prog w)).draws k }) U J (Am (h2 (atKey_none_of_get G) _ ⟨_,_,M+1,EQ _ U (Obj.isFreed_of_dict (Yn J _)),z.mapDictKeys _,Yn J _,?_,?_,?_⟩ (Fp ..))))))
  .simp[O,entryOfKey]
  .intro x hx
   rcases Bq.mp hx with hx|hx
   .exact(Ey (Ek prog w)).keeps (N x hx) U J (Fp ..)
   .cases Cw.mp hx
    exact(Ey (Ek prog w)).keeps Y U J (Fp ..)
  .rw[Di,Gz]
   exact⟨C,by simp,λx hx y T e=>not_mem_keys_of_get G ((e.trans (Cw.mp T):x=k)▸hx)⟩
 .refine Ad (Pe (s:={ s with toks:=s.toks+(Ey (Ek prog w)).draws k }) U J ?_)
  rw[entry_at O j,B];exact Ad (Ho (Am (h1 p (atKey_of_get C B))))
def VU (B:(d == Hx)=false)(dflt:Ac) :
  MeetsIn prog w (Hz.«dict.setdefault» ⟨[.ref d,.ref a,dflt],[]⟩) (λA R s=>A.units+1<Eu/\∃ k us,(Ey (Ek prog w)).is s.heap k a/\s.heap.DictOfH (Ey (Ek prog w)) d us/\us.length<=sizeLine /\
   (∀ p,Ls us k=Ab p->R (.ok (.ret p.2)) { s with toks:=s.toks+(Ey (Ek prog w)).draws k }) /\
   (Ls us k=none->∀ h',h'.DictOfH (Ey (Ek prog w)) d (us++[(k,a,dflt)])->Go d s.heap h'->R (.ok (.ret dflt)) { s with heap:=h',toks:=s.toks+(Ey (Ek prog w)).draws k })):=
 .of_wp λA R s ⟨L,k,us,O,U,C,I,N⟩=>by
  unfold Hz.«dict.setdefault»;refine Ad ?_;unfold Builtin.Dict.keyAndDefault;refine Ad (Xm U.typeIs ?_);show Aq _ _ (pure (d,Cb a,Ab dflt)) _ _ s;refine Am ?_;show Aq _ _ (if (d == Hx)=true then _ else (Yd d (.ref a) dflt >>= _)) _ _ s
  rw[Bd (by rw[B];exact En)]
  exact Ad (_F L O U (λp T=>Am ⟨_,rfl,I p T⟩) (λG h' Y J=>Am ⟨_,rfl,N G h' Y J⟩) C)
end
def JX:D->Ak (Aa An)
 |.tup xs=>yP xs
 |_=>none
def vR (ar:Aa (Aa An × D))(k:Aa An):Ak D:=(ar.find? λY=>decide (Y.1=k)).map (·.2)
def lS (n:Ah)(ar:Aa (Aa An × D))(ds:Aa D)(S:ap):bb D:=match ds with
 |[i,x]=>match JX i,S[n]? with
  |some k,Ab (.dcT ar)=>match vR ar k with
   |some d=>.ok d S
   |none=>if ar.length<bq then .ok x (S.set n (.dcT (ar++[(k,x)]))) else .bad
  |_,_=>.bad
 |_=>.bad
def hX (O:DE)(U:DA):DE:=λJ S=>(O J S).bind λa Y=>match a with
 |.loc n=>match Y[n]? with
  |some (.dcT ar)=>(U J Y).bind λG N=>lS n ar G N
  |_=>.bad
 |_=>.bad
abbrev RT (p:Aa An × Af × V)(q:TU):Prop:=p.1=q.1/\p.2.1=q.2.1/\qJ p.2.2 q.2.2
theorem RH {K:Ai}{P:Hp}{α:ag}{k:Aa An}(t:ud K P α ar xs)(p:Paired RT xs us) :
  (∀ d,vR ar k=Ab d->∃ v q,Ls us k=Ab q/\qJ v q.2/\au K P α d v)/\(vR ar k=none->Ls us k=none):=by
 induction t generalizing us with
 |nil=>cases p;exact⟨λd h=>nn h,λ_=>rfl⟩
 |@cons a b l m z t U =>
  cases p with
  |@cons _ c _ us w p =>
   have e:b.1=c.1:=w.1;by_cases h:a.1=k
   .have J:vR (a::l) k=Ab a.2:=by simp[vR,Ge,h]
    have Y:Ls (c::us) k=Ab c.2:=by simp[Ls,Ge,<- e,<- z.1,h]
    rw[J,Y];exact⟨λd h=>by cases h;exact⟨b.2.2,c.2,rfl,w.2.2,z.2.2⟩,λh=>by cases h⟩
   .have J:vR (a::l) k=vR l k:=by simp[vR,Ge,h]
    have Y:Ls (c::us) k=Ls us k:=by simp[Ls,Ge,<- e,<- z.1,h]
    rw[J,Y];exact U p
def N8 (p:Paired RT xs us):us.map (·.1)=xs.map (·.1):=by
 induction p with
 |nil=>rfl
 |cons z _ Y=>rw[Cu,Cu,Y,z.1]
def fX {β γ:Type}{F:β->γ->Prop}{l:Aa β}{m:Aa γ}{x:β}{y:γ}(h:Paired F l m)(e:F x y):Paired F (l++[x]) (m++[y]):=by
 induction h with
 |nil=>exact .cons e .nil
 |cons z _ Y=>exact .cons z Y
def p8 {β γ:Type}{F:β->γ->Prop}{l:Aa β}{m:Aa γ}(h:Paired F l m):l.length=m.length:=by
 induction h with
 |nil=>rfl
 |cons z _ Y=>simp[Y]
section
variable {X:Cx}{o e:By}{es:Aa By}{fo:DE}{fa:DA}{gc cx:Ev}
set_option tactic.hygienic true in
theorem SU (hu:X.A.units+1<Eu)(ho:PE X o (tD X fo))(ha:PA X (e::es) (ku X fa))
  (C:Ng o "setdefault" X.env (eval o X.env)=eval o X.env:=by rfl)
  (l:((Ga cx (Bk (e::es) X.env)).all (λx=>!x.1)&&(Ab9 cx (Xc [] X.env)).all (λx=>x.1.isSome)
   && decide ((e::es).length+([]:Aa Tu).length+(if ([] : Aa Tu).isEmpty then 0 else 1)<30))=true:=by rfl)
  (B:(gc.endLine == cx.line)=true:=by rfl) (hs:Bk (e::es) X.env=(false,eval e X.env)::Bk es X.env:=by rfl) (G:(Ga cx (Bk es X.env)).any (·.1)=false:=by rfl) :
  PE X (.Call (.Attribute o "setdefault" gc) (e::es) [] cx) (tD X (hX fo fa)):=by
 intro aj s σ H Q I h;obtain⟨P,α,ak,S,r,re,af⟩:=h;refine Wm C l B rfl (bv (zT ho I r re af) λvv s1 ⟨v,H1,P1,A,d,S1,N,J⟩=>?_);cases d with
 |loc n =>
  simp only at J
  split at J
  .rename_i ar hS
   have rp:=N.rep;have I1:=N.inv;have r1:=N.rel;simp only[au] at rp;obtain⟨a,rfl,L⟩:=rp;cases (show vv=Cb a from N.val)
   obtain⟨xs,z,hd,hz,nd,t⟩:=r1.at' n a _ L hS;obtain⟨us,p,T⟩:=c5 I1 r1.sub z nd t;obtain⟨ob,_,_,w,g,_⟩:=id T;refine⟨"dict","dict.setdefault",Vt,Rv,PySem.F.type_dict_setdefault,T.typeIs,λb e=>by cases e;exact⟨ob,w,g.2.1⟩,?_⟩
   have hA:=wV ha N.inv N.rel N.env (P:=P1) (α:=A) (Ok:=jf X P1 A Q) (qW.base N.same N.pre (r:=(fa ak S1).bind λO S2=>lS n ar O S2) J) cx;rw[hs] at hA ⊢;refine Pm (by show (false||(Ga cx (Bk es X.env)).any (·.1))=false;rw[G] <;> rfl) (Qr ?_)
   refine bv hA λws s2 ⟨vs,H2,P2,j,O,S2,I2,rv,E,z5,zl,e1,e2,M⟩=>?_;have Y:=qW.base e1 e2 M;clear M hA T p t z nd hz g w;cases O with
   |nil=>exact Ao Y
   |cons i O =>
    cases O with
    |nil=>exact Ao Y
    |cons x O =>
     cases O with
     |cons _ _=>exact Ao Y
     |nil =>
      obtain⟨vi,f,ui,ux,rfl,rfl,pi,px,qi,qx⟩:=pC zl rv;have u:j[n]? = Ab a:=by
       obtain⟨y,hy⟩:=e2;rw[<- hy,Bb (Ay.mp L).1];exact L
      unfold lS at Y;simp only at Y;cases hk:JX i with
      |none=>rw[hk] at Y;exact Ao Y
      |some k =>
       rw[hk] at Y;cases U:S2[n]? with
       |none=>rw[U] at Y;exact Ao Y
       |some m =>
        rw[U] at Y;cases m with
        |dcT ar =>
         simp only at Y;obtain⟨xs,z,hd,hz,nd,t⟩:=E.at' n a _ u U;obtain⟨us,p,T⟩:=c5 I2 E.sub z nd t;cases i with
         |tup ts =>
          have zb:=gW (show yP ts=Ab k from hk)
          subst zb;simp only[au] at pi;obtain⟨b,ys,rfl,sq,z2⟩:=pi;have zy:=jS z2;subst zy;cases (show ui=Cb b from qi)
          have z3:us.length<=sizeLine:=by rw[<- p8 p];exact hz
          obtain⟨k1,k2⟩:=RH (k:=k) t p;refine call_meetsIn Rv T.typeIs PySem.F.entry_dict_setdefault (fR _ _ _) (VU hd ux) ⟨hu,k,us,Y5 I2 (wD E.sub sq),T,z3,λq hq=>?_,λhn h' zs zv=>?_⟩
          .cases hv:vR ar k with
           |none=>rw[k2 hv] at hq;cases hq
           |some d =>
            obtain⟨w',q',e3,e4,e5⟩:=k1 d hv;rw[e3] at hq;cases hq;rw[hv] at Y;exact⟨w',H2,I2.tok _,e4,xr Y E e5⟩
          .cases hv:vR ar k with
           |some d =>
            obtain⟨w',q',e3,e4,e5⟩:=k1 d hv;rw[e3] at hn;cases hn
           |none =>
            rw[hv] at Y;obtain⟨hl,z4⟩:=xT (X:=X) Y;obtain⟨zc,mh,zx,g1,g2,g3,g4,_,g5⟩:=zs;have dt:eB a (xs++[(k,b,f)]) h':=⟨_,fX p ⟨rfl,rfl,qx⟩,zc,mh,zx,g1,g2,g3,g4⟩;have I3:=I2.write (x:=a) (e:=a) (o:=uw a (xs++[(k,b,f)])) (t':=s2.toks+(Ey (Ek X.prog X.w)).draws k) (by rw[z];exact Hy) (.inl rfl) (λc q hc zz=>(zv.2 c hc).trans zz) ⟨_,g1⟩ (WL dt)
            have kx:us.map (·.1)=xs.map (·.1):=N8 p
            have z1:(xs++[(k,b,f)]).length<=sizeLine:=by
             have:=p8 t;rw[<- zV];simp;lia
            have r3:=E.put (o:=uw a (xs++[(k,b,f)])) (m':=.dcT (ar++[(k,x)])) u U (by intro z;cases z) ⟨_,qV,hd,z1,by rw[Di,<- kx];rw[Di] at g5;exact g5,fX t ⟨rfl,sq,px⟩⟩
            exact⟨f,_,I3,qx,z4 _ _ P2 j r3 (qF.refl _) (AT _) px⟩
         |_=>cases hk
        |_=>exact Ao Y
  .exact Ao J
 |_=>exact Ao J
end
section
variable {prog:Bi}{w:Bz}{A:Bp}{E:ae}{s:Ag}{it d v:Af}{i ep:Ah}{es:Az DictEntry}{od:Cp}
def LI (hv:s.heap.IsValuesView v d)(G:s.heap.get? d=Ab od)(U:od.data=.dict es ep)
  (N:Q (.ref s.heap.objs.size) { s with heap:=s.heap.push { cls:=.type "dict_valueiterator",data:=.fields #[.ref d,.int 0 0,.int es.size 0,.int ep 0] } }) :
  Aq (Av prog w) A (Rj (.ref v)) Q E s:=by
 obtain⟨C,Y,O,J⟩:=id hv;refine TW hv.typeIs Vu (Ef Vu hv.typeIs F.entry_dict_values_iter ?_ (F.args_dict_values_iter_1 _));unfold Hz.«dict_values.__iter__»;refine Ad (Am (Ad ?_));unfold Ac3;refine Ad (Ez Y J (x:=.ref d) rfl (Am (Ad ?_)));unfold Ab6;refine Ad (Pe G U (Ad (Wx G U ?_)));simp only[show Lq "dict_valueiterator" = false from by decide,Bx,Dx]
 refine De (Am ⟨_,rfl,"dict_valueiterator",_,⟨_,Bl _ rfl,rfl⟩,Gv.lookup,?_⟩);simpa [Gk] using N
def LH {Q:Ak Ac->Ag->Prop}(Y:s.heap.IsValIter it d i es.size ep)(N:s.heap.get? d=Ab od)(G:od.data=.dict es ep)(U:i<es.size)
  (L:∀ h',h'.IsValIter it d (i+1) es.size ep->Go it s.heap h'->Q (Ab es[i].val) { s with heap:=h' }) :
  Aq (Av prog w) A (Ms (.ref it)) Q E s:=by
 obtain⟨o,C,B,O⟩:=id Y;unfold Ms;refine Ad (Jg (Ed (name:=Ic "__next__") Y.typeIs Gv
  (Ef Gv Y.typeIs Qj ?_ (Pr _))))
 refine Ad (Am (Ad (Ad ?_)))
 first|refine Ad (Jb Y.typeIs (Am ?_))|refine Ad (Kc Y.typeIs (Am ?_))
 refine Ad (Yb C O ?_);simp only[show Lq "dict_valueiterator" = false from by decide,Bx,Dx]
 show Aq _ _ (if (Cb d == Cz)=true then _ else _) _ _ s
 rw[Bd (show ¬ ((Cb d == Cz)=true) from En)]
 refine Ad (Am (Ad (Pe N G ?_)));rw[Bd bB]
 refine Ad (Am (Ad (Wx N G ?_)));rw[Bd bB]
 refine Am ?_;simp only[show ¬ ((i:An)<0) from by fin2,Dx,Em,Dp U]
 refine Ad ?_
 first|refine Ad (Jb Y.typeIs (Am ?_))|refine Ad (Kc Y.typeIs (Am ?_))
 refine Ad (Qk Y.typeIs ?_);show Aq _ _ (setField (.ref it) 1 (Gk ((i:An)+1)) >>= _) _ _ s;refine Ad (Ki C O bB ?_)
 have J:(s.heap.update it (Ni (·.setIfInBounds 1 (Gk ((i:An)+1))))).IsValIter it d (i+1) es.size ep:=
  ⟨_,EQ _ C (Xd (Og O _)),(AaA ..).trans B,by rw[Og O];simp[Gk]⟩
 refine Ad (Ee ?_);refine Ad (Qk (s:={ s with heap:=s.heap.update it (Ni (·.setIfInBounds 1 (Gk ((i:An)+1)))) }) J.typeIs ?_)
 refine Ad (Qk (s:={ s with heap:=s.heap.update it (Ni (·.setIfInBounds 1 (Gk ((i:An)+1)))) }) J.typeIs ?_)
 show Aq _ _ (pure es[i].val) _ _ _;exact Am (Am ⟨_,rfl,Am (L _ J (Fp ..))⟩)
def IE {Q:Ak Ac->Ag->Prop}(B:A.handled=none)(Y:s.heap.IsValIter it d i es.size ep)(U:s.heap.get? d=Ab od)(J:od.data=.dict es ep)(G:es.size<=i)
  (C:∀ h',AaP it s.heap h'->Q none { s with heap:=h' }) : Aq (Av prog w) A (Ms (.ref it)) Q E s:=by
 obtain⟨o,N,L,O⟩:=id Y;unfold Ms;refine Ad (Jg (Ed (name:=Ic "__next__") Y.typeIs Gv
  (Ef Gv Y.typeIs Qj ?_ (Pr _))))
 refine Ad (Am (Ad (Ad ?_)))
 first|refine Ad (Jb Y.typeIs (Am ?_))|refine Ad (Kc Y.typeIs (Am ?_))
 refine Ad (Yb N O ?_);simp only[show Lq "dict_valueiterator" = false from by decide,Bx,Dx]
 show Aq _ _ (if (Cb d == Cz)=true then _ else _) _ _ s
 rw[Bd (show ¬ ((Cb d == Cz)=true) from En)]
 refine Ad (Am (Ad (Pe U J ?_)));rw[Bd bB]
 refine Ad (Am (Ad (Wx U J ?_)));rw[Bd bB]
 refine Am ?_;simp only[show ¬ ((i:An)<0) from by fin2,Dx,Em,Pp G]
 refine Ad ?_
 first|refine Ad (Jb Y.typeIs (Am ?_))|refine Ad (Kc Y.typeIs (Am ?_))
 show Aq _ _ (setField (.ref it) 0 .none >>= _) _ _ s;refine Ad (Ki N O bB ?_)
 show Aq _ _ (AaQ (.type "StopIteration") [] >>= _) _ _ _;refine Ad ?_;simp only[AaQ,newTuple];refine Ad (De ?_ (by size_fits))
 refine Ad (m:=Mk _ _) (Px (a:=Cz) (by first|rfl|(simp only[Mk];rfl)) ?_)
 refine De ?_ (by size_fits)
 simp only[AbB];refine Ad (Zf ?_);rw[show A.in1.handled=none from B]
 refine Ad (Am (AaR ?_));refine Ad (Qc (T:="StopIteration") (b:=true) ⟨_,Bl _ rfl,rfl⟩ Xx ?_);exact Am (C _ (((Fp ..).extBut.push _).push _))
def IF {r:Af}{n:Ah}(L:od.data=.dict es ep)(y:es.size=n):PySem.W.KdlSrc prog w "dict_values" r d n (λi v=>es[i]?.map (·.val)=Ab v) (λh=>h.IsValuesView r d/\h.get? d=Ab od) where
 type:=λ_ Y=>Y.1.typeIs
 there:=λ_ Y=>⟨let ⟨_,M,_⟩:=Y.1;Bf M,Bf Y.2⟩
 keep:=λ_ _ Y U=>⟨let ⟨o,M,x⟩:=Y.1;⟨o,U r (.inl rfl) o M,x⟩,U d (.inr rfl) _ Y.2⟩
 notList:=by decide
 notTuple:=by decide
 hint:=λ_ _ _ _ Y I=>PySem.W.kdl_hint_values Y.1.typeIs I
 iter:=λA s k Y=>by
  subst y;have z:d≠s.heap.objs.size:=Cn (Bf Y.2);refine⟨_,λi h=>h.IsValIter s.heap.objs.size d i es.size ep/\h.get? d=Ab od,λ_ _ I=>LI Y.1 Y.2 L I,?_,⟨_,Bl _ rfl,rfl,rfl⟩,Aj _ Y.2⟩;exact {
   sub:=λb J=>by simp at J;simp[J]
   frame:=λ_ _ _ st U=>⟨st.1.at λo e=>U _ bB o e,U d bB _ st.2⟩
   item:=λi C Q E j st G=>LH st.1 st.2 L j λB N O=>G _ B C.toks (by rw[Dp j];rfl) ⟨N,(O.2 d z).trans st.2⟩ λb o J e=>O.extBut b o (λh=>J (by simp[h])) e
   done:=λC Q E st G=>IE k st.1 st.2 L (Ax _) λB T=>G B C.toks λb o J e=>T b o (λh=>J (by simp[h])) e
   self:=λ_ _ _ _ st G=>wpAny_pyIter_valiter st.1 G }
end
def tS (f:DE):DE:=λJ S=>(f J S).bind λd Y=>match d with
 |.loc n=>match Y[n]? with
  |some (.dcT ar)=>.ok (.lst (ar.map (·.2))) Y
  |_=>.bad
 |_=>.bad
def N9 (p:Paired RT xs us):qM (xs.map (·.2.2)) (us.map (·.2.2)):=by
 induction p with
 |nil=>exact .nil
 |cons z _ Y=>exact .cons z.2.2 Y
def JD {K:Ai}{P:Hp}{α:ag}(h:ud K P α ar xs):qE K P α (ar.map (·.2)) (xs.map (·.2.2)):=by
 induction h with
 |nil=>exact .nil
 |cons z t Y=>exact .cons z.2.2 Y
section
variable {X:Cx}{o:By}{fo:DE}{gc cx aq p2:Ev}
def iF {prog:Bi}{w:Bz}(d:Af)(J:(d == Hx)=false) :
  MeetsIn prog w (Hz.«dict.values» ⟨[.ref d],[]⟩) (λ_ R s=>s.TypeIs (.ref d) "dict" /\
   R (.ok (.ret (.ref s.heap.objs.size))) { s with heap:=s.heap.push { cls:=.type "dict_values",data:=.fields #[.ref d] } }):=
 .of_wp λA R s ⟨Y,h⟩=>by
  refine Ad ?_;unfold Builtin.Dict.noArgs;refine Ad (Xm Y ?_);show Aq _ _ (pure d) _ _ s;refine Am ?_;show Aq _ _ (Xn d >>= _) _ _ s;unfold Xn;rw[Bd (by rw[J];exact En)]
  exact Ad (Am (Ad (De (Am ⟨_,rfl,h⟩))))
set_option tactic.hygienic true in
def UZ (hc:X.calm=true)(hg:Gl X "list")(hm:X.mg "list" = none)(ho:PE X o (tD X fo))(U:Ng o "values" X.env (eval o X.env)=eval o X.env:=by rfl)(G:(gc.endLine == cx.line)=true:=by rfl)
  (l:Bk [.Call (.Attribute o "values" gc) [] [] cx] X.env=(false,eval (.Call (.Attribute o "values" gc) [] [] cx) X.env)::Bk [] X.env:=by rfl) :
  PE X (.Call (.Name "list" p2) [.Call (.Attribute o "values" gc) [] [] cx] [] aq) (tD X (tS fo)):=by
 intro aj s σ H Q I h;obtain⟨P,α,ak,S,r,re,af⟩:=h;refine Call_ (u7 I hg hm W5 (Ht ?_ l rfl));rw[l];refine Kv (wpAny_Call_method0_late U G (bv (zT ho I r re af) λvv T ⟨v,H1,P1,A,d,S1,O,Y⟩=>?_));cases d with
 |loc n =>
  simp only at Y
  split at Y
  .rename_i ar hS
   have i:=O.rep;have M:=O.inv;have k:=O.rel;simp only[au] at i;obtain⟨a,rfl,ha⟩:=i;cases (show vv=Cb a from O.val)
   obtain⟨xs,z,hd,x,nd,t⟩:=k.at' n a _ ha hS;obtain⟨N,p,E⟩:=c5 M k.sub z nd t;obtain⟨ob,es,ep,B,w,L,C,_⟩:=id E;refine⟨"dict","dict.values",Vt,Ur,PySem.F.type_dict_values,E.typeIs,λb e=>by cases e;exact⟨ob,B,w.2.1⟩,Pm rfl (PySem.evalArgs_none ?_)⟩
   refine call_meetsIn Ur E.typeIs PySem.F.entry_dict_values (PySem.F.args_dict_values_1 _) (iF a hd) ⟨E.typeIs,?_⟩;refine Oy ?_;have y:N.length<=sizeLine:=by rw[<- p8 p];exact x
   refine PySem.W.kdl_call (s:={ T with heap:=T.heap.push { cls:=.type "dict_values",data:=.fields #[.ref a] } }) (IF (n:=N.length) L (size_of_entries C)) (M.ok.hd hc) ⟨⟨_,Bl _ rfl,rfl,rfl⟩,Aj _ B⟩ y λh' tk aw c hk hL J=>?_
   have f:=M.kept (t':=T.toks) (h':=T.heap.push { cls:=.type "dict_values",data:=.fields #[.ref a] }) λb u e=>Aj _ e;have ev:aw.toList=N.map (·.2.2):=by
    refine Ua λj=>?_;rw[Bo,Do];cases m:aw[j]? with
    |none =>
     have:N.length<=j:=by rw[<- J.1];exact Sx.mp m
     rw[Lu this];rfl
    |some v =>
     have this:es[j]?.map (·.val)=Ab v:=J.2 j v m
     rw[entry_at C] at this;cases g:N[j]? with
     |none=>rw[g] at this;cases this
     |some u=>rw[g] at this;exact this.symm
   have I3:=Inv.laid (o:=HO.lst (xs.map (·.2.2))) (t':=tk) f hk (Ax _) ⟨by rw[Ap];exact x,N.map (·.2.2),c,N9 p,by rw[hL,<- ev]⟩
   obtain⟨r3,q⟩:=k.pure (o:=HO.lst (xs.map (·.2.2))) (f.hok.fresh (Ax _))
   refine⟨.ref _,_,I3,rfl,Y _ _ _ A r3 (O.same.trans q) O.pre ?_⟩;exact fO (.inl (.inl qV)) (JD (ud.mono q (AT _) t))
  .exact Ao Y
 |_=>exact Ao Y
end
section
variable {X:Cx}{o e:By}{es:Aa By}{fo:DE}{fA:DA}{gc cx aq p2:Ev}{cm:Au}{k:Ah}
def ND:QE X (.Dict [] [] aq) ZM:=⟨FJ⟩
def CY (O:ax cm k X.A)(C:QE X o fo)(N:QA X (e::es) fA)(U:Ng o "setdefault" X.env (eval o X.env)=eval o X.env:=by rfl)
  (G:((Ga aq (Bk (e::es) X.env)).all (λx=>!x.1)&&(Ab9 aq (Xc [] X.env)).all (λx=>x.1.isSome)&&decide ((e::es).length+([]:Aa Tu).length+(if ([] : Aa Tu).isEmpty then 0 else 1)<30))=true:=by rfl)
  (J:(gc.endLine == aq.line)=true:=by rfl) (hs:Bk (e::es) X.env=(false,eval e X.env)::Bk es X.env:=by rfl) (Y:(Ga aq (Bk es X.env)).any (·.1)=false:=by rfl) :
  QE X (.Call (.Attribute o "setdefault" gc) (e::es) [] aq) (hX fo fA):=⟨SU (vz O) C.1 N.1 U G J hs Y⟩
def GJ (U:X.calm=true)(O:Gl X "list")(hm:X.mg "list" = none)(N:QE X o fo)(Y:Ng o "values" X.env (eval o X.env)=eval o X.env:=by rfl)(J:(gc.endLine == cx.line)=true:=by rfl)
  (G:Bk [.Call (.Attribute o "values" gc) [] [] cx] X.env=(false,eval (.Call (.Attribute o "values" gc) [] [] cx) X.env)::Bk [] X.env:=by rfl):QE X (.Call (.Name "list" p2) [.Call (.Attribute o "values" gc) [] [] cx] [] aq) (tS fo):=⟨UZ U O hm N.1 Y J G⟩
end
def jK (xs:Aa D):Ak (Aa D):=match wH xs with
 |some Y=>if (decide ((_S.kj _H.lexLt Y).length<=1000)&&Y.all λk=>!k.isEmpty)=true then Ab ((_S.kj _H.lexLt Y).map mr) else none
 |none=>none
def y8 (U:Au)(f:DE):DE:=λG S=>(f G S).bind λd Y=>match (tH d Y).bind jK with
 |some J=>if U then .ok (.loc Y.length) (Y++[.lst J]) else .ok (.lst J) Y
 |none=>.bad
section
variable {X:Cx}{e:By}{fa:DE}{p1 p2 pe pc:Ev}{mu:Au}
set_option tactic.hygienic true in
def iC (hc:X.calm=true)(hu:X.A.units+64<Eu)(hg:Gl X "sorted")(hm:X.mg "sorted" = none)(zl:Gl X "set")(g:X.mg "set" = none)(ha:PE X e (tD X fa))(he:Bk [e] X.env=(false,eval e X.env)::Bk [] X.env:=by rfl) :
  PE X (.Call (.Name "sorted" p1) [.Call (.Name "set" p2) [e] [] pc] [] pe) (tD X (y8 mu fa)):=by
 intro aj s σ H Q I h;obtain⟨P,α,ak,S,r,re,af⟩:=h;refine Hk (u7 I hg hm W6 ?_);refine Qm ?_ rfl rfl;refine Kv ?_;refine Call_ (u7 I zl g UK (Ht ?_ he rfl));rw[he];refine Kv (bv (zT ha I r re af) λvv T ⟨v,H1,P1,O,d,S1,Y,U⟩=>Oy ?_);cases x:(tH d S1).bind jK with
 |none=>simp only[x] at U;exact Ao U
 |some ys =>
   simp only[x] at U;obtain⟨xs,M,hs⟩:=Ft.mp x;obtain⟨a,vs,B,rfl,t1,zb,A,l1⟩:=NU Y.inv Y.rel Y.rep Y.val M;have y:ce X (call (.type "set") [.ref a]) (λu T=>ce X (call (.builtin "sorted") [u]) (t_ X aj σ H1 P1 O ys) X.xe T) X.xe T:=by
    unfold jK at hs;cases ht:wH xs with
    |none=>rw[ht] at hs;cases hs
    |some G =>
     rw[ht] at hs;dsimp only at hs
     split at hs
     .rename_i zc
      cases hs;have N:=Fz.mp zc;have:=aZ ht;subst this;have l:∀ (i:Ah) (u:Ac),B[i]? = Ab u->∃ b,u=.ref b/\Vd (Ek X.prog X.w) T.heap (G.getD i []) b/\∃ vv,qJ vv u/\au X.K P1 O (mr (G.getD i [])) vv:=λi u J=>by
       have C:i<B.length:=(Ay.mp J).1;have zx:i<G.length:=by rw[Ap] at l1;lia
       obtain⟨v,p,q,_⟩:=jA t1 zb (j:=i) (by rw[Be];exact C)
       have M:(G.map mr).getD i D.non=mr (G.getD i []):=by simp[Hv,zx]
       rw[M] at p;have n:B.toArray[i]'(by rw[Be];exact C)=u:=by
        rw[Ar C] at J;simpa using J
       rw[n] at q;obtain⟨b,ws,us,rfl,sq,t,rv,⟨o,ho,zv,m,M⟩,_,_⟩:=uF Y.inv Y.rel (show au X.K P1 O (.tup ((G.getD i []).map D.int)) v from p)
       cases (show u=Cb b from q)
       have:=jS t;subst this;exact⟨b,rfl,⟨o,us.toArray,m,ho,zv,M,by simpa using oI rv⟩,.ref b,rfl,p⟩
      refine iL (d:=[]) (_S.OQ X.prog X.w T.heap) (_S.D8 T.heap) hc hu Y.inv Y.rel A G (by simpa using l1) (λi u J=>?_) (Ce N.1) (λk hk=>?_) mr λk u hk zy=>?_
      .obtain⟨b,rfl,q,_⟩:=l i u J
       exact⟨b,rfl,q⟩
      .have:=Bn.mp N.2 k hk
       intro z;subst z;cases this
      .obtain⟨i,zs,rfl⟩:=Ct.mp zy
       obtain⟨b,eb,q,w,zz,pw⟩:=l i _ (Ar zs);have:k=G.getD i []:=_S.g_.inj hk ⟨b,eb,q⟩;rw[this];exact⟨w,zz,pw⟩
     .cases hs
   refine bv y λu s2 h2=>Oy (bv h2 λu' s3 ⟨D,z1,e,hn,I',E⟩=>?_);subst e;cases mu with
   |true=>exact⟨.ref D,_,I',rfl,fD Y.rel hn E λv' c P' L f A e2 rp=>U v' c P' L f (Y.same.trans A) (Y.pre.trans e2) rp⟩
   |false=>exact⟨.ref D,_,I',rfl,wR Y.rel hn E λv' c P' L f A e2 rp=>U v' c P' L f (Y.same.trans A) (Y.pre.trans e2) rp⟩
end
section
variable {X:Cx}{cm:Au}{k:Ah}{e:By}{fa:DE}{p1 p2 pe pc:Ev}{mu:Au}
def iJ (U:X.calm=true)(G:ax cm k X.A)(C:Gl X "sorted")(hm:X.mg "sorted" = none)(Y:Gl X "set")(J:X.mg "set" = none)(N:QE X e fa)(O:Bk [e] X.env=(false,eval e X.env)::Bk [] X.env:=by rfl) :
  QE X (.Call (.Name "sorted" p1) [.Call (.Name "set" p2) [e] [] pc] [] pe) (y8 mu fa):=⟨iC U G.units C hm Y J N.1 O⟩
end
def lQ:G2:=λa b S=>match tV b S,kE a with
 |some ar,Ab k=>.ok (.bl (yC ar k).isSome) S
 |_,_=>.bad
section
variable {X:Cx}
set_option tactic.hygienic true in
def HL (M:X.A.units+1<Eu):f_ X (Cy .In) lQ:=by
 intro aj σ H s P α S v u o E a b Q I r w O T J Y;unfold lQ at Y
 split at Y
 .rename_i ar k G U
  obtain⟨p,C,rfl,z,t⟩:=WH r G J;have L:=cK U T;subst L;cases (show E=Cb p from O)
  obtain⟨B,A⟩:=lY (k:=k) t;have g:gI H p (kV k) (yK C k):=.inl ⟨_,k,.inl z,rfl,rfl⟩;refine qBV M I g w λq j=>⟨.bl _,H,j,rfl,?_⟩;cases hv:yC ar k with
  |none=>rw[hv] at Y;rw[A hv];exact xr Y r (by simp only[au];rfl)
  |some d =>
   obtain⟨y,N,l⟩:=B d hv;rw[hv] at Y;rw[N];exact xr Y r (by simp only[au];rfl)
 .exact Ao Y
end
section
variable {X:Cx}{cm:Au}{k:Ah}{o i:By}{fo fi:DE}{aq:Ev}
def LV (Y:ax cm k X.A):fx X (.builtin "sorted") vB:=⟨UN Y.units⟩
def CU (Y:ax cm k X.A)(J:QE X o fo)(hi:QE X i fi)(hs:UG i:=by intro _ _;rfl):QE X (.Subscript o i aq) (d2 mM fo fi):=⟨SN (vz Y) J.1 hi.1 hs⟩
end
section
variable {X:Cx}{cm:Au}{k:Ah}
def qA7 (Y:ax cm k X.A):je X (Cy .In) lQ:=⟨HL (vz Y)⟩
end
end _D
namespace _D
variable {ar:Aa (_L.c_ × D)}{ds as:Aa D}{v:Ac}{n p:Ah}{lo hi:Ak An}{f1:DE}{F:DF}{S1 S':ap}{b_:qD}
def Nx (o:ja)(Q:qD->ap->Prop):Prop:=∃ Y S,o=.nx Y S/\Q Y S
def Rt (o:ja)(Q:D->ap->Prop):Prop:=∃ d S,o=.rt d S/\Q d S
def Ok {β:Type}(r:bb β)(Q:β->ap->Prop):Prop:=∃ d S,r=.ok d S/\Q d S
def qR {β:Type}{r:bb β}{Q:β->ap->Prop}{d:β}{S:ap}(h:r=.ok d S)(q:Q d S):Ok r Q:=⟨d,S,h,q⟩
def VR {f g:DS}{S:ap}{Q:D->ap->Prop}(h:Nx (f ak S) λY S1=>Rt (g Y S1) Q):Rt (qI f g ak S) Q:=by
 obtain⟨Y,S1,e,J,G,U,q⟩:=h;exact⟨J,G,by unfold qI;rw[e];exact U,q⟩
def YQ {f:DE}{S:ap}{Q:qD->ap->Prop}(h:Ok (f ak S) λd S1=>Q (ak.set i (Ab d)) S1):Nx (qS f (bh i) ak S) Q:=by
 obtain⟨d,S1,e,q⟩:=h;exact⟨_,S1,by unfold qS bh;rw[e];rfl,q⟩
def AG {f:DE}{S:ap}{Q:D->ap->Prop}(h:Ok (f ak S) Q):Rt (qU f ak S) Q:=by
 obtain⟨d,S1,e,q⟩:=h;exact⟨_,S1,by unfold qU;rw[e];rfl,q⟩
theorem T9 {g:DG}{f:DS}{Q:qD->ap->Prop}(I:Aa D->qD->ap->Prop)(turn:∀ d ds ak S,I (d::ds) ak S->∃ Y S1,g d ak S=.ok Y S1/\Nx (f Y S1) (I ds))(J:∀ ak S,I [] ak S->Q ak S) :
  ∀ {ds:Aa D} {ak:qD} {S:ap},I ds ak S->Nx (yR g f ds ak S) Q
 |[],ak,S,h=>⟨ak,S,rfl,J ak S h⟩
 |d::ds,ak,S,h=>by
  obtain⟨Y,S1,B,G,T,C,N⟩:=turn d ds ak S h;obtain⟨U,O,L,q⟩:=T9 I turn J (ds:=ds) N;refine⟨U,O,?_,q⟩;unfold yR;simp only[B,bb.toS,C];exact L
def T7 {fi:nq}{S:ap}{o:Ak (Ah × MO)}{Q:qD->ap->Prop}(h:fi ak S=.ok (o,ds) S1)(k:Nx (wK o g f ds ak S1) Q):Nx (l5 fi g f ak S) Q:=by
 obtain⟨Y,U,J,q⟩:=k;exact⟨Y,U,by unfold l5;rw[h];exact J,q⟩
theorem cT {g:DG}{f:DS}{Q:qD->ap->Prop}(I:Aa D->qD->ap->Prop)(G:∀ ds ak S,I ds ak S->nu o S)(turn:∀ d ds ak S,I (d::ds) ak S->∃ Y S1,g d ak S=.ok Y S1/\Nx (f Y S1) (I ds))(J:∀ ak S,I [] ak S->Q ak S) :
  ∀ {ds:Aa D} {ak:qD} {S:ap},I ds ak S->Nx (wK o g f ds ak S) Q
 |[],ak,S,h=>⟨ak,S,by unfold wK;rw[Bg (yB.mpr (G _ _ _ h))],J ak S h⟩
 |d::ds,ak,S,h=>by
  obtain⟨Y,S1,L,N,E,B,O⟩:=turn d ds ak S h;obtain⟨U,C,T,q⟩:=cT I G turn J (ds:=ds) O;refine⟨U,C,?_,q⟩;unfold wK;rw[Bg (yB.mpr (G _ _ _ h))];simp only[L,bb.toS,B];exact T
def mT {fe:DE}{S:ap}{aw:Aa D}(h:fe ak S=.ok x S1)(Q:aw.length<bq):zL fe ak S aw=.ok (ak,aw++[x]) S1:=by
 unfold zL;rw[h];simp[bb.bind,Q]
def b8 {fi:nq}{t:DT}{k:DK}{S:ap}{o:Ak (Ah × MO)}{items:Aa D}(h:fi ak S=.ok (o,items) S1)(e:jy o g t k items (w4 bw ak) S1 [] = .ok (b_,ds) S'):zH false bw fi g t k ak S=.ok (.lst ds) S':=by
 unfold zH;rw[h];simp only[bb.bind,e,vy];rfl
def AI {g:DS}{S:ap}{ak:qD}(hs:yL n ds=ak)(h:g ak S=.rt d S'):qO n g ds S=.ok d S':=by
 subst hs;unfold qO;rw[h];rfl
def lU {S:ap}{i:Ah}(h:S[i]? = Ab m)(e:S<+:S'):S'[i]? = Ab m:=by
 obtain⟨r,rfl⟩:=e;rw[Bb (Ay.mp h).1];exact h
def bS {α β:Type}(Q:α->Au)(val:α->β)(l:Aa α) : (l.flatMap λd=>if Q d then [val d] else []) = (l.filter Q).map val:=by
 induction l with
 |nil=>rfl
 |cons d l Y =>
  rw[Fx,Y];cases h:Q d <;> simp[h]
theorem wp {α:Type}{fq:α->D}{g:DG}{t:DT}{k:DK}(Y:α->Aa D)(C:qD->ap->Prop)(O:∀ ak S,C ak S->nu o S) :
  ∀ (xs:Aa α) (ak:qD) (S:ap) (aw:Aa D),C ak S->aw.length+(xs.flatMap Y).length<=bq ->
  (∀ x∈xs,∀ ak S aw,C ak S->aw.length+(Y x).length<=bq->∃ Q S1 b G,g (fq x) ak S=.ok Q S1/\t Q S1=.ok b G/\((b=false/\Y x=[]/\C Q G)\/(b=true/\∃ J N,k Q G aw=.ok (J,aw++Y x) N/\C J N))) ->
  ∃ b_ S',jy o g t k (xs.map fq) ak S aw=.ok (b_,aw++xs.flatMap Y) S'/\C b_ S'
 |[],ak,S,aw,h,E,_=>⟨ak,S,by simp[jy,yB.mpr (O _ _ h)],h⟩
 |x::xs,ak,S,aw,h,E,step=>by
  rw[Fx,Bj] at E;obtain⟨Q,S1,b,G,L,T,r⟩:=step x (DL ..) ak S aw h om;have U:=yB.mpr (O _ _ h);rcases r with⟨rfl,M,I⟩|⟨rfl,J,N,A,H⟩
  .obtain⟨b_,S',e,q⟩:=wp Y C O xs Q G aw I om λd B=>step d (Cs _ B)
   refine⟨b_,S',?_,q⟩;simp only[Cu,jy,U,Eb,L,T,bb.bind,Bx,Dx,Fx,M,Hi];exact e
  .obtain⟨b_,S',e,q⟩:=wp Y C O xs J N (aw++Y x) H (by rw[Bj];fin2) λd B=>step d (Cs _ B)
   refine⟨b_,S',?_,q⟩;simp only[Cu,jy,U,Eb,L,T,bb.bind,A,Fx];rw[e,Cd]
section
variable {α β:Type}{fq:α->D}{td:β->D}{bw:Aa (Ak Ah)}{fi:nq}{g:DG}{t:DT}{fe:DE}{ak:qD}{S:ap}{o:Ak (Ah × MO)}{xs:Aa α}
def OK (U:nu o S)(Y:α->Au)(val:α->D)(C:qD->Prop)(h0:C ak)(J:xs.length<=bq)
  (step:∀ x∈xs,∀ ak,C ak->∃ Q,g (fq x) ak S=.ok Q S/\C Q/\t Q S=.ok (Y x) S/\(Y x=true->fe Q S=.ok (val x) S)) :
  ∃ b_,jy o g t (zL fe) (xs.map fq) ak S [] = .ok (b_,(xs.filter Y).map val) S:=by
 have E:(xs.flatMap λd=>if Y d then [val d] else []).length<=bq:=by
  rw[bS,Ap];exact Cg (Fa _ _) J
 obtain⟨b_,S',e,_,q⟩:=wp (fq:=fq) (o:=o) (g:=g) (t:=t) (k:=zL fe) (λd=>if Y d then [val d] else []) (λak S'=>C ak/\S'=S) (λ_ _ h=>h.2▸U) xs ak S [] ⟨h0,rfl⟩ (by simpa using E) (λd B ak S' I T J=>by
  obtain⟨N,rfl⟩:=T;obtain⟨Q,L,G,O,k⟩:=step d B ak N;refine⟨Q,S',Y d,S',L,O,?_⟩;cases hs:Y d with
  |false=>exact .inl ⟨rfl,by simp,G,rfl⟩
  |true =>
   refine .inr ⟨rfl,Q,S',?_,G,rfl⟩;simp only[Eb];exact mT (k hs) (by simp only[hs,Eb,Lr] at J;fin2))
 subst q;refine⟨b_,?_⟩;rw[e,Hi,bS]
def iX (h:fi ak S=.ok (o,xs.map fq) S)(J:nu o S)(Y:α->Au)(val:α->D)(C:qD->Prop)(h0:C (w4 bw ak))(U:xs.length<=bq)
  (step:∀ x∈xs,∀ ak,C ak->∃ Q,g (fq x) ak S=.ok Q S/\C Q/\t Q S=.ok (Y x) S/\(Y x=true->fe Q S=.ok (val x) S)) :
  zH false bw fi g t (zL fe) ak S=.ok (.lst ((xs.filter Y).map val)) S:=by
 obtain⟨b_,e⟩:=OK J Y val C h0 U step;exact b8 h e
def FA {yz:nq}{g2:DG}{t2:DT}(h:fi ak S=.ok (o,xs.map fq) S)(E:nu o S)(T:nu o2 S)(N:α->Aa β)(Y:α->β->Au)(val:α->β->D)(C:qD->Prop)(O:α->qD->Prop)(h0:C (w4 bw ak))(M:∀ x ak,O x ak->C ak)
  (L:(xs.flatMap λx=>((N x).filter (Y x)).map (val x)).length<=bq)
  (step:∀ x∈xs,∀ ak,C ak->∃ Q,g (fq x) ak S=.ok Q S/\O x Q/\t Q S=.ok true S/\yz Q S=.ok (o2,(N x).map td) S)
  (G:∀ x∈xs,∀ y∈N x,∀ ak,O x ak->∃ Q,g2 (td y) ak S=.ok Q S/\O x Q/\t2 Q S=.ok (Y x y) S/\(Y x y=true->fe Q S=.ok (val x y) S)) :
  zH false bw fi g t (kIn yz g2 t2 (zL fe)) ak S=.ok (.lst (xs.flatMap λx=>((N x).filter (Y x)).map (val x))) S:=by
 obtain⟨b_,S',e,_,q⟩:=wp (fq:=fq) (o:=o) (g:=g) (t:=t) (k:=kIn yz g2 t2 (zL fe)) (λx=>((N x).filter (Y x)).map (val x)) (λak S'=>C ak/\S'=S) (λ_ _ h=>h.2▸E) xs (w4 bw ak) S [] ⟨h0,rfl⟩ (by simpa using L) (λd w ak S' z H L=>by
  obtain⟨A,rfl⟩:=H;obtain⟨Q,l,i,m,f⟩:=step d w ak A;obtain⟨B,I,b,q,r⟩:=wp (fq:=td) (o:=o2) (g:=g2) (t:=t2) (k:=zL fe) (λx=>if Y d x then [val d x] else []) (λak J=>O d ak/\J=S') (λ_ _ h=>h.2▸T) (N d) Q S' z ⟨i,rfl⟩ (by rw[bS];exact L) (λx u ak J z H L=>by
   obtain⟨A,rfl⟩:=H;obtain⟨U,f1,j,s,c⟩:=G d w x u ak A;refine⟨U,J,Y d x,J,f1,s,?_⟩;cases hs:Y d x with
   |false=>exact .inl ⟨rfl,by simp,j,rfl⟩
   |true =>
    refine .inr ⟨rfl,U,J,?_,j,rfl⟩;simp only[Eb];exact mT (c hs) (by simp only[hs,Eb,Lr] at L;fin2))
  subst r;refine⟨Q,I,true,I,l,m,.inr ⟨rfl,B,I,?_,M d _ q,rfl⟩⟩;unfold kIn;rw[f];simp only[bb.bind];rw[b,bS])
 subst q;have:=b8 (bw:=bw) h e
 rwa [Hi] at this
end
def rM {f g:DE}{S Q:ap}{a b:D}(h1:f ak S=.ok a S1)(h2:g ak S1=.ok b Q):d2 o f g ak S=o a b Q:=by
 unfold d2;rw[h1];simp only[bb.bind];rw[h2]
def rK {S:ap}{a:D}(h1:f1 ak S=.ok a S1):qN 1 F (qA f1 qC) ak S=F [a] S1:=by
 simp only[qN,qA,qC,h1,bb.bind,Bs,Fc,Eb]
def eP {S:ap}{a:D}(h1:f1 ak S=.ok a S1):qG F (qA f1 qC) ak S=F [a] S1:=by
 simp only[qG,qA,qC,h1,bb.bind]
def qAv {f:DE}{S:ap}{b:Au}(h:f ak S=.ok (.bl b) S1):dw f ak S=.ok b S1:=by
 unfold dw;rw[h];rfl
def hZ {S:ap}{a:D}(h1:f1 ak S=.ok a S1):qA f1 qC ak S=.ok [a] S1:=by
 simp only[qA,qC,h1,bb.bind]
def EN {g:DA}{S:ap}(k:g ak S=.ok as S1)(h:as.length<=bq):x8 g ak S=.ok (.lst as) S1:=by
 simp only[x8,k,bb.bind,h,Eb]
def U2 {g:DA}{S:ap}(k:g ak S=.ok as S1)(h:as.length<=bq):qP g ak S=.ok (.tup as) S1:=by
 simp only[qP,k,bb.bind,h,Eb]
def i8 {ak:qD}{i:Ah}{S:ap}(h:ak[i]? = Ab (Ab d)):qB i ak S=.ok d S:=by simp only[qB,h]
def W4 {α:Type}(p:α->Au)(l:Aa α) : xN (l.map λx=>D.bl (p x))=Ab (l.map p):=by
 induction l with
 |nil=>rfl
 |cons x l Q =>
  show (xN (l.map λx=>D.bl (p x))).map (p x::·)=_
  rw[Q];rfl
section
variable {β γ:Type}{ak:qD}{S:ap}
def qZ {k:β->ap->bb γ}{Q:γ->ap->Prop}(h:Ok r λd S1=>Ok (k d S1) Q):Ok (r.bind k) Q:=by
 obtain⟨d,S1,rfl,h⟩:=h;exact h
def xK {d:β}(h:Ok r λd' S'=>d'=d/\S'=S):r=.ok d S:=by
 obtain⟨_,_,e,rfl,rfl⟩:=h;exact e
def zN {Q Y:β->ap->Prop}(h:Ok r Q)(k:∀ d S,Q d S->Y d S):Ok r Y:=by
 obtain⟨d,S,e,q⟩:=h;exact⟨d,S,e,k d S q⟩
variable {Q:D->ap->Prop}{f g:DE}{fa:DA}{o:G2}{i j:Ah}
def o_c (h:Q d S):Ok (dC d ak S) Q:=⟨_,_,rfl,h⟩
def o_v (e:ak[i]? = Ab (Ab d))(h:Q d S):Ok (qB i ak S) Q:=⟨_,_,i8 e,h⟩
def o_2 (h:Ok (f ak S) λa S1=>Ok (g ak S1) λb Y=>Ok (o a b Y) Q):Ok (d2 o f g ak S) Q:=qZ (zN h λ_ _=>qZ)
def o_1 {u:D->ap->bb D}(h:Ok (f ak S) λa S1=>Ok (u a S1) Q):Ok (d1 u f ak S) Q:=qZ h
def X9 {Q:Aa D->ap->Prop}(h:Q [] S):Ok (qC ak S) Q:=⟨_,_,rfl,h⟩
def jE {Q:Aa D->ap->Prop}(h:Ok (f ak S) λa S1=>Ok (fa ak S1) λas Y=>Q (a::as) Y):Ok (qA f fa ak S) Q:=qZ (zN h λ_ _ k=>qZ (zN k λ_ _ q=>⟨_,_,rfl,q⟩))
def qAQ (h:Ok (fa ak S) λas S1=>as.length<=bq/\Q (.tup as) S1):Ok (qP fa ak S) Q:=qZ (zN h λ_ _ k=>⟨_,_,Bg k.1,k.2⟩)
def qAK (h:Ok (fa ak S) λas S1=>as.length<=bq/\Q (.lst as) S1):Ok (x8 fa ak S) Q:=qZ (zN h λ_ _ k=>⟨_,_,Bg k.1,k.2⟩)
def qCJ (h:Ok (fa ak S) λas S1=>as.length<=bq/\Q (.loc S1.length) (S1++[.lst as])):Ok (v9 fa ak S) Q:=qZ (zN h λ_ _ k=>⟨_,_,Bg k.1,k.2⟩)
def qCR (h:Q (.loc S.length) (S++[.dct []])) : Ok (ZL ak S) Q:=⟨_,_,rfl,h⟩
def qCG (h:Q .dct0 S):Ok (rN ak S) Q:=⟨_,_,rfl,h⟩
def YR (h:Ok (fa ak S) λas S1=>as.length=n/\Ok (F as S1) Q):Ok (qN n F fa ak S) Q:=qZ (zN h λ_ _ k=>by rw[Bg k.1];exact k.2)
def qCX (h:Ok (F as S) Q):Ok (qf F as S) Q:=by
 obtain⟨d,S1,e,q⟩:=h;exact⟨d,S1,HR e,q⟩
def qCg (h:Ok (fa ak S) λas S1=>Ok (F as S1) Q):Ok (qG F fa ak S) Q:=qZ h
def qCQ {a b:An}(h:Q (.int (a+b)) S):Ok (zB (.int a) (.int b) S) Q:=⟨_,_,rfl,h⟩
def jC {a b:Aa D}(l:a.length+b.length<=bq)(h:Q (.tup (a++b)) S):Ok (zB (.tup a) (.tup b) S) Q:=⟨_,_,Bg l,h⟩
def uB {a b:Aa D}(l:a.length+b.length<=bq)(h:Q (.lst (a++b)) S):Ok (zB (.lst a) (.lst b) S) Q:=⟨_,_,Bg l,h⟩
def qCa {a b:An}(h:Q (.int (a-b)) S):Ok (xC (.int a) (.int b) S) Q:=⟨_,_,rfl,h⟩
def qCV {a:An}(h:Q (.int (-a)) S):Ok (kB (.int a) S) Q:=⟨_,_,rfl,h⟩
def qCU {a b:An}(l : -(2 ^ 64)<a/\a<2 ^ 64)(h:Q (.int (a*b)) S):Ok (zG (.int a) (.int b) S) Q:=by
 refine⟨_,_,?_,h⟩;unfold zG i2;rw[eO];unfold eM;simp only[l,and_self,Km,Bool.true_or,Eb]
def qCP {a:An}(h:Q (.int (if a<0 then -a else a)) S):Ok (lO [.int a] S) Q:=⟨_,_,rfl,h⟩
def nM {a b:An}(l:b≠0/\b.natAbs.log2<9000)(h:Q (.int (a.fdiv b)) S):Ok (gT (.int a) (.int b) S) Q:=by
 refine⟨_,_,?_,h⟩;unfold gT i2;rw[eL];exact Bg (Dc l)
def qCT {a b:An}(l:0<b)(h:Q (.int (a % b)) S):Ok (uJ (.int a) (.int b) S) Q:=by
 refine⟨_,_,?_,h⟩;unfold uJ i2;simp[l]
def qCS {a b:An}(l:0<b/\b<1073741824)(h:Q (.int (a/b)) S):Ok (b9 (.int a) (.int b) S) Q:=by
 refine⟨_,_,?_,h⟩;unfold b9 i2 DN;simp[l]
def qCo {a b:An}(h:Q (.bl (decide (a<b))) S):Ok (ph (.int a) (.int b) S) Q:=⟨_,_,rfl,h⟩
def qCn {a b:An}(h:Q (.bl (decide (a<=b))) S):Ok (rj (.int a) (.int b) S) Q:=⟨_,_,rfl,h⟩
def qCm {a b:An}(h:Q (.bl (decide (b<a))) S):Ok (wt (.int a) (.int b) S) Q:=⟨_,_,rfl,h⟩
def qCk {a b:An}(h:Q (.bl (decide (b<=a))) S):Ok (yy (.int a) (.int b) S) Q:=⟨_,_,rfl,h⟩
def KQ {a b:An}(h:Q (.bl (decide (a=b))) S):Ok (k_ (.int a) (.int b) S) Q:=⟨_,_,by kernel_rfl!,h⟩
def qCp {a b:An}(h:Q (.bl (!decide (a=b))) S):Ok (my (.int a) (.int b) S) Q:=⟨_,_,by kernel_rfl!,h⟩
def X8 {a:Aa D}{k:An}(e:_L.ml a k=Ab d)(h:Q d S):Ok (cg (.tup a) (.int k) S) Q:=⟨d,S,by show _D.uK (_L.ml a k) S=_;rw[e];rfl,h⟩
def X7 {a:Aa D}{k:An}(e:_L.ml a k=Ab d)(h:Q d S):Ok (cg (.lst a) (.int k) S) Q:=⟨d,S,by show _D.uK (_L.ml a k) S=_;rw[e];rfl,h⟩
def qCI {a:Aa D}(h:Q (.int a.length) S):Ok (zO [.tup a] S) Q:=⟨_,_,rfl,h⟩
def qCH {a:Aa D}(h:Q (.int a.length) S):Ok (zO [.lst a] S) Q:=⟨_,_,rfl,h⟩
def qCM {a:Aa D}(h:Q (.tup a) S):Ok (vC [.lst a] S) Q:=⟨_,_,rfl,h⟩
def qCK {a:Aa D}(h:Q (.lst a) S):Ok (tX [.tup a] S) Q:=⟨_,_,rfl,h⟩
def X6 (h:Ok (f ak S) λd S1=>∃ b,d=.bl b/\(b=true->Ok (g ak S1) Q)/\(b=false->Q (.bl false) S1)):Ok (pZ f g ak S) Q:=qZ (zN h λd S1 ⟨b,e,Y,J⟩=>by
 subst e;cases b with
 |true=>exact Y rfl
 |false=>exact⟨_,_,rfl,J rfl⟩)
def qCW (h:Ok (f ak S) λd S1=>∃ b,w5 d S1=Ab b/\Q (.bl (!b)) S1):Ok (hW f ak S) Q:=qZ (zN h λd S1 ⟨b,e,k⟩=>by
 rw[e];exact⟨_,_,rfl,k⟩)
def qCu {fl Y:DO}(h:Ok (f ak S) λd S1=>Ok (fl ak S1) λlo J=>Ok (Y ak J) λhi U=>Ok (ut d lo hi U) Q):Ok (mi f fl Y ak S) Q:=qZ (zN h λ_ _ k=>qZ (zN k λ_ _=>qZ))
def qCZ {a:Aa D}(h:Q (.tup (xA a lo hi)) S):Ok (ut (.tup a) lo hi S) Q:=⟨_,_,rfl,h⟩
def qCY {a:Aa D}(h:Q (.lst (xA a lo hi)) S):Ok (ut (.lst a) lo hi S) Q:=⟨_,_,rfl,h⟩
def qCh {Q:Ak An->ap->Prop}(h:Q none S):Ok (x9 ak S) Q:=⟨_,_,rfl,h⟩
def qCi {Q:Ak An->ap->Prop}(h:Ok (f ak S) λd S1=>∃ k,d=.int k/\Q (Ab k) S1):Ok (zP f ak S) Q:=qZ (zN h λ_ _ ⟨_,e,q⟩=>by subst e;exact⟨_,_,rfl,q⟩)
def qCf {m:D->Aa D->ap->bb D}(h:Ok (f ak S) λa S1=>m_ a S1=Ab T/\Ok (fa ak S1) λas Y=>Ok (m a as Y) Q):Ok (qo T m f fa ak S) Q:=qZ (zN h λ_ _ k=>by rw[k.1,Bg bB];exact qZ k.2)
def EY {a b:D}(e1:lstM a S=Ab xs)(e2:lstM b S=Ab Y)(l:xs.length+Y.length<=bq)(h:Q (.loc S.length) (S++[.lst (xs++Y)])):Ok (bV a b S) Q:=⟨_,_,by unfold bV;rw[e1,e2];exact Bg l,h⟩
def EW {a b:D}(e1:lstM a S=Ab xs)(e2:lstM b S=Ab Y)(l:xs.length+Y.length<=bq)(h:Q (.lst (xs++Y)) S):Ok (bT a b S) Q:=⟨_,_,by unfold bT;rw[e1,e2];exact Bg l,h⟩
def fG {d:D}(e:S[i]? = Ab (.lst xs))(l:xs.length<bq)(h:Q .non (S.set i (.lst (xs++[d])))):Ok (xP (.loc i) [d] S) Q:=by
 refine⟨_,_,?_,h⟩;show (match S[i]? with|some (.lst xs)=>(if xs.length<bq then bb.ok D.non (S.set i (.lst (xs++[d]))) else .bad)|_=>.bad)=_
 rw[e];exact Bg l
def H9 {t:DT}(h:Ok (t ak S) λb S1=>(b=true->Ok (f ak S1) Q)/\(b=false->Ok (g ak S1) Q)):Ok (xt t f g ak S) Q:=qZ (zN h λb S1 k=>by
 cases b with
 |true=>exact k.1 rfl
 |false=>exact k.2 rfl)
variable {Q:Au->ap->Prop}{t u:DT}
def HH (h:Ok (f ak S) λd S1=>∃ b,w5 d S1=Ab b/\Q b S1):Ok (dw f ak S) Q:=qZ (zN h λd S1 ⟨b,e,k⟩=>by
 rw[e];exact⟨_,_,rfl,k⟩)
def HC (h:Ok (t ak S) λb S1=>Q (!b) S1):Ok (wG t ak S) Q:=qZ (zN h λ_ _ k=>⟨_,_,rfl,k⟩)
def qCb (h:Q true S):Ok (xB ak S) Q:=⟨_,_,rfl,h⟩
def fH (h:Ok (t ak S) λb S1=>(b=true->Q true S1)/\(b=false->Ok (u ak S1) Q)):Ok (gN t u ak S) Q:=qZ (zN h λb S1 k=>by
 cases b with
 |true=>exact⟨_,_,rfl,k.1 rfl⟩
 |false=>exact k.2 rfl)
def EZ (h:Ok (t ak S) λb S1=>(b=true->Ok (u ak S1) Q)/\(b=false->Q false S1)):Ok (yN t u ak S) Q:=qZ (zN h λb S1 k=>by
 cases b with
 |true=>exact k.1 rfl
 |false=>exact⟨_,_,rfl,k.2 rfl⟩)
def pT {xs:Aa D}{a:Ah}(h:a<xs.length):_L.ml xs (a:An)=Ab xs[a]:=by
 have e:_L.qm xs.length (a:An)=Ab a:=by simp[_L.qm];lia
 simp[_L.ml,e,h]
def yW (S:ap)(m:MO):(S++[m])[S.length]? = Ab m:=by simp
def aR (S:ap)(m m':MO):(S++[m]).set S.length m'=S++[m']:=by simp
def jZ (h:S[j]? = Ab (.lst xs)):m_ (.loc j) S=Ab "list":=by
 show (match S[j]? with|some (.lst _)=>Ab "list" | some (.dct _)=>Ab "dict" | _=>none)=_
 rw[h]
def OR (h:S[j]? = Ab (.lst xs)):lstM (.loc j) S=Ab xs:=by
 show (match S[j]? with|some (.lst xs)=>Ab xs|_=>none)=_
 rw[h]
def nN {Q:D->ap->Prop}{a:Aa D}{k:Ah}(h:k<a.length)(q:∀ d∈a,Q d S):Ok (cg (.lst a) (.int (k:An)) S) Q:=X7 (pT h) (q _ (Uz h))
def TF {Q:Aa D->ap->Prop}(h:Ok (f ak S) λd S1=>∃ ds,xH d=Ab ds/\Q ds S1):Ok (xX f ak S) Q:=qZ (zN h λd S1 ⟨ds,e,k⟩=>⟨ds,S1,by rw[e];rfl,k⟩)
def BK {Q:Aa D->ap->Prop}(h:Ok (fa ak S) λas S1=>∃ ds,uL as=Ab ds/\Q ds S1):Ok (xI fa ak S) Q:=qZ (zN h λd S1 ⟨ds,e,k⟩=>⟨ds,S1,by rw[e];rfl,k⟩)
def XF (n:Ah)(h:n<=1000000):uL [.int (n:An)]=Ab ((Cf n).map λ(i:Ah)=>D.int (i:An)):=by
 unfold uL;have : -(2 ^ 62)<=(n:An)/\(n:An)<2 ^ 62:=⟨by lia,by lia⟩
 refine(Bg this).trans ?_;unfold wL;rw[Em]
 congr 2
 funext i
 rw[Int.zero_add]
def qCL {Q:Aa D->ap->Prop}(h:Ok (f ak S) λd S1=>∃ k:An,d=.int k/\0<=k/\k<=1000000/\Q ((Cf k.toNat).map λ(i:Ah)=>D.int (i:An)) S1):Ok (xI (qA f qC) ak S) Q:=BK (jE (zN h λ_ _ ⟨k,e,Y,J,q⟩=>X9 ⟨_,by
 have:=XF k.toNat li;rw[Int.toNat_of_nonneg Y] at this;rw[e,this],q⟩))
def qAm {k:An}(e:k=(n:An))(h:n<=1000000):uL [.int k]=Ab ((Cf n).map λ(i:Ah)=>D.int (i:An)):=e▸XF n h
def vY {Q:D->ap->Prop}{k:An}(e:S[i]? = Ab (.lst xs))(Y:_L.ml xs k=Ab d)(h:Q d S):Ok (cg (.loc i) (.int k) S) Q:=by
 refine⟨d,S,?_,h⟩;show (match S[i]? with|some (.lst xs)=>_D.uK (_L.ml xs k) S|_=>.bad)=_
 rw[e];show _D.uK (_L.ml xs k) S=_;rw[Y];rfl
def kZ {Q:D->ap->Prop}(e:S[i]? = Ab (.lst xs))(h:Q (.int xs.length) S):Ok (zO [.loc i] S) Q:=by
 refine⟨_,_,?_,h⟩;have Y:X0 (.loc i) S=Ab xs.length:=by
  show (match S[i]? with|some (.lst xs)=>Ab xs.length|_=>none)=_
  rw[e]
 show (match X0 (.loc i) S with|some n=>bb.ok (D.int n) S|none=>.bad)=_
 rw[Y]
def qAN {Q:D->ap->Prop}{k:Ah}(e:S[i]? = Ab (.lst xs))(Y:k<xs.length)(J:k<1000000)(h:Q xs[k] (S.set i (.lst (xs.eraseIdx k)))):Ok (bC (.loc i) [.int (k:An)] S) Q:=by
 refine⟨_,_,?_,h⟩;show fK S i (λxs=>if 0<=(k:An)/\(k:An)<1000000 then (match xs[(k:An).toNat]? with|some d=>bb.ok d (S.set i (.lst (xs.eraseIdx (k:An).toNat)))|none=>.bad) else .bad)=_
 unfold fK;rw[e];show (if 0<=(k:An)/\(k:An)<1000000 then _ else _)=_
 rw[Bg ⟨by lia,by lia⟩,Em,Ar Y]
def HE {Q:Ro->ap->Prop}{n:An}(e:S[i]? = Ab (.dct ar))(Y:ar.length<bq)(h:Q () (S.set i (.dct (jH ar (.inl n) d)))):Ok (yO (.loc i) (.int n) d S) Q:=by
 refine⟨_,_,?_,h⟩;show (match S[i]? with|some (.dct ar)=>(match kE (.int n) with|some k=>(if ar.length<bq then bb.ok () (S.set i (.dct (jH ar k d))) else .bad)|none=>.bad)|_=>mO (.loc i) (.int n) d S)=_
 rw[e];exact Bg Y
def YU {Q:Ro->ap->Prop}{n:An}(e:S[i]? = Ab (.lst xs))(Y:_L.qm xs.length n=Ab j)(h:Q () (S.set i (.lst (xs.set j d)))):Ok (yO (.loc i) (.int n) d S) Q:=by
 refine⟨_,_,?_,h⟩;simp[yO,mO,e,Y]
def WJ (h:S[i]? = Ab (.dct ar)):tV (.loc i) S=Ab ar:=by
 show (match S[i]? with|some (.dct ar)=>Ab ar|_=>none)=_
 rw[h]
def qAD {Q:D->ap->Prop}{n:An}(e:S[i]? = Ab (.dct ar))(h:Q (.bl (yC ar (.inl n)).isSome) S):Ok (lQ (.int n) (.loc i) S) Q:=⟨_,_,by unfold lQ;rw[WJ e];rfl,h⟩
def qAH {Q:D->ap->Prop}{n:An}(e:S[i]? = Ab (.dct ar))(Y:yC ar (.inl n)=Ab d)(h:Q d S):Ok (mM (.loc i) (.int n) S) Q:=by
 refine⟨d,S,?_,h⟩;unfold mM;rw[WJ e];show (match yC ar (.inl n) with|some d=>bb.ok d S|none=>.bad)=_
 rw[Y]
def E8 (h:ak[i]? = Ab (Ab (.tup xs))):nw (qB i) ak S=.ok (none,xs) S:=by
 unfold nw;rw[i8 h];rfl
def qBg (h:ak[i]? = Ab (Ab (.loc j)))(e:S[j]? = Ab (.lst xs)):nw (qB i) ak S=.ok (Ab (j,.lst xs),xs) S:=by
 unfold nw;rw[i8 h];show (match S[j]? with|some (.lst xs)=>bb.ok (Ab (j,MO.lst xs),xs) S|_=>.bad)=_
 rw[e]
def qBh (h:n<=1000000):zY (xI (qA (dC (.int (n:An))) qC)) ak S=.ok (none,(Cf n).map λ(i:Ah)=>D.int (i:An)) S:=xK (qZ (BK (jE (o_c (X9 ⟨_,XF n h,_,_,rfl,rfl,rfl⟩)))))
theorem cC {α:Type}(f:α->β):∀ l:Aa α,l.flatMap (λx=>[f x])=l.map f
 |[]=>rfl
 |x::l=>by rw[Fx,cC f l];rfl
def jD {α:Type}{fq:α->D}{o:Ak (Ah × MO)}{fi:nq}{U:DG}{fe:DE}{Q:D->ap->Prop}(xs:Aa α)(val:α->D)(C:qD->ap->Prop)(hi:fi ak S=.ok (o,xs.map fq) S1)(h0:C (w4 bw ak) S1)(N:xs.length<=bq)(G:∀ ak S,C ak S->nu o S)
  (step:∀ x∈xs,∀ ak S,C ak S->Ok (U (fq x) ak S) λY S1=>Ok (t Y S1) λb O=>b=true/\Ok (fe Y O) λd J=>d=val x/\C Y J) (q:∀ b_ S',C b_ S'->Q (.lst (xs.map val)) S'):Ok (zH false bw fi U t (zL fe) ak S) Q:=by
 have B:=cC val xs;obtain⟨b_,S',e,c⟩:=wp (fq:=fq) (o:=o) (g:=U) (t:=t) (k:=zL fe) (λx=>[val x]) C G xs (w4 bw ak) S1 [] h0 (by rw[B,Ap];simpa using N) (λx L ak S M E N=>by
  obtain⟨Y,S1,T,b,O,H,rfl,d,J,I,rfl,A⟩:=step x L ak S E;exact⟨Y,S1,true,O,T,H,.inr ⟨rfl,Y,J,mT I (by simp at N;lia),A⟩⟩)
 rw[B,Hi] at e;exact⟨_,_,b8 hi e,q b_ S' c⟩
def nK {α:Type}{Q:D->ap->Prop}{l:Aa α}{p:α->Au}(h:Q (.bl (l.all p)) S):Ok (gR false [.lst (l.map λx=>.bl (p x))] S) Q:=by
 refine⟨_,_,?_,h⟩;show (match (xH (.lst (l.map λx=>D.bl (p x)))).bind xN with|some Y=>bb.ok (D.bl (Y.all id)) S|none=>.bad)=_
 rw[show (xH (.lst (l.map λx=>D.bl (p x)))).bind xN=Ab (l.map p) from W4 p l]
 simp only[Jr];rfl
def nO {Q:D->ap->Prop}{gg:G2}{a b x y:D}{z:D}(e1:xD mK S a=Ab x)(e2:xD mK S b=Ab y)(e3:gg x y (uP S)=.ok z (uP S))(Y:ZE z=true)(h:Q z S):Ok (vX gg a b S) Q:=by
 refine⟨z,S,?_,h⟩;unfold vX;rw[e1,e2];show X1 (gg x y (uP S)) S=_;rw[e3];exact Bg Y
def dB {f:D->Ak D}{xs:Aa D}(h:∀ x∈xs,f x=Ab x):mapO f xs=Ab xs:=by
 induction xs with
 |nil=>rfl
 |cons x xs J=>simp[mapO,h x (DL ..),J λy Y=>h y (Cs _ Y)]
def aL (e:S[i]? = Ab (.lst xs))(h:∀ x∈xs,xD 19 S x=Ab x):xD mK S (.loc i)=Ab (.lst xs):=by
 show (match S[i]? with|some (.lst xs)=>(mapO (xD 19 S) xs).map D.lst|_=>none)=_
 rw[e];show (mapO (xD 19 S) xs).map D.lst=_;rw[dB h];rfl
def qCt {Q:qD->ap->Prop}{h:G3}(k:Ok (f ak S) λa S1=>Ok (g ak S1) λb J=>Ok (h a b d J) λ_ Y=>Q ak Y):Ok (wq f g h d ak S) Q:=qZ (zN k λ_ _ k=>qZ (zN k λ_ _ k=>qZ (zN k λ_ _ q=>⟨_,_,rfl,q⟩)))
variable {Q:qD->ap->Prop}
def qCq (h:Q (ak.set i (Ab d)) S):Ok (bh i d ak S) Q:=⟨_,_,rfl,h⟩
def qBo {Y:qu}{xs:Aa D}(h:xs.length=n/\Ok (Y xs ak S) Q):Ok (ou n Y (.tup xs) ak S) Q:=by
 obtain⟨d,S1,e,q⟩:=h.2;exact⟨d,S1,by show (if xs.length=n then Y xs ak S else .bad)=_;rw[Bg h.1];exact e,q⟩
def qCl (h:Q ak S):Ok (yG [] ak S) Q:=⟨_,_,rfl,h⟩
def qCj {t:DG}{J:qu}(h:Ok (t x ak S) λY S1=>Ok (J xs Y S1) Q):Ok (zI t J (x::xs) ak S) Q:=qZ h
def Wo (P:ja->Prop)(o:ja):Prop:=P o
def XG (g:DS)(P:ja->Prop):ja->Prop
 |.nx ak S=>P (g ak S)
 |o=>P o
def cD (b:Au)(f g:DS):DS:=match b with
 |true=>f
 |false=>g
def RK (Q:D->ap->Prop):ja->Prop
 |.rt d S=>Q d S
 |.nx _ S=>Q .non S
 |_=>Ex
def rR {α:Type}(I:Aa α -> qD->ap->Prop)(xs:Aa α)(P:ja->Prop):ja->Prop
 |.nx ak S=>I xs ak S
 |.ct ak S=>I xs ak S
 |.bk ak S=>P (.nx ak S)
 |o=>P o
variable {P:ja->Prop}{sf sg:DS}{fi:DI}{tg:DG}{d:D}
def XT (h:Wo (XG sg P) (sf ak S)):Wo P (qI sf sg ak S):=by
 unfold qI;unfold Wo at h ⊢;cases e:sf ak S <;> rw[e] at h <;> exact h
def qAz (R:qD->ap->Prop)(h:∀ Y:ja->Prop,(∀ ak S,R ak S->Wo Y (.nx ak S))->Wo Y (sf ak S))(k:∀ ak S,R ak S->Wo P (sg ak S)):Wo P (qI sf sg ak S):=XT (h _ k)
def PH (h:Wo P (sg ak S)):Wo (XG sg P) (.nx ak S):=h
def qB8 (h:Wo P (.rt d S)):Wo (XG sg P) (.rt d S):=h
def qCO (h:Wo P (.nx ak S)):Wo P (zJ ak S):=h
def pG {k:β->ap->ja}(h:Ok r λd S1=>Wo P (k d S1)):Wo P (r.toS ak k):=by
 obtain⟨d,S1,rfl,h⟩:=h;exact h
def qAx (h:Ok (f ak S) λd S1=>Ok (tg d ak S1) λb_ Y=>Wo P (.nx b_ Y)):Wo P (qS f tg ak S):=pG (zN h λ_ _=>pG)
def qCN (h:Ok (f ak S) λ_ S1=>Wo P (.nx ak S1)):Wo P (w9 f ak S):=pG h
def XS (h:Ok (f ak S) λd S1=>Wo P (.rt d S1)):Wo P (qU f ak S):=pG h
def qCd (h:Ok (fa ak S) λds S1=>∃ a b,ds=[a,b]/\Wo P (.nx ((ak.set i (Ab a)).set j (Ab b)) S1)):Wo P (uM i j fa ak S):=pG (zN h λ_ _ ⟨_,_,e,q⟩=>by subst e;exact q)
def qCv (h:Ok (t ak S) λb S1=>Wo P (cD b sf sg ak S1)):Wo P (gf t sf sg ak S):=pG (zN h λb S1 q=>by cases b <;> exact q)
def w_t (h:Wo P (sf ak S)):Wo P (cD true sf sg ak S):=h
def w_f (h:Wo P (sg ak S)):Wo P (cD false sf sg ak S):=h
def qCc {b:Au}(h:Wo P (cD b sg sf ak S)):Wo P (cD (!b) sf sg ak S):=by cases b <;> exact h
def xE {p:Prop}[Ih p](h1:p->Wo P (sf ak S))(h2:¬ p->Wo P (sg ak S)):Wo P (cD (decide p) sf sg ak S):=by
 by_cases h:p
 .rw[Dc h];exact h1 h
 .rw[Co h];exact h2 h
def qA0 (h:Ok (fi ak S) λds S1=>Wo P (yR tg sf ds ak S1)):Wo P (wU fi tg sf ak S):=pG h
theorem wB {α:Type}{fq:α->D}(I:Aa α -> qD->ap->Prop)(turn:∀ x xs ak S,I (x::xs) ak S->Ok (tg (fq x) ak S) λG S1=>Wo (rR I xs P) (sf G S1))(J:∀ ak S,I [] ak S->Wo P (.nx ak S)) :
  ∀ {xs:Aa α} {ak:qD} {S:ap},I xs ak S->Wo P (yR tg sf (xs.map fq) ak S)
 |[],ak,S,h=>J ak S h
 |x::xs,ak,S,h=>by
  obtain⟨G,S1,C,Y⟩:=turn x xs ak S h;rw[Cu,yR];unfold Wo at Y ⊢;simp only[C,bb.toS];cases N:sf G S1 with
  |nx U O=>rw[N] at Y;exact wB I turn J Y
  |ct U O=>rw[N] at Y;exact wB I turn J Y
  |bk U O=>rw[N] at Y;exact Y
  |rt d2 O=>rw[N] at Y;exact Y
  |ex L B U O=>rw[N] at Y;exact Y
  |bad=>rw[N] at Y;exact Y
def gF (I:Aa D->qD->ap->Prop)(turn:∀ x xs ak S,I (x::xs) ak S->Ok (tg x ak S) λY S1=>Wo (rR I xs P) (sf Y S1))(J:∀ ak S,I [] ak S->Wo P (.nx ak S)){xs:Aa D}{ak:qD}{S:ap}(h:I xs ak S):Wo P (yR tg sf xs ak S):=by
 have:=wB (fq:=id) I turn J h
 rwa [Qi] at this
def T_ (I:Ah->qD->ap->Prop)(n:Ah)(P:ja->Prop):ja->Prop
 |.nx ak S=>∃ m,m<n/\I m ak S
 |.ct ak S=>∃ m,m<n/\I m ak S
 |.bk ak S=>P (.nx ak S)
 |o=>P o
def QU (I:Ah->qD->ap->Prop)(turn:∀ n ak S,I n ak S->Ok (t ak S) λb S1=>(b=true->Wo (T_ I n P) (sf ak S1))/\(b=false->Wo P (.nx ak S1))){n:Ah}(B:n<big)(h:I n ak S):Wo P (gD t sf ak S):=by
 have O:∀ N n ak S,n<N->I n ak S->Wo P (uG t sf N ak S):=by
  intro N
  induction N with
  |zero=>intro n ak S h;lia
  |succ N C =>
   intro n ak S h T;obtain⟨b,S1,E,H,A⟩:=turn n ak S T;unfold uG;rw[E];cases b with
   |false=>exact A rfl
   |true =>
    have k:=H rfl;unfold Wo at k ⊢;simp only[bb.toS,Eb];cases U:sf ak S1 with
    |nx Y G=>rw[U] at k;obtain⟨m,L,J⟩:=k;exact C m Y G li J
    |ct Y G=>rw[U] at k;obtain⟨m,L,J⟩:=k;exact C m Y G li J
    |bk Y G=>rw[U] at k;exact k
    |rt d2 G=>rw[U] at k;exact k
    |ex w M Y G=>rw[U] at k;exact k
    |bad=>rw[U] at k;exact k
 exact O big n ak S B h
def U7 {I:Ah->qD->ap->Prop}(m:Ah)(hm:m<n)(h:I m ak S):Wo (T_ I n P) (.nx ak S):=⟨m,hm,h⟩
def nZ (hs:yL n ds=ak)(h:sf ak S=.ex v x b_ S'):qO n sf ds S=.ex v x S':=by
 subst hs;unfold qO;rw[h];rfl
def c7 (h:f ak S=.ex v x S'):qI (w9 f) sg ak S=.ex v x ak S':=by
 simp only[qI,w9,h,bb.toS]
def OM (h:t ak S=.ok true S1)(k:sf ak S1=.ex v x b_ S'):gf t sf sg ak S=.ex v x b_ S':=by
 simp only[gf,h,bb.toS,Eb];exact k
def GV (v:Ac)(x:As)(ak:qD)(S:ap):gC v (qA (dC (.str x)) qC) ak S=.ex v .non ak S:=by
 unfold gC;rw[hZ (show dC (.str x) ak S=.ok (.str x) S from rfl)]
 show (if ([D.str x]:Aa D).length<=bq then ja.ex v D.non ak S else ja.bad)=_
 exact Bg (Dz rfl)
def xM {α:Type}{I:Aa α -> qD->ap->Prop}{xs:Aa α}(h:I xs ak S):Wo (rR I xs P) (.nx ak S):=h
def U6 {α:Type}{I:Aa α -> qD->ap->Prop}{xs:Aa α}(h:Wo P (.rt d S)):Wo (rR I xs P) (.rt d S):=h
def zD {Q:D->ap->Prop}(hs:yL n ds=ak)(h:Wo (RK Q) (sf ak S)):Ok (qO n sf ds S) Q:=by
 subst hs;unfold qO;unfold Wo at h;cases e:sf (yL n ds) S <;> rw[e] at h <;> first|exact⟨_,_,rfl,h⟩|exact Ao h
end
abbrev Pt:=An × An
variable {ps:Aa Pt}
noncomputable def av (p:Pt):D:=.tup [.int p.1,.int p.2]
def z9 (l:Aa Pt):D:=.tup (l.map av)
def kP (p:Pt):Aa An:=[p.1,p.2]
def pK (k:Aa An):Pt:=(k.getD 0 0,k.getD 1 0)
def kW (ps:Aa Pt):ps.map av=(ps.map kP).map mr:=by
 rw[Ds];rfl
def qh (p q:Pt):Au:=_H.lexLt [p.1,p.2] [q.1,q.2]
abbrev Up (l:Aa Pt):Prop:=l.Pairwise λp q=>qh p q=true
def wM (ps:Aa Pt):Aa Pt:=(_S.kj _H.lexLt (ps.map kP)).map pK
def lG {ks:Aa (Aa An)}(h:∀ k∈ks,k∈ps.map kP):ks.map mr=(ks.map pK).map av/\(ks.map pK).map kP=ks:=by
 have e:∀ k∈ks,kP (pK k)=k:=λk Y=>by
  obtain⟨p,_,rfl⟩:=Br.mp (h k Y);rfl
 have Q:(ks.map pK).map kP=ks:=by
  rw[Ds]
  conv=>rhs;rw[<- Qi ks]
  exact Er e
 exact⟨by rw[kW,Q],Q⟩
def Y2 {p q:Pt}(h:kP p=kP q):p=q:=by
 injection h with Y Q
 injection Q with Q _
 exact Zq Y Q
def aW (ps:Aa Pt):∀ k∈_S.kj _H.lexLt (ps.map kP),k∈ps.map kP:=λk Q=>(_S.vP _S.xZ k _).mp Q
def vO (ps:Aa Pt)(p:Pt):p∈wM ps↔p∈ps:=by
 unfold wM;constructor
 .intro h
  obtain⟨k,Q,rfl⟩:=Br.mp h;obtain⟨q,Y,rfl⟩:=Br.mp (aW ps k Q);exact Y
 .intro h
  exact Br.mpr ⟨kP p,(_S.vP _S.xZ _ _).mpr (Br.mpr ⟨p,h,rfl⟩),rfl⟩
def dN (ps:Aa Pt):Up (wM ps):=by
 have h:=_S.bL _S.xZ (ps.map kP);rw[<- (lG (aW ps)).2,Dq] at h;exact h
theorem cI {K:Type}(lt':K->K->Au)(x:K):∀ l:Aa K,(_S.j9 lt' x l).length<=l.length+1
 |[]=>by simp[_S.j9]
 |y::l=>by
  have:=cI lt' x l;unfold _S.j9
  split
  .simp
  .split <;> simp <;> fin2
theorem dO {K:Type}(lt':K->K->Au):∀ l:Aa K,(_S.kj lt' l).length<=l.length
 |[]=>by simp[_S.kj]
 |x::l=>by
  have Y:=cI lt' x (_S.kj lt' l);have Q:=dO lt' l;rw[_S.kj,Bs];fin2
def tI (ps:Aa Pt):(wM ps).length<=ps.length:=by
 unfold wM;rw[Ap];exact Cg (dO _ _) bB
def uN (ps:Aa Pt):Aa Pt:=(_S.kJ _H.lexLt (ps.map kP)).map pK
def L3 (ps:Aa Pt):∀ k∈_S.kJ _H.lexLt (ps.map kP),k∈ps.map kP:=λk Q=>(_S.v3 _).mem_iff.mp Q
def VW (ps:Aa Pt):(uN ps).map kP=_S.kJ _H.lexLt (ps.map kP):=(lG (L3 ps)).2
def uD (ps:Aa Pt):(uN ps).Perm ps:=by
 have h:=(_S.v3 (lt':=_H.lexLt) (ps.map kP)).map pK;rw[Ds] at h;have e:ps.map (pK∘kP)=ps:=by
  conv=>rhs;rw[<- Qi ps]
  exact Er λq _=>rfl
 rw[e] at h;exact h
def QN (nd:ps.Nodup):Up (uN ps):=by
 have h:=_S.gE _S.xZ (ps.map kP);unfold _S.Nf at h;rw[<- VW,Dq] at h;have Q:(uN ps).Nodup:=(uD ps).nodup_iff.mpr nd;refine(List.pairwise_and_iff.mpr ⟨h,Q⟩).imp λ{a b} ⟨J,Y⟩=>?_;rcases _S.xZ.tri J with z|z
 .exact absurd (Y2 z).symm Y
 .exact z
def qCr {Q:D->ap->Prop}{p:Pt}{S:ap}(h:Q (.int p.1) S):Ok (cg (av p) (.int 0) S) Q:=⟨_,_,rfl,h⟩
def qCs {Q:D->ap->Prop}{p:Pt}{S:ap}(h:Q (.int p.2) S):Ok (cg (av p) (.int 1) S) Q:=⟨_,_,rfl,h⟩
def CJ (ps:Aa Pt):pl wI (.lst (ps.map av))=true:=by
 show ((ps.map av).all (pl 29))=true;rw[Jr];exact Bn.mpr λp _=>rfl
theorem WQ:∀ (a b:Aa Pt),zQ (a.map av) (b.map av)=decide (a=b)
 |[],[]=>rfl
 |[],_::_=>by simp[zQ]
 |_::_,[]=>by simp[zQ]
 |x::a,y::b=>by
  show ((x.1 == y.1&&(x.2 == y.2&&true))&&zQ (a.map av) (b.map av))=_;rw[WQ a b,NE];simp[Prod.ext_iff,and_assoc]
def NV {S:ap}{a:Ah}(h:S[a]? = Ab (.lst xs)):tH (.loc a) S=Ab xs:=by
 show (match S[a]? with|some (.lst xs)=>Ab xs|_=>none)=_
 rw[h]
def dz (B:An)(q:Pt):Prop:=-B<=q.1/\q.1<=B /\ -B<=q.2/\q.2<=B
instance (B:An)(q:Pt):Ih (dz B q):=by unfold dz;exact inferInstance
structure oi (M:Ah)(l:Aa Pt):Prop where
 ne:l≠[]
 len:l.length<=M
 up:Up l
 box:∀ q∈l,dz 1000 q
def XR {l:Aa Pt}(h:Up l):l.Nodup:=h.imp λ{a b} h e=>by
 subst e;rw[show qh a a=false from _S.xZ.irr _] at h
 cases h
def OW {M:Ah}(G:ps≠[])(U:ps.length<=M)(J:∀ q∈ps,dz 1000 q):oi M (wM ps):=by
 refine⟨λz=>?_,Cg (tI ps) U,dN ps,λq Y=>J q ((vO ps q).mp Y)⟩;cases ps with
 |nil=>exact G rfl
 |cons q Q =>
  have:q∈wM (q::Q):=(vO _ q).mpr bB
  rw[z] at this;cases this
def OX {M:Ah}(U:ps≠[])(J:ps.length<=M)(nd:ps.Nodup)(Y:∀ q∈ps,dz 1000 q):oi M (uN ps):=by
 have p:=uD ps;refine⟨λz=>?_,by rw[p.length_eq];exact J,QN nd,λq Q=>Y q (p.mem_iff.mp Q)⟩
 rw[z] at p;exact U p.symm.eq_nil
def yM (S:ap)(p:Ah):Prop:=∃ v f:An,S[p]? = Ab (.lst [.int v,.int f])
def gA {S:ap}(h:yM S p)(e:S<+:S'):yM S' p:=by
 obtain⟨Y,J,Q⟩:=h;obtain⟨r,rfl⟩:=e;exact⟨Y,J,by rw[Bb (Ay.mp Q).1];exact Q⟩
structure Kp (p:Ah)(S S':ap):Prop where
 pen:yM S' p
 len:S.length<=S'.length
 same:∀ m,m<S.length->m≠p->S'[m]? = S[m]?
def Kp.trans {S Y:ap}(a:Kp p S S1)(b:Kp p S1 Y):Kp p S Y:=⟨b.pen,Cg a.len b.len,λm Q J=>(b.same m (Bh Q a.len) J).trans (a.same m Q J)⟩
def YY {S:ap}(h:yM S p):p<S.length:=by
 obtain⟨v,f,e⟩:=h;exact(Ay.mp e).1
def Kp.pre {S:ap}(h:yM S p)(e:S<+:S'):Kp p S S':=⟨gA h e,e.length_le,λm Q _=>(Us.mp e m Q).trans (Ar Q).symm⟩
def Kp.set {j:Ah}{S:ap}(h:Kp p S S')(Y:S.length<=j)(m:MO)(hp:p≠j):Kp p S (S'.set j m):=by
 obtain⟨v,f,e⟩:=h.pen;exact⟨⟨v,f,by rw[Ci (Gj hp)];exact e⟩,by rw[Wh];exact h.len,λi hi Q=>by rw[Ci om];exact h.same i hi Q⟩
end _D
local macro_rules|`(tactic|array_get_dec)=>`(tactic| first | (with_reducible first | apply _D.XT | apply _D.PH | apply _D.qAx | apply _D.o_2 | apply _D.o_c | apply _D.jE | apply _D.X9 | apply _D.qCQ | apply _D.qCa | apply _D.qAQ | apply _D.qAK | apply _D.YR | apply _D.qCg | apply _D.qCX | apply _D.HH | apply _D.HC | apply _D.qCv | apply _D.w_t | apply _D.w_f | apply _D.qCc | apply _D.qCO | apply _D.qCN | apply _D.XS | apply _D.qB8 | apply _D.qCd | apply _D.qA0 | apply _D.qCo | apply _D.qCn | apply _D.qCm | apply _D.qCk | apply _D.KQ | apply _D.qCp | apply _D.o_1 | apply _D.qCV | apply _D.qCI | apply _D.qCH | apply _D.qCM | apply _D.qCK | apply _D.qCJ | apply _D.qCu | apply _D.qCZ | apply _D.qCY | apply _D.qCh | apply _D.qCi | apply _D.qCf | apply _D.qCR | apply _D.qCW | apply _D.qBo | apply _D.qCj | apply _D.qCl | apply _D.qCb | apply _D.qCG | apply _D.qCP | apply _D.qCr | apply _D.qCs | apply _D.qCt | apply _D.TF | apply _D.qCL) | ((with_reducible apply _D.o_v); exact rfl) | ((with_reducible apply _D.qCq); dsimp only [List.set_cons_succ, List.set_cons_zero]) | ((with_reducible (first | apply _D.qCU | apply _D.qCT | apply _D.qCS)); fin2) | ((with_reducible apply And.intro); (first | exact rfl | exact Nat.le_of_ble_eq_true rfl)) | ((with_reducible apply Exists.intro); (with_reducible apply And.intro); exact rfl) | ((with_reducible apply Exists.intro); (with_reducible apply Exists.intro); (with_reducible apply And.intro); exact rfl; dsimp only [List.set_cons_succ, List.set_cons_zero]) | ((with_reducible apply Exists.intro); (with_reducible apply Exists.intro); (with_reducible apply Exists.intro); (with_reducible apply And.intro); exact rfl; dsimp only [List.set_cons_succ, List.set_cons_zero]))
local macro_rules|`(tactic|rfl')=>`(tactic| repeat array_get_dec)
namespace _D
variable {xs:Aa D}{d:D}{Q:D->ap->Prop}{S:ap}
def Pn (d:D):Prop:=∃ p,uq d=Ab p
def pns:∀ {ps:Aa PyData},tE xs=Ab ps->∀ x∈xs,Pn x:=by
 induction xs with
 |nil=>intro ps _ x hx;cases hx
 |cons d O J =>
  intro ps h x hx;simp only[tE] at h;obtain⟨p,G,U⟩:=Ft.mp h;obtain⟨N,Y,_⟩:=Dn.mp U;rcases Ba.mp hx with rfl|hx
  .exact⟨p,G⟩
  .exact J Y x hx
def YZ (h:Pn (.tup xs)):∀ x∈xs,Pn x:=by
 obtain⟨p,h⟩:=h;simp only[uq] at h;obtain⟨J,Y,_⟩:=Dn.mp h;exact pns Y
theorem a9:∀ {xs:Aa D},(∀ x∈xs,Pn x)->∃ l,tE xs=Ab l
 |[],_=>⟨[],rfl⟩
 |x::xs,h=>by
  obtain⟨l,e⟩:=a9 (xs:=xs) λy Y=>h y (Cs _ Y);obtain⟨q,J⟩:=h x (DL ..);refine⟨q::l,?_⟩;show (uq x).bind (λx=>(tE xs).map (x::·))=_
  rw[e,J];rfl
def t9 (h:∀ x∈xs,Pn x):Pn (.tup xs):=by
 obtain⟨l,e⟩:=a9 h;exact⟨.tuple l,by simp only[uq,e,Rc]⟩
def _W (h:∀ x∈xs,Pn x):Pn (.lst xs):=by
 obtain⟨l,e⟩:=a9 h;exact⟨.list l,by simp only[uq,e,Rc]⟩
def nV (q:Pt):Pn (av q):=⟨.tuple [.int q.1,.int q.2],rfl⟩
def a8 (l:Aa Pt):Pn (z9 l):=t9 λx Y=>by
 obtain⟨q,_,rfl⟩:=Br.mp Y;exact nV q
noncomputable def inR (a b:An):D->Au
 |.int i=>decide (a<=i/\i<=b)
 |_=>false
def isW:D->Au
 |.int _=>true
 |_=>false
def g_:D->Au
 |.tup _=>true
 |_=>false
def BE (h:Pn d)(S:ap):xO [d,.ty "tuple"] S=.ok (.bl (g_ d)) S:=by
 obtain⟨p,h⟩:=h;cases d <;> first|kernel_rfl!|simp[uq] at h
def oU {U J Y:DE}{a b c:An}(h1:U ak S=.ok (.int a) S)(h2:J ak S=.ok (.int b) S)(h3:Y ak S=.ok (.int c) S)(q:Q (.bl (decide (a<=b/\b<=c))) S):Ok (y7 rj rj U J Y ak S) Q:=by
 refine⟨_,_,?_,q⟩;unfold y7;rw[h1,bb.bind_ok,h2,bb.bind_ok];show (match w5 (.bl (decide (a<=b))) S with|some true=>(Y ak S).bind λw G=>rj (.int b) w G|some false=>bb.ok (.bl (decide (a<=b))) S|none=>.bad)=_
 by_cases h:a<=b
 .rw[Dc h]
  show (Y ak S).bind _=_;rw[h3];simp only[h,true_and];rfl
 .rw[Co h,Co λz=>h z.1]
  rfl
abbrev wo:D->Au:=inR (-1000) 1000
def xY:D->Au
 |.tup [a,b]=>wo a&&wo b
 |_=>false
def MG (q:Pt):xY (av q)=decide (dz 1000 q):=by
 show (decide (-1000<=q.1/\q.1<=1000)&&decide (-1000<=q.2/\q.2<=1000))=_;rw[<- Bool.decide_and];exact Ko.mpr ⟨λh=>⟨h.1.1,h.1.2,h.2.1,h.2.2⟩,λh=>⟨⟨h.1,h.2.1⟩,h.2.2.1,h.2.2.2⟩⟩
def E1 (h:xs.length=2):xY (.tup xs)=xs.all wo:=by
 match xs,h with
 |[a,b],_=>simp[xY]
def E2 (h:xs.length≠2):xY (.tup xs)=false:=by
 match xs,h with
 |[],_=>rfl
 |[_],_=>rfl
 |[_,_],h=>exact absurd rfl h
 |_::_::_::_,_=>rfl
def E4 (h:g_ d=false):xY d=false:=by
 cases d <;> first|rfl|cases h
def mz (ks:Aa (Aa An)):Au:=(ks.zip (ks.drop 1)).all λp=>_H.lexLt p.1 p.2
def vW:D->Au
 |.tup xs=>decide (1<=xs.length/\xs.length<=40)&&xs.all xY&&(match wH xs with|some Y=>mz Y|none=>false)
 |_=>false
def oC {a b:An}(h:inR a b d=true):∃ i,d=.int i/\a<=i/\i<=b:=by
 cases d <;> first|exact⟨_,rfl,Ce h⟩|cases h
def JR (h:xY d=true):∃ q,d=av q/\dz 1000 q:=by
 unfold xY at h
 split at h
 .rw[Aw] at h
  obtain⟨x,rfl,J⟩:=oC h.1;obtain⟨y,rfl,Y⟩:=oC h.2;exact⟨(x,y),rfl,J.1,J.2,Y.1,Y.2⟩
 .cases h
theorem aA:∀ {xs:Aa D},xs.all xY=true->∃ Y:Aa Pt,xs=Y.map av/\∀ q∈Y,dz 1000 q
 |[],_=>⟨[],rfl,λ_ h=>by cases h⟩
 |d::G,h=>by
  rw[Tt,Aw] at h;obtain⟨Y,rfl,J⟩:=aA h.2;obtain⟨q,rfl,U⟩:=JR h.1;refine⟨q::Y,rfl,λz hz=>?_⟩;rcases Ba.mp hz with rfl|hz
  .exact U
  .exact J z hz
def OY (a b:Aa An)(S:ap):lR (mr a) (mr b) S=.ok (.bl (_H.lexLt a b)) S:=by
 unfold lR mr;simp only[sM]
theorem l9:∀ (ks:Aa (Aa An)),mz ks=true↔ks.Pairwise (λa b=>_H.lexLt a b=true)
 |[]=>by simp[mz]
 |[a]=>by simp[mz]
 |a::b::r=>by
  have U:=l9 (b::r);have e:mz (a::b::r)=(_H.lexLt a b&&mz (b::r)):=by simp[mz]
  rw[e,Aw,U,Ea (a:=a)];constructor
  .rintro⟨J,Y⟩
   refine⟨λx hx=>?_,Y⟩;rcases Ba.mp hx with rfl|hx
   .exact J
   .exact _S.xZ.tr J ((Ea.mp Y).1 x hx)
  .rintro⟨J,Y⟩
   exact⟨J b bB,Y⟩
def IU (ks Y:Aa (Aa An)):vJ (ks.map mr) (Y.map mr)=(ks.zip Y).map λp=>D.tup [mr p.1,mr p.2]:=by
 unfold vJ
 induction ks generalizing Y with
 |nil=>rfl
 |cons k ks J =>
  cases Y with
  |nil=>rfl
  |cons m Y=>exact congrArg (_::·) (J Y)
def MF (h:g_ d=false):vW d=false:=by
 cases d <;> first|rfl|cases h
def mR {M:Ah}(O:M<=40){l:Aa Pt}(h:oi M l):vW (z9 l)=true:=by
 show (decide (1<=(l.map av).length/\(l.map av).length<=40)&&(l.map av).all xY&&(match wH (l.map av) with|some N=>mz N|none=>false))=true
 have G:1<=(l.map av).length/\(l.map av).length<=40:=by
  rw[Ap];exact⟨Nl.mpr h.ne,by have:=h.len;lia⟩
 have J:(l.map av).all xY=true:=by
  rw[Jr];exact Bn.mpr λq U=>(MG q).trans (Dc (h.box q U))
 have Y:mz (l.map kP)=true:=by
  rw[l9,Dq];exact h.up
 rw[Dc G,J,kW,jX];exact Y
def dA (h:¬ xs.Nodup):vW (.tup xs)=false:=by
 cases e:vW (.tup xs) with
 |false=>rfl
 |true =>
  have U:(decide (1<=xs.length/\xs.length<=40)&&xs.all xY&&(match wH xs with|some O=>mz O|none=>false))=true:=e
  rw[Aw,Aw] at U;obtain⟨C,rfl,_⟩:=aA U.1.2;have N:=U.2;rw[kW,jX] at N;refine absurd ?_ h;have u:=(l9 _).mp N;rw[Dq] at u;rw[Vc,Dq];refine u.imp λ{a b} Y z=>?_;have:kP a=kP b:=by
   injection z with z
   injection z with G J
   injection G with G
   injection J with J _
   injection J with J
   show [a.1,a.2]=[b.1,b.2];rw[G,J]
  rw[this,_S.xZ.irr] at Y;cases Y
def d9 {x:D}(Y:x∈xs)(h:xY x=false):vW (.tup xs)=false:=by
 show (decide (1<=xs.length/\xs.length<=40)&&xs.all xY&&(match wH xs with|some J=>mz J|none=>false))=false
 have:xs.all xY=false:=by
  rw[List.all_eq_false];exact⟨x,Y,by rw[h];simp⟩
 rw[this,Kh,Hs]
def T1 (h:40<xs.length):vW (.tup xs)=false:=by
 show (decide (1<=xs.length/\xs.length<=40)&&xs.all xY&&(match wH xs with|some Y=>mz Y|none=>false))=false
 rw[Co li,Hs,Hs]
def vm (d:D):Prop:=Pn d/\vW d=false
def B7 (xs:Aa D):xA xs (Ab 1) none=xs.drop 1:=by
 unfold xA;have J:_H.cy xs.length 0 (Ab 1)=min 1 xs.length:=rfl;have Y:_H.cy xs.length xs.length none=xs.length:=rfl;rw[J,Y];cases xs with
 |nil=>rfl
 |cons x r=>simp
def FC (xs:Aa D)(x:D):xA (xs++[x]) (Ab (-1)) none=[x]:=by
 unfold xA;have Y:_H.cy (xs++[x]).length (xs++[x]).length none=(xs++[x]).length:=rfl;have J:_H.cy (xs++[x]).length 0 (Ab (-1))=xs.length:=by
  show (if (-1:An)<0 then ((-1:An)+((xs++[x]).length:An)).toNat else min (-1:An).toNat (xs++[x]).length)=_
  rw[Bg li,Bj];simp only[Bs,Fc]
  lia
 rw[Y,J];simp
def tQ (xs:Aa D)(n:Ah)(h:n<=xs.length):xA xs (Ab (n:An)) none=xs.drop n:=by
 unfold xA;have J:_H.cy xs.length xs.length none=xs.length:=rfl;have Y:_H.cy xs.length 0 (Ab (n:An))=min n xs.length:=by
  show (if (n:An)<0 then ((n:An)+(xs.length:An)).toNat else min (n:An).toNat xs.length)=_
  rw[Bd li,Em]
 rw[J,Y,Oa h];exact Ll (by rw[Gs];exact Ax _)
def SC (xs:Aa D)(n:Ah)(h:n<=xs.length):xA xs none (Ab (n:An))=xs.take n:=by
 unfold xA;have J:_H.cy xs.length 0 none=0:=rfl;have Y:_H.cy xs.length xs.length (Ab (n:An))=min n xs.length:=by
  show (if (n:An)<0 then ((n:An)+(xs.length:An)).toNat else min (n:An).toNat xs.length)=_
  rw[Bd li,Em]
 rw[J,Y,Oa h];rfl
def pE (n:Ah):_H.io n (-1)=n:=by
 unfold _H.io _H.ft _H.qw Gd Gx;simp
 split <;> lia
def VY (xs:Aa D)(x:D):x∈_H.de (xs++[x]) (-1):=by
 unfold _H.de;refine Hj.mpr ⟨0,Dt.mpr (by rw[pE];simp),?_⟩
 have h:_H.ft (xs++[x]).length (-1)=(xs.length:An):=by
  unfold _H.ft Gd;simp
 rw[h];simp
def VX {k:An}{x:D}(h:x∈_H.de xs k):x∈xs:=by
 unfold _H.de at h;obtain⟨m,_,e⟩:=Hj.mp h;exact Bw e
def YS {a:Aa D}{k:Ah}(l:a.length*k<=bq/\k<1000)(h:Q (.lst (Dk k a).flatten) S):Ok (gU (.lst a) (.int (k:An)) S) Q:=by
 refine⟨_,_,?_,h⟩;unfold gU;have c:0<=(k:An)/\(k:An)<2 ^ 62/\a.length*(k:An).toNat<=bq:=⟨by lia,by lia,by rw[Em];exact l.1⟩
 refine(Bg c).trans ?_;rw[Em]
def HG {a:Aa D}(l:a.length<=1000)(h:Q (.tup (_H.de a (-1))) S):Ok (rQ (.tup a) (.int (-1)) S) Q:=⟨_,_,Bg ⟨by lia,by lia,by rw[pE];unfold bq;lia⟩,h⟩
def uv (p q:Pt):An:=(p.1-q.1)*(p.1-q.1)+(p.2-q.2)*(p.2-q.2)
noncomputable def wX:Aa Pt->Aa (Pt × Pt)
 |[]=>[]
 |p::Y=>Y.map (λq=>(p,q))++wX Y
def YK {β γ:Type}{l:Aa β}{f:β->γ}(nd:(l.map f).Nodup){x y:β}(U:x∈l)(Y:y∈l)(e:f x=f y):x=y:=by
 obtain⟨a,J,rfl⟩:=Ct.mp U;obtain⟨b,G,rfl⟩:=Ct.mp Y;have:a=b:=(Pu nd (h₀:=by simpa using J) (h₁:=by simpa using G)).mp (by simpa using e)
 subst this;rfl
def DD {j:Ah}(h:S[j]? = Ab (.lst xs))(Y:xs.length<bq)(d:D):xP (.loc j) [d] S=.ok .non (S.set j (.lst (xs++[d]))):=xK (fG h Y ⟨rfl,rfl⟩)
def V1 {Y:ap}(h:∀ m,m<S.length->Y[m]? = S[m]?):S<+:Y:=by
 rw[Us];intro i J;rw[h i J,Ar J]
end _D
namespace _K
open _L _D
noncomputable def top (i:Ah):Fb:=Ta.main.body.getD i (.Pass ⟨0,0,0,0⟩)
structure Cl where
 (FarError NoPoint NoLot NoNumber NoCircle NoMarks NoFars NoText NoLine NoDeed Alike TooMany is_round round_fours first_round:Af)
def wC (c:Cl):Aa Af:=[c.NoPoint,c.NoLot,c.NoNumber,c.NoCircle,c.NoMarks,c.NoFars,c.NoText,c.NoLine,c.NoDeed,c.Alike,c.TooMany]
noncomputable def pV (c:Cl):Aa Ac:=[.ref c.NoPoint,.ref c.NoLot,.ref c.NoNumber,.ref c.NoCircle,.ref c.NoMarks,.ref c.NoFars,.ref c.NoText,.ref c.NoLine,.ref c.NoDeed]
noncomputable abbrev oh (c:Cl):Aa (As × Af):=[("FarError",c.FarError),("NoPoint",c.NoPoint),("NoLot",c.NoLot),("NoNumber",c.NoNumber),("NoCircle",c.NoCircle),("NoMarks",c.NoMarks),("NoFars",c.NoFars),("NoText",c.NoText),("NoLine",c.NoLine),("NoDeed",c.NoDeed),("Alike",c.Alike),("TooMany",c.TooMany),("is_round",c.is_round),("round_fours",c.round_fours),("first_round",c.first_round)]
noncomputable abbrev qe (c:Cl):Aa (As × Af):=[("NoPoint",c.NoPoint),("NoLot",c.NoLot),("NoNumber",c.NoNumber),("NoCircle",c.NoCircle),("NoMarks",c.NoMarks),("NoFars",c.NoFars),("NoText",c.NoText),("NoLine",c.NoLine),("NoDeed",c.NoDeed)]
noncomputable abbrev qq:Aa (As × An):=[("LEAST_NUMBER",-1000),("MOST_NUMBER",1000),("MOST_POINTS",40)]
noncomputable abbrev bl:Aa As:=["ValueError","abs","all","bool","int","isinstance","len","list","range","set","sorted","str","tuple","zip"]
noncomputable abbrev tab:Aa (As × Ah × Aa As):=[(("is_whole" : As),(14:Ah),[("thing" : As)]),(("is_within" : As),(15:Ah),[("thing" : As),("least" : As),("most" : As)]),(("is_rising" : As),(16:Ah),[("some" : As)]),(("is_point" : As),(21:Ah),[("thing" : As)]),(("is_lot" : As),(22:Ah),[("thing" : As)]),(("need_lot" : As),(23:Ah),[("thing" : As)]),(("greatest_common" : As),(25:Ah),[("one" : As),("other" : As)]),(("fraction" : As),(26:Ah),[("top" : As),("bottom" : As)]),(("slant" : As),(27:Ah),[("point" : As),("one" : As),("other" : As)]),(("round_groups" : As),(28:Ah),[("one" : As),("other" : As),("points" : As)]),(("pairs_and_behind" : As),(29:Ah),[("lot" : As)]),(("is_round" : As),(30:Ah),[("lot" : As)]),(("round_fours" : As),(31:Ah),[("lot" : As)]),(("first_round" : As),(32:Ah),[("lot" : As)]),(("_law_kinds" : As),(34:Ah),[("_law_e" : As)]),(("_law_refused" : As),(35:Ah),[("_law_call" : As)]),(("_law_same" : As),(36:Ah),[("_law_found" : As),("_law_due" : As)]),(("_law_cell" : As),(37:Ah),[("_law_script" : As),("_law_k" : As)]),(("_law_pen" : As),(38:Ah),[("_law_cell_here" : As)]),(("_law_draw" : As),(39:Ah),[("_law_pen_here" : As),("_law_many" : As)]),(("_law_far" : As),(40:Ah),[("_law_one" : As),("_law_other" : As)]),(("_law_circle" : As),(41:Ah),[("_law_number" : As)]),(("_law_rich" : As),(42:Ah),[("_law_pen_here" : As),("_law_most" : As)]),(("_law_lot" : As),(43:Ah),[("_law_pen_here" : As),("_law_most" : As)]),(("_law_no_lot" : As),(44:Ah),[("_law_pen_here" : As),("_law_lot_here" : As)]),(("_law_point" : As),(45:Ah),[("_law_pen_here" : As)]),(("_law_straight" : As),(46:Ah),[("_law_one" : As),("_law_two" : As),("_law_three" : As)]),(("_law_middle" : As),(47:Ah),[("_law_one" : As),("_law_two" : As),("_law_three" : As)]),(("_law_on_one" : As),(48:Ah),[("_law_one" : As),("_law_two" : As),("_law_three" : As),("_law_four" : As)]),(("_law_combos" : As),(49:Ah),[("_law_some" : As),("_law_n" : As)]),(("_law_rounds" : As),(50:Ah),[("_law_lot_here" : As)]),(("_law_is_round" : As),(51:Ah),[("_law_lot_here" : As)]),(("_law_right" : As),(52:Ah),[("_law_lot_here" : As)]),(("law" : As),(53:Ah),[("_law_script" : As)])]
abbrev Txt (K:Ai)(mg:ah)(c:Cl):Prop:=xx K mg top tab bl (oh c) (qe c) (pV c) (wC c) qq
abbrev EH:Aa As:=["law"]
def so (c:Cl):Aa Af:=[c.is_round,c.round_fours,c.first_round]
abbrev vc (a:DE):=qA a qC
abbrev vd (a b:DE):=qA a (vc b)
abbrev vf (a b c:DE):=qA a (vd b c)
abbrev vg (a b c d:DE):=qA a (vf b c d)
abbrev ic (i:Int):DE:=dC (.int i)
abbrev lj:DS:=qU (pZ (qG xO (vd (qB 0) (dC (.ty "int")))) (hW (qG xO (vd (qB 0) (dC (.ty "bool"))))))
@[irreducible] def gj:DF:=sh (qO 1 lj)
def pN:gj=qO 1 lj:=by delta gj;exact zM _
abbrev kb:DS:=qU (pZ (qN 1 gj (vc (qB 0))) (y7 rj rj (qB 1) (qB 0) (qB 2)))
@[irreducible] def fy:DF:=sh (qO 3 kb)
def kR:fy=qO 3 kb:=by delta fy;exact zM _
abbrev ke:DS:=qU (qG (gR false) (vc (zH false [none,none] (zY (lJ (vd (qB 0) (mi (qB 0) (zP (ic 1)) x9)))) (ou 2 (zI (bh 0) (zI (bh 1) yG))) xB (zL (d2 lR (qB 0) (qB 1))))))
@[irreducible] def fz:DF:=sh (qO 1 ke)
def kQ:fz=qO 1 ke:=by delta fz;exact zM _
abbrev lr:DS:=qI (gf (gN (wG (dw (qG xO (vd (qB 0) (dC (.ty "tuple")))))) (dw (d2 my (qG zO (vc (qB 0))) (ic 2)))) (qU (dC (.bl false))) zJ) (qU (qG (gR false) (vc (zH false [none] (nw (qB 0)) (bh 0) xB (zL (qN 3 (qf fy) (vf (qB 0) (dC (.int (-1000))) (ic 1000))))))))
@[irreducible] def gk:DF:=sh (qO 1 lr)
def pM:gk=qO 1 lr:=by delta gk;exact zM _
abbrev nh:DS:=qI (gf (gN (wG (dw (qG xO (vd (qB 0) (dC (.ty "tuple")))))) (wG (dw (y7 rj rj (ic 1) (qG zO (vc (qB 0))) (ic 40))))) (qU (dC (.bl false))) zJ) (qU (pZ (qG (gR false) (vc (zH false [none] (nw (qB 0)) (bh 0) xB (zL (qN 1 (qf gk) (vc (qB 0))))))) (qN 1 fz (vc (qB 0)))))
@[irreducible] def jr:DF:=sh (qO 1 nh)
def fT:jr=qO 1 nh:=by delta jr;exact zM _
abbrev lh (c:Cl):DS:=gf (wG (dw (qN 1 jr (vc (qB 0))))) (gC (.ref c.NoLot) (vc (dC (.str "a lot is needed")))) zJ
@[irreducible] def dk (c:Cl):DF:=sh (qO 1 (lh c))
def uI (c:Cl):dk c=qO 1 (lh c):=by delta dk;exact zM _
abbrev fv:DS:=qI (gD (dw (d2 wt (qB 1) (ic 0))) (uM 0 1 (vd (qB 1) (d2 uJ (qB 0) (qB 1))))) (qU (qB 0))
@[irreducible] def cz:DF:=sh (qO 2 fv)
def v7:cz=qO 2 fv:=by delta cz;exact zM _
abbrev lu:DS:=qI (qS (qN 2 cz (vd (qG lO (vc (qB 0))) (qG lO (vc (qB 1))))) (bh 2)) (qI (gf (dw (d2 ph (qB 1) (ic 0))) (qS (d1 kB (qB 2)) (bh 2)) zJ) (qU (qP (vd (d2 gT (qB 0) (qB 2)) (d2 gT (qB 1) (qB 2))))))
@[irreducible] def gn:DF:=sh (qO 3 lu)
def pL:gn=qO 3 lu:=by delta gn;exact zM _
abbrev ow:DS:=qI (uM 3 4 (vd (d2 xC (d2 cg (qB 1) (ic 0)) (d2 cg (qB 0) (ic 0))) (d2 xC (d2 cg (qB 1) (ic 1)) (d2 cg (qB 0) (ic 1))))) (qI (uM 5 6 (vd (d2 xC (d2 cg (qB 2) (ic 0)) (d2 cg (qB 0) (ic 0))) (d2 xC (d2 cg (qB 2) (ic 1)) (d2 cg (qB 0) (ic 1))))) (qI (qS (d2 xC (d2 zG (qB 3) (qB 6)) (d2 zG (qB 4) (qB 5))) (bh 7)) (qU (xt (dw (d2 k_ (qB 7) (ic 0))) (dC .non) (qN 2 gn (vd (d2 zB (d2 zG (qB 3) (qB 5)) (d2 zG (qB 4) (qB 6))) (qB 7)))))))
@[irreducible] def ky:DF:=sh (qO 8 ow)
def tN:ky=qO 8 ow:=by delta ky;exact zM _
abbrev h_:DS:=qI (qS ZM (bh 3)) (qI (wU (xX (qB 2)) (bh 4) (qI (qS (qN 3 ky (vf (qB 4) (qB 0) (qB 1))) (bh 5)) (gf (dw (d2 cG (qB 5) (dC .non))) (w9 (qo "list" xP (hX (qB 3) (vd (qB 5) (v9 qC))) (vc (qB 4)))) zJ))) (qU (tS (qB 3))))
@[irreducible] def cf:DF:=sh (qO 6 h_)
def uO:cf=qO 6 h_:=by delta cf;exact zM _
abbrev dj:DS:=qI (qS (qG zO (vc (qB 0))) (bh 1)) (qU (zH false [none,none,Ab 0,Ab 1] (zY (xI (vc (qB 1)))) (bh 0) xB (kIn (zY (xI (vd (d2 zB (qB 0) (ic 1)) (qB 3)))) (bh 1) xB (zL (qP (vf (d2 cg (qB 2) (qB 0)) (d2 cg (qB 2) (qB 1)) (mi (qB 2) (zP (d2 zB (qB 1) (ic 1))) x9)))))))
@[irreducible] def bz:DF:=sh (qO 2 dj)
def yV:bz=qO 2 dj:=by delta bz;exact zM _
abbrev lm (c:Cl):DS:=qI (w9 (qN 1 (dk c) (vc (qB 0)))) (qI (gf (dw (d2 ph (qG zO (vc (qB 0))) (ic 3))) (qU (dC (.bl true))) zJ) (qU (d2 (vX k_) (qN 3 cf (vf (d2 cg (qB 0) (ic 0)) (d2 cg (qB 0) (ic 1)) (mi (qB 0) (zP (ic 2)) x9))) (x8 (vc (qG tX (vc (mi (qB 0) (zP (ic 2)) x9))))))))
@[irreducible] def ci (c:Cl):DF:=sh (qO 1 (lm c))
def uH (c:Cl):ci c=qO 1 (lm c):=by delta ci;exact zM _
abbrev ir (c:Cl):DS:=qI (w9 (qN 1 (dk c) (vc (qB 0)))) (qI (qS (ic 0) (bh 1)) (qI (wU (xX (qN 1 bz (vc (qB 0)))) (ou 3 (zI (bh 2) (zI (bh 3) (zI (bh 4) yG)))) (wU (xX (qN 3 cf (vf (qB 2) (qB 3) (qB 4)))) (bh 5) (bJ 1 tY (d2 b9 (d2 zG (qG zO (vc (qB 5))) (d2 xC (qG zO (vc (qB 5))) (ic 1))) (ic 2))))) (qU (qB 1))))
@[irreducible] def br (c:Cl):DF:=sh (qO 6 (ir c))
def yU (c:Cl):br c=qO 6 (ir c):=by delta br;exact zM _
abbrev iu (c:Cl):DS:=qI (w9 (qN 1 (dk c) (vc (qB 0)))) (qI (wU (xX (qN 1 bz (vc (qB 0)))) (ou 3 (zI (bh 1) (zI (bh 2) (zI (bh 3) yG)))) (wU (xX (qN 3 cf (vf (qB 1) (qB 2) (qB 3)))) (bh 4) (gf (dw (d2 wt (qG zO (vc (qB 4))) (ic 1))) (qU (qP (vg (qB 1) (qB 2) (d2 cg (qB 4) (ic 0)) (d2 cg (qB 4) (ic 1))))) zJ))) (qU (dC .non)))
@[irreducible] def bu (c:Cl):DF:=sh (qO 5 (iu c))
def yT (c:Cl):bu c=qO 5 (iu c):=by delta bu;exact zM _
abbrev jp (c:Cl):DS:=qI (qS (x8 (vf (qG (zX (wC c)) (vd (qB 0) (dC (.obj c.NoPoint)))) (qG (zX (wC c)) (vd (qB 0) (dC (.obj c.NoLot)))) (qG (zX (wC c)) (vd (qB 0) (dC (.obj c.NoNumber)))))) (bh 1)) (qI (qS (d2 zB (qB 1) (x8 (vf (qG (zX (wC c)) (vd (qB 0) (dC (.obj c.NoCircle)))) (qG (zX (wC c)) (vd (qB 0) (dC (.obj c.NoMarks)))) (qG (zX (wC c)) (vd (qB 0) (dC (.obj c.NoFars))))))) (bh 1)) (qI (qS (d2 zB (qB 1) (x8 (vf (qG (zX (wC c)) (vd (qB 0) (dC (.obj c.NoText)))) (qG (zX (wC c)) (vd (qB 0) (dC (.obj c.NoLine)))) (qG (zX (wC c)) (vd (qB 0) (dC (.obj c.NoDeed))))))) (bh 1)) (qI (qS (d2 zB (qB 1) (x8 (vd (qG (zX (wC c)) (vd (qB 0) (dC (.obj c.Alike)))) (qG (zX (wC c)) (vd (qB 0) (dC (.obj c.TooMany))))))) (bh 1)) (qI (gf (gN (wG (dw (qG (zX (wC c)) (vd (qB 0) (dC (.ty "ValueError")))))) (dw (d2 my (qo "list" tZ (qB 1) (vc (dC (.bl true)))) (ic 1)))) (qU (dC (.str "other"))) zJ) (qI (gf (dw (qG (zX (wC c)) (vd (qB 0) (dC (.obj c.Alike))))) (qU (qP (qA (dC (.str "alike")) (vg b0 b0 b0 b0)))) zJ) (qI (gf (dw (qG (zX (wC c)) (vd (qB 0) (dC (.obj c.TooMany))))) (qU (qP (vf (dC (.str "many")) b0 b0))) zJ) (qI (qS (x8 (qA (dC (.str "point")) (qA (dC (.str "lot")) (qA (dC (.str "number")) (qA (dC (.str "circle")) (qA (dC (.str "marks")) (vg (dC (.str "fars")) (dC (.str "text")) (dC (.str "line")) (dC (.str "deed"))))))))) (bh 2)) (qU (d2 cg (qB 2) (qo "list" n6 (qB 1) (vc (dC (.bl true)))))))))))))
@[irreducible] def cp (c:Cl):DF:=sh (qO 3 (jp c))
def jO (c:Cl):cp c=qO 3 (jp c):=by delta cp;exact zM _
abbrev dy (c:Cl)(G:Aa D->DF)(a:Af)(Q:Aa V):DS:=qI (tF 2 1 (pV c) (w9 (gM 0 qC a Q 0 G)) (qU (qN 1 (cp c) (vc (qB 1))))) (qU (dC (.str "told")))
abbrev fw (bj:DF):DS:=qI (gf (dw (d2 xo (qB 1) (dC .non))) (qU (d2 xo (qB 0) (dC .non))) zJ) (qI (gf (dw (qG gS (vd (qB 1) (qP (vd (dC (.ty "list")) (dC (.ty "tuple"))))))) (qI (gf (dw (d2 my (qG xO (vd (qB 1) (dC (.ty "list")))) (qG xO (vd (qB 0) (dC (.ty "list")))))) (qU (dC (.bl false))) zJ) (qI (gf (gN (dw (d2 my (qG xO (vd (qB 1) (dC (.ty "tuple")))) (qG xO (vd (qB 0) (dC (.ty "tuple")))))) (dw (d2 my (qG zO (vc (qB 0))) (qG zO (vc (qB 1)))))) (qU (dC (.bl false))) zJ) (qU (qG (gR false) (vc (zH false [none,none] (zY (lJ (vd (qB 0) (qB 1)))) (ou 2 (zI (bh 0) (zI (bh 1) yG))) xB (zL (qN 2 (qf bj) (vd (qB 0) (qB 1)))))))))) zJ) (qI (gf (dw (qG xO (vd (qB 1) (dC (.ty "str"))))) (qU (pZ (qG xO (vd (qB 0) (dC (.ty "str")))) (d2 k_ (qB 0) (qB 1)))) zJ) (qI (gf (dw (d2 my (qG xO (vd (qB 0) (dC (.ty "bool")))) (qG xO (vd (qB 1) (dC (.ty "bool")))))) (qU (dC (.bl false))) zJ) (qU (pZ (qG xO (vd (qB 0) (dC (.ty "int")))) (d2 k_ (qB 0) (qB 1)))))))
def l6:Ah->DF
 |0=>λ_ _=>.bad
 |n+1=>qO 2 (fw (l6 n))
@[irreducible] def bj:DF:=sh (l6 4)
def vL:bj=l6 4:=by delta bj;exact zM _
abbrev kh:DS:=qI (gf (dw (d2 ph (qB 1) (qG zO (vc (qB 0))))) (qU (d2 cg (qB 0) (qB 1))) zJ) (qU (ic 0))
@[irreducible] def fg:DF:=sh (qO 2 kh)
def kM:fg=qO 2 kh:=by delta fg;exact zM _
abbrev lw:DS:=qU (v9 (vd (qB 0) (qG ZS (vc (d2 yy (qB 0) (d2 JL (ic 10) (ic 18)))))))
@[irreducible] def gp:DF:=sh (qO 1 lw)
def pJ:gp=qO 1 lw:=by delta gp;exact zM _
abbrev kg:DS:=qI (gf (dw (d2 k_ (d2 cg (qB 0) (ic 1)) (ic 1))) (qI (qS (d2 uJ (d2 cg (qB 0) (ic 0)) (qB 1)) (bh 2)) (qI (qS (d2 b9 (d2 cg (qB 0) (ic 0)) (qB 1)) (wq (qB 0) (ic 0) yO)) (qU (qB 2)))) zJ) (qI (qS (d2 uJ (d2 zB (d2 zG (d2 uJ (d2 cg (qB 0) (ic 0)) (ic 2147483629)) (ic 48271)) (ic 11)) (ic 2147483629)) (wq (qB 0) (ic 0) yO)) (qU (d2 uJ (d2 b9 (d2 uJ (d2 zB (d2 zG (d2 cg (qB 0) (ic 0)) (d2 cg (qB 0) (ic 0))) (d2 zG (ic 40692) (d2 cg (qB 0) (ic 0)))) (ic 2147483647)) (ic 8)) (qB 1))))
@[irreducible] def a_:DF:=sh (qO 3 kg)
def kN:a_=qO 3 kg:=by delta a_;exact zM _
abbrev ly:DS:=qI (uM 2 3 (vd (d2 xC (d2 cg (qB 0) (ic 0)) (d2 cg (qB 1) (ic 0))) (d2 xC (d2 cg (qB 0) (ic 1)) (d2 cg (qB 1) (ic 1))))) (qU (d2 zB (d2 zG (qB 2) (qB 2)) (d2 zG (qB 3) (qB 3))))
@[irreducible] def gt:DF:=sh (qO 4 ly)
def pH:gt=qO 4 ly:=by delta gt;exact zM _
abbrev i_:DS:=qI (uM 1 2 (vd ZL (x8 qC))) (qI (wU (xI (vc (ic 1001))) (bh 3) (qS (qB 3) (wq (qB 1) (d2 zG (qB 3) (qB 3)) yO))) (qI (wU (xI (vc (ic 1001))) (bh 4) (gf (dw (d2 lQ (d2 xC (qB 0) (d2 zG (qB 4) (qB 4))) (qB 1))) (qI (qS (d2 mM (qB 1) (d2 xC (qB 0) (d2 zG (qB 4) (qB 4)))) (bh 5)) (qI (qS (d2 zB (qB 2) (x8 (vf (qP (vd (qB 4) (qB 5))) (qP (vd (d2 xC (ic 0) (qB 4)) (qB 5))) (qP (vd (qB 4) (d2 xC (ic 0) (qB 5))))))) (bh 2)) (qS (d2 zB (qB 2) (x8 (vc (qP (vd (d2 xC (ic 0) (qB 4)) (d2 xC (ic 0) (qB 5))))))) (bh 2)))) zJ)) (qU (y8 false (qB 2)))))
@[irreducible] def di:DF:=sh (qO 6 i_)
def uW:di=qO 6 i_:=by delta di;exact zM _
abbrev kf:DS:=qI (qS (ic 1) (bh 2)) (qI (wU (xI (vc (d2 zB (ic 1) (qN 2 a_ (vd (qB 0) (ic 6)))))) (bh 3) (qI (qS (d2 cg (x8 (qA (ic 2) (qA (ic 5) (qA (ic 13) (qA (ic 17) (vg (ic 4) (ic 9) (ic 5) (ic 29))))))) (qN 2 a_ (vd (qB 0) (ic 8)))) (bh 4)) (gf (dw (d2 rj (d2 zG (qB 2) (qB 4)) (qB 1))) (qS (d2 zG (qB 2) (qB 4)) (bh 2)) zJ))) (qU (qB 2)))
@[irreducible] def ff:DF:=sh (qO 5 kf)
def kO:ff=qO 5 kf:=by delta ff;exact zM _
abbrev lx:DS:=qI (uM 2 3 (vd (qN 2 a_ (vd (qB 0) (ic 6))) (d2 zB (ic 1) (qN 2 a_ (vd (qB 0) (qB 1)))))) (qI (qS (qP (vd (d2 xC (qN 2 a_ (vd (qB 0) (ic 21))) (ic 10)) (d2 xC (qN 2 a_ (vd (qB 0) (ic 21))) (ic 10)))) (ou 2 (zI (bh 4) (zI (bh 5) yG)))) (qI (qS (d2 cg (x8 (vf (ic 3) (ic 6) (ic 900))) (qN 2 a_ (vd (qB 0) (ic 3)))) (bh 6)) (qI (gf (dw (d2 ph (qB 2) (ic 2))) (qS (qN 1 di (vc (qN 2 ff (vd (qB 0) (ic 5000))))) (bh 7)) (gf (dw (d2 k_ (qB 2) (ic 2))) (qS (zH false [none] (zY (xI (vc (ic 25)))) (bh 0) xB (zL (qP (vd (d2 b9 (qB 0) (ic 5)) (d2 uJ (qB 0) (ic 5)))))) (bh 7)) (gf (dw (d2 k_ (qB 2) (ic 3))) (qI (qS (zH false [none] (zY (xI (vc (ic 20)))) (bh 0) xB (zL (qP (vd (d2 zG (ic 2) (qB 0)) (d2 zG (ic 3) (qB 0)))))) (bh 7)) (qS (d2 zB (qB 7) (zH false [none] (zY (xI (vc (ic 5)))) (bh 0) xB (zL (qP (vd (qB 0) (ic 0)))))) (bh 7))) (gf (dw (d2 k_ (qB 2) (ic 4))) (qS (x8 (qA (qP (vd (ic 0) (ic 0))) (qA (qP (vd (ic 0) (ic 4))) (qA (qP (vd (ic 4) (ic 0))) (qA (qP (vd (ic 4) (ic 4))) (qA (qP (vd (ic 2) (ic 2))) (qA (qP (vd (d1 kB (ic 1)) (ic 2))) (qA (qP (vd (ic 2) (d1 kB (ic 1)))) (vg (qP (vd (ic 5) (ic 2))) (qP (vd (ic 2) (ic 5))) (qP (vd (ic 1) (ic 1))) (qP (vd (ic 6) (ic 6)))))))))))) (bh 7)) (qI (qS (v9 qC) (bh 7)) (wU (xI (vc (qB 1))) (bh 8) (qI (qS (d2 xC (qN 2 a_ (vd (qB 0) (d2 zB (d2 zG (ic 2) (qB 6)) (ic 1)))) (qB 6)) (bh 9)) (w9 (qo "list" xP (qB 7) (vc (qP (vd (qB 9) (d2 xC (qN 2 a_ (vd (qB 0) (qB 6))) (ic 2)))))))))))))) (qI (qS (y8 true (qB 7)) (bh 7)) (qI (qS (v9 qC) (bh 10)) (qI (gD (yN (dw (d2 (vX my) (qB 7) (v9 qC))) (dw (d2 ph (qG zO (vc (qB 10))) (qB 3)))) (w9 (qo "list" xP (qB 10) (vc (qo "list" bC (qB 7) (vc (qN 2 a_ (vd (qB 0) (qG zO (vc (qB 7))))))))))) (qU (qG vC (vc (qG vB (vc (zH false [none,Ab 4,Ab 5] (nw (qB 10)) (bh 0) xB (zL (qP (vd (d2 zB (d2 cg (qB 0) (ic 0)) (qB 1)) (d2 zB (d2 cg (qB 0) (ic 1)) (qB 2)))))))))))))))))
@[irreducible] def gq:DF:=sh (qO 11 lx)
def pI:gq=qO 11 lx:=by delta gq;exact zM _
abbrev gb:DS:=qI (uM 2 3 (vd (qN 2 a_ (vd (qB 0) (ic 16))) (qN 2 a_ (vd (qB 0) (qG zO (vc (qB 1))))))) (qI (qS (d2 cg (qB 1) (qB 3)) (ou 2 (zI (bh 4) (zI (bh 5) yG)))) (qI (qS (x8 (qA (qP (vf (qB 4) (qB 5) (ic 0))) (qA (qP (vc (qB 4))) (qA (x8 (vd (qB 4) (qB 5))) (qA (dC .non) (vg (qP (vd (dC (.bl true)) (qB 5))) (qP (vd (qB 4) (dC .non))) (qP (vd (ic 1001) (qB 5))) (qP (vd (qB 4) (d1 kB (ic 1001)))))))))) (bh 6)) (qI (qS (d2 cg (qB 6) (qN 2 a_ (vd (qB 0) (ic 8)))) (bh 6)) (qI (qS (d2 zB (d2 zB (mi (qB 1) x9 (zP (qB 3))) (qP (vc (qB 6)))) (mi (qB 1) (zP (d2 zB (qB 3) (ic 1))) x9)) (bh 7)) (qI (qS (d2 bV (d2 gU (x8 (vc (qB 7))) (ic 4)) (x8 (qA (dC .non) (qA (qP qC) (qA (qG tX (vc (qB 1))) (qA (d2 cg (qB 1) (ic 0)) (vg (dC (.str "0,0")) (ic 7) rN (d2 zB (qB 1) (mi (qB 1) (zP (d1 kB (ic 1))) x9))))))))) (bh 8)) (qI (w9 (qo "list" xP (qB 8) (vc (qP (vc (qB 1)))))) (qI (qS (d2 bT (qB 8) (x8 (vd (d2 zB (ZN (qB 1) (d1 kB (ic 1))) (mi (qB 1) (zP (d1 kB (ic 1))) x9)) (qG vC (vc (zH false [none] (zY (xI (vc (ic 41)))) (bh 0) xB (zL (qP (vd (qB 0) (ic 0)))))))))) (bh 8)) (qI (qS (d2 zB (qB 8) (x8 (vc (qP (vd (qP (vd (ic 0) (ic 0))) (qP (vd (ic 0) (ic 0)))))))) (bh 8)) (qU (d2 cg (qB 8) (qB 2)))))))))))
@[irreducible] def et:DF:=sh (qO 9 gb)
def uZ:et=qO 9 gb:=by delta et;exact zM _
abbrev jo:DS:=qI (qS (d2 cg (x8 (vf (ic 2) (ic 12) (ic 1000))) (qN 2 a_ (vd (qB 0) (ic 3)))) (bh 1)) (qU (qP (vd (d2 xC (qN 2 a_ (vd (qB 0) (d2 zB (d2 zG (ic 2) (qB 1)) (ic 1)))) (qB 1)) (d2 xC (qN 2 a_ (vd (qB 0) (d2 zB (d2 zG (ic 2) (qB 1)) (ic 1)))) (qB 1)))))
@[irreducible] def fj:DF:=sh (qO 2 jo)
def jP:fj=qO 2 jo:=by delta fj;exact zM _
abbrev gu:DS:=qI (qS (d2 zG (d2 xC (d2 cg (qB 1) (ic 0)) (d2 cg (qB 0) (ic 0))) (d2 xC (d2 cg (qB 2) (ic 1)) (d2 cg (qB 0) (ic 1)))) (bh 3)) (qU (d2 k_ (qB 3) (d2 zG (d2 xC (d2 cg (qB 2) (ic 0)) (d2 cg (qB 0) (ic 0))) (d2 xC (d2 cg (qB 1) (ic 1)) (d2 cg (qB 0) (ic 1))))))
@[irreducible] def cq:DF:=sh (qO 4 gu)
def u0:cq=qO 4 gu:=by delta cq;exact zM _
abbrev iy:DS:=qI (qS (qP (vf (ic 0) (ic 0) (ic 0))) (ou 3 (zI (bh 3) (zI (bh 4) (zI (bh 5) yG))))) (qI (qS (x8 (vf (qP (vf (qB 0) (qB 1) (qB 2))) (qP (vf (qB 1) (qB 2) (qB 0))) (qP (vf (qB 2) (qB 0) (qB 1))))) (bh 6)) (qI (wU (xX (qB 6)) (ou 3 (zI (bh 7) (zI (bh 8) (zI (bh 9) yG)))) (qI (qS (d2 zB (d2 zG (d2 cg (qB 7) (ic 0)) (d2 cg (qB 7) (ic 0))) (d2 zG (d2 cg (qB 7) (ic 1)) (d2 cg (qB 7) (ic 1)))) (bh 10)) (qI (qS (d2 zB (qB 3) (d2 zG (qB 10) (d2 xC (d2 cg (qB 8) (ic 1)) (d2 cg (qB 9) (ic 1))))) (bh 3)) (qI (qS (d2 zB (qB 4) (d2 zG (qB 10) (d2 xC (d2 cg (qB 9) (ic 0)) (d2 cg (qB 8) (ic 0))))) (bh 4)) (qS (d2 zB (qB 5) (d2 zG (d2 cg (qB 7) (ic 0)) (d2 xC (d2 cg (qB 8) (ic 1)) (d2 cg (qB 9) (ic 1))))) (bh 5)))))) (qU (qP (vf (qB 3) (qB 4) (d2 zG (ic 2) (qB 5)))))))
@[irreducible] def ez:DF:=sh (qO 11 iy)
def uY:ez=qO 11 iy:=by delta ez;exact zM _
abbrev ix:DS:=qI (gf (dw (qN 3 cq (vf (qB 0) (qB 1) (qB 2)))) (qU (dC (.bl false))) zJ) (qI (qS (qN 3 ez (vf (qB 0) (qB 1) (qB 2))) (ou 3 (zI (bh 4) (zI (bh 5) (zI (bh 6) yG))))) (qI (qS (v9 qC) (bh 7)) (qI (wU (xX (qP (vg (qB 0) (qB 1) (qB 2) (qB 3)))) (bh 8) (w9 (qo "list" xP (qB 7) (vc (qN 2 gt (vd (qP (vd (d2 zG (d2 cg (qB 8) (ic 0)) (qB 6)) (d2 zG (d2 cg (qB 8) (ic 1)) (qB 6)))) (qP (vd (qB 4) (qB 5))))))))) (qU (d2 (vX k_) (qB 7) (d2 gU (mi (qB 7) x9 (zP (ic 1))) (ic 4)))))))
@[irreducible] def dh:DF:=sh (qO 9 ix)
def j3:dh=qO 9 ix:=by delta dh;exact zM _
abbrev eh:DS:=qI (qS (x8 (vc (qP qC))) (bh 2)) (qI (l5 (nw (qB 0)) (bh 3) (qS (d2 zB (qB 2) (zH false [none,Ab 1,Ab 3] (nw (qB 2)) (bh 0) (yN (dw (d2 ph (qG zO (vc (qB 0))) (qB 1))) xB) (zL (d2 zB (qB 0) (qP (vc (qB 2))))))) (bh 2))) (qU (qG vB (vc (zH false [none,Ab 1] (nw (qB 2)) (bh 0) (yN (dw (d2 k_ (qG zO (vc (qB 0))) (qB 1))) xB) (zL (qB 0)))))))
@[irreducible] def e_:DF:=sh (qO 4 eh)
def uX:e_=qO 4 eh:=by delta e_;exact zM _
abbrev iw:DS:=qI (qS (v9 qC) (bh 1)) (qI (wU (xX (qN 2 e_ (vd (qB 0) (ic 4)))) (ou 4 (zI (bh 2) (zI (bh 3) (zI (bh 4) (zI (bh 5) yG))))) (gf (dw (qN 4 dh (vg (qB 2) (qB 3) (qB 4) (qB 5)))) (w9 (qo "list" xP (qB 1) (vc (qP (vg (qB 2) (qB 3) (qB 4) (qB 5)))))) zJ)) (qU (qB 1)))
@[irreducible] def er:DF:=sh (qO 6 iw)
def j6:er=qO 6 iw:=by delta er;exact zM _
abbrev gv:DS:=qI (gf (dw (d2 ph (qG zO (vc (qB 0))) (ic 3))) (qU (dC (.bl true))) zJ) (qI (gf (dw (d2 k_ (qG zO (vc (qB 0))) (ic 3))) (qU (hW (qN 3 cq (vf (d2 cg (qB 0) (ic 0)) (d2 cg (qB 0) (ic 1)) (d2 cg (qB 0) (ic 2)))))) zJ) (qU (qG (gR false) (vc (zH false [none,Ab 0] (nw (mi (qB 0) (zP (ic 3)) x9)) (bh 0) xB (zL (qN 4 (qf dh) (vg (d2 cg (qB 1) (ic 0)) (d2 cg (qB 1) (ic 1)) (d2 cg (qB 1) (ic 2)) (qB 0)))))))))
@[irreducible] def cu:DF:=sh (qO 1 gv)
def vZ:cu=qO 1 gv:=by delta cu;exact zM _
abbrev jn (c:Cl):DS:=qI (qS (qN 1 er (vc (qB 0))) (bh 1)) (qI (qS (xt (dw (d2 (vX my) (qB 1) (x8 qC))) (d2 cg (qB 1) (ic 0)) (dC .non)) (bh 2)) (qI (wU (xI (vc (ic 2))) (bh 3) (qI (gf (wG (dw (qN 2 bj (vd (qN 1 (ci c) (vc (qB 0))) (qN 1 cu (vc (qB 0))))))) (qU (dC (.bl false))) zJ) (gf (wG (dw (qN 2 bj (vd (qN 1 (bu c) (vc (qB 0))) (qB 2))))) (qU (dC (.bl false))) zJ))) (qU (qN 2 bj (vd (qN 1 (br c) (vc (qB 0))) (qG zO (vc (qB 1))))))))
@[irreducible] def cj (c:Cl):DF:=sh (qO 4 (jn c))
def jQ (c:Cl):cj c=qO 4 (jn c):=by delta cj;exact zM _
abbrev rm (c:Cl):DS:=qI (qS (qP (vg (qP (vd (ic 0) (ic 0))) (qP (vd (ic 0) (ic 2))) (qP (vd (ic 2) (ic 0))) (qP (vd (ic 2) (ic 2))))) (bh 1)) (qI (qS (qP (vg (qP (vd (ic 0) (ic 0))) (qP (vd (ic 1) (ic 1))) (qP (vd (ic 2) (ic 2))) (qP (vd (ic 3) (ic 3))))) (bh 2)) (qI (qS (d2 zB (qG vC (vc (zH false [none] (zY (xI (vc (ic 8)))) (bh 0) xB (zL (qP (vd (ic 0) (qB 0))))))) (qP (vg (qP (vd (ic 5) (ic 5))) (qP (vd (ic 5) (ic 6))) (qP (vd (ic 6) (ic 5))) (qP (vd (ic 6) (ic 6)))))) (bh 3)) (qI (wU (xX (x8 (qA (qB 1) (qA (d2 zB (qB 1) (qP (vc (qP (vd (ic 3) (ic 3)))))) (vg (mi (qB 2) x9 (zP (ic 3))) (qB 2) (qP (vc (qP (vd (ic 5) (ic 5))))) (qB 3)))))) (bh 4) (gf (wG (dw (qN 1 (cj c) (vc (qB 4))))) (qU (dC (.bl false))) zJ)) (qI (wU (xX (d2 zB (x8 (vc (qN 2 fg (vd (qB 0) (ic 0))))) (mi (qB 0) (zP (ic 1)) (zP (ic 6))))) (bh 5) (qI (qS (qN 1 gp (vc (qB 5))) (bh 6)) (qI (qS (qN 2 gq (vd (qB 6) (ic 9))) (bh 4)) (qI (qS (qG vC (vc (y8 false (d2 zB (mi (qB 4) (zP (ic 1)) x9) (qP (vc (qN 1 fj (vc (qB 6))))))))) (bh 7)) (qI (qS (mi (qG vB (vc (qN 1 di (vc (qN 2 ff (vd (qB 6) (ic 300))))))) x9 (zP (ic 8))) (bh 8)) (qI (gf (gN (wG (dw (qN 1 (cj c) (vc (qB 4))))) (gN (wG (dw (qN 1 (cj c) (vc (qB 7))))) (wG (dw (qN 1 (cj c) (vc (qG vC (vc (qB 8))))))))) (qU (dC (.bl false))) zJ) (qI (qS (qN 2 et (vd (qB 6) (qB 4))) (bh 9)) (wU (xX (x8 (vf (dC (.obj c.is_round)) (dC (.obj c.round_fours)) (dC (.obj c.first_round))))) (bh 10) (gf (dw (d2 my (b7 false [9,10] 1 2 qC (dy c (mW (mJ 1 [(c.is_round,1,ci c),(c.round_fours,1,br c),(c.first_round,1,bu c)] (vc (qB 0)))))) (dC (.str "lot")))) (qU (dC (.bl false))) zJ))))))))) (qU (dC (.bl true)))))))
end _K
namespace _K
open _D
variable {cl:ag}{ps:Aa Pt}{C:Af}{i j:Ah}{f:DE}{Q:D->ap->Prop}{P:ja->Prop}{κ:Pt->Ak Pt}{S:ap}{ak:qD}
def NP (h:Pn d)(S:ap):gj [d] S=.ok (.bl (isW d)) S:=by
 rw[pN];obtain⟨p,h⟩:=h;cases d <;> first|kernel_rfl!|simp[uq] at h
def GU (h:Pn d)(a b:An)(S:ap):fy [d,.int a,.int b] S=.ok (.bl (inR a b d)) S:=by
 rw[kR];refine xK (zD (ak:=[Ab d,Ab (.int a),Ab (.int b)]) rfl ?_);rfl';refine X6 ?_;rfl';refine qR (NP h S) ⟨_,rfl,λe=>?_,λe=>?_⟩
 .cases d with
  |int i=>exact oU rfl rfl rfl ⟨rfl,rfl⟩
  |_=>cases e
 .cases d <;> first|exact⟨rfl,rfl⟩|cases e
def XD (h:Pn d)(S:ap):gk [d] S=.ok (.bl (xY d)) S:=by
 rw[pM];refine xK (zD (ak:=[Ab d]) rfl ?_);rfl';refine fH ?_;rfl';refine qR (BE h S) ?_;rfl';refine⟨λe=>?_,λe=>?_⟩
 .rfl'
  exact⟨by rw[E4 (by simpa using e)],rfl⟩
 .cases d with
  |tup N =>
   rfl';refine xE (λe=>?_) λe=>?_
   .rfl'
    refine jD (fq:=id) (o:=none) N (λx=>.bl (wo x)) (λak Y=>Y=S/\∃ a,ak=[a]) ((E8 rfl).trans (by rw[Qi])) ⟨rfl,none,rfl⟩ (by unfold bq;lia) (λ_ _ _=>trivial) (λx U ak Y ⟨J,a,G⟩=>?_) λak Y ⟨J,_⟩=>?_
    .subst J G
     rfl';exact qR (GU (YZ h x U) _ _ _) ⟨rfl,rfl,_,rfl⟩
    .subst J
     rfl';exact nK ⟨by rw[E1 li],rfl⟩
   .rfl'
    exact⟨by rw[E2 li],rfl⟩
  |_=>cases e
def GS (Y:Aa Pt)(B:Y.length<=1000)(S:ap):fz [z9 Y] S=.ok (.bl (mz (Y.map kP))) S:=by
 rw[kQ];refine xK (zD (ak:=[Ab (.tup (Y.map av))]) rfl ?_);rfl';have G:zY (lJ (qA (qB 0) (qA (mi (qB 0) (zP (dC (.int 1))) x9) qC))) [Ab (.tup (Y.map av))] S=.ok (none,(((Y.map kP).zip ((Y.map kP).drop 1)).map λp=>D.tup [mr p.1,mr p.2])) S:=by
  show bb.ok (none,vJ (Y.map av) (xA (Y.map av) (Ab 1) none)) S=_;rw[B7,kW,<- Uf,IU]
 refine jD _ (λp=>.bl (_H.lexLt p.1 p.2)) (λak J=>J=S/\∃ a b,ak=[a,b]) G ⟨rfl,none,none,rfl⟩ ?_ (λ_ _ _=>trivial) (λx O ak J ⟨U,a,b,N⟩=>?_) λak J ⟨U,_⟩=>?_
 .rw[Ww,Ap]
  unfold bq
  lia
 .subst U N
  rfl';exact qR (OY _ _ _) ⟨rfl,rfl,_,_,rfl⟩
 .subst U
  rfl';exact nK ⟨rfl,rfl⟩
def aF (h:Pn d)(S:ap):jr [d] S=.ok (.bl (vW d)) S:=by
 rw[fT];refine xK (zD (ak:=[Ab d]) rfl ?_);rfl';refine fH ?_;rfl';refine qR (BE h S) ?_;rfl';refine⟨λe=>?_,λe=>?_⟩
 .rfl'
  exact⟨by rw[MF (by simpa using e)],rfl⟩
 .cases d with
  |tup Y =>
   rfl';refine oU (b:=(Y.length:An)) rfl rfl rfl ?_;rfl';refine xE (λz=>?_) λz=>?_
   .have B:1<=Y.length/\Y.length<=40:=by lia
    rfl';refine X6 ?_;rfl';refine jD (fq:=id) (o:=none) Y (λx=>.bl (xY x)) (λak N=>N=S/\∃ a,ak=[a]) ((E8 rfl).trans (by rw[Qi])) ⟨rfl,none,rfl⟩ (by unfold bq;lia) (λ_ _ _=>trivial) (λx L ak N ⟨O,a,T⟩=>?_) λak N ⟨O,_⟩=>?_
    .subst O T
     rfl';exact qR (XD (YZ h x L) _) ⟨rfl,rfl,_,rfl⟩
    .subst O
     rfl';refine nK ⟨_,rfl,λG=>?_,λG=>?_⟩
     .obtain⟨U,rfl,_⟩:=aA G
      rw[Ap] at B;rfl';refine qR (GS U li _) ⟨?_,rfl⟩;show _=D.bl (decide (1<=(U.map av).length/\(U.map av).length<=40)&&(U.map av).all xY&&(match wH (U.map av) with|some J=>mz J|none=>false))
      rw[G,Ap,Dc B,kW,jX];rfl
     .refine⟨?_,rfl⟩
      show _=D.bl (decide (1<=Y.length/\Y.length<=40)&&Y.all xY&&(match wH Y with|some J=>mz J|none=>false))
      rw[G,Kh,Hs]
   .rfl'
    refine⟨?_,rfl⟩;show _=D.bl (decide (1<=Y.length/\Y.length<=40)&&Y.all xY&&(match wH Y with|some J=>mz J|none=>false))
    rw[Co li,Hs,Hs]
  |_=>cases e
def kH (c:Cl){d:D}(S:ap)(h:Pn d)(k:vW d=true):dk c [d] S=.ok .non S:=by
 rw[uI];refine xK (zD (ak:=[Ab d]) rfl ?_);rfl';refine qR (aF h S) ?_;rw[k];rfl';exact⟨rfl,rfl⟩
def kG (c:Cl){d:D}(S:ap)(h:Pn d)(k:vW d=false):dk c [d] S=.ex (.ref c.NoLot) .non S:=by
 rw[uI];refine nZ (ak:=[Ab d]) (b_:=[Ab d]) rfl ?_;exact OM (xK (HC (HH (YR (jE (o_v rfl (X9 ⟨rfl,qR ((aF h S).trans (by rw[k])) ⟨_,rfl,rfl,rfl⟩⟩))))))) (GV _ _ _ _)
def xU {m:An}(h:yM S p)(hm:0<m/\m<1073741824)(q:∀ (r:Ah) S1,Kp p S S1->(r:An)<m->Q (.int r) S1):Ok (a_ [.loc p,.int m] S) Q:=by
 have J:∀ r v f:An,0<=r->r<m->Q (.int r) (S.set p (.lst [.int v,.int f])):=λr v f T L=>by
  obtain⟨r,rfl⟩:=Int.eq_ofNat_of_zero_le T;obtain⟨E,H,e⟩:=h;have Y:=(Ay.mp e).1;exact q r _ ⟨⟨v,f,by simp[Y]⟩,by simp,λi I N=>Ci (Gj N)⟩ L
 obtain⟨v,f,e⟩:=h;have Y:=(Ay.mp e).1;rw[kN];refine zD (ak:=[Ab (.loc p),Ab (.int m),none]) rfl ?_;rfl';refine vY e (d:=.int f) rfl ?_;rfl';refine xE (λz=>?_) λz=>?_
 .rfl'
  refine vY e (d:=.int v) rfl ?_;rfl';refine vY e (d:=.int v) rfl ?_;rfl';refine YU e rfl ?_;rfl';exact J _ _ _ (Nu _ om) (Ky _ hm.1)
 .rfl'
  refine vY e (d:=.int v) rfl ?_;have hv:=Nu v (show (2147483629:An)≠0 by fin2)
  have O:=Ky v (show (0:An)<2147483629 by fin2)
  rfl';have B:=Nu (v % 2147483629*48271+11) (show (2147483629:An)≠0 by fin2)
  have U:=Ky (v % 2147483629*48271+11) (show (0:An)<2147483629 by fin2)
  generalize (v % 2147483629*48271+11) % 2147483629=w at B U;refine YU e rfl ?_;have G:(S.set p (MO.lst [.int w,.int f]))[p]? = Ab (.lst [.int w,.int f]):=by simp[Y]
  rfl';refine vY G (d:=.int w) rfl ?_;rfl';refine vY G (d:=.int w) rfl ?_;rfl';refine vY G (d:=.int w) rfl ?_;rfl';exact J _ _ _ (Nu _ om) (Ky _ hm.1)
def qAM (q:∀ p S1,yM S1 p->Q (.loc p) S1):Ok (gp [.int x] S) Q:=by
 rw[pJ];refine zD (ak:=[Ab (.int x)]) rfl ?_;rfl';refine qR (d:=.int 1000000000000000000) rfl ?_;rfl';refine qR (d:=.int (za (decide (1000000000000000000<=x)))) rfl ?_;rfl';exact q _ _ ⟨_,_,yW _ _⟩
def rS (nd:cl.Nodup){i j:Ah}{a b:Af}(Y:cl[i]? = Ab a)(J:cl[j]? = Ab b)(h:i≠j):(a == b)=false:=by
 rw[My];rintro rfl;obtain⟨O,G⟩:=Ay.mp Y;obtain⟨N,U⟩:=Ay.mp J;exact h ((Pu nd).mp (G.trans U.symm))
def qAE {B:Af}(J:C∈cl)(Y:B∈cl)(q:Q (.bl (C == B)) S):Ok (zX cl [.exn (.ref C),.obj B] S) Q:=by
 refine⟨_,_,?_,q⟩;show (if (cl.contains C&&cl.contains B)=true then bb.ok (D.bl (C == B)) S else .bad)=_
 rw[Gm.mpr J,Gm.mpr Y];rfl
def qAF (Y:C∈cl)(q:Q (.bl true) S):Ok (zX cl [.exn (.ref C),.ty "ValueError"] S) Q:=by
 refine⟨_,_,?_,q⟩;show (if (cl.contains C&&(("ValueError" : Es) == "ValueError"))=true then bb.ok (D.bl true) S else .bad)=_
 rw[Gm.mpr Y];rfl
def qAA (nd:cl.Nodup){i j:Ah}{a b:Af}(Y:cl[i]? = Ab a)(J:cl[j]? = Ab b):decide (i=j)=(a == b):=by
 by_cases h:i=j
 .subst h
  cases Y.symm.trans J;rw[Dc rfl,Fo]
 .rw[Co h,rS nd Y J h]
def iE (c:Cl)(nd:(wC c).Nodup)(S:ap):cp c [.exn (.ref c.NoLot)] S=.ok (.str "lot") S:=by
 have s:∀ {Q:D->ap->Prop} (j:Ah) {B:Af},(wC c)[j]? = Ab B->Q (.bl (decide (1=j))) S->Ok (zX (wC c) [.exn (.ref c.NoLot),.obj B] S) Q:=λj B h q=>qAE (Bw (i:=1) rfl) (Bw h) (qAA nd (i:=1) rfl h▸q);rw[jO];refine xK (zD (ak:=[Ab (.exn (.ref c.NoLot)),none,none]) rfl ?_);rfl';refine s 0 rfl ?_;rfl';refine s 1 rfl ?_;rfl';refine s 2 rfl ?_;rfl';refine s 3 rfl ?_;rfl';refine s 4 rfl ?_;rfl';refine s 5 rfl ?_;rfl';refine uB (Dz rfl) ?_;rfl';refine s 6 rfl ?_;rfl';refine s 7 rfl ?_;rfl';refine s 8 rfl ?_;rfl';refine uB (Dz rfl) ?_;rfl';refine s 9 rfl ?_;rfl';refine s 10 rfl ?_;rfl';refine uB (Dz rfl) ?_;rfl';refine fH ?_;rfl';refine qAF (Bw (i:=1) rfl) ?_;rfl';refine⟨(λe=>by cases e),λ_=>?_⟩
 rfl';refine qR (d:=.int 1) (S:=S) (by kernel_rfl!) ?_
 rfl';refine xE (λ_=>?_) λe=>absurd rfl e;rfl';refine s 9 rfl ?_;rfl';refine xE (λe=>absurd e bU) λ_=>?_
 rfl';refine s 10 rfl ?_;rfl';refine xE (λe=>absurd e bU) λ_=>?_
 rfl';refine qR (d:=.int 1) (S:=S) (by kernel_rfl!) ?_
 exact X7 (d:=.str "lot") rfl ⟨rfl,rfl⟩
def sq (b:Au)(Y:Aa D):D:=match b with
 |true=>.tup Y
 |false=>.lst Y
def PN (Y:Aa D):vJ Y Y=Y.map λx=>D.tup [x,x]:=by
 induction Y with
 |nil=>rfl
 |cons w Y J=>exact congrArg (D.tup [w,w]::·) J
def aM (F:DF)(b:Au)(Y:Aa D)(S:ap)(hw:Y.length<=bq)(O:∀ x∈Y,F [x,x] S=.ok (.bl true) S):qO 2 (fw F) [sq b Y,sq b Y] S=.ok (.bl true) S:=by
 have N:xO [sq b Y,.ty "list"] S=.ok (.bl (!b)) S:=by cases b <;> kernel_rfl!
 have G:xO [sq b Y,.ty "tuple"] S=.ok (.bl b) S:=by cases b <;> kernel_rfl!
 have t3:gS [sq b Y,.tup [.ty "list",.ty "tuple"]] S=.ok (.bl true) S:=by cases b <;> kernel_rfl!
 have l:zO [sq b Y] S=.ok (.int Y.length) S:=by cases b <;> rfl
 have n:∀ x:Au,my (.bl x) (.bl x) S=.ok (.bl false) S:=λx=>by cases x <;> rfl
 have T:zY (lJ (qA (qB 0) (qA (qB 1) qC))) [Ab (sq b Y),Ab (sq b Y)] S=.ok (none,Y.map λx=>D.tup [x,x]) S:=by
  rw[<- PN];cases b <;> rfl
 refine xK (zD (ak:=[Ab (sq b Y),Ab (sq b Y)]) rfl ?_);rfl';refine qR (d:=.bl false) (S:=S) (by cases b <;> rfl) ?_
 rfl';refine qR t3 ?_;rfl';refine qR N ?_;rfl';refine qR N ?_;rfl';refine qR (n _) ?_;rfl';refine fH ?_;rfl';refine qR G ?_;rfl';refine qR G ?_;rfl';refine qR (n _) ?_;rfl';refine⟨(λe=>by cases e),λ_=>?_⟩
 rfl';refine qR l ?_;rfl';refine qR l ?_;rfl';refine xE (λ_=>?_) λe=>absurd rfl e;rfl';refine jD Y (λ_=>.bl true) (λak J=>J=S/\∃ a b,ak=[a,b]) T ⟨rfl,none,none,rfl⟩ hw (λ_ _ _=>trivial) (λx B ak J ⟨U,a,b,L⟩=>?_) λak J ⟨U,_⟩=>?_
 .subst U L
  rfl';exact qR (O x B) ⟨rfl,rfl,_,_,rfl⟩
 .subst U
  rfl';exact nK (p:=λ_=>true) ⟨by simp,rfl⟩
def fP (F:DF){d:D}(S:ap)(h1:xo d .non S=.ok (.bl false) S)(h2:gS [d,.tup [.ty "list",.ty "tuple"]] S=.ok (.bl false) S)(h3:xO [d,.ty "str"] S=.ok (.bl false) S){b:Au}(Y:xO [d,.ty "bool"] S=.ok (.bl b) S)(J:xO [d,.ty "int"] S=.ok (.bl true) S)(U:k_ d d S=.ok (.bl true) S):qO 2 (fw F) [d,d] S=.ok (.bl true) S:=by
 refine xK (zD (ak:=[Ab d,Ab d]) rfl ?_);rfl';refine qR h1 ?_;rfl';refine qR h2 ?_;rfl';refine qR h3 ?_;rfl';refine qR Y ?_;rfl';refine qR Y ?_;rfl';refine qR (d:=.bl false) (S:=S) (by cases b <;> rfl) ?_
 rfl';refine X6 ?_;rfl';refine qR J ⟨_,rfl,λ_=>?_,λe=>by cases e⟩
 rfl';exact qR U ⟨rfl,rfl⟩
def xk:Ah->D->Prop
 |n+1,.tup Y=>Y.length<=bq/\∀ x∈Y,xk n x
 |n+1,.lst Y=>Y.length<=bq/\∀ x∈Y,xk n x
 |_,.int _=>Qn
 |_,.bl _=>Qn
 |_,_=>Ex
def VS:∀ (n:Ah) (d:D) (S:ap),xk n d->l6 (n+1) [d,d] S=.ok (.bl true) S:=by
 intro n
 induction n with
 |zero =>
  intro d S h;cases d with
  |int i=>exact fP _ S rfl (by kernel_rfl!) (by kernel_rfl!) (b:=false) (by kernel_rfl!) (by kernel_rfl!) (xK (KQ ⟨by rw[Dc rfl],rfl⟩))
  |bl b=>exact fP _ S rfl (by kernel_rfl!) (by kernel_rfl!) (b:=true) (by kernel_rfl!) (by kernel_rfl!) (by cases b <;> rfl)
  |_=>exact Ao h
 |succ n U =>
  intro d S h;cases d with
  |tup J=>exact aM _ true J S h.1 λx Y=>U x S (h.2 x Y)
  |lst J=>exact aM _ false J S h.1 λx Y=>U x S (h.2 x Y)
  |int i=>exact fP _ S rfl (by kernel_rfl!) (by kernel_rfl!) (b:=false) (by kernel_rfl!) (by kernel_rfl!) (xK (KQ ⟨by rw[Dc rfl],rfl⟩))
  |bl b=>exact fP _ S rfl (by kernel_rfl!) (by kernel_rfl!) (b:=true) (by kernel_rfl!) (by kernel_rfl!) (by cases b <;> rfl)
  |_=>exact Ao h
def aG (S:ap)(h:xk 3 d):bj [d,d] S=.ok (.bl true) S:=by
 rw[vL];exact VS 3 d S h
def qBU {a:Af}{G:Aa D->DF}(h:ak[i]? = Ab (Ab (.clo a Y bx))):gM i qC a Y 0 G ak S=G bx [] S:=by
 unfold gM;rw[h];show (if a=a/\Y=Y then _ else _)=_
 rw[Bg ⟨rfl,rfl⟩];rfl
def qAO {c:Cl}{fe:DE}(N:(pV c).contains (.ref C)=true)(U:∀ S,cp c [.exn (.ref C)] S=.ok (.str J) S){bx:Aa D}(h:mG bw ak=Ab bx){x:D}(e:fe (bx.map Ab) S=.ex (.ref C) x S)(q:Q (.str J) S):Ok (b7 false bw 1 2 qC (dy c (mW fe)) ak S) Q:=by
 refine⟨_,_,?_,q⟩;unfold b7;rw[h];show (if 0+1=1 then y_ false (ul λa Y=>qO 2 (dy c (mW fe) a Y) [.clo a Y bx] S) else .bad)=_
 rw[Bg rfl,ID (R:=.ok (.str J) S) λa Y=>?_]
 .rfl
 .have G:gM 0 qC a Y 0 (mW fe) [Ab (.clo a Y bx),none] S=.ex (.ref C) x S:=(qBU rfl).trans (by unfold mW;exact e)
  refine xK (zD (ak:=[Ab (.clo a Y bx),none]) rfl ?_);refine XT ?_;have k:tF 2 1 (pV c) (w9 (gM 0 qC a Y 0 (mW fe))) (qU (qN 1 (cp c) (qA (qB 1) qC))) [Ab (.clo a Y bx),none] S=.rt (.str J) S:=by
   unfold tF w9;rw[G];simp only[bb.toS,N,Eb];have z:qN 1 (cp c) (qA (qB 1) qC) ((Dk 2 none).set 1 (Ab (.exn (.ref C)))) S=.ok (.str J) S:=(rK rfl).trans (U S);simp only[qU,z,bb.toS]
  rw[k];exact⟨rfl,rfl⟩
def NO (Y:Aa An)(O:Y.length<=63)(k:An){Q:Aa D->ap->Prop}{ak:qD}{S:ap}(h0:ak[0]? = Ab (Ab (.lst (Y.map D.int))))(q:∀ G:Aa An,Q (G.map D.int) S):Ok (xX (d2 zB (x8 (qA (qN 2 fg (qA (qB 0) (qA (dC (.int 0)) qC))) qC)) (mi (qB 0) (zP (dC (.int 1))) (zP (dC (.int k))))) ak S) Q:=by
 have J:∃ x:An,fg [.lst (Y.map D.int),.int 0] S=.ok (.int x) S:=by
  rw[kM];cases Y with
  |nil=>exact⟨0,xK (zD (ak:=[Ab (.lst []),Ab (.int 0)]) rfl (by rfl';exact⟨rfl,rfl⟩))⟩
  |cons n Y =>
   refine⟨n,xK (zD (ak:=[Ab (.lst ((n::Y).map D.int)),Ab (.int 0)]) rfl ?_)⟩;rfl';refine xE (λ_=>?_) λe=>absurd (by rw[Ap,Bs];fin2) e
   rfl';exact X7 (pT (a:=0) bB) ⟨rfl,rfl⟩
 obtain⟨x,U⟩:=J;refine TF (o_2 (qAK (jE (YR (jE (o_v h0 ?_))))));rfl';refine qR U ?_;rfl';refine o_v h0 ?_;rfl';have N:xA (Y.map D.int) (Ab 1) (Ab k)=((Y.drop (_H.cy (Y.map D.int).length 0 (Ab 1))).take (_H.cy (Y.map D.int).length (Y.map D.int).length (Ab k)-_H.cy (Y.map D.int).length 0 (Ab 1))).map D.int:=by
  unfold xA;rw[Ac4,Uf]
 rw[N];refine uB ?_ ⟨_,rfl,q (x::_)⟩;rw[Ap,Gh,Gs];show 1+_<=bq;unfold bq;fin2
def RL (p q:Pt):j_ (av p) (av q)=decide (p=q):=by
 show (p.1 == q.1&&(p.2 == q.2&&true))=_;rw[NE];simp[Prod.ext_iff]
def rZ (n:Ah)(p:Pt):Tr (n+1) (av p):=.tup n _ λx Y=>by
 simp only[Ba,Dv,HT] at Y;rcases Y with rfl|rfl <;> exact .int _ _
def U1 (n:Ah)(p:Pt):um (n+1) (av p)=true:=by cases n <;> rfl
def YE (p q:Pt):ltN (av p) (av q)=qh p q:=by
 have J:=@uA 0 0 (.int p.1) (.int q.1) [.int p.2] [.int q.2] (.int _ _) (.int _ _) rfl;have Y:=@uA 0 0 (.int p.2) (.int q.2) [] [] (.int _ _) (.int _ _) rfl;unfold av;rw[fB,J,Y,f9,f9];unfold qh;rw[_H.ba,_H.ba];show (if (p.1 == q.1)=true then if (p.2 == q.2)=true then _ else _ else _)=_
 simp only[Pl];rfl
def L4 (ps:Aa Pt):pD (ps.map av)=(uN ps).map av:=by
 refine QM (n:=1) (λx Y=>?_) ((uD ps).map av) ?_
 .obtain⟨p,_,rfl⟩:=Br.mp Y
  exact rZ 0 p
 .have h:=_S.gE _S.xZ (ps.map kP)
  unfold _S.Nf at h;rw[<- VW,Dq] at h;rw[Dq];exact h.imp λ{a b} h=>by rw[YE];exact h
def BL (l:ps.length<=1000)(h:Q (.lst ((uN ps).map av)) S):Ok (vB [.lst (ps.map av)] S) Q:=by
 refine⟨_,_,?_,by rw[<- L4] at h;exact h⟩
 refine Bg ?_;rw[Aw,Cc];refine⟨by rw[Ap];lia,Bn.mpr λx J=>?_⟩
 obtain⟨p,_,rfl⟩:=Br.mp J;rw[Aw,Aw];refine⟨⟨rfl,U1 5 p⟩,Bn.mpr λy Y=>?_⟩;obtain⟨q,_,rfl⟩:=Br.mp Y;rfl
def QP (ps:Aa Pt)(J:ps.length<=1000):jK (ps.map av)=Ab ((wM ps).map av):=by
 unfold jK wM;rw[<- (lG (aW ps)).1,kW,jX];have Y:((ps.map kP).all λk=>!k.isEmpty)=true:=by
  rw[Jr,Bn];intro q _;rfl
 have U:(_S.kj _H.lexLt (ps.map kP)).length<=1000:=Cg (dO _ _) (by rw[Ap];exact J)
 exact Bg (by rw[Y,Dc U];rfl)
def HF (h:Ok (f ak S) λd S1=>∃ ps:Aa Pt,tH d S1=Ab (ps.map av)/\ps.length<=1000/\Q (.lst ((wM ps).map av)) S1):Ok (y8 false f ak S) Q:=qZ (zN h λd S1 ⟨ps,e,l,q⟩=>⟨_,_,by rw[e,AaZ,QP ps l];rfl,q⟩)
def qAP (h:Ok (f ak S) λd S1=>∃ ps:Aa Pt,tH d S1=Ab (ps.map av)/\ps.length<=1000/\Q (.loc S1.length) (S1++[.lst ((wM ps).map av)])):Ok (y8 true f ak S) Q:=qZ (zN h λd S1 ⟨ps,e,l,q⟩=>⟨_,_,by rw[e,AaZ,QP ps l];rfl,q⟩)
noncomputable def vH:Aa Ah:=[1,2,4,5,8,9,10,13,16,17,18,20,25,26,29,32,34,36,40,45,50,52,58,64,65,68,72,80,81,85,90,100,104,116,117,125,128,130,136,144,145,153,160,162,169,170,180,200,208,221,225,232,234,250,256,260,261,272,288,289,290,306,320,324,325,338,340,360,377,400,405,416,425,442,450,464,468,493,500,512,520,522,544,576,578,580,585,612,625,640,648,650,676,680,720,725,729,754,765,800,810,832,841,845,850,884,900,928,936,986,1000,1024,1040,1044,1053,1088,1105,1125,1152,1156,1160,1170,1224,1250,1280,1296,1300,1305,1352,1360,1377,1440,1445,1450,1458,1508,1521,1530,1600,1620,1625,1664,1682,1690,1700,1768,1800,1856,1872,1885,1972,1989,2000,2025,2048,2080,2088,2106,2125,2176,2197,2210,2250,2304,2312,2320,2340,2349,2448,2465,2500,2560,2592,2600,2601,2610,2704,2720,2754,2873,2880,2890,2900,2916,2925,3016,3042,3060,3125,3200,3240,3250,3328,3364,3380,3393,3400,3536,3600,3625,3645,3712,3744,3757,3770,3825,3944,3978,4000,4050,4096,4160,4176,4205,4212,4225,4250,4352,4394,4420,4437,4500,4608,4624,4640,4680,4698,4896,4901,4913,4930,5000]
noncomputable def zu:Aa Ah:=[2,5,13,17,4,9,5,29]
def GZ {n f:Ah}(Y:n∈vH)(J:f∈zu)(h:n*f<=5000):n*f∈vH:=by
 have k:vH.all (λn=>zu.all λf=>!Nat.ble (n*f) 5000||vH.contains (n*f))=true:=kd
 have:=Bn.mp (Bn.mp k n Y) f J;rw[Xo h] at this;simpa using this
def hs (n j:Ah):Au:=(Cf 71).any λy=>Nat.beq (j*j+y*y) n
def cnt (n i:Ah):Ah:=(Cf i).countP (hs n)
noncomputable def msk:Ah:=(Cf 71).foldl (λm y=>m ||| 1 <<< (y*y)) 0
def ch (n j:Ah):Au:=Nat.ble (j*j) n&&msk.testBit (n-j*j)
def IV (h:hs n j=true):ch n j=true:=by
 have k:(Cf 71).all (λy=>msk.testBit (y*y))=true:=kd;obtain⟨y,Y,e⟩:=Kq.mp h;have e:=Xp e;unfold ch;rw[show n-j*j=y*y by lia,Bn.mp k y Y,Xo li]
 rfl
def GY {n:Ah}(Y:n∈vH):1<=cnt n 71/\cnt n 71<=15:=by
 have k:vH.all (λn=>Nat.ble ((Cf 71).countP (ch n)) 15&&(Cf 71).any λj=>ch n j&&hs n j)=true:=kd;have:=Bn.mp k n Y;rw[Aw] at this;refine⟨?_,Cg (Qf λ_ _=>IV) (Dz this.1)⟩;obtain⟨j,J,e⟩:=Kq.mp this.2;rw[Aw] at e;exact List.countP_pos_iff.mpr ⟨j,J,e.2⟩
def Q8 {n:Ah}(Y:n∈vH):n<=5000:=by
 have k:vH.all (λn=>Nat.ble n 5000)=true:=kd;exact Dz (Bn.mp k n Y)
def YT {J:An}(T:J<=5000)(h:yM S p)(q:∀ (n:Ah) S1,Kp p S S1->n∈vH->Q (.int n) S1):Ok (ff [.loc p,.int J] S) Q:=by
 rw[kO];refine zD (ak:=[Ab (.loc p),Ab (.int J),none,none,none]) rfl ?_;rfl';refine xU h li λr S1 B A=>?_;rfl';refine⟨by lia,by lia,?_⟩
 refine wB (λ_ ak U=>∃ (n:Ah) (N G:Ak D),ak=[Ab (.loc p),Ab (.int J),Ab (.int n),N,G]/\Kp p S U/\n∈vH) ?_ ?_ ⟨1,_,_,rfl,B,by decide⟩
 .rintro x M _ U ⟨n,N,G,rfl,K,Y⟩
  rfl';refine xU K.pen li λr H O I=>?_;rfl';refine nN (show r<8 by lia) λd E=>?_
  obtain⟨f,L,rfl⟩:=Br.mp (show d∈zu.map λ(f:Ah)=>D.int f from E)
  have:=Q8 Y;have e:(n:An)*(f:An)=((n*f:Ah):An):=by push_cast;rfl
  rfl';refine xE (λz=>?_) λz=>?_
  .rfl'
   exact xM ⟨n*f,_,_,by rw[e],K.trans O,GZ Y L li⟩
  .rfl'
   exact xM ⟨n,_,_,rfl,K.trans O,Y⟩
 .rintro _ U ⟨n,N,G,rfl,K,Y⟩
  rfl';exact q n U K Y
def q_ (n:Ah):Aa (_L.c_ × D):=(Cf n).map λ(i:Ah)=>(.inl ((i:An)*(i:An)),.int (i:An))
def AN {a b:Ah}(h:(a:An)*(a:An)=(b:An)*(b:An)):a=b:=by
 have Y:a*a=b*b:=by exact_mod_cast h
 rcases Ma a b with z|z|z
 .exact absurd Y (Cn (Tc z (Eo z) li))
 .exact z
 .exact absurd Y.symm (Cn (Tc z (Eo z) li))
def L0 (n:Ah):jH (q_ n) (.inl ((n:An)*(n:An))) (.int (n:An))=q_ (n+1):=by
 unfold jH;rw[Bd]
 .unfold q_
  rw[AbF,Di];rfl
 .intro h
  obtain⟨U,Y,e⟩:=Kq.mp h;obtain⟨i,J,rfl⟩:=Br.mp Y;have e:=Ce e;injection e with e
  have:=AN e;have:=Dt.mp J
  lia
def PB {f:An}(h:yC (q_ n) (.inl f)=Ab d):∃ i:Ah,i<n/\d=.int (i:An)/\f=(i:An)*(i:An):=by
 unfold yC at h;obtain⟨G,J,rfl⟩:=Dn.mp h;have Y:=Ri J;obtain⟨i,U,rfl⟩:=Br.mp (Jz J);have Y:=Ce Y;injection Y with Y
 exact⟨i,Dt.mp U,rfl,Y.symm⟩
def NZ {n:Ah}(hi:i<n):(yC (q_ n) (.inl ((i:An)*(i:An)))).isSome=true:=by
 unfold yC;rw[Tl,List.find?_isSome];exact⟨_,Br.mpr ⟨i,Dt.mpr hi,rfl⟩,by simp⟩
def K6 {c n:Ah}(h:c*c<=n)(Y:n<=5000):c<=70:=by
 rcases Js 70 c with z|z
 .have:=Ye (show 71<=c by lia) (show 71<=c by lia)
  lia
 .exact z
def OL {n y:Ah}(h:j*j+y*y=n)(Y:n<=5000):hs n j=true:=Kq.mpr ⟨y,Dt.mpr (by have:=K6 (show y*y<=n by lia) Y;lia),by subst h;exact Nat.beq_refl _⟩
def B5 (n i:Ah):cnt n (i+1)=cnt n i+if hs n i=true then 1 else 0:=by
 unfold cnt;rw[AbF,List.countP_append,List.countP_singleton]
def RV (x y:An):Aa Pt:=[(x,y),(0-x,y),(x,0-y)]++[(0-x,0-y)]
def cU {n:Ah}(p:n∈vH)(q:∀ (ps:Aa Pt) G,S<+:G->ps≠[]->(∀ z∈ps,dz 980 z)->ps.length<=60->Up ps->Q (.lst (ps.map av)) G):Ok (di [.int n] S) Q:=by
 have A:=Q8 p;rw[uW];refine zD (ak:=[Ab (.int n),none,none,none,none,none]) rfl ?_;rfl';refine⟨by lia,by lia,?_⟩
 refine wB (xs:=Cf 1001) (λxs ak G=>∃ (i:Ah) (I:Ak D),i+xs.length=1001/\xs=List.range' i (1001-i)/\ak=[Ab (.int n),Ab (.loc S.length),Ab (.lst []),I,none,none]/\G=S++[.dct (q_ i)]) ?_ ?_ ⟨0,_,by simp,by rw[Yo],rfl,rfl⟩
 .rintro x xs _ _ ⟨i,I,J,U,rfl,rfl⟩
  have B:i<1001:=by simp at J;lia
  rw[show 1001-i=(1001-(i+1))+1 by lia,Ab0] at U
  injection U with u L
  subst u;rfl';refine HE (yW _ _) (by unfold q_;rw[Ap,Jy];unfold bq;lia) ?_
  rw[aR,L0];rfl';exact xM ⟨x+1,_,by simp at J;lia,L,rfl,rfl⟩
 .rintro _ _ ⟨i,I,J,U,rfl,rfl⟩
  have B:i=1001:=by simpa using J
  subst B;have H:=yW S (.dct (q_ 1001));have g:S<+:S++[.dct (q_ 1001)]:=Fh _ _;generalize S++[.dct (q_ 1001)]=T at H g;rfl';refine⟨by lia,by lia,?_⟩
  refine wB (xs:=Cf 1001) (λxs ak G=>∃ (i:Ah) (Y:Aa Pt) (k M:Ak D),i+xs.length=1001/\xs=List.range' i (1001-i)/\ak=[Ab (.int n),Ab (.loc S.length),Ab (.lst (Y.map av)),I,k,M]/\G=T/\Y.length=4*cnt n (min i 71)/\∀ z∈Y,dz 980 z) ?_ ?_ ⟨0,[],_,_,by simp,by rw[Yo],rfl,rfl,rfl,λ_ h=>by cases h⟩
  .rintro x xs _ _ ⟨i,Y,k,M,J,U,rfl,rfl,N,E⟩
   have B:i<1001:=by simp at J;lia
   rw[show 1001-i=(1001-(i+1))+1 by lia,Ab0] at U
   injection U with u L
   subst u;have cl:cnt n (min x 71)<=71:=Cg (List.countP_le_length) (by rw[Jy];lia)
   rfl';refine qAD H ?_;rfl';cases hv:yC (q_ 1001) (.inl ((n:An)-(x:An)*(x:An))) with
   |none =>
    rfl';refine xM ⟨x+1,Y,_,_,by simp at J;lia,L,rfl,rfl,?_,E⟩
    rcases Js x 71 with z|z
    .rw[Oa li] at N ⊢
     rw[B5,Bd,N]
     .rfl
     .intro w
      obtain⟨y,o,e⟩:=Kq.mp w;have e:=Xp e;have l:=NZ (n:=1001) (i:=y) (by have:=Dt.mp o;lia)
      rw[show (n:An)-(x:An)*(x:An)=(y:An)*(y:An) by rw[<- e];push_cast;lia] at hv
      rw[hv] at l;cases l
    .rw[N,Ab1 z,Ab1 li]
   |some d =>
    obtain⟨y,o,rfl,e⟩:=PB hv;have t:x*x+y*y=n:=by
     have:((x*x+y*y:Ah):An)=(n:An):=by push_cast;lia
     exact_mod_cast this
    have m:=K6 (show x*x<=n by lia) A
    have s:=K6 (show y*y<=n by lia) A
    refine w_t ?_;rfl';refine qAH H hv ?_;rfl';refine uB (by rw[Ap];show _+3<=bq;unfold bq;lia) ?_
    rfl';refine uB (by rw[Bj,Ap];show _+3+1<=bq;unfold bq;lia) ?_
    rfl';refine xM ⟨x+1,Y++RV (x:An) (y:An),_,_,by simp at J;lia,L,by rw[Di,Cd];rfl,rfl,?_,λz hz=>?_⟩
    .rw[Bj,N,Oa li,Oa li,B5,Bg (OL t A)]
     show _+4=_
     lia
    .rcases Bq.mp hz with hz|hz
     .exact E z hz
     .simp only[RV,Kn,Hi,Ba,Dv,HT] at hz
      unfold dz;rcases hz with rfl|rfl|rfl|rfl <;> dsimp only <;> lia
  .rintro _ _ ⟨i,Y,k,M,J,U,rfl,rfl,N,E⟩
   have B:i=1001:=by simpa using J
   subst B;have r:=GY p;have O:Y.length=4*cnt n 71:=N;rfl';refine HF ?_;rfl';refine⟨by lia,q (wM Y) _ g (λz=>?_) (λz hz=>E z ((vO Y z).mp hz)) (Cg (tI Y) li) (dN Y)⟩
   cases Y with
   |nil=>simp at O;lia
   |cons w v =>
    have:w∈wM (w::v):=(vO _ w).mpr bB
    rw[z] at this;cases this
def PR:Aa Pt:=(Cf 25).map λ(i:Ah)=>((i:An)/5,(i:An) % 5)
def OT:Aa Pt:=(Cf 20).map λ(i:Ah)=>(2*(i:An),3*(i:An))
def OU:Aa Pt:=(Cf 5).map λ(i:Ah)=>((i:An),0)
noncomputable def IX:Aa Pt:=[(0,0),(0,4),(4,0),(4,4),(2,2),(-1,2),(2,-1),(5,2),(2,5),(1,1),(6,6)]
def nP {fe:DE}(n:Ah)(B:n<=1000)(g:Ah->Pt)(step:∀ i:Ah,Ok (fe [Ab (.int i)] S) λd U=>d=av (g i)/\U=S)(q:Q (.lst (((Cf n).map g).map av)) S):Ok (zH false [none] (zY (xI (qA (dC (.int (n:An))) qC))) (bh 0) xB (zL fe) ak S) Q:=by
 refine jD (Cf n) (λi=>av (g i)) (λak Y=>Y=S/\∃ a,ak=[a]) (qBh li) ⟨rfl,none,rfl⟩ (by rw[Jy];unfold bq;lia) (λ_ _ _=>trivial) (λx L ak Y ⟨J,a,N⟩=>?_) λak Y ⟨J,_⟩=>?_
 .subst J N
  rfl';exact zN (step x) λd U ⟨O,G⟩=>⟨O,G,_,rfl⟩
 .subst J
  rw[Ds] at q;exact q
structure E_ (p:Ah)(S:ap)(d:D)(S':ap)(ps:Aa Pt):Prop where
 seq:tH d S'=Ab (ps.map av)
 ne:ps≠[]
 len:ps.length<=60
 box:∀ q∈ps,dz 980 q
 kp:Kp p S S'
theorem vA {α:Type}:∀ (l:Aa α) (i:Ah) (h:i<l.length),(l[i]::l.eraseIdx i).Perm l
 |[],i,h=>by simp at h
 |x::l,0,_=>Ml _
 |x::l,i+1,h=>(AbN x _ _).trans ((vA l i (by simpa using h)).cons x)
theorem sT {α β:Type}(f:α->β):∀ (l:Aa α) (i:Ah),(l.map f).eraseIdx i=(l.eraseIdx i).map f
 |[],_=>rfl
 |_::_,0=>rfl
 |x::l,i+1=>congrArg (f x::·) (sT f l i)
structure WI (p a many:Ah)(all:Aa Pt)(S S':ap)(done rest:Aa Pt):Prop where
 ra:S'[a]? = Ab (.lst (rest.map av))
 rb:S'[a+1]? = Ab (.lst (done.map av))
 perm:(done++rest).Perm all
 le:done.length<=many
 kp:Kp p S S'
def qAI (p M:Ah)(hM:1<=M/\M<=40){S:ap}(h:yM S p)(q:∀ (l:Aa Pt) J,Kp p S J->oi M l->(∀ z∈l,z.1<=990)->Q (z9 l) J):Ok (gq [.loc p,.int (M:An)] S) Q:=by
 rw[pI];refine zD (ak:=[Ab (.loc p),Ab (.int (M:An)),none,none,none,none,none,none,none,none,none]) rfl ?_;rfl';refine xU h li λT S1 k1 h1=>?_;rfl';refine xU k1.pen li λm S2 k2 h2=>?_;obtain⟨Y,em,hm⟩:∃ Y:Ah,1+(m:An)=(Y:An)/\1<=Y/\Y<=M:=⟨1+m,by lia,by lia,by lia⟩
 rfl';rw[em];refine xU k2.pen li λx S3 k3 h3=>?_;rfl';refine xU k3.pen li λy S4 k4 h4=>?_;rfl';refine xU k4.pen li λr S5 k5 h5=>?_;have hx : -10<=(x:An)-10/\(x:An)-10<=10:=by lia
 have hy : -10<=(y:An)-10/\(y:An)-10<=10:=by lia
 generalize (x:An)-10=x at hx;generalize (y:An)-10=y at hy;refine nN (show r<3 by lia) λd g=>?_
 obtain⟨wide,rfl,hw⟩:∃ w:An,d=.int w/\3<=w/\w<=900:=by
  simp only[Ba,Dv,HT] at g;rcases g with rfl|rfl|rfl <;> exact⟨_,rfl,by lia⟩
 have I:Kp p S S5:=(((k1.trans k2).trans k3).trans k4).trans k5;clear k1 k2 k3 k4 k5 h1 h2 h3 h4 h5 g em;array_get_dec;array_get_dec;refine qAz (λak J=>∃ d E H ps,ak=[Ab (.loc p),Ab (.int (M:An)),Ab (.int T),Ab (.int (Y:An)),Ab (.int x),Ab (.int y),Ab (.int wide),Ab d,E,H,none]/\E_ p S d J ps) (λP' hP=>?_) ?_
 .rfl'
  refine xE (λz=>?_) λz=>?_
  .rfl'
   refine YT li I.pen λn B v hn=>?_;rfl';refine cU hn λps S7 L ne s A _=>?_;rfl';exact hP _ _ ⟨_,_,_,ps,rfl,rfl,ne,A,s,(I.trans v).trans (Kp.pre v.pen L)⟩
  rfl';refine xE (λz=>?_) λz=>?_
  .rfl'
   refine nP 25 li (λ(i:Ah)=>((i:An)/5,(i:An) % 5)) (λi=>?_) ?_
   .rfl'
    exact rfl
   .rfl'
    exact hP _ _ ⟨_,_,_,PR,rfl,rfl,by decide,by decide,kd,I⟩
  rfl';refine xE (λz=>?_) λz=>?_
  .rfl'
   refine nP 20 li (λ(i:Ah)=>(2*(i:An),3*(i:An))) (λi=>?_) ?_
   .rfl'
    exact rfl
   .rfl'
    refine nP 5 li (λ(i:Ah)=>((i:An),0)) (λi=>?_) ?_
    .rfl'
     exact rfl
    .refine uB (by rw[Ap,Ap];decide) ?_
     rw[<- Di];rfl';exact hP _ _ ⟨_,_,_,OT++OU,rfl,rfl,by decide,by decide,kd,I⟩
  rfl';refine xE (λz=>?_) λz=>?_
  .rfl'
   exact hP _ _ ⟨_,_,_,IX,rfl,rfl,by decide,by decide,kd,I⟩
  rfl';refine⟨by lia,by lia,?_⟩
  have z2:p<S5.length:=YY I.pen;refine wB (λxs ak J=>∃ (ps:Aa Pt) (E H:Ak D),ps.length+xs.length=M/\(∀ q∈ps,dz 980 q)/\ak=[Ab (.loc p),Ab (.int (M:An)),Ab (.int T),Ab (.int (Y:An)),Ab (.int x),Ab (.int y),Ab (.int wide),Ab (.loc S5.length),E,H,none]/\Kp p S5 J/\J[S5.length]? = Ab (.lst (ps.map av))) ?_ ?_ ⟨[],_,_,by simp,λ_ h=>(by cases h),rfl,Kp.pre I.pen (Fh _ _),yW _ _⟩
  .rintro t xs _ J ⟨ps,E,H,A,s,rfl,K,hS⟩
   have la:=(Ay.mp hS).1;rfl';refine xU K.pen li λr1 B v h6=>?_;have k:=(v.same _ la li).trans hS;rfl';refine⟨jZ k,?_⟩;rfl';refine xU v.pen li λr2 S7 L h7=>?_;have zc:=(L.same _ (Ay.mp k).1 li).trans k;rfl';refine fG zc (by rw[Ap];unfold bq;simp at A;lia) ?_
   rfl';refine xM ⟨ps++[((r1:An)-wide,(r2:An)-2)],_,_,by simp at A ⊢;lia,λz hz=>?_,rfl,((K.trans v).trans L).set (Ax _) _ li,by rw[Dj (Ay.mp zc).1,Di];rfl⟩
   rcases Bq.mp hz with hz|hz
   .exact s z hz
   .rw[Cw.mp hz]
    unfold dz;dsimp only
    lia
  .rintro _ J ⟨ps,E,H,A,s,rfl,K,hS⟩
   refine hP _ _ ⟨_,_,_,ps,rfl,NV hS,λz=>?_,by simp at A;lia,s,I.trans K⟩
   subst z;simp at A
   lia
 .rintro _ B ⟨d,E,H,ps,rfl,sm⟩
  have z4:p<B.length:=YY sm.kp.pen;rfl';refine qAP ?_;rfl';refine⟨ps,sm.seq,by have:=sm.len;lia,?_⟩
  rfl';have zz:=Cg (tI ps) sm.len;have zy:wM ps≠[]:=λz=>by
   obtain⟨w,hw⟩:=List.exists_mem_of_ne_nil _ sm.ne;have:=(vO ps w).mpr hw;rw[z] at this;cases this
  rw[Bj,Lr];refine QU (λn ak J=>ak=[Ab (.loc p),Ab (.int (M:An)),Ab (.int T),Ab (.int (Y:An)),Ab (.int x),Ab (.int y),Ab (.int wide),Ab (.loc B.length),E,H,Ab (.loc (B.length+1))]/\∃ done N,N.length=n/\WI p B.length Y (wM ps) S J done N) ?_ (n:=(wM ps).length) (by rw[W2];lia) ⟨rfl,[],wM ps,rfl,by simp,by simp,by simp,by simp,sm.kp.trans (Kp.pre sm.kp.pen ((Fh _ _).trans (Fh _ _)))⟩
  rintro n _ J ⟨rfl,done,N,rfl,W⟩;have O:=W.perm.length_eq;rw[Bj] at O;have la:=(Ay.mp W.rb).1;refine EZ ?_;rfl';have U:J<+:J++[MO.lst []]:=Fh _ _;refine nO (z:=.bl (!N.isEmpty)) (aL (lU W.ra U) λx hx=>?_) (aL (xs:=[]) (yW _ _) λ_ h=>by cases h) ?_ rfl ?_
  .obtain⟨z,_,rfl⟩:=Br.mp hx
   rfl
  .unfold my
   rw[CJ,show pl wI (.lst []) = true from rfl]
   cases N <;> rfl
  have G:WI p B.length Y (wM ps) S (J++[MO.lst []]) done N:=⟨lU W.ra U,lU W.rb U,W.perm,W.le,W.kp.trans (Kp.pre W.kp.pen U)⟩;have zb:B.length+1<(J++[MO.lst []]).length:=by rw[Bj];lia
  generalize J++[MO.lst []] = J at G zb;clear W U la;have zs:¬ (N≠[]/\done.length<Y)->Ok (qG vC (qA (qG vB (qA (zH false [none,Ab 4,Ab 5] (nw (qB 10)) (bh 0) xB (zL (qP (qA (d2 zB (d2 cg (qB 0) (dC (.int 0))) (qB 1)) (qA (d2 zB (d2 cg (qB 0) (dC (.int 1))) (qB 2)) qC))))) qC)) qC) [Ab (.loc p),Ab (.int (M:An)),Ab (.int T),Ab (.int (Y:An)),Ab (.int x),Ab (.int y),Ab (.int wide),Ab (.loc B.length),E,H,Ab (.loc (B.length+1))] J) Q:=λhc=>by
   rfl';refine jD done (λz=>av (z.1+x,z.2+y)) (λak S1=>S1=J/\∃ a,ak=[a,Ab (.int x),Ab (.int y)]) (qBg rfl G.rb) ⟨rfl,none,rfl⟩ (by unfold bq;lia) (λ_ _ ⟨e,_⟩=>by subst e;exact G.rb) (λz hz ak S1 ⟨e1,a,e2⟩=>?_) λak S1 ⟨e1,_⟩=>?_
   .subst e1 e2
    rfl';exact⟨_,rfl⟩
   .subst e1
    rfl';have zx:done.Nodup:=(Gz.mp (G.perm.nodup_iff.mpr (XR (dN ps)))).1;have z1:=G.le;rw[show (done.map λz=>av (z.1+x,z.2+y))=(done.map λz=>(z.1+x,z.2+y)).map av by rw[Ds];rfl]
    refine BL (by rw[Ap];lia) ?_
    rfl';have zl:∀ z∈done.map λz=>(z.1+x,z.2+y),dz 990 z:=λz hz=>by
     obtain⟨w,hw,rfl⟩:=Br.mp hz;have:=sm.box w ((vO ps w).mp (G.perm.mem_iff.mp (Dg _ hw)));unfold dz at this ⊢;dsimp only
     lia
    refine q _ S1 G.kp (OX (λz=>?_) (by rw[Ap];lia) ?_ λz hz=>?_) λz hz=>(zl z ((uD _).mem_iff.mp hz)).2.1
    .have z:=List.map_eq_nil_iff.mp z
     subst z;by_cases o:N=[]
     .subst o
      simp at O;exact zy (Fu.mp O.symm)
     .exact hc ⟨o,by simp;lia⟩
    .rw[Vc,Dq]
     exact zx.imp λ{a b} zv z=>zv (Zq (by have:=congrArg Prod.fst z;dsimp only at this;lia) (by have:=congrArg Prod.snd z;dsimp only at this;lia))
    .have:=zl z hz
     unfold dz at this ⊢
     lia
  rfl';refine⟨λe=>?_,λe=>?_⟩
  .have o:N≠[]:=λz=>by subst z;cases e
   have z3:=Nl.mpr o;rfl';refine kZ G.rb ?_;rw[Ap];rfl';refine⟨λe=>?_,λe=>?_⟩
   .have g:done.length<Y:=by have:=Ce e;lia
    rfl';refine⟨jZ G.rb,?_⟩;rfl';refine⟨jZ G.ra,?_⟩;rfl';refine kZ G.ra ?_;rw[Ap];rfl';refine xU G.kp.pen li λr S7 L h7=>?_;have ra:=(L.same _ li li).trans G.ra;have rb:=(L.same _ zb li).trans G.rb;have u:r<N.length:=by lia
    rfl';refine qAN ra (by rw[Ap];exact u) li ?_
    rw[Vf,sT];rfl';have l7:=L.len;refine fG (i:=B.length+1) (by rw[Ci li];exact rb) (by rw[Ap];unfold bq;lia) ?_
    rfl';refine U7 (N.eraseIdx r).length (by rw[Yj,Bg u];lia) ⟨rfl,done++[N[r]],N.eraseIdx r,rfl,?_,?_,?_,by simp;lia,((G.kp.trans L).set sm.kp.len _ li).set (by have:=sm.kp.len;lia) _ li⟩
    .rw[Ci li,Dj li]
    .rw[Dj (by rw[Wh];lia),Di]
     rfl
    .rw[Cd]
     exact(Im done (vA N r u)).trans G.perm
   .have g:¬ done.length<Y:=λz=>by have:=Ol e;lia
    exact PH (XS (zs λz=>g z.2))
  .have o:N=[]:=by cases N with|nil=>rfl|cons _ _=>cases e
   exact⟨(λz=>by cases z),λ_=>PH (XS (zs λz=>z.1 o))⟩
def qAJ (h:yM S p)(q:∀ (z:Pt) Y,Kp p S Y->dz 1000 z->Q (av z) Y):Ok (fj [.loc p] S) Q:=by
 rw[jP];refine zD (ak:=[Ab (.loc p),none]) rfl ?_;rfl';refine xU h li λr L U I=>?_;refine nN (show r<3 by lia) λd J=>?_
 obtain⟨wide,rfl,E⟩:∃ w:An,d=.int w/\2<=w/\w<=1000:=by
  simp only[Ba,Dv,HT] at J;rcases J with rfl|rfl|rfl <;> exact⟨_,rfl,by lia⟩
 rfl';refine xU U.pen li λx H G B=>?_;rfl';refine xU G.pen li λy N O T=>?_;rfl';refine q ((x:An)-wide,(y:An)-wide) N ((U.trans G).trans O) ?_;unfold dz;dsimp only
 lia
noncomputable def KW (x y:An):Aa D:=[.tup [.int x,.int y,.int 0],.tup [.int x],.lst [.int x,.int y],.non,.tup [.bl true,.int y],.tup [.int x,.non],.tup [.int 1001,.int y]]++[.tup [.int x,.int (-1001)]]
def TQ (x y:An):∀ d∈KW x y,Pn d/\xY d=false:=by
 intro d Y;simp only[KW,Kn,Hi,Ba,Dv,HT] at Y;rcases Y with rfl|rfl|rfl|rfl|rfl|rfl|rfl|rfl
 all_goals refine⟨⟨_,rfl⟩,?_⟩
 all_goals first|rfl|exact Kh _
def lH (l:Aa Pt)(a:Ah)(o:D):Aa D:=(l.map av).take a++[o]++(l.map av).drop (a+1)
def cH:Aa D:=(Cf 41).map λ(i:Ah)=>D.tup [.int (i:An),.int 0]
def EU (l:Aa Pt)(q:Pt)(a:Ah)(o:D)(G:Pn o/\xY o=false):∀ d∈((Dk 4 [D.tup (lH (l++[q]) a o)]).flatten++[.non,.tup [],.lst ((l++[q]).map av),av ((l++[q]).head bB),.str "0,0",.int 7,.dct0,.tup ((l++[q]).map av++[av q])]++[.tup [.tup ((l++[q]).map av)]])++[.tup (_H.de ((l++[q]).map av) (-1)++[av q]),.tup cH]++[.tup [.tup [.int 0,.int 0],.tup [.int 0,.int 0]]],vm d:=by
 have Y:∀ x∈(l++[q]).map av,Pn x:=λx hx=>by
  obtain⟨z,_,rfl⟩:=Br.mp hx;exact nV z
 have U:(l++[q]).map av=l.map av++[av q]:=by rw[Di];rfl
 have J:vm (.tup (lH (l++[q]) a o)):=by
  refine⟨t9 λx hx=>?_,d9 (x:=o) (by simp[lH]) G.2⟩
  unfold lH at hx;rcases Bq.mp hx with hx|hx
  .rcases Bq.mp hx with hx|hx
   .exact Y x (Qv hx)
   .rw[Cw.mp hx];exact G.1
  .exact Y x (Qu hx)
 intro d N;simp only[Gy,List.replicate_zero,IN,List.flatten_nil,Kn,Hi,Fk,Ba,Dv,HT] at N;rcases N with rfl|rfl|rfl|rfl|rfl|rfl|rfl|rfl|rfl|rfl|rfl|rfl|rfl|rfl|rfl|rfl
 .exact J
 .exact J
 .exact J
 .exact J
 .exact⟨⟨_,rfl⟩,rfl⟩
 .exact⟨⟨_,rfl⟩,rfl⟩
 .exact⟨_W Y,rfl⟩
 .exact⟨nV _,d9 (x:=.int _) (DL ..) rfl⟩
 .exact⟨⟨_,rfl⟩,rfl⟩
 .exact⟨⟨_,rfl⟩,rfl⟩
 .exact⟨⟨_,rfl⟩,rfl⟩
 .refine⟨t9 λx hx=>?_,dA ?_⟩
  .rcases Bq.mp hx with hx|hx
   .exact Y x hx
   .rw[Cw.mp hx];exact nV q
  .rw[Gz]
   exact λh=>h.2.2 (av q) (by rw[U];simp) (av q) bB rfl
 .refine⟨t9 λx hx=>by rw[Cw.mp hx];exact t9 Y,d9 (x:=.tup ((l++[q]).map av)) bB ?_⟩
  match O:(l++[q]).map av with
  |[]=>rfl
  |[_]=>rfl
  |[x,y] =>
   have:x∈(l++[q]).map av:=by rw[O];simp
   obtain⟨z,_,rfl⟩:=Br.mp this;rfl
  |_::_::_::_=>rfl
 .refine⟨t9 λx hx=>?_,dA ?_⟩
  .rcases Bq.mp hx with hx|hx
   .exact Y x (VX hx)
   .rw[Cw.mp hx];exact nV q
  .rw[Gz]
   exact λh=>h.2.2 (av q) (by rw[U];exact VY _ _) (av q) bB rfl
 .refine⟨t9 λx hx=>?_,T1 (by unfold cH;simp)⟩
  obtain⟨i,_,rfl⟩:=Br.mp hx;exact⟨.tuple [.int (i:An),.int 0],rfl⟩
 .exact⟨⟨_,rfl⟩,dA bB⟩
def H8 (q:Q (.lst cH) S):Ok (zH false [none] (zY (xI (qA (dC (.int 41)) qC))) (bh 0) xB (zL (qP (qA (qB 0) (qA (dC (.int 0)) qC)))) ak S) Q:=by
 refine nP 41 li (λ(i:Ah)=>((i:An),0)) (λi=>?_) ?_
 .rfl'
  exact rfl
 .rw[Ds]
  exact q
def KR (p M:Ah)(v:M<=40)(l:Aa Pt)(G:oi M l)(S:ap)(h:yM S p):Ok (et [.loc p,z9 l] S) λd _=>vm d:=by
 rw[uZ];refine zD (ak:=[Ab (.loc p),Ab (.tup (l.map av)),none,none,none,none,none,none,none]) rfl ?_;unfold gb;have m:0<l.length:=Nl.mpr G.ne;have r:=G.len;rfl';refine xU h li λw t E n=>?_;rfl';refine xU E.pen (by rw[Ap];lia) λa e I T=>?_
 rw[Ap] at T;rfl';have O:_L.ml (l.map av) (a:An)=Ab (av (l[a]' li)):=by
  rw[pT (by rw[Ap];lia),Vf]
 refine X8 O ?_;generalize l[a]' li=q;refine qBo (xs:=[.int q.1,.int q.2]) ?_;rfl';refine xU I.pen li λb y u g=>?_;refine nN (a:=KW q.1 q.2) (show b<8 by lia) λo N=>?_
 have B:=TQ q.1 q.2 o N;rfl';rw[SC _ a (by rw[Ap];lia)]
 refine jC (by simp only[Ap,Gh,Bs,Fc];unfold bq;lia) ?_
 rfl';rw[show (a:An)+1=((a+1:Ah):An) by lia,tQ _ (a+1) (by rw[Ap];lia)]
 refine jC (by simp only[Bj,Ap,Gh,Gs,Bs,Fc];unfold bq;lia) ?_
 rcases Xq l with z|⟨Y,z,rfl⟩
 .exact absurd z G.ne
 rw[Xr] at *;have J:=EU Y z a o B;have bl:((Y++[z]).map av).take a++[o]++((Y++[z]).map av).drop (a+1)=lH (Y++[z]) a o:=rfl;rw[bl];generalize lH (Y++[z]) a o=bn at J;clear O bl B N;rfl';refine YS (k:=4) ⟨Dz rfl,by lia⟩ ?_
 rfl';refine X8 (d:=av ((Y++[z]).head bB)) ?_ ?_
 .cases Y <;> exact pT (a:=0) bB
 rfl';have L:xA ((Y++[z]).map av) (Ab (-1)) none=[av z]:=by
  rw[Di];exact FC _ _
 rw[L];have U:((Y++[z]).map av).length<=40:=by rw[Ap];lia
 refine jC (by simp only[Bs,Fc];unfold bq;lia) ?_
 rfl';refine EY rfl rfl (Dz rfl) ?_;rfl';refine⟨jZ (yW _ _),?_⟩;rfl';refine fG (yW _ _) (Dz rfl) ?_;rw[aR];rfl';refine o_2 ?_;rfl';refine HG li ?_;rfl';rw[L];have H:(_H.de ((Y++[z]).map av) (-1)).length<=40:=by
  unfold _H.de;refine Cg (Uq _ _) ?_;rw[Jy,pE];exact U
 refine jC (by simp only[Bs,Fc];unfold bq;lia) ?_
 rfl';refine H8 ?_;rfl';refine EW (OR (yW _ _)) rfl (Dz rfl) ?_;rfl';refine uB (Dz rfl) ?_;rfl';refine nN (show w<16 by lia) λd A=>?_
 rfl';exact J d A
def qA1 (a b:Ah)(U:b<big)(Y:qD)(G:ak=Ab (.int a)::Ab (.int b)::Y)(q:∀ e1,Wo P (.nx (Ab (.int (Zn a b))::e1::Y) S)):Wo P (gD (dw (d2 wt (qB 1) (dC (.int 0)))) (uM 0 1 (qA (qB 1) (qA (d2 uJ (qB 0) (qB 1)) qC))) ak S):=by
 subst G;refine QU (λn ak N=>N=S/\∃ x:Ah,Zn x n=Zn a b/\ak=Ab (.int x)::Ab (.int n)::Y) ?_ U ⟨rfl,a,rfl,rfl⟩;rintro n _ _ ⟨rfl,x,J,rfl⟩;rfl';refine⟨λz=>?_,λz=>?_⟩
 .have z:=Ce z
  rfl';refine U7 (x % n) (Po _ li) ⟨rfl,n,?_,by rw[Int.natCast_emod]⟩
  rw[<- J,Nat.gcd_comm x n,Nat.gcd_rec n x,Nat.gcd_comm]
 .have z:=Ol z
  have:n=0:=by lia
  subst this;rw[Nat.gcd_zero_right] at J;rw[J];exact q _
def qAC (a b:Ah)(Y:b<big)(q:Q (.int (Zn a b)) S):Ok (cz [.int a,.int b] S) Q:=by
 rw[v7];refine zD (ak:=[Ab (.int a),Ab (.int b)]) rfl ?_;array_get_dec;refine qA1 a b Y [] rfl λJ=>?_;rfl';exact q
def iQ (a:An):(if a<0 then -a else a)=(a.natAbs:An):=by
 split <;> lia
def og (t b:An):An × An:=let g:=(Ln t b:An);if b<0 then ((-t)/g,(-b)/g) else (t/g,b/g)
structure Fr (t b:An)(n m:An):Prop where
 pos:0<m
 eq:n*b=t*m
 one:Ln n m=1
 len:n.natAbs<=t.natAbs
 lem:m.natAbs<=b.natAbs
def cF {t b:An}(A:b≠0):Fr t b (og t b).1 (og t b).2/\∃ g:Ah,0<g/\g<=b.natAbs/\(g=Zn t.natAbs b.natAbs)/\t.fdiv (if b<0 then -(g:An) else g)=(og t b).1/\b.fdiv (if b<0 then -(g:An) else g)=(og t b).2:=by
 have N:0<Ln t b:=Int.gcd_pos_of_ne_zero_right _ A;obtain⟨n,J⟩:=Int.gcd_dvd_left (a:=t) (b:=b);obtain⟨m,U⟩:=Int.gcd_dvd_right (a:=t) (b:=b);have B:Ln t b<=b.natAbs:=Nat.le_of_dvd li (Int.gcd_dvd_natAbs_right ..);have H:Ln n m=1:=by
  have e:Ln ((Ln t b:An)*n) ((Ln t b:An)*m)=Ln t b:=by rw[<- J,<- U]
  rw[Int.gcd_mul_left,Sk] at e;exact Nat.eq_of_mul_eq_mul_left N (by rw[e,Nat.mul_one])
 have E:n.natAbs<=t.natAbs:=by
  have:=congrArg Int.natAbs J;rw[Sd,Sk] at this;rw[this];exact Wy _ N
 have T:m.natAbs<=b.natAbs:=by
  have:=congrArg Int.natAbs U;rw[Sd,Sk] at this;rw[this];exact Wy _ N
 have I:(Ln t b:Ah)=Zn t.natAbs b.natAbs:=rfl;generalize L:Ln t b=G at *;have Y:(G:An)≠0:=by lia
 by_cases z:b<0
 .have f:og t b=(-n,-m):=by
   unfold og;rw[L];simp only[z,Eb];rw[J,U,<- Ab2,<- Ab2,Ke _ Y,Ke _ Y]
  rw[f];have O:m<0:=by
   by_cases y:m<0
   .exact y
   .have:=Se (show (0:An)<=G by lia) (show 0<=m by lia)
    lia
  refine⟨⟨by dsimp only;lia,?_,by rw[Int.gcd_neg,Int.neg_gcd];exact H,by rw[AbR];exact E,by rw[AbR];exact T⟩,G,N,B,I,?_,?_⟩
  .show -n*b=t * -m
   rw[U,J]
   grind
  .rw[Bg z,J,show (G:An)*n = -n * -(G:An) by grind,Nm _ li]
  .rw[Bg z,U,show (G:An)*m = -m * -(G:An) by grind,Nm _ li]
 .have f:og t b=(n,m):=by
   unfold og;rw[L];simp only[z,Dx];rw[J,U,Ke _ Y,Ke _ Y]
  rw[f];have O:0<m:=by
   by_cases y:0<m
   .exact y
   .have:=Se (show (0:An)<=G by lia) (show 0 <= -m by lia)
    rw[Ab2] at this
    lia
  refine⟨⟨O,?_,H,E,T⟩,G,N,B,I,?_,?_⟩
  .show n*b=t*m
   rw[U,J]
   grind
  .rw[Bd z,J,Vv,Nm _ Y]
  .rw[Bd z,U,Vv,Nm _ Y]
abbrev frD:Pt->D:=av
def H0 {t b:An}(G:b≠0/\b.natAbs<2 ^ 60)(q:Q (frD (og t b)) S):Ok (gn [.int t,.int b] S) Q:=by
 obtain⟨_,g,T,N,B,Y,J⟩:=cF (t:=t) G.1;rw[pL];refine zD (ak:=[Ab (.int t),Ab (.int b),none]) rfl ?_;rfl';rw[iQ,iQ];refine qAC _ _ (by rw[W2];exact G.2) ?_
 rw[<- B];have U:∀ k:An,k = -(g:An)\/k=g->k≠0/\k.natAbs.log2<9000:=λk L=>by
  have O:k.natAbs=g:=by lia
  refine⟨by lia,?_⟩
  rw[O];exact Ie ((Nat.log2_lt li).mpr (Kw N G.2)) li
 rfl';refine xE (λz=>?_) λz=>?_
 .rw[Bg z] at Y J
  rfl';refine nM (U _ (.inl rfl)) ?_;rfl';refine nM (U _ (.inl rfl)) ?_;rw[Y,J];rfl';exact q
 .rw[Bd z] at Y J
  rfl';refine nM (U _ (.inr rfl)) ?_;rfl';refine nM (U _ (.inr rfl)) ?_;rw[Y,J];rfl';exact q
noncomputable def ik (p a b:Pt):An:=(a.1-p.1)*(b.2-p.2)-(a.2-p.2)*(b.1-p.1)
def dt (p a b:Pt):An:=(a.1-p.1)*(b.1-p.1)+(a.2-p.2)*(b.2-p.2)
def sl (a b p:Pt):Ak Pt:=if ik p a b=0 then none else Ab (og (dt p a b) (ik p a b))
def M7 {n m Y m':An}(h1:0<m)(h2:0<m')(N:Ln n m=1)(g2:Ln Y m'=1)(e:n*m'=Y*m):n=Y/\m=m':=by
 have J:∀ {x y z:An},Ln x y=1->y∣x*z->y∣z:=λ{x y z} g d=>by
  have G:Nat.Coprime y.natAbs x.natAbs:=by rw[Nat.coprime_comm];exact g
  have U:y.natAbs∣x.natAbs*z.natAbs:=by rw[<- Sd];exact Xs.mpr d
  exact Xs.mp (G.dvd_of_dvd_mul_left U)
 have d1:m∣m':=J N ⟨Y,by rw[e,Vv]⟩
 have d2:m'∣m:=J g2 ⟨n,by rw[<- e,Vv]⟩
 have em:m=m':=Int.le_antisymm (Int.le_of_dvd h2 d1) (Int.le_of_dvd h1 d2);subst em;exact⟨Mx li e,rfl⟩
def RW {t b t' J:An}(O:b≠0)(G:J≠0):og t b=og t' J↔t*J=t'*b:=by
 obtain⟨⟨H,w,k,_,_⟩,_⟩:=cF (t:=t) O;obtain⟨⟨A,E,M,_,_⟩,_⟩:=cF (t:=t') G;generalize og t b=X at *;generalize og t' J=Y at *;obtain⟨n,m⟩:=X;obtain⟨N,U⟩:=Y;dsimp only at *;constructor
 .intro h
  injection h with y L
  subst y L;refine Mx (show m≠0 by lia) ?_
  grind
 .intro h
  have:n*U=N*m:=by
   refine Mx (show b*J≠0 from Int.mul_ne_zero O G) ?_
   have z:n*U*(b*J)=(n*b)*J*U:=by grind
   have I:N*m*(b*J)=(N*J)*b*m:=by grind
   rw[z,I,w,E];have T:t*m*J*U=t*J*m*U:=by grind
   have B:t'*U*b*m=t'*b*m*U:=by grind
   rw[T,B,h]
  obtain⟨rfl,rfl⟩:=M7 H A k M this;rfl
def al (a b:Pt)(x:Pt × Pt):Au:=(sl a b x.1).isSome&&decide (sl a b x.1=sl a b x.2)
def On (a b c d:Pt):Prop:=ik c a b≠0/\dt c a b*ik d a b=dt d a b*ik c a b
instance (a b c d:Pt):Ih (On a b c d):=by unfold On;exact inferInstance
def apart {a b d:Pt}(h1:d≠a)(h2:d≠b)(Y:ik d a b=0)(G:dt d a b=0):Ex:=by
 unfold ik at Y;unfold dt at G;have J:((a.1-d.1)*(a.1-d.1)+(a.2-d.2)*(a.2-d.2))*((b.1-d.1)*(b.1-d.1)+(b.2-d.2)*(b.2-d.2))=0:=by grind
 have z:∀ x y:An,x*x+y*y=0->x=0/\y=0:=λx y h=>by
  have sq:∀ t:An,0<=t*t:=λt=>by
   rcases Int.le_total 0 t with q|q
   .exact Se q q
   .exact Ot q q
  have B:=sq x;have O:=sq y;have N:x*x=0:=by fin2
  have U:y*y=0:=by fin2
  exact⟨(Lo.mp N).elim id id,(Lo.mp U).elim id id⟩
 rcases Lo.mp J with h|h
 .obtain⟨x,y⟩:=z _ _ h
  exact h1 (Zq li li)
 .obtain⟨x,y⟩:=z _ _ h
  exact h2 (Zq li li)
def PQ {a b d c:Pt}(h1:d≠a)(h2:d≠b):al a b (c,d)=decide (On a b c d):=by
 unfold al On sl;by_cases J:ik c a b=0
 .simp[J]
 .by_cases Y:ik d a b=0
  .have:¬ (dt c a b*ik d a b=dt d a b*ik c a b):=λe=>by
    rw[Y,Je] at e;rcases Lo.mp e.symm with z|z
    .exact apart h1 h2 Y z
    .exact J z
   simp[J,Y,this];intro e;exact this (by rw[Y,Je];exact e)
  .have:=RW (t:=dt c a b) (t':=dt d a b) J Y
   simp[J,Y,this]
noncomputable def Gp (κ : Pt->Ak Pt):Ah->Aa Pt->Aa (Aa Pt)
 |0,_=>[]
 |_,[]=>[]
 |n+1,p::ps=>match κ p with
  |none=>Gp κ n ps
  |some k=>(p::ps.filter λq=>decide (κ q=Ab k))::Gp κ n (ps.filter λq=>!decide (κ q=Ab k))
def two (m:Ah):Ah:=m*(m-1)/2
def i3 (m:Ah):two (m+1)=two m+m:=by
 unfold two;rw[Ir];cases m with
 |zero=>rfl
 |succ m =>
  rw[Ir,show (m+1+1)*(m+1)=(m+1)*m+(m+1)*2 by rw[Ab3,Ab3];grind,Nat.add_mul_div_right _ _ li]
def lz (κ : Pt->Ak Pt)(x:Pt × Pt):Au:=(κ x.1).isSome&&decide (κ x.1=κ x.2)
def cn (κ : Pt->Ak Pt)(ps:Aa Pt):Ah:=((wX ps).filter (lz κ)).length
def bP (κ : Pt->Ak Pt)(p:Pt)(ps:Aa Pt):cn κ (p::ps)=(ps.filter λq=>lz κ (p,q)).length+cn κ ps:=by
 unfold cn;show (Ab4 _ (ps.map (λq=>(p,q))++wX ps)).length=_;rw[Oo,Bj,Wz,Ap];rfl
theorem W9 (κ : Pt->Ak Pt)(k:Pt):∀ ps:Aa Pt,cn κ ps=two (ps.filter λq=>decide (κ q=Ab k)).length+cn κ (ps.filter λq=>!decide (κ q=Ab k))
 |[]=>by simp[cn,wX,two]
 |p::ps=>by
  rw[bP,W9 κ k ps];by_cases h:κ p=Ab k
  .have e:(ps.filter λq=>lz κ (p,q))=ps.filter λq=>decide (κ q=Ab k):=by
    congr 1
    funext q
    unfold lz;rw[h];simp[eq_comm]
   rw[Jf (by simpa using h),Hr (by simpa using h),Bs,i3,e]
   lia
  .rw[Hr (by simpa using h),Jf (by simpa using h),bP]
   have e:((ps.filter λq=>!decide (κ q=Ab k)).filter λq=>lz κ (p,q))=ps.filter λq=>lz κ (p,q):=by
    rw[Sl]
    congr 1
    funext q
    unfold lz;cases Y:decide (κ q=Ab k) with
    |false=>simp
    |true =>
     have Y:=Ce Y;dsimp only;rw[Y];simp[h]
   rw[e]
   lia
theorem eD (κ : Pt->Ak Pt):∀ (n:Ah) (ps:Aa Pt),ps.length<=n->((Gp κ n ps).map λg=>two g.length).sum=cn κ ps
 |0,ps,h=>by
  have:ps=[]:=Fu.mp li;subst this;rfl
 |n+1,[],_=>rfl
 |n+1,p::ps,h=>by
  have J:ps.length<=n:=by simpa using h
  unfold Gp;cases Y:κ p with
  |none =>
   dsimp only;rw[eD κ n ps J,bP];have:(ps.filter λq=>lz κ (p,q))=[]:=Lp.mpr λq _=>by unfold lz;rw[Y];simp
   rw[this];simp
  |some k =>
   dsimp only;rw[Cu,Ql,eD κ n _ (Cg (Fa _ _) J),Bs,i3,bP,W9 κ k ps];have e:(ps.filter λq=>lz κ (p,q))=ps.filter λq=>decide (κ q=Ab k):=by
    congr 1
    funext q
    unfold lz;rw[Y];simp[eq_comm]
   rw[e]
   lia
def u4:Aa (Aa Pt)->Ak (Pt × Pt)
 |[]=>none
 |(c::d::_)::_=>Ab (c,d)
 |_::Y=>u4 Y
theorem fZ (κ : Pt->Ak Pt):∀ (n:Ah) (ps:Aa Pt),ps.length<=n->u4 (Gp κ n ps)=((wX ps).filter (lz κ)).head?
 |0,ps,h=>by
  have:ps=[]:=Fu.mp li;subst this;rfl
 |n+1,[],_=>rfl
 |n+1,p::ps,h=>by
  have J:ps.length<=n:=by simpa using h
  have U:(wX (p::ps)).filter (lz κ) = (ps.filter λq=>lz κ (p,q)).map (λq=>(p,q))++(wX ps).filter (lz κ):=by
   show Ab4 _ (ps.map (λq=>(p,q))++wX ps)=_;rw[Oo,Wz];rfl
  rw[U];unfold Gp;cases Y:κ p with
  |none =>
   dsimp only;have:(ps.filter λq=>lz κ (p,q))=[]:=Lp.mpr λq _=>by unfold lz;rw[Y];simp
   rw[this,fZ κ n ps J];rfl
  |some k =>
   dsimp only;have e:(ps.filter λq=>lz κ (p,q))=ps.filter λq=>decide (κ q=Ab k):=by
    congr 1
    funext q
    unfold lz;rw[Y];simp[eq_comm]
   rw[e];cases O:ps.filter λq=>decide (κ q=Ab k) with
   |cons c r=>rfl
   |nil =>
    have N:(ps.filter λq=>!decide (κ q=Ab k))=ps:=Kr.mpr λq G=>by
     have:=Lp.mp O q G;simpa using this
    rw[N];show u4 (Gp κ n ps)=_;rw[fZ κ n ps J];rfl
theorem rH (κ : Pt->Ak Pt):∀ (n:Ah) (ps:Aa Pt),∀ g∈Gp κ n ps,g.length<=ps.length
 |0,ps,g,h=>by cases h
 |n+1,[],g,h=>by cases h
 |n+1,p::ps,g,h=>by
  unfold Gp at h;cases Y:κ p with
  |none =>
   rw[Y] at h;have:=rH κ n ps g h;simp only[Bs]
   lia
  |some k =>
   rw[Y] at h;rcases Ba.mp h with rfl|h
   .simp only[Bs]
    have:=Fa (λq=>decide (κ q=Ab k)) ps
    lia
   .have U:=rH κ n _ g h
    have J:=Fa (λq=>!decide (κ q=Ab k)) ps;simp only[Bs]
    lia
def D3 (κ : Pt->Ak Pt)(n:Ah)(c:Pt)(ps:Aa Pt):Gp κ (n+1) (c::ps)=[c::ps]↔(κ c).isSome=true/\∀ q∈ps,κ q=κ c:=by
 unfold Gp;cases G:κ c with
 |none =>
  refine⟨λh=>?_,λh=>by cases h.1⟩
  have:=rH κ n ps (c::ps) (by dsimp only at h;rw[h];simp)
  simp at this
  lia
 |some k =>
  dsimp only;refine⟨λh=>⟨rfl,λq Y=>?_⟩,λh=>?_⟩
  .injection h with h _
   injection h with _ h
   have:=Kr.mp h q Y;simpa using this
  .have U:(ps.filter λq=>decide (κ q=Ab k))=ps:=Kr.mpr λq Y=>Dc (h.2 q Y)
   have J:(ps.filter λq=>!decide (κ q=Ab k))=[]:=Lp.mpr λq Y=>by simp[h.2 q Y]
   rw[U,J];cases n <;> rfl
def mY {a b A B:An}(h1 : -A<=a/\a<=A)(h2 : -B<=b/\b<=B) : -(A*B)<=a*b/\a*b<=A*B:=by
 have J:a.natAbs*b.natAbs<=A.natAbs*B.natAbs:=Ye li li;have U:((a*b).natAbs:An)=((a.natAbs*b.natAbs:Ah):An):=by rw[Sd]
 have Y:((A.natAbs*B.natAbs:Ah):An)=A*B:=by
  rw[AbG,Yp li,Yp li]
 lia
def _C:Ak Pt->D
 |none=>.non
 |some k=>av k
def B6 {p a b:Pt}(hp:dz 1000 p)(Y:dz 1000 a)(J:dz 1000 b) : -8000000<=ik p a b/\ik p a b<=8000000:=by
 unfold dz at *;have U:=mY (show -2000<=a.1-p.1/\a.1-p.1<=2000 by lia) (show -2000<=b.2-p.2/\b.2-p.2<=2000 by lia)
 have G:=mY (show -2000<=a.2-p.2/\a.2-p.2<=2000 by lia) (show -2000<=b.1-p.1/\b.1-p.1<=2000 by lia)
 unfold ik
 lia
def TH {p a b:Pt}(hp:dz 1000 p)(Y:dz 1000 a)(J:dz 1000 b)(q:Q (_C (sl a b p)) S):Ok (ky [av p,av a,av b] S) Q:=by
 have U:=B6 hp Y J;have N : -1000<=p.1/\p.1<=1000 /\ -1000<=p.2/\p.2<=1000:=hp;have O : -1000<=a.1/\a.1<=1000 /\ -1000<=a.2/\a.2<=1000:=Y;have G : -1000<=b.1/\b.1<=1000 /\ -1000<=b.2/\b.2<=1000:=J;rw[tN];refine zD (ak:=[Ab (av p),Ab (av a),Ab (av b),none,none,none,none,none]) rfl ?_;rfl';have e:(a.1-p.1)*(b.2-p.2)-(a.2-p.2)*(b.1-p.1)=ik p a b:=rfl;rw[e];refine H9 ?_;rfl';refine⟨λz=>?_,λz=>?_⟩
 .have z:=Ce z
  rfl';have:sl a b p=none:=Bg z;rw[this] at q;exact q
 .have z:=Ol z
  rfl';refine H0 ⟨z,by lia⟩ ?_
  rfl';have:sl a b p=Ab (og (dt p a b) (ik p a b)):=Bd z;rw[this] at q;exact q
structure GT (κ : Pt->Ak Pt)(n:Ah)(done:Aa Pt)(gs:Aa (Pt × Ah × Aa Pt))(S:ap):Prop where
 dict:S[n]? = Ab (.dcT (gs.map λg=>(kP g.1,D.loc g.2.1)))
 lists:∀ g∈gs,n<g.2.1/\S[g.2.1]? = Ab (.lst (g.2.2.map av))
 nd:(gs.map (·.2.1)).Nodup
 kd:(gs.map (·.1)).Nodup
 len:gs.length<=done.length
 sz:∀ g∈gs,g.2.2.length<=done.length
theorem U3 {k:Pt}:∀ {Y:Aa (Pt × Ah × Aa Pt)},vR (Y.map λg=>(kP g.1,D.loc g.2.1)) (kP k)=(Y.find? λg=>decide (g.1=k)).map λg=>D.loc g.2.1
 |[]=>rfl
 |g::Y=>by
  unfold vR;rw[Cu,Ge,Ge];by_cases h:g.1=k
  .rw[Dc h,Dc (by rw[h])]
   rfl
  .rw[Co h,Co (λz=>h (Y2 z))]
   exact U3
noncomputable def add (k p:Pt)(j:Ah)(Y:Aa (Pt × Ah × Aa Pt)):Aa (Pt × Ah × Aa Pt):=
 if (Y.find? λg=>decide (g.1=k)).isSome then Y.map λg=>if g.1=k then (g.1,g.2.1,g.2.2++[p]) else g else Y++[(k,j,[p])]
def AK {n:Ah}{i x:D}{k:Aa An}(U:S[n]? = Ab (.dcT Y))(J:JX i=Ab k):lS n xn [i,x] S=(match vR Y k with|some d=>bb.ok d S|none=>if Y.length<bq then bb.ok x (S.set n (MO.dcT (Y++[(k,x)]))) else .bad):=by
 unfold lS;simp only[J,U]
 try rfl
theorem M9 (I:GT κ n done Y S)(k p:Pt)(hl:done.length<=1000) :
  ∃ (j:Ah) (S1 H:ap),lS n (Y.map λg=>(kP g.1,D.loc g.2.1)) [av k,.loc S.length] (S++[.lst []]) = .ok (.loc j) S1/\m_ (.loc j) S1=Ab "list" /\ xP (.loc j) [av p] S1=.ok .non H/\GT κ n (done++[p]) (add k p S.length Y) H/\(∀ m,m<n->H[m]? = S[m]?)/\S.length<=H.length:=by
 have O:n<S.length:=(Ay.mp I.dict).1;have t:(S++[MO.lst []])[n]? = Ab (.dcT (Y.map λg=>(kP g.1,D.loc g.2.1))):=by rw[Bb O];exact I.dict
 have zb:done.length<bq:=by unfold bq;lia
 have T:=AK (xn:=Y.map λg=>(kP g.1,D.loc g.2.1)) (i:=av k) (x:=.loc S.length) (k:=kP k) t rfl;rw[U3] at T;cases U:Y.find? λg=>decide (g.1=k) with
 |some g =>
  have A:=Jz U;have r:g.1=k:=by simpa using Ri U
  obtain⟨h1,d⟩:=I.lists g A;have hj:=(Ay.mp d).1;have N:(S++[MO.lst []])[g.2.1]? = Ab (.lst (g.2.2.map av)):=by rw[Bb hj];exact d
  rw[U] at T;have M:add k p S.length Y=Y.map λg=>if g.1=k then (g.1,g.2.1,g.2.2++[p]) else g:=by unfold add;rw[U];rfl
  rw[M];have m1:((Y.map λg=>if g.1=k then (g.1,g.2.1,g.2.2++[p]) else g).map (·.2.1))=Y.map (·.2.1):=by
   rw[Ds];refine Er λx _=>?_;show (if x.1=k then _ else _:Pt × Ah × Aa Pt).2.1=_
   split <;> rfl
  have m2:((Y.map λg=>if g.1=k then (g.1,g.2.1,g.2.2++[p]) else g).map (·.1))=Y.map (·.1):=by
   rw[Ds];refine Er λx _=>?_;show (if x.1=k then _ else _:Pt × Ah × Aa Pt).1=_
   split <;> rfl
  have m3:((Y.map λg=>if g.1=k then (g.1,g.2.1,g.2.2++[p]) else g).map λg=>(kP g.1,D.loc g.2.1))=Y.map λg=>(kP g.1,D.loc g.2.1):=by
   rw[Ds];refine Er λx _=>?_;show ((kP (if x.1=k then _ else _:Pt × Ah × Aa Pt).1,D.loc (if x.1=k then _ else _:Pt × Ah × Aa Pt).2.1))=_
   split <;> rfl
  refine⟨g.2.1,_,_,T,jZ N,DD N (by rw[Ap];have:=I.sz g A;lia) _,⟨?_,?_,by rw[m1];exact I.nd,by rw[m2];exact I.kd,by rw[Ap,Bj];have:=I.len;lia,?_⟩,λm hm=>?_,by simp⟩
  .rw[m3,Ci li]
   exact t
  .intro x hx
   obtain⟨y,G,rfl⟩:=Br.mp hx;obtain⟨s,h⟩:=I.lists y G;by_cases J:y.1=k
   .have:y=g:=YK (f:=(·.1)) I.kd G A (J.trans r.symm)
    subst this;rw[Bg J];refine⟨s,?_⟩;rw[Dj (by simp;lia),Di]
    rfl
   .rw[Bd J]
    refine⟨s,?_⟩;have l:g.2.1≠y.2.1:=λz=>J (by rw[<- YK (f:=(·.2.1)) I.nd A G z];exact r)
    rw[Ci l,Bb (Ay.mp h).1];exact h
  .intro x hx
   obtain⟨y,G,rfl⟩:=Br.mp hx;have:=I.sz y G;rw[Bj]
   split
   .show (y.2.2++[p]).length<=_
    rw[Bj];simp
    lia
   .lia
  .rw[Ci li,Bb li]
 |none =>
  have w:=Oh.mp U;rw[U] at T;have E:(Y.map λg=>(kP g.1,D.loc g.2.1)).length<bq:=by rw[Ap];have:=I.len;lia
  have e1:=T.trans (Bg E);have M:add k p S.length Y=Y++[(k,S.length,[p])]:=by unfold add;rw[U];rfl
  rw[M];have B:((S++[MO.lst []]).set n (.dcT ((Y.map λg=>(kP g.1,D.loc g.2.1))++[(kP k,.loc S.length)])))[S.length]? = Ab (.lst []):=by
   rw[Ci li];simp
  refine⟨S.length,_,_,e1,jZ B,DD B (by unfold bq;simp) _,⟨?_,?_,?_,?_,by rw[Bj,Bj];have:=I.len;simp;lia,?_⟩,λm hm=>?_,by simp⟩
  .rw[Ci li,Dj (by simp;lia),Di]
   rfl
  .intro x hx
   rcases Bq.mp hx with hx|hx
   .obtain⟨x1,v⟩:=I.lists x hx
    have q:=(Ay.mp v).1;refine⟨x1,?_⟩;rw[Ci li,Ci li,Bb q];exact v
   .cases Cw.mp hx
    refine⟨O,?_⟩;rw[Dj bB]
    rfl
  .rw[Di,Gz]
   refine⟨I.nd,by simp,λa o b u e=>?_⟩
   obtain⟨x,hx,rfl⟩:=Br.mp o;have:=(Ay.mp (I.lists x hx).2).1;have L:b=S.length:=by simpa using u
   lia
  .rw[Di,Gz]
   refine⟨I.kd,by simp,λa o b u e=>?_⟩
   obtain⟨x,hx,rfl⟩:=Br.mp o;have L:b=k:=by simpa using u
   exact w x hx (by simp[e,L])
  .intro x hx
   rcases Bq.mp hx with hx|hx
   .have:=I.sz x hx
    rw[Bj]
    lia
   .cases Cw.mp hx
    simp
  .rw[Ci li,Ci li,Bb li]
abbrev KG:=Aa (Pt × Ah × Aa Pt)
def yu (κ : Pt->Ak Pt)(L:Ah)(Y:KG)(p:Pt):KG:=match κ p with
 |none=>Y
 |some k=>add k p L Y
def Is (κ : Pt->Ak Pt)(Y:KG)(ps:Aa Pt)(J:KG):Prop:=∀ n,(ps.filter λq=>!(Y.any λg=>decide (κ q=Ab g.1))).length<=n ->
 J.map (·.2.2)=(Y.map λg=>g.2.2++ps.filter λq=>decide (κ q=Ab g.1))++Gp κ n (ps.filter λq=>!(Y.any λg=>decide (κ q=Ab g.1)))
def E7 (κ : Pt->Ak Pt)(Y:KG):Is κ Y [] Y:=λn _=>by
 have:Gp κ n ([] : Aa Pt)=[]:=by cases n <;> rfl
 simp[this]
def oG {Y w:KG}(kd:(Y.map (·.1)).Nodup)(h:Is κ (yu κ L Y p) ps w):Is κ Y (p::ps) w:=by
 intro n G;unfold yu at h;cases U:κ p with
 |none =>
  rw[U] at h;have B:((p::ps).filter λq=>!(Y.any λg=>decide (κ q=Ab g.1)))=p::ps.filter λq=>!(Y.any λg=>decide (κ q=Ab g.1)):=Jf (by simp[U])
  rw[B] at G ⊢;cases n with
  |zero=>simp at G
  |succ n =>
   rw[h n (by simpa using G)]
   congr 1
   .refine Er λg _=>?_
    rw[Hr (by simp[U])]
   .rw[Gp,U]
 |some k =>
  rw[U] at h;dsimp only at h;by_cases T:(Y.find? λg=>decide (g.1=k)).isSome
  .obtain⟨M,O⟩:=Iw.mp T
   have o:=Jz O;have l:M.1=k:=by simpa using Ri O
   have I:add k p L Y=Y.map λg=>if g.1=k then (g.1,g.2.1,g.2.2++[p]) else g:=by unfold add;rw[Bg T]
   rw[I] at h;have u:∀ q,((Y.map λg=>if g.1=k then (g.1,g.2.1,g.2.2++[p]) else g).any λg=>decide (κ q=Ab g.1))=Y.any λg=>decide (κ q=Ab g.1):=λq=>by
    rw[List.any_map]
    congr 1
    funext g
    show decide (κ q=Ab (if g.1=k then _ else _:Pt × Ah × Aa Pt).1)=_
    split <;> rfl
   unfold Is at h;simp only[u] at h;have B:((p::ps).filter λq=>!(Y.any λg=>decide (κ q=Ab g.1)))=ps.filter λq=>!(Y.any λg=>decide (κ q=Ab g.1)):=Hr (by
    rw[U];have:(Y.any λg=>decide (Ab k=Ab g.1))=true:=Kq.mpr ⟨M,o,by simp[l]⟩
    rw[this];simp)
   rw[B] at G ⊢;rw[h n G,Ds]
   congr 1
   refine Er λg _=>?_;show (if g.1=k then _ else _:Pt × Ah × Aa Pt).2.2++Ab4 (λq=>decide (κ q=Ab (if g.1=k then _ else _:Pt × Ah × Aa Pt).1)) ps=_
   by_cases J:g.1=k
   .rw[Bg J,Jf (by simp[U,J])]
    simp
   .rw[Bd J,Hr (by simp[U];exact λz=>J z.symm)]
  .have H:=Oh.mp (Option.not_isSome_iff_eq_none.mp T)
   have N:∀ g∈Y,k≠g.1:=λg J e=>H g J (by simp[e])
   have I:add k p L Y=Y++[(k,L,[p])]:=by unfold add;rw[Bd T]
   rw[I] at h;have v:(Y.any λg=>decide (κ p=Ab g.1))=false:=Th.mpr λg J=>by
    rw[U];simpa using N g J
   have B:((p::ps).filter λq=>!(Y.any λg=>decide (κ q=Ab g.1)))=p::ps.filter λq=>!(Y.any λg=>decide (κ q=Ab g.1)):=Jf (by rw[v];rfl)
   rw[B] at G ⊢;have y:(ps.filter λq=>!((Y++[(k,L,[p])]).any λg=>decide (κ q=Ab g.1)))=(ps.filter λq=>!(Y.any λg=>decide (κ q=Ab g.1))).filter λq=>!decide (κ q=Ab k):=by
    rw[Sl]
    congr 1
    funext q
    rw[List.any_append];simp[Bool.and_comm]
   have d:((ps.filter λq=>!(Y.any λg=>decide (κ q=Ab g.1))).filter λq=>decide (κ q=Ab k))=ps.filter λq=>decide (κ q=Ab k):=by
    rw[Sl]
    congr 1
    funext q
    cases A:decide (κ q=Ab k) with
    |false=>simp
    |true =>
     have A:=Ce A;have:(Y.any λg=>decide (κ q=Ab g.1))=false:=Th.mpr λg J=>by
      rw[A];simpa using N g J
     rw[this];rfl
   cases n with
   |zero=>simp at G
   |succ n =>
    have E:(ps.filter λq=>!(Y.any λg=>decide (κ q=Ab g.1))).length<=n:=by simpa using G
    rw[h n (by rw[y];exact Cg (Fa _ _) E),Di,Cd]
    congr 1
    .refine Er λg J=>?_
     rw[Hr (by rw[U];simpa using N g J)]
    .rw[Gp,U,y]
     dsimp only;rw[d];rfl
structure O_ (js:Aa Ah)(G:Aa (Aa Pt))(S S':ap):Prop where
 len:js.length=G.length
 at':∀ (i:Ah) (j:Ah) (g:Aa Pt),js[i]? = Ab j->G[i]? = Ab g->S'[j]? = Ab (.lst (g.map av))
 lo:∀ j∈js,S.length<=j
 pre:S<+:S'
inductive _p (a b:Pt)(ps:Aa Pt)(S:ap)(ds:Aa D)(env:qD)(S':ap):Prop
 |mk (done rest:Aa Pt) (gs:KG) (e4 e5:Ak D) (h_0:done++rest=ps) (h_1:ds=rest.map av) (h_2:env=[Ab (av a),Ab (av b),Ab (.tup (ps.map av)),Ab (.loc S.length),e4,e5]) (h_3:GT (sl a b) S.length done gs S') (h_4:∀ m,m<S.length->S'[m]? = S[m]?) (h_5:∀ gs',Is (sl a b) gs rest gs'->Is (sl a b) [] ps gs'):_p a b ps S ds env S'
def t8 {a b:Pt}(v:dz 1000 a)(e:dz 1000 b)(hp:∀ p∈ps,dz 1000 p)(hl:ps.length<=1000)(q:∀ o J,O_ o (Gp (sl a b) ps.length ps) S J->Q (.lst (o.map D.loc)) J):Ok (cf [av a,av b,.tup (ps.map av)] S) Q:=by
 rw[uO];refine zD (ak:=[Ab (av a),Ab (av b),Ab (.tup (ps.map av)),none,none,none]) rfl ?_;refine XT (qAx ⟨.loc S.length,S++[.dcT []],rfl,?_⟩);rfl';refine gF (_p a b ps S) ?_ ?_ ⟨[],ps,[],none,none,rfl,rfl,rfl,⟨by simp,λ_ h=>(by cases h),by simp,by simp,by simp,λ_ h=>(by cases h)⟩,λm A=>Bb A,λO h=>h⟩
 .rintro d ds _ J ⟨done,E,B,e4,e5,U,N,rfl,G,Y,M⟩
  cases E with
  |nil=>cases N
  |cons p E =>
   injection N with h1 t
   subst h1 t;have y:p∈ps:=by rw[<- U];simp
   have w:done.length<=1000:=by
    have:=congrArg Np U;rw[Bj] at this
    lia
   rfl';refine TH (hp p y) v e ?_;rfl';cases hs:sl a b p with
   |none =>
    refine⟨.bl false,J,rfl,?_⟩;rfl';refine xM ⟨done++[p],E,B,_,_,by rw[<- U];simp,rfl,rfl,⟨G.dict,G.lists,G.nd,G.kd,by rw[Bj];have:=G.len;lia,λg I=>by rw[Bj];have:=G.sz g I;lia⟩,Y,λO h=>M O (oG (L:=0) G.kd ?_)⟩
    unfold yu;rw[hs];exact h
   |some k =>
    refine⟨.bl true,J,rfl,?_⟩;rfl';obtain⟨j,S1,S2,x1,s,x3,r,x5,x6⟩:=M9 G k p w;have z:hX (qB 3) (qA (qB 5) (qA (v9 qC) qC)) [Ab (av a),Ab (av b),Ab (.tup (ps.map av)),Ab (.loc S.length),Ab (av p),Ab (av k)] J=.ok (.loc j) S1:=by
     unfold hX;show (match J[S.length]? with|some (.dcT l)=>_|_=>_)=_
     rw[G.dict];exact x1
    refine qR z ⟨s,?_⟩;rfl';refine qR x3 ?_;rfl';refine xM ⟨done++[p],E,_,_,_,by rw[<- U];simp,rfl,rfl,r,λm A=>(x5 m A).trans (Y m A),λO h=>M O (oG (L:=J.length) G.kd ?_)⟩
    unfold yu;rw[hs];exact h
 .rintro _ J ⟨done,E,B,e4,e5,U,N,rfl,G,Y,M⟩
  cases E with
  |cons _ _=>cases N
  |nil =>
   have H:=M B (E7 _ _) ps.length (Fa _ _);have ef:(ps.filter λq=>!(([]:KG).any λg=>decide (sl a b q=Ab g.1)))=ps:=Kr.mpr λ_ _=>rfl;rw[ef] at H;have H:B.map (·.2.2)=Gp (sl a b) ps.length ps:=H
   refine PH (XS ⟨.lst ((B.map (·.2.1)).map D.loc),J,?_,?_⟩)
   .unfold tS
    show (match J[S.length]? with|some (MO.dcT l)=>bb.ok (D.lst (l.map λ(x:Aa An × D)=>x.2)) J|_=>.bad)=_
    rw[G.dict];simp only[Ds];rfl
   .rfl'
    refine q (B.map (·.2.1)) J ⟨by rw[<- H];simp,λi j g T I=>?_,λj T=>?_,V1 Y⟩
    .rw[<- H] at I
     rw[Do] at T I;cases u:B[i]? with
     |none=>rw[u] at T;cases T
     |some x =>
      rw[u] at T I;cases T;cases I;exact(G.lists x (Bw u)).2
    .obtain⟨x,n,rfl⟩:=Br.mp T
     exact Eo (G.lists x n).1
def qv:Aa Pt->Aa (Pt × Aa Pt)
 |[]=>[]
 |b::r=>(b,r)::qv r
def jj:Aa Pt->Aa (Pt × Pt × Aa Pt)
 |[]=>[]
 |a::l=>(qv l).map (λx=>(a,x.1,x.2))++jj l
def rf (x:Pt × Pt × Aa Pt):D:=.tup [av x.1,av x.2.1,.tup (x.2.2.map av)]
theorem U0:∀ l:Aa Pt,(Cf l.length).map (λi=>(l.getD i (0,0),l.drop (i+1)))=qv l
 |[]=>rfl
 |b::r=>by
  rw[Bs,Jj,Cu,Ds];show _::_=(b,r)::qv r;rw[<- U0 r];rfl
theorem V2:∀ l:Aa Pt,((Cf l.length).flatMap λi=>(Cf (l.length-(i+1))).map λj=>(l.getD i (0,0),l.getD (i+1+j) (0,0),l.drop (i+1+j+1)))=jj l
 |[]=>rfl
 |a::l=>by
  rw[Bs,Jj,Fx,Ab5];show _++_=(qv l).map (λx=>(a,x.1,x.2))++jj l
  congr 1
  .rw[<- U0 l,Ds,show l.length+1-(0+1)=l.length by lia]
   refine Er λj _=>?_;show ((a::l).getD 0 (0,0),(a::l).getD (0+1+j) (0,0),(a::l).drop (0+1+j+1))=(a,l.getD j (0,0),l.drop (j+1));rw[show 0+1+j=j+1 by lia]
   rfl
  .rw[<- V2 l]
   congr 1
   funext i
   rw[show l.length+1-(i.succ+1)=l.length-(i+1) by lia]
   refine Er λj _=>?_;rw[show i.succ+1+j=(i+1+j)+1 by lia]
   rfl
theorem QQ:∀ l:Aa Pt,(qv l).length=l.length
 |[]=>rfl
 |_::r=>by rw[qv,Bs,Bs,QQ r]
theorem oX:∀ l:Aa Pt,(jj l).length<=l.length*l.length
 |[]=>Ax _
 |a::l=>by
  have:=oX l;rw[jj,Bj,Ap,QQ,Bs,Ab3,Nat.mul_add]
  lia
theorem dQ {x:Pt × Aa Pt}:∀ {l:Aa Pt},x∈qv l->x.1∈l/\(∀ p∈x.2,p∈l)/\x.2.length<=l.length
 |[],h=>by cases h
 |b::r,h=>by
  rcases Ba.mp h with rfl|h
  .exact⟨by simp,λp Y=>by simp[Y],by simp⟩
  .obtain⟨U,J,G⟩:=dQ h
   exact⟨by simp[U],λp Y=>by simp[J p Y],by simp;lia⟩
theorem fM {x:Pt × Pt × Aa Pt}:∀ {l:Aa Pt},x∈jj l->x.1∈l/\x.2.1∈l/\(∀ p∈x.2.2,p∈l)/\x.2.2.length<=l.length
 |[],h=>by cases h
 |a::l,h=>by
  rcases Bq.mp h with h|h
  .obtain⟨y,G,rfl⟩:=Br.mp h
   obtain⟨U,Y,N⟩:=dQ G;exact⟨by simp,by simp[U],λp J=>by simp[Y p J],by simp;lia⟩
  .obtain⟨O,U,Y,N⟩:=fM h
   exact⟨by simp[O],by simp[U],λp J=>by simp[Y p J],by simp;lia⟩
def vU (l:Aa Pt)(i:Ah)(h:i<l.length)(S:ap):cg (.tup (l.map av)) (.int (i:An)) S=.ok (av (l.getD i (0,0))) S:=by
 refine xK (X8 (pT (show i<(l.map av).length by rw[Ap];exact h)) ⟨?_,rfl⟩)
 rw[Vf]
 congr 1
 simp[Hv,h]
def cO {Y:DA}(h:Y ak S=.ok as S)(e:uL as=Ab ds):zY (xI Y) ak S=.ok (none,ds) S:=by
 unfold zY xI;rw[h,bb.bind_ok,e];rfl
def NR {a b:An}(h : -1000<=a/\a<=1001 /\ -1000<=b/\b<=1000):uL [.int a,.int b]=Ab (wL a (b-a).toNat):=by
 unfold uL;exact Bg ⟨by lia,by lia,by lia,by lia⟩
def UJ (l:Aa Pt)(O:l.length<=1000)(S:ap){N:An}(L:N=l.length):zH false [none,none,Ab 0,Ab 1] (zY (xI (qA (qB 1) qC))) (bh 0) xB (kIn (zY (xI (qA (d2 zB (qB 0) (dC (.int 1))) (qA (qB 3) qC)))) (bh 1) xB (zL (qP (qA (d2 cg (qB 2) (qB 0)) (qA (d2 cg (qB 2) (qB 1)) (qA (mi (qB 2) (zP (d2 zB (qB 1) (dC (.int 1)))) x9) qC)))))) [Ab (.tup (l.map av)),Ab (.int N)] S=.ok (.lst ((jj l).map rf)) S:=by
 have U:((Cf l.length).flatMap λi=>(((Cf (l.length-(i+1))).map λj=>i+1+j).filter λ_=>true).map λj=>rf (l.getD i (0,0),l.getD j (0,0),l.drop (j+1)))=(jj l).map rf:=by
  rw[<- V2 l,Vg]
  congr 1
  funext i
  rw[Kr.mpr λ_ _=>rfl,Ds,Ds];rfl
 have J:((jj l).map rf).length<=bq:=by
  rw[Ap];have I:=oX l;have E:l.length*l.length<=1000*1000:=Ye O O;unfold bq
  lia
 have G:=FA (fq:=λ(i:Ah)=>D.int (i:An)) (td:=λ(i:Ah)=>D.int (i:An)) (bw:=[none,none,Ab 0,Ab 1]) (fi:=zY (xI (qA (qB 1) qC))) (g:=bh 0) (t:=xB) (yz:=zY (xI (qA (d2 zB (qB 0) (dC (.int 1))) (qA (qB 3) qC)))) (g2:=bh 1) (t2:=xB) (fe:=qP (qA (d2 cg (qB 2) (qB 0)) (qA (d2 cg (qB 2) (qB 1)) (qA (mi (qB 2) (zP (d2 zB (qB 1) (dC (.int 1)))) x9) qC)))) (ak:=[Ab (.tup (l.map av)),Ab (.int N)]) (S:=S) (o:=none) (o2:=none) (xs:=Cf l.length)
  (cO (as:=[.int N]) rfl (qAm L li)) trivial trivial (λi=>(Cf (l.length-(i+1))).map λj=>i+1+j) (λ_ _=>true) (λi j=>rf (l.getD i (0,0),l.getD j (0,0),l.drop (j+1)))
  (λak=>∃ a b,ak=[a,b,Ab (.tup (l.map av)),Ab (.int N)]) (λi ak=>∃ b,ak=[Ab (.int (i:An)),b,Ab (.tup (l.map av)),Ab (.int N)]) ⟨none,none,rfl⟩ (λi ak ⟨b,e⟩=>⟨_,_,e⟩) (by rw[U];exact J)
  (λi Y ak ⟨a,b,e⟩=>by
   subst e;refine⟨_,rfl,⟨_,rfl⟩,rfl,?_⟩;have Y:i<l.length:=Dt.mp Y;refine cO (as:=[.int ((i:An)+1),.int N]) rfl ?_;rw[NR li];unfold wL;rw[Ds,show (N-((i:An)+1)).toNat=l.length-(i+1) by lia]
   rfl)
  (λi Y j T ak ⟨b,e⟩=>by
   subst e;have Y:i<l.length:=Dt.mp Y;obtain⟨m,B,rfl⟩:=Br.mp T;have B:m<l.length-(i+1):=Dt.mp B;refine⟨_,rfl,⟨_,rfl⟩,rfl,λ_=>?_⟩;refine xK (qAQ (jE (o_2 (o_v rfl (o_v rfl (qR (vU l i Y S) ?_)))))) ;refine jE (o_2 (o_v rfl (o_v rfl (qR (vU l (i+1+m) li S) ?_))));rfl';refine⟨?_,rfl⟩;rw[show (((i+1+m:Ah):An)+1)=((i+1+m+1:Ah):An) by lia,tQ _ _ (by rw[Ap];lia)]
   unfold rf;rw[Uf])
 rw[U] at G;exact G
def aE (l:Aa Pt)(B:l.length<=1000)(S:ap):bz [.tup (l.map av)] S=.ok (.lst ((jj l).map rf)) S:=by
 obtain⟨N,U⟩:∃ N:An,N=l.length:=⟨_,rfl⟩;have Y:=UJ l B S U;obtain⟨F,J⟩:∃ F:DE,F=zH false [none,none,Ab 0,Ab 1] (zY (xI (qA (qB 1) qC))) (bh 0) xB (kIn (zY (xI (qA (d2 zB (qB 0) (dC (.int 1))) (qA (qB 3) qC)))) (bh 1) xB (zL (qP (qA (d2 cg (qB 2) (qB 0)) (qA (d2 cg (qB 2) (qB 1)) (qA (mi (qB 2) (zP (d2 zB (qB 1) (dC (.int 1)))) x9) qC)))))):=⟨_,rfl⟩;rw[<- J] at Y;have O:zO [.tup (l.map av)] S=.ok (.int N) S:=by
  rw[U,<- Ap (f:=av)];rfl
 have G:dj=qI (qS (qG zO (qA (qB 0) qC)) (bh 1)) (qU F):=by rw[J]
 rw[yV,G];refine xK (zD (ak:=[Ab (.tup (l.map av)),none]) rfl ?_);array_get_dec;array_get_dec;array_get_dec;array_get_dec;array_get_dec;array_get_dec;refine qR O ?_;rfl';refine qR Y ?_;rfl';exact⟨rfl,rfl⟩
def Al (S:ap):Aa Ah->Aa (Aa Pt)->Prop
 |[],[]=>Qn
 |j::Y,g::G=>S[j]? = Ab (.lst (g.map av))/\Al S Y G
 |_,_=>Ex
theorem rJ {J:ap}:∀ {Y:Aa Ah} {G:Aa (Aa Pt)},Y.length=G.length->(∀ (i j:Ah) (g:Aa Pt),Y[i]? = Ab j->G[i]? = Ab g->J[j]? = Ab (.lst (g.map av)))->Al J Y G
 |[],[],_,_=>trivial
 |[],_::_,h,_=>by simp at h
 |_::_,[],h,_=>by simp at h
 |j::Y,g::G,h,k=>⟨k 0 j g rfl rfl,rJ (by simpa using h) λi=>k (i+1)⟩
theorem dI (S:ap)(n:Ah):∀ g:Aa Pt,mapO (xD (n+1) S) (g.map av)=Ab (g.map av)
 |[]=>rfl
 |p::g=>by
  have e:xD (n+1) S (av p)=Ab (av p):=by cases n <;> rfl
  rw[Cu,mapO,e,dI S n g]
theorem VO:∀ {Y:Aa Ah} {G:Aa (Aa Pt)},Al S Y G->mapO (xD 19 S) (Y.map D.loc)=Ab (G.map λg=>D.lst (g.map av))
 |[],[],_=>rfl
 |[],_::_,h=>h.elim
 |_::_,[],h=>h.elim
 |j::Y,g::G,h=>by
  have e:xD 19 S (.loc j)=Ab (.lst (g.map av)):=by
   show (match S[j]? with|some (MO.lst J)=>(mapO (xD 18 S) J).map D.lst|_=>none)=_
   rw[h.1];show (mapO (xD 18 S) (g.map av)).map D.lst=_;rw[dI S 17 g];rfl
  rw[Cu,mapO,e,VO h.2];rfl
def OF (G:Aa (Aa Pt))(ps:Aa Pt):zQ (G.map λg=>D.lst (g.map av)) [.lst (ps.map av)]=decide (G=[ps]):=by
 match G with
 |[]=>simp[zQ]
 |[g] =>
  show (zQ (g.map av) (ps.map av)&&true)=_;rw[WQ,Ze];exact Ko.mpr ⟨λh=>by rw[h],λh=>by injection h⟩
 |g::Y::G =>
  show (zQ (g.map av) (ps.map av)&&false)=_;rw[Kh];exact(Co bB).symm
def BP (G:Aa (Aa Pt)):pl wI (.lst (G.map λg=>D.lst (g.map av)))=true:=by
 show ((G.map λg=>D.lst (g.map av)).all (pl 29))=true;rw[Jr];refine Bn.mpr λg _=>?_;show ((g.map av).all (pl 28))=true;rw[Jr];exact Bn.mpr λp _=>rfl
def yv:Aa Pt->Au
 |a::b::c::r=>decide (Gp (sl a b) (r.length+1) (c::r)=[c::r])
 |_=>true
def qAG (c:Cl){M:Ah}(B:M<=40){l:Aa Pt}(L:oi M l){S:ap}(q:∀ Y,S<+:Y->Q (.bl (yv l)) Y):Ok (ci c [z9 l] S) Q:=by
 have O:=L.len;rw[uH];refine zD (ak:=[Ab (z9 l)]) rfl ?_;rfl';refine qR (kH c S (a8 l) (mR B L)) ?_;unfold z9;rfl';rw[Ap];refine xE (λz=>?_) λz=>?_
 .rfl'
  have:yv l=true:=by
   match l with
   |[]=>rfl
   |[_]=>rfl
   |[_,_]=>rfl
   |_::_::_::_=>simp at z;lia
  rw[<- this];exact q S (AT _)
 .match l,L with
  |[],_=>simp at z
  |[_],_=>simp at z
  |[_,_],_=>simp at z
  |a::b::p::r,L =>
   rfl';refine qR (vU (a::b::p::r) 0 bB S) ?_
   rfl';refine qR (vU (a::b::p::r) 1 bB S) ?_
   rfl';have U:xA (Rh av (a::b::p::r)) (Ab 2) none=(p::r).map av:=by
    have:=tQ (Rh av (a::b::p::r)) 2 bB
    exact this
   rw[U];have J:=L.box;refine t8 (J a bB) (J b bB) (λx N=>J x (by simp at N ⊢;exact .inr (.inr N))) (by simp at O ⊢;lia) λT Y G=>?_
   rfl';rw[U];rfl';have al:=rJ G.len G.at';refine nO (gg:=k_) (x:=.lst ((Gp (sl a b) (p::r).length (p::r)).map λg=>D.lst (g.map av))) (y:=.lst [.lst ((p::r).map av)]) (z:=.bl (yv (a::b::p::r))) ?_ ?_ ?_ rfl (q Y G.pre)
   .show (mapO (xD 19 Y) (T.map D.loc)).map D.lst=_
    rw[VO al];rfl
   .show (mapO (xD 19 Y) [.lst ((p::r).map av)]).map D.lst=_
    have e:xD 19 Y (.lst ((p::r).map av))=Ab (.lst ((p::r).map av)):=by
     show (mapO (xD 18 Y) ((p::r).map av)).map D.lst=_;rw[dI Y 17];rfl
    rw[mapO,e];rfl
   .unfold k_
    have:=BP [p::r];rw[BP,show pl wI (.lst [.lst ((p::r).map av)])=true from this]
    show bb.ok (D.bl (zQ _ _)) _=_;rw[OF];rfl
def rh (x:Pt × Pt × Aa Pt):Aa (Aa Pt):=Gp (sl x.1 x.2.1) x.2.2.length x.2.2
def sm (G:Aa (Aa Pt)):Ah:=(G.map λg=>two g.length).sum
def wJ (xs:Aa (Pt × Pt × Aa Pt)):Ah:=(xs.map λx=>sm (rh x)).sum
def qAy {a b:An}(e:ak[i]? = Ab (Ab (.int a)))(Y:f ak S=.ok (.int b) S)(h:Wo P (.nx (ak.set i (Ab (.int (a+b)))) S)):Wo P (bJ i tY f ak S):=by
 have:bJ i tY f ak S=.nx (ak.set i (Ab (.int (a+b)))) S:=by
  unfold bJ;rw[e];dsimp only;rw[Y];rfl
 rw[this];exact h
def LD (m:Ah):((m:An)*((m:An)-1))/2=(two m:An):=by
 unfold two;cases m with
 |zero=>rfl
 |succ m =>
  rw[Ir,show (((m+1:Ah):An)-1)=(m:An) by lia,<- AbG]
  generalize (m+1)*m=x
  lia
def D2 (κ : Pt->Ak Pt)(n:Ah)(ps:Aa Pt){N:Ah}(h:ps.length<=N):∀ g∈Gp κ n ps,g.length<=N:=λg Y=>Cg (rH κ n ps g Y) h
def TC (c:Cl){M:Ah}(n:M<=40){l:Aa Pt}(L:oi M l){S:ap}(q:∀ N,S<+:N->Q (.int (wJ (jj l):An)) N):Ok (br c [z9 l] S) Q:=by
 have hl:=L.len;rw[yU];refine zD (ak:=[Ab (z9 l),none,none,none,none,none]) rfl ?_;rfl';refine qR (kH c S (a8 l) (mR n L)) ?_;unfold z9;rfl';refine qR (aE l li S) ?_;rfl';refine wB (fq:=rf) (λU ak N=>∃ (t:Ah) (z A u O:Ak D),ak=[Ab (.tup (l.map av)),Ab (.int (t:An)),z,A,u,O]/\t+wJ U=wJ (jj l)/\S<+:N/\∀ x∈U,x∈jj l) ?_ ?_ ⟨0,_,_,_,_,rfl,by lia,AT _,λ_ h=>h⟩
 .rintro x U _ N ⟨t,z,A,u,O,rfl,B,I,o⟩
  obtain⟨m1,m,m3,m4⟩:=fM (o x bB)
  unfold rf;rfl';refine t8 (L.box _ m1) (L.box _ m) (λp I=>L.box p (m3 p I)) li λY H k=>?_;rfl';have al:=rJ k.len k.at';have T:∀ g∈rh x,g.length<=40:=D2 _ _ _ li;have E:t+(sm (rh x)+wJ U)=wJ (jj l):=by rw[<- B];rfl
  have al:Al H Y (rh x):=al;generalize rh x=G0 at al T E;refine gF (λv ak s=>∃ (Y:Aa Ah) (G:Aa (Aa Pt)) (t:Ah) (O:Ak D),v=Y.map D.loc/\s=H/\Al H Y G/\(∀ g∈G,g.length<=40)/\t+(sm G+wJ U)=wJ (jj l)/\ak=[Ab (.tup (l.map av)),Ab (.int (t:An)),Ab (av x.1),Ab (av x.2.1),Ab (.tup (x.2.2.map av)),O]) ?_ ?_ ⟨Y,G0,t,_,rfl,rfl,al,T,E,rfl⟩
  .rintro d v _ _ ⟨Y,G,t,O,J,rfl,al,T,B,rfl⟩
   match Y,G,al with
   |[],_,_=>cases J
   |j::Y,[],al=>exact al.elim
   |j::Y,g::G,al =>
    injection J with e h2
    subst e h2;have gl:=T g bB
    rfl';refine qAy (a:=(t:An)) (b:=(two g.length:An)) rfl (xK ?_) ?_
    .rfl'
     refine kZ al.1 ?_;rw[Ap];rfl';refine kZ al.1 ?_;rw[Ap];rfl';exact⟨by rw[LD],rfl⟩
    .refine xM ⟨Y,G,t+two g.length,Ab (.loc j),rfl,rfl,al.2,λg w=>T g (by simp[w]),?_,?_⟩
     .rw[<- B]
      show _=t+((two g.length+sm G)+wJ U)
      lia
     .rw[Int.natCast_add]
      rfl
  .rintro _ _ ⟨Y,G,t,O,J,rfl,al,T,B,rfl⟩
   match Y,G,al with
   |[],[],_ =>
    refine xM ⟨t,_,_,_,_,rfl,?_,I.trans k.pre,λy r=>o y (by simp[r])⟩
    rw[<- B];show t+wJ U=t+(0+wJ U)
    lia
   |[],_::_,al=>exact al.elim
   |_::_,_,_=>cases J
 .rintro _ N ⟨t,z,A,u,O,rfl,B,I,_⟩
  rfl';have:t=wJ (jj l):=by rw[<- B];rfl
  rw[<- this] at q;exact q N I
abbrev P4:=Pt × Pt × Pt × Pt
def mq (x:P4):D:=.tup [av x.1,av x.2.1,av x.2.2.1,av x.2.2.2]
def xm:Ak P4->D
 |none=>.non
 |some x=>mq x
noncomputable def kA:Aa (Pt × Pt × Aa Pt)->Ak P4
 |[]=>none
 |x::Y=>match u4 (rh x) with
  |some y=>Ab (x.1,x.2.1,y.1,y.2)
  |none=>kA Y
def TB (c:Cl){M:Ah}(e:M<=40){l:Aa Pt}(L:oi M l){S:ap}(q:∀ N,S<+:N->Q (xm (kA (jj l))) N):Ok (bu c [z9 l] S) Q:=by
 have hl:=L.len;rw[yT];refine zD (ak:=[Ab (z9 l),none,none,none,none]) rfl ?_;rfl';refine qR (kH c S (a8 l) (mR e L)) ?_;unfold z9;rfl';refine qR (aE l li S) ?_;rfl';refine wB (fq:=rf) (λE ak N=>∃ (A H k O:Ak D),ak=[Ab (.tup (l.map av)),A,H,k,O]/\kA E=kA (jj l)/\S<+:N/\∀ x∈E,x∈jj l) ?_ ?_ ⟨_,_,_,_,rfl,rfl,AT _,λ_ h=>h⟩
 .rintro x E _ N ⟨A,H,k,O,rfl,J,T,o⟩
  obtain⟨m1,n,m3,m4⟩:=fM (o x bB)
  unfold rf;rfl';refine t8 (L.box _ m1) (L.box _ n) (λp T=>L.box p (m3 p T)) li λY I w=>?_;rfl';have al:Al I Y (rh x):=rJ w.len w.at';have B:=T.trans w.pre;have t:(match u4 (rh x) with|some y=>Ab (x.1,x.2.1,y.1,y.2)|none=>kA E)=kA (jj l):=J
  generalize rh x=G0 at al t;refine gF (λr ak b=>∃ (Y:Aa Ah) (G:Aa (Aa Pt)) (O:Ak D),r=Y.map D.loc/\b=I/\Al I Y G/\(match u4 G with|some y=>Ab (x.1,x.2.1,y.1,y.2)|none=>kA E)=kA (jj l)/\ak=[Ab (.tup (l.map av)),Ab (av x.1),Ab (av x.2.1),Ab (.tup (x.2.2.map av)),O]) ?_ ?_ ⟨Y,G0,_,rfl,rfl,al,t,rfl⟩
  .rintro d r _ _ ⟨Y,G,O,U,rfl,al,J,rfl⟩
   match Y,G,al with
   |[],_,_=>cases U
   |j::Y,[],al=>exact al.elim
   |j::Y,g::G,al =>
    injection U with s a
    subst s a;rfl';refine kZ al.1 ?_;rw[Ap];rfl'
    match g,al,J with
    |[],al,J =>
     refine xE (λz=>(by simp at z)) λ_=>?_
     rfl';exact xM ⟨Y,G,Ab (.loc j),rfl,rfl,al.2,J,rfl⟩
    |[_],al,J =>
     refine xE (λz=>(by simp at z)) λ_=>?_
     rfl';exact xM ⟨Y,G,Ab (.loc j),rfl,rfl,al.2,J,rfl⟩
    |u::v::g,al,J =>
     refine xE (λ_=>?_) λz=>absurd (show (1:An)<((u::v::g).length:An) by simp;lia) z
     rfl';refine vY (d:=av u) al.1 (by rw[show (0:An)=((0:Ah):An) from rfl,pT (show 0<((u::v::g).map av).length by simp)];rfl) ?_
     rfl';refine vY (d:=av v) al.1 (by rw[show (1:An)=((1:Ah):An) from rfl,pT (show 1<((u::v::g).map av).length by simp)];rfl) ?_
     rfl';refine U6 (U6 (qB8 ?_));have:=q _ B;rw[<- J] at this;exact this
  .rintro _ _ ⟨Y,G,O,U,rfl,al,J,rfl⟩
   match Y,G,al with
   |[],[],_=>exact xM ⟨_,_,_,_,rfl,J,B,λy m=>o y (by simp[m])⟩
   |[],_::_,al=>exact al.elim
   |_::_,_,_=>cases U
 .rintro _ N ⟨A,H,k,O,rfl,J,T,_⟩
  rfl';have:=q N T;rw[<- J] at this;exact this
noncomputable def nm (p:Pt):An:=p.1*p.1+p.2*p.2
def mA (a b c:Pt):An:=nm a*(b.2-c.2)+nm b*(c.2-a.2)+nm c*(a.2-b.2)
def mU (a b c:Pt):An:=nm a*(c.1-b.1)+nm b*(a.1-c.1)+nm c*(b.1-a.1)
def mB (a b c:Pt):An:=a.1*(b.2-c.2)+b.1*(c.2-a.2)+c.1*(a.2-b.2)
def YG (a b c:Pt):mB a b c=ik c a b:=by
 unfold mB ik
 grind
def fF (a b c p:Pt):An:=(p.1*(2*mB a b c)-mA a b c)*(p.1*(2*mB a b c)-mA a b c)+(p.2*(2*mB a b c)-mU a b c)*(p.2*(2*mB a b c)-mU a b c)
def eE (a b c d:Pt):mB a b c*(nm d-nm a)-((d.1-a.1)*mA a b c+(d.2-a.2)*mU a b c)=dt d a b*ik c a b-dt c a b*ik d a b:=by
 obtain⟨Y,O⟩:=a;obtain⟨N,G⟩:=b;obtain⟨U,J⟩:=c;obtain⟨d1,d2⟩:=d;unfold mB mA mU nm dt ik;dsimp only
 grind
def ZR (a b c d:Pt):fF a b c d-fF a b c a=4*mB a b c*(dt d a b*ik c a b-dt c a b*ik d a b):=by
 rw[<- eE];unfold fF nm;generalize mB a b c=B;generalize mA a b c=X;generalize mU a b c=Y
 grind
def BB {a b d c:Pt}(h:ik c a b≠0):fF a b c d=fF a b c a↔On a b c d:=by
 have e:=ZR a b c d;rw[YG] at e;constructor
 .intro q
  refine⟨h,?_⟩;rw[q,Ku] at e;rcases Lo.mp e.symm with z|z
  .rcases Lo.mp z with z|z
   .lia
   .exact absurd z h
  .omega
 .rintro⟨_,q⟩
  rw[q,Ku,Je] at e
  lia
def qBX (a b c:Pt):fF a b c b=fF a b c a:=by
 have e:=ZR a b c b;have Y:dt b a b=0:=by unfold dt;rw[Ku,Ku,Je,Je];rfl
 have J:ik b a b=0:=by unfold ik;rw[Ku,Ku,Je,Je];rfl
 rw[Y,J,Int.zero_mul,Je,Ku,Je] at e
 lia
def qBY (a b c:Pt):fF a b c c=fF a b c a:=by
 have e:=ZR a b c c;rw[Ku,Je] at e
 lia
def nQ {a b c:Pt}(Y:dz 1000 a)(U:dz 1000 b)(J:dz 1000 c){S:ap}(k:Q (.bl (decide (ik c a b=0))) S):Ok (cq [av a,av b,av c] S) Q:=by
 have N : -1000<=a.1/\a.1<=1000 /\ -1000<=a.2/\a.2<=1000:=Y;have G : -1000<=b.1/\b.1<=1000 /\ -1000<=b.2/\b.2<=1000:=U;have O : -1000<=c.1/\c.1<=1000 /\ -1000<=c.2/\c.2<=1000:=J;rw[u0];refine zD (ak:=[Ab (av a),Ab (av b),Ab (av c),none]) rfl ?_;rfl';have e:decide ((b.1-a.1)*(c.2-a.2)=(c.1-a.1)*(b.2-a.2))=decide (ik c a b=0):=by
  apply Ko.mpr;have:ik c a b=(b.1-a.1)*(c.2-a.2)-(c.1-a.1)*(b.2-a.2):=by unfold ik;grind
  rw[this]
  omega
 rw[e];exact k
def X5 (h:dz 1000 p):0<=nm p/\nm p<=2000000:=by
 unfold dz at h;have J:=mY (show -1000<=p.1/\p.1<=1000 by lia) (show -1000<=p.1/\p.1<=1000 by lia)
 have Y:=mY (show -1000<=p.2/\p.2<=1000 by lia) (show -1000<=p.2/\p.2<=1000 by lia)
 have sq:∀ t:An,0<=t*t:=λt=>by
  rcases Int.le_total 0 t with q|q
  .exact Se q q
  .exact Ot q q
 have:=sq p.1;have:=sq p.2;unfold nm
 lia
def tA (x:Pt × Pt × Pt):An:=nm x.1*(x.2.1.2-x.2.2.2)
def tU (x:Pt × Pt × Pt):An:=nm x.1*(x.2.2.1-x.2.1.1)
def tB (x:Pt × Pt × Pt):An:=x.1.1*(x.2.1.2-x.2.2.2)
def t3 (x:Pt × Pt × Pt):D:=.tup [av x.1,av x.2.1,av x.2.2]
def qAL {a b c:Pt}(L:dz 1000 a)(H:dz 1000 b)(T:dz 1000 c){S:ap}(k:Q (.tup [.int (mA a b c),.int (mU a b c),.int (2*mB a b c)]) S):Ok (ez [av a,av b,av c] S) Q:=by
 rw[uY];refine zD (ak:=[Ab (av a),Ab (av b),Ab (av c),none,none,none,none,none,none,none,none]) rfl ?_;rfl';refine wB (fq:=t3) (xs:=[(a,b,c),(b,c,a),(c,a,b)]) (λxs ak q=>q=S/\(∀ x∈xs,dz 1000 x.1/\dz 1000 x.2.1/\dz 1000 x.2.2)/\∃ (A U B:An) (I w E M Y:Ak D),ak=[Ab (av a),Ab (av b),Ab (av c),Ab (.int A),Ab (.int U),Ab (.int B),I,w,E,M,Y]/\A+(xs.map tA).sum=mA a b c/\U+(xs.map tU).sum=mU a b c/\B+(xs.map tB).sum=mB a b c) ?_ ?_ ⟨rfl,?_,0,0,0,_,_,_,_,_,rfl,?_,?_,?_⟩
 .rintro x xs _ _ ⟨rfl,G,A,U,B,I,w,E,M,Y,rfl,O,J,N⟩
  obtain⟨z,g,p⟩:=G x bB
  have d:=X5 z;have l : -1000<=x.1.1/\x.1.1<=1000 /\ -1000<=x.1.2/\x.1.2<=1000:=z;unfold t3;rfl';have o:x.1.1*x.1.1+x.1.2*x.1.2=nm x.1:=rfl;rw[o];rfl';refine xM ⟨rfl,λy u=>G y (by simp[u]),_,_,_,_,_,_,_,_,rfl,?_,?_,?_⟩
  .rw[<- O,Cu,Ql]
   show A+tA x+_=_
   lia
  .rw[<- J,Cu,Ql]
   show U+tU x+_=_
   lia
  .rw[<- N,Cu,Ql]
   show B+tB x+_=_
   lia
 .rintro _ _ ⟨rfl,_,A,U,B,I,w,E,M,Y,rfl,O,J,N⟩
  have O:A=mA a b c:=by simpa using O
  have J:U=mU a b c:=by simpa using J
  have N:B=mB a b c:=by simpa using N
  subst O J N;rfl';exact k
 .intro x G
  simp only[Ba,Dv,HT] at G;rcases G with rfl|rfl|rfl
  .exact⟨L,H,T⟩
  .exact⟨H,T,L⟩
  .exact⟨T,L,H⟩
 .simp[tA,mA];lia
 .simp[tU,mU];lia
 .simp[tB,mB];lia
def HA {p q:Pt}(h1 : -(2 ^ 64)<p.1-q.1/\p.1-q.1<2 ^ 64)(h2 : -(2 ^ 64)<p.2-q.2/\p.2-q.2<2 ^ 64)(h:Q (.int (uv p q)) S):Ok (gt [av p,av q] S) Q:=by
 rw[pH];refine zD (ak:=[Ab (av p),Ab (av q),none,none]) rfl ?_;rfl';exact h
def qBl {a b c:Pt}(Y:dz 1000 a)(U:dz 1000 b)(J:dz 1000 c) : -8000000<=mB a b c/\mB a b c<=8000000:=by
 rw[YG];exact B6 J Y U
def OZ {a b c:Pt}(Y:dz 1000 a)(G:dz 1000 b)(J:dz 1000 c):(-12000000000<=mA a b c/\mA a b c<=12000000000)/\(-12000000000<=mU a b c/\mU a b c<=12000000000):=by
 have N:=X5 Y;have O:=X5 G;have U:=X5 J;have A : -1000<=a.1/\a.1<=1000 /\ -1000<=a.2/\a.2<=1000:=Y;have L : -1000<=b.1/\b.1<=1000 /\ -1000<=b.2/\b.2<=1000:=G;have w : -1000<=c.1/\c.1<=1000 /\ -1000<=c.2/\c.2<=1000:=J;have k:∀ {n x:An},0<=n/\n<=2000000 -> -2000<=x/\x<=2000 -> -4000000000<=n*x/\n*x<=4000000000:=λ{n x} z B=>by
  have:=mY (show -2000000<=n/\n<=2000000 by fin2) B
  fin2
 have I:=k N (show -2000<=b.2-c.2/\b.2-c.2<=2000 by fin2)
 have y:=k O (show -2000<=c.2-a.2/\c.2-a.2<=2000 by fin2)
 have E:=k U (show -2000<=a.2-b.2/\a.2-b.2<=2000 by fin2)
 have M:=k N (show -2000<=c.1-b.1/\c.1-b.1<=2000 by fin2)
 have H:=k O (show -2000<=a.1-c.1/\a.1-c.1<=2000 by fin2)
 have T:=k U (show -2000<=b.1-a.1/\b.1-a.1<=2000 by fin2)
 unfold mA mU;fin2
def Q6 (S:ap)(n:Ah)(xs:Aa An):mapO (xD n S) (xs.map D.int)=Ab (xs.map D.int):=dB λx Y=>by
 obtain⟨i,_,rfl⟩:=Br.mp Y;cases n <;> rfl
theorem o6:∀ (a b:Aa An),zQ (a.map D.int) (b.map D.int)=decide (a=b)
 |[],[]=>rfl
 |[],_::_=>by simp[zQ]
 |_::_,[]=>by simp[zQ]
 |x::a,y::b=>by
  show (x == y&&zQ (a.map D.int) (b.map D.int))=_;rw[o6 a b,NE];simp
def HD {a b d c:Pt}(O:dz 1000 a)(B:dz 1000 b)(L:dz 1000 c)(w:dz 1000 d){S:ap}(q:∀ J,S<+:J->Q (.bl (decide (On a b c d))) J):Ok (dh [av a,av b,av c,av d] S) Q:=by
 rw[j3];refine zD (ak:=[Ab (av a),Ab (av b),Ab (av c),Ab (av d),none,none,none,none,none]) rfl ?_;rfl';refine nQ O B L ?_;rfl';refine xE (λz=>?_) λz=>?_
 .rfl'
  have:decide (On a b c d)=false:=Co λh=>h.1 z;rw[<- this];exact q S (AT _)
 .rfl'
  refine qAL O B L ?_;rfl';have u:=qBl O B L;obtain⟨o,g⟩:=OZ O B L;refine wB (fq:=av) (xs:=[a,b,c,d]) (λxs ak J=>∃ (U:Aa Pt) (T:Ak D),U++xs=[a,b,c,d]/\ak=[Ab (av a),Ab (av b),Ab (av c),Ab (av d),Ab (.int (mA a b c)),Ab (.int (mU a b c)),Ab (.int (2*mB a b c)),Ab (.loc S.length),T]/\J[S.length]? = Ab (.lst ((U.map (fF a b c)).map D.int))/\∀ m,m<S.length->J[m]? = S[m]?) ?_ ?_ ⟨[],_,rfl,rfl,by simp,λm N=>Bb N⟩
  .rintro p xs _ J ⟨U,T,Y,rfl,G,N⟩
   have H:dz 1000 p:=by
    have:p∈[a,b,c,d]:=by rw[<- Y];simp
    simp only[Ba,Dv,HT] at this;rcases this with rfl|rfl|rfl|rfl <;> assumption
   have A : -1000<=p.1/\p.1<=1000 /\ -1000<=p.2/\p.2<=1000:=H;have M:=mY (show -1000<=p.1/\p.1<=1000 by fin2) (show -16000000<=2*mB a b c/\2*mB a b c<=16000000 by fin2)
   have l:=mY (show -1000<=p.2/\p.2<=1000 by fin2) (show -16000000<=2*mB a b c/\2*mB a b c<=16000000 by fin2)
   have dl:U.length<=4:=by
    have:=congrArg Np Y;rw[Bj] at this;simp at this;fin2
   rfl';refine⟨jZ G,?_⟩;rfl';refine HA (p:=(p.1*(2*mB a b c),p.2*(2*mB a b c))) (q:=(mA a b c,mU a b c)) (by dsimp only;fin2) (by dsimp only;fin2) ?_
   rfl';refine fG G (by rw[Ap,Ap];unfold bq;fin2) ?_
   rfl';have E:=(Ay.mp G).1;refine xM ⟨U++[p],_,by rw[<- Y];simp,rfl,?_,λm h=>by rw[Ci om];exact N m h⟩
   rw[Dj E,Di,Di];rfl
  .rintro _ J ⟨U,T,Y,rfl,G,N⟩
   have Y:U=[a,b,c,d]:=by simpa using Y
   subst Y;rfl';refine⟨.lst [.int (fF a b c a)],J,?_,?_⟩
   .show (match J[S.length]? with|some (MO.lst xs)=>bb.ok (D.lst (xA xs none (Ab 1))) J|_=>.bad)=_
    rw[G];rfl
   rfl';refine YS (k:=4) ⟨by simp[bq],by fin2⟩ ?_
   have I:decide ([fF a b c a,fF a b c b,fF a b c c,fF a b c d]=[fF a b c a,fF a b c a,fF a b c a,fF a b c a])=decide (On a b c d):=by
    refine Ko.mpr ?_;rw[qBX,qBY];constructor
    .intro h
     injection h with _ h
     injection h with _ h
     injection h with _ h
     injection h with h _
     exact(BB z).mp h
    .intro h
     rw[(BB z).mpr h]
   refine nO (gg:=k_) (x:=.lst ([fF a b c a,fF a b c b,fF a b c c,fF a b c d].map D.int)) (y:=.lst ([fF a b c a,fF a b c a,fF a b c a,fF a b c a].map D.int)) (z:=.bl (decide (On a b c d))) ?_ ?_ ?_ rfl (q J (V1 N))
   .show (match J[S.length]? with|some (MO.lst xs)=>(mapO (xD 19 J) xs).map D.lst|_=>none)=_
    rw[G];show (mapO (xD 19 J) ([fF a b c a,fF a b c b,fF a b c c,fF a b c d].map D.int)).map D.lst=_;rw[Q6];rfl
   .show (mapO (xD 19 J) ([fF a b c a,fF a b c a,fF a b c a,fF a b c a].map D.int)).map D.lst=_
    rw[Q6];rfl
   .rw[<- I,<- o6]
    rfl
def si:Aa Pt->Aa Pt->Au
 |[],[]=>false
 |[],_::_=>true
 |_::_,[]=>false
 |p::ps,q::Y=>if p=q then si ps Y else qh p q
def T3 (p:Pt):qh p p=false:=_S.xZ.irr _
def YF (h1:qh p q=true)(h2:qh q r=true):qh p r=true:=_S.xZ.tr h1 h2
def kU (h:qh p q=true):p≠q:=λe=>by subst e;rw[T3] at h;cases h
def AU (n:Ah)(l:Aa Pt):Tr (n+2) (z9 l):=.tup _ _ λx Y=>by
 obtain⟨p,_,rfl⟩:=Br.mp Y;exact rZ n p
def L9 (n:Ah)(l:Aa Pt):um (n+2) (z9 l)=true:=Bn.mpr λx Y=>by
 obtain⟨p,_,rfl⟩:=Br.mp Y;exact U1 n p
theorem eW:∀ a b:Aa Pt,yE (a.map av) (b.map av)=true
 |[],_=>rfl
 |_::_,[]=>rfl
 |p::a,q::b=>by
  show (yI (av p) (av q)&&yE (a.map av) (b.map av))=true;rw[eW a b];rfl
def oS (a b:Aa Pt):ltN (z9 a) (z9 b)=si a b:=by
 unfold z9;rw[fB]
 induction a generalizing b with
 |nil=>cases b with
  |nil=>rfl
  |cons q b=>exact(by rfl:_H.lexLt [0] (2::_)=true)
 |cons p a Y=>cases b with
  |nil=>exact(by rfl:_H.lexLt (2::_) [0]=false)
  |cons q b =>
   rw[Cu,Cu,uA (rZ 0 p) (rZ 0 q) rfl,Y,RL,YE];simp[si]
def YD {a b:Aa Pt}(h:si a b=true):si b a=false:=by
 rw[<- oS] at *;cases q:ltN (z9 b) (z9 a) with
 |false=>rfl
 |true=>exact absurd (_S.xZ.tr h q) (by rw[_S.xZ.irr];simp)
theorem oR {c d:Aa Pt}(h:si c d=true):∀ a:Aa Pt,si (a++c) (a++d)=true
 |[]=>h
 |p::a=>by
  simp only[Kn,si,Eb];exact oR h a
def YN {α:Type}(l:Aa α) : l=[]\/∃ Y b,l=Y++[b]:=by simpa only [Xr] using Xq l
noncomputable def v_ (n:Ah)(aw:Aa (Aa Pt))(p:Pt):Aa (Aa Pt):=aw++(aw.filter λl=>decide (l.length<n)).map λl=>l++[p]
def jd (n:Ah)(ps:Aa Pt):Aa (Aa Pt):=ps.foldl (v_ n) [[]]
theorem eR (n:Ah):∀ (k:Ah) (ps:Aa Pt),ps.length=k->Up ps->(∀ l,l∈jd n ps↔l.length<=n/\Up l/\∀ x∈l,x∈ps)/\(jd n ps).Nodup/\(jd n ps).length<=2 ^ k
 |0,ps,O,_=>by
  have:ps=[]:=Fu.mp O;subst this;refine⟨λl=>?_,by simp[jd],by simp[jd]⟩
  constructor
  .intro h
   have:l=[]:=by simpa [jd] using h
   subst this;simp
  .rintro⟨_,_,h⟩
   cases l with
   |nil=>simp[jd]
   |cons x l=>exact absurd (h x bB) bB
 |k+1,ps,O,hu=>by
  rcases YN ps with rfl|⟨ps,p,rfl⟩
  .cases O
  .obtain⟨t,_,s⟩:=Dh.mp hu
   have T:∀ x∈ps,qh x p=true:=λx hx=>s x hx p bB
   obtain⟨Y,H,m⟩:=eR n k ps (by simpa using O) t
   have e:jd n (ps++[p])=v_ n (jd n ps) p:=by simp[jd]
   rw[e];generalize jd n ps=F at Y H m;refine⟨λl=>?_,?_,?_⟩
   .unfold v_
    rw[Bq];constructor
    .rintro (h|h)
     .obtain⟨z,I,N⟩:=(Y l).mp h
      exact⟨z,I,λx hx=>by simp[N x hx]⟩
     .obtain⟨J,B,rfl⟩:=Br.mp h
      obtain⟨B,d⟩:=La.mp B;obtain⟨z,I,N⟩:=(Y J).mp B;have o:J.length<n:=by simpa using d
      refine⟨by simp;lia,?_,λx hx=>?_⟩
      .exact Dh.mpr ⟨I,by simp,λx hx y g=>by
        have:y=p:=by simpa using g
        subst this;exact T x (N x hx)⟩
      .rcases Bq.mp hx with hx|hx
       .simp[N x hx]
       .simp at hx;simp[hx]
    .rintro⟨A,w,E⟩
     rcases YN l with rfl|⟨J,q,rfl⟩
     .exact .inl ((Y []).mpr ⟨by simp,by simp,by simp⟩)
     .obtain⟨b1,_,b3⟩:=Dh.mp w
      have U:∀ x∈J,qh x q=true:=λx hx=>b3 x hx q bB
      by_cases u:q=p
      .subst u
       refine .inr (Br.mpr ⟨J,La.mpr ⟨(Y J).mpr ⟨by simp at A;lia,b1,λx hx=>?_⟩,Dc (by simp at A;lia)⟩,rfl⟩)
       rcases Bq.mp (E x (by simp[hx])) with h|h
       .exact h
       .have:x=q:=by simpa using h
        exact absurd this (kU (U x hx))
      .have G:q∈ps:=by
        rcases Bq.mp (E q bB) with h|h
        .exact h
        .exact absurd (by simpa using h) u
       refine .inl ((Y _).mpr ⟨A,w,λx hx=>?_⟩);rcases Bq.mp (E x hx) with h|h
       .exact h
       .have M:x=p:=by simpa using h
        rcases Bq.mp hx with hx|hx
        .have:=YF (U x hx) (T q G)
         exact absurd M (kU this)
        .have:x=q:=by simpa using hx
         rw[this];exact G
   .unfold v_
    rw[Gz];refine⟨H,?_,λa v b r L=>?_⟩
    .unfold Vc
     rw[Dq];exact(H.filter _).imp λh e=>h (List.append_cancel_right e)
    .subst L
     obtain⟨J,B,rfl⟩:=Br.mp r;have:=((Y _).mp v).2.2 p bB
     exact absurd rfl (kU (T p this))
   .unfold v_
    rw[Bj,Ap,Nat.pow_succ];have:=Fa (λl=>decide (l.length<n)) F
    lia
def DP (Y:Aa Pt)(p:Pt)(S:ap)(h:Y.length<=50):zB (z9 Y) (.tup [av p]) S=.ok (z9 (Y++[p])) S:=by
 have J:(Y.map av).length+1<=bq:=by
  rw[Ap];unfold bq
  lia
 have e:zB (.tup (Y.map av)) (.tup [av p]) S=.ok (.tup (Y.map av++[av p])) S:=Bg J;unfold z9;rw[e,Di];rfl
def F7 (n:Ah)(ps:Aa Pt)(p:Pt):jd n (ps++[p])=v_ n (jd n ps) p:=by simp[jd]
def iR {b:Au}(h:f ak S=.ok (.bl b) S):yN (dw f) xB ak S=.ok b S:=by
 unfold yN;rw[qAv h];cases b <;> rfl
def ER (a:Ah)(S:ap):ph (.int (a:An)) (.int 4) S=.ok (.bl (decide (a<4))) S:=by
 show bb.ok (D.bl (decide ((a:An)<4))) S=_;rw[(Ko.mpr ⟨λh=>by lia,λh=>by lia⟩:decide ((a:An)<4)=decide (a<4))]
def RN (a:Ah)(S:ap):k_ (.int (a:An)) (.int 4) S=.ok (.bl (decide (a=4))) S:=by
 refine xK (KQ ⟨?_,rfl⟩);rw[(Ko.mpr ⟨λh=>by lia,λh=>by lia⟩:decide ((a:An)=4)=decide (a=4))]
def oM (l:Aa Pt)(S:ap):zO [z9 l] S=.ok (.int (l.length:An)) S:=by
 unfold z9;rw[<- Ap (f:=av)];rfl
def ka:Ah->Aa Pt->Aa (Aa Pt)
 |0,_=>[[]]
 |_+1,[]=>[]
 |k+1,p::l=>(ka k l).map (λm=>p::m)++ka (k+1) l
theorem kS:∀ (k:Ah) {l:Aa Pt},Up l->∀ m,m∈ka k l↔m.length=k/\Up m/\∀ x∈m,x∈l
 |0,l,_,m=>by
  constructor
  .intro h
   have:m=[]:=by simpa [ka] using h
   subst this;simp
  .rintro⟨h,_⟩
   have:=Fu.mp h;subst this;simp[ka]
 |k+1,[],_,m=>by
  constructor
  .intro h
   simp[ka] at h
  .rintro⟨h,_,Y⟩
   cases m with
   |nil=>cases h
   |cons x _=>exact absurd (Y x bB) bB
 |k+1,p::l,u,m=>by
  obtain⟨B,N⟩:=Ea.mp u;rw[ka,Bq,kS (k+1) N m];constructor
  .rintro (h|⟨U,Y,J⟩)
   .obtain⟨n,E,rfl⟩:=Br.mp h
    obtain⟨H,A,O⟩:=(kS k N n).mp E;refine⟨by simp[H],Ea.mpr ⟨λx hx=>B x (O x hx),A⟩,λx hx=>?_⟩
    rcases Ba.mp hx with rfl|hx
    .simp
    .simp[O x hx]
   .exact⟨U,Y,λx hx=>by simp[J x hx]⟩
  .rintro⟨U,Y,J⟩
   cases m with
   |nil=>cases U
   |cons q n =>
    obtain⟨T,I⟩:=Ea.mp Y;by_cases L:q=p
    .subst L
     refine .inl (Br.mpr ⟨n,(kS k N n).mpr ⟨by simpa using U,I,λx hx=>?_⟩,rfl⟩)
     rcases Ba.mp (J x (by simp[hx])) with rfl|h
     .exact absurd rfl (kU (T x hx))
     .exact h
    .have G:q∈l:=by
      rcases Ba.mp (J q bB) with h|h
      .exact absurd h L
      .exact h
     refine .inr ⟨U,Y,λx hx=>?_⟩;rcases Ba.mp (J x hx) with rfl|h
     .rcases Ba.mp hx with rfl|hx
      .exact G
      .exact absurd rfl (kU (YF (B q G) (T x hx)))
     .exact h
theorem eV:∀ (k:Ah) {l:Aa Pt},Up l->(ka k l).Pairwise λa b=>si a b=true
 |0,l,_=>by simp[ka]
 |k+1,[],_=>by simp[ka]
 |k+1,p::l,u=>by
  obtain⟨G,Y⟩:=Ea.mp u;rw[ka,Dh];refine⟨?_,eV (k+1) Y,λa J b U=>?_⟩
  .rw[Dq]
   exact(eV k Y).imp λh=>oR h [p]
  .obtain⟨n,_,rfl⟩:=Br.mp J
   obtain⟨O,_,N⟩:=(kS (k+1) Y b).mp U;cases b with
   |nil=>cases O
   |cons q b =>
    have:=G q (N q bB)
    simp only[si,Bd (kU this)];exact this
theorem B0:∀ l:Aa Pt,ka 1 l=l.map λp=>[p]
 |[]=>rfl
 |p::l=>by rw[ka,B0 l,ka];rfl
theorem B3:∀ l:Aa Pt,ka 2 l=(wX l).map λy=>[y.1,y.2]
 |[]=>rfl
 |p::l=>by
  rw[ka,B0,B3 l,wX,Di,Ds,Ds];rfl
theorem B4:∀ l:Aa Pt,ka 3 l=(qv l).flatMap λx=>(wX x.2).map λy=>[x.1,y.1,y.2]
 |[]=>rfl
 |p::l=>by
  rw[ka,B3,B4 l,qv,Fx,Ds];rfl
abbrev l4 (x:P4):Aa Pt:=[x.1,x.2.1,x.2.2.1,x.2.2.2]
def c4 (l:Aa Pt):Aa P4:=(jj l).flatMap λx=>(wX x.2.2).map λy=>(x.1,x.2.1,y.1,y.2)
theorem ZJ:∀ l:Aa Pt,ka 4 l=(c4 l).map l4
 |[]=>rfl
 |p::l=>by
  unfold c4;rw[ka,B4,ZJ l,jj,List.flatMap_append,Di,Vg]
  congr 1
  rw[Ab5,Vg]
  congr 1
  funext x
  rw[Ds,Ds];rfl
def W8 (J:Up Y):pD (((jd 4 Y).filter λl=>decide (l.length=4)).map z9)=(ka 4 Y).map z9:=by
 obtain⟨N,U,_⟩:=eR 4 Y.length Y rfl J;have up:=eV 4 J;refine QM (n:=2) (λx G=>?_) (List.Perm.map _ ((Sv ?_ ?_).mpr λl=>?_)) ?_
 .obtain⟨l,_,rfl⟩:=Br.mp G
  exact AU 0 l
 .exact up.imp λ{a b} h e=>by
   subst e;rw[YD h] at h;cases h
 .exact U.filter _
 .rw[kS 4 J,La,N]
  constructor
  .rintro⟨a,b,c⟩
   exact⟨⟨by lia,b,c⟩,by simpa using a⟩
  .rintro⟨⟨a,b,c⟩,d⟩
   exact⟨by simpa using d,b,c⟩
 .rw[Dq]
  exact up.imp λh=>by rw[oS];exact YD h
def JK {xs Y:Aa D}(h:xs.length+Y.length<=bq)(S:ap):zB (.lst xs) (.lst Y) S=.ok (.lst (xs++Y)) S:=Bg h
inductive _o (pts:Aa Pt)(S:ap)(ds:Aa D)(env:qD)(S':ap):Prop
 |mk (ps qs:Aa Pt) (e3:Ak D) (h_0:S'=S) (h_1:env=[Ab (.tup (pts.map av)),Ab (.int 4),Ab (.lst ((jd 4 ps).map z9)),e3]) (h_2:ps++qs=pts) (h_3:ds=qs.map av):_o pts S ds env S'
def GR (Y:Aa Pt)(hp:Y.length<=16)(E:Up Y)(S:ap):e_ [.tup (Y.map av),.int 4] S=.ok (.lst ((c4 Y).map mq)) S:=by
 have big:∀ ps N,ps++N=Y->(jd 4 ps).length<=65536/\∀ l∈jd 4 ps,l.length<=50:=λps N e=>by
  have O:ps.length<=Y.length:=by have:=congrArg Np e;simp at this;lia
  have up:Up ps:=by rw[<- e] at E;exact(Dh.mp E).1
  obtain⟨a,_,c⟩:=eR 4 ps.length ps rfl up;refine⟨Cg c (Cg (Yq li (Cg O hp)) bU),λl O=>?_⟩
  have:=((a l).mp O).1
  lia
 have T:Rt (eh [Ab (.tup (Y.map av)),Ab (.int 4),none,none] S) λd J=>d=.lst ((c4 Y).map mq)/\J=S:=by
  unfold eh;have H:1<=bq:=by decide
  have z:0<=bq:=by decide
  refine VR (YQ (qR (d:=.lst [z9 []]) (EN (hZ (U2 (as:=[]) rfl z)) H) ?_));simp only[List.set_cons_succ,sB];refine VR (T7 (o:=none) (ds:=Y.map av) (S1:=S) rfl ?_);refine cT (_o Y S) (λds ak J h=>?_) ?_ ?_ ⟨[],Y,none,rfl,rfl,rfl,rfl⟩
  .obtain⟨ps,N,B,rfl,_,_,_⟩:=h
   trivial
  .rintro d ds ak J ⟨ps,N,B,rfl,rfl,G,U⟩
   cases N with
   |nil=>cases U
   |cons q N =>
    injection U with v M
    subst v M;refine⟨[Ab (.tup (Y.map av)),Ab (.int 4),Ab (.lst ((jd (4) ps).map z9)),Ab (av q)],J,rfl,?_⟩;obtain⟨u,I⟩:=big ps _ G;have L:=iX (fq:=z9) (bw:=[none,Ab 1,Ab 3]) (fi:=nw (qB 2)) (g:=bh 0) (t:=yN (dw (d2 ph (qG zO (qA (qB 0) qC)) (qB 1))) xB) (fe:=d2 zB (qB 0) (qP (qA (qB 2) qC))) (ak:=[Ab (.tup (Y.map av)),Ab (.int 4),Ab (.lst ((jd (4) ps).map z9)),Ab (av q)]) (S:=J) (o:=none) rfl trivial (λl=>decide (l.length<4)) (λl=>z9 (l++[q])) (λak=>∃ a,ak=[a,Ab (.int 4),Ab (av q)]) ⟨none,rfl⟩ (by unfold bq;lia)
     (λl O ak ⟨a,e⟩=>by
      subst e;refine⟨[Ab (z9 l),Ab (.int 4),Ab (av q)],rfl,⟨_,rfl⟩,iR ((rM ((eP (a:=z9 l) rfl).trans (oM l J)) rfl).trans (ER _ _)),λ_=>?_⟩;exact(rM (a:=z9 l) rfl (U2 (hZ (a:=av q) rfl) H)).trans (DP l q J (I l O)))
    have e:(jd (4) ps).map z9++((jd (4) ps).filter λl=>decide (l.length<4)).map (λl=>z9 (l++[q]))=(jd (4) (ps++[q])).map z9:=by
     rw[F7];unfold v_;rw[Di,Ds];rfl
    have k:((jd (4) ps).map z9).length+(((jd (4) ps).filter λl=>decide (l.length<4)).map (λl=>z9 (l++[q]))).length<=bq:=by
     rw[Ap,Ap];have:=Fa (λl=>decide (l.length<4)) (jd (4) ps);unfold bq
     lia
    refine YQ (qR ((rM (a:=.lst ((jd (4) ps).map z9)) rfl L).trans (JK k J)) ?_);rw[e];exact⟨ps++[q],N,Ab (av q),rfl,rfl,by rw[<- G];simp,rfl⟩
  .rintro ak J ⟨ps,N,B,rfl,rfl,G,U⟩
   cases N with
   |cons _ _=>cases U
   |nil =>
    have:ps=Y:=by simpa using G
    subst this;obtain⟨u,I⟩:=big ps [] bB
    have L:=iX (fq:=z9) (bw:=[none,Ab 1]) (fi:=nw (qB 2)) (g:=bh 0) (t:=yN (dw (d2 k_ (qG zO (qA (qB 0) qC)) (qB 1))) xB) (fe:=qB 0) (ak:=[Ab (.tup (ps.map av)),Ab (.int 4),Ab (.lst ((jd (4) ps).map z9)),B]) (S:=J) (o:=none) rfl trivial (λl=>decide (l.length=4)) z9 (λak=>∃ a,ak=[a,Ab (.int 4)]) ⟨none,rfl⟩ (by unfold bq;lia)
     (λl O ak ⟨a,e⟩=>by
      subst e;exact⟨[Ab (z9 l),Ab (.int 4)],rfl,⟨_,rfl⟩,iR ((rM ((eP (a:=z9 l) rfl).trans (oM l J)) rfl).trans (RN _ _)),λ_=>rfl⟩)
    refine AG (qR (d:=.lst ((c4 ps).map mq)) (S:=J) ((eP L).trans ?_) ⟨rfl,rfl⟩);have hs:vB [.lst (((jd (4) ps).filter λl=>decide (l.length=4)).map z9)] J=.ok (.lst (pD (((jd (4) ps).filter λl=>decide (l.length=4)).map z9))) J:=by
     refine Bg ?_;rw[Aw,Cc];refine⟨?_,?_⟩
     .rw[Ap]
      have:=Fa (λl=>decide (l.length=4)) (jd (4) ps)
      lia
     .refine Bn.mpr λx w=>?_
      obtain⟨l,O,rfl⟩:=Br.mp w;have p:l.length=4:=by simpa using (La.mp O).2
      rw[Aw,Aw];refine⟨⟨?_,L9 4 l⟩,Bn.mpr λy A=>?_⟩
      .cases l with
       |nil=>cases p
       |cons _ _=>rfl
      .obtain⟨m,_,rfl⟩:=Br.mp A
       exact eW l m
    rw[hs,W8 E,ZJ,Ds];rfl
 obtain⟨d,J,e,rfl,rfl⟩:=T;rw[uX];exact AI rfl e
def rg (x:P4):Au:=decide (On x.1 x.2.1 x.2.2.1 x.2.2.2)
def yJ (l:Aa Pt):Aa P4:=(c4 l).filter rg
theorem m8 {y:Pt × Pt}:∀ {l:Aa Pt},y∈wX l->y.1∈l/\y.2∈l
 |[],h=>by cases h
 |p::l,h=>by
  rcases Bq.mp h with h|h
  .obtain⟨q,J,rfl⟩:=Br.mp h
   exact⟨by simp,by simp[J]⟩
  .obtain⟨U,Y⟩:=m8 h
   exact⟨by simp[U],by simp[Y]⟩
def DM {l:Aa Pt}{x:P4}(h:x∈c4 l):x.1∈l/\x.2.1∈l/\x.2.2.1∈l/\x.2.2.2∈l:=by
 obtain⟨y,J,h⟩:=List.mem_flatMap.mp h;obtain⟨z,G,rfl⟩:=Br.mp h;obtain⟨O,U,Y,_⟩:=fM J;obtain⟨N,B⟩:=m8 G;exact⟨O,U,Y _ N,Y _ B⟩
def DJ {l:Aa Pt}(N:l.length<=16)(O:Up l):(c4 l).length<=65536:=by
 have G:(c4 l).length=(ka 4 l).length:=by rw[ZJ,Ap]
 have Y:∀ (k:Ah) (l:Aa Pt),(ka k l).length<=2 ^ l.length:=by
  intro k
  induction k with
  |zero=>intro l;simp[ka];exact Nat.one_le_two_pow
  |succ k U =>
   intro l
   induction l with
   |nil=>simp[ka]
   |cons p l J =>
    rw[ka,Bj,Ap,Bs,Nat.pow_succ];have:=U l
    lia
 rw[G];exact Cg (Y 4 l) (Cg (Yq li N) bU)
def KS {l:Aa Pt}(w:l.length<=16)(y:Up l)(B:∀ q∈l,dz 1000 q){S:ap}(q:∀ (j:Ah) G,G[j]? = Ab (.lst ((yJ l).map mq))->S<+:G->Q (.loc j) G):Ok (er [.tup (l.map av)] S) Q:=by
 have cl:=DJ w y;rw[j6];refine zD (ak:=[Ab (.tup (l.map av)),none,none,none,none,none]) rfl ?_;rfl';refine qR (GR l w y _) ?_;rfl';refine wB (fq:=mq) (λk ak G=>∃ (J:Aa P4) (H I M A:Ak D),J++k=c4 l/\ak=[Ab (.tup (l.map av)),Ab (.loc S.length),H,I,M,A]/\G[S.length]? = Ab (.lst ((J.filter rg).map mq))/\S<+:G) ?_ ?_ ⟨[],_,_,_,_,rfl,rfl,by simp,Fh _ _⟩
 .rintro x k _ G ⟨J,H,I,M,A,Y,rfl,L,T⟩
  have o:x∈c4 l:=by rw[<- Y];simp
  obtain⟨d,t,v,m⟩:=DM o;unfold mq;rfl';refine HD (B _ d) (B _ t) (B _ v) (B _ m) λg N=>?_;have E:=(Ay.mp L).1;have U:g[S.length]? = Ab (.lst ((J.filter rg).map mq)):=by
   obtain⟨r,rfl⟩:=N;rw[Bb E];exact L
  have dl:(J.filter rg).length<=65536:=by
   have n:=Fa rg J;have u:=congrArg Np Y;rw[Bj] at u
   lia
  rfl';refine xE (λz=>?_) λz=>?_
  .rfl'
   refine⟨jZ U,?_⟩;rfl';refine fG U (by rw[Ap];unfold bq;lia) ?_
   rfl';have O:=(Ay.mp U).1;refine xM ⟨J++[x],_,_,_,_,by rw[<- Y];simp,rfl,?_,?_⟩
   .rw[Dj O,Oo,show [x].filter rg=[x] from by simp[rg,z],Di]
    rfl
   .obtain⟨r,p⟩:=T.trans N
    refine⟨r.set 0 (.lst ((J.filter rg).map mq++[.tup [av x.1,av x.2.1,av x.2.2.1,av x.2.2.2]])),?_⟩;rw[<- p,Xl _ _ (Ax _),Vs]
  .rfl'
   refine xM ⟨J++[x],_,_,_,_,by rw[<- Y];simp,rfl,?_,T.trans N⟩
   rw[Oo,show [x].filter rg=[] from by simp[rg,z],Fk]
   exact U
 .rintro _ G ⟨J,H,I,M,A,Y,rfl,L,T⟩
  have Y:J=c4 l:=by simpa using Y
  subst Y;rfl';exact q _ G L T
def zq:Aa Pt->Au
 |a::b::c::[]=>!decide (ik c a b=0)
 |a::b::c::r=>r.all λp=>decide (On a b c p)
 |_=>true
def HB {l:Aa Pt}(B:l.length<=16)(J:∀ q∈l,dz 1000 q){S:ap}(q:∀ Y,S<+:Y->Q (.bl (zq l)) Y):Ok (cu [.tup (l.map av)] S) Q:=by
 rw[vZ];refine zD (ak:=[Ab (.tup (l.map av))]) rfl ?_;rfl';rw[Ap];refine xE (λz=>?_) λz=>?_
 .rfl'
  have:zq l=true:=by
   match l with
   |[]=>rfl
   |[_]=>rfl
   |[_,_]=>rfl
   |_::_::_::_=>simp at z;lia
  rw[<- this];exact q S (AT _)
 .match l with
  |[]=>simp at z
  |[_]=>simp at z
  |[_,_]=>simp at z
  |a::b::c::[] =>
   rfl';rw[Ap];refine xE (λ_=>?_) λz=>absurd rfl z;rfl';refine qR (vU [a,b,c] 0 bB S) ?_
   rfl';refine qR (vU [a,b,c] 1 bB S) ?_
   rfl';refine qR (vU [a,b,c] 2 bB S) ?_
   rfl';refine nQ (J a bB) (J b bB) (J c bB) ?_
   rfl';exact q S (AT _)
  |a::b::c::p::r =>
   rfl';rw[Ap];refine xE (λz=>absurd z (by simp;lia)) λ_=>?_
   rfl';have O:xA (Rh av (a::b::c::p::r)) (Ab 3) none=(p::r).map av:=tQ (Rh av (a::b::c::p::r)) 3 bB
   refine jD (fq:=av) (o:=none) (S1:=S) (p::r) (λx=>.bl (decide (On a b c x))) (λak Y=>S<+:Y/\∃ e,ak=[e,Ab (.tup (Rh av (a::b::c::p::r)))]) ?_ ⟨AT _,none,rfl⟩ (by unfold bq;simp at B ⊢;lia) (λ_ _ _=>trivial) (λx N ak Y ⟨G,e,L⟩=>?_) λak Y ⟨G,_⟩=>?_
   .show bb.ok (none,xA (Rh av (a::b::c::p::r)) (Ab 3) none) S=_
    rw[O]
   .subst L
    rfl';refine qR (vU (a::b::c::p::r) 0 bB Y) ?_
    rfl';refine qR (vU (a::b::c::p::r) 1 bB Y) ?_
    rfl';refine qR (vU (a::b::c::p::r) 2 bB Y) ?_
    rfl';exact HD (J a bB) (J b bB) (J c bB) (J x (by simp at N ⊢;exact .inr (.inr (.inr N)))) λS1 U=>⟨rfl,G.trans U,_,rfl⟩
   .rfl'
    refine nK ?_;rfl';exact q Y G
theorem V3 {x:Pt × Pt × Aa Pt}:∀ {l:Aa Pt},l.Nodup->x∈jj l->∀ p∈x.2.2,p≠x.1/\p≠x.2.1
 |[],_,h=>by cases h
 |a::l,J,h=>by
  obtain⟨N,U⟩:=Iy.mp J;rcases Bq.mp h with h|h
  .obtain⟨y,hy,rfl⟩:=Br.mp h
   have t:∀ {l:Aa Pt},l.Nodup->∀ {y:Pt × Aa Pt},y∈qv l->∀ p∈y.2,p≠y.1:=by
    intro l
    induction l with
    |nil=>intro _ y h;cases h
    |cons b r G =>
     intro J y hy p Y;obtain⟨O,B⟩:=Iy.mp J;rcases Ba.mp hy with rfl|hy
     .exact λ(e:p=b)=>O (e▸Y)
     .exact G B hy p Y
   exact λp Y=>⟨λ(e:p=a)=>N (e▸(dQ hy).2.1 p Y),t U hy p Y⟩
  .exact V3 U h
theorem qAj:∀ {l:Aa Pt},l.Nodup->yv l=zq l
 |[],_=>rfl
 |[_],_=>rfl
 |[_,_],_=>rfl
 |a::b::c::r,T=>by
  have U:∀ p∈r,p≠a/\p≠b:=λp N=>by
   obtain⟨L,E⟩:=Iy.mp T;obtain⟨O,_⟩:=Iy.mp E;exact⟨λe=>L (by rw[<- e];simp[N]),λe=>O (by rw[<- e];simp[N])⟩
  have hs:(sl a b c).isSome=!decide (ik c a b=0):=by
   unfold sl;by_cases h:ik c a b=0 <;> simp[h]
  show decide (Gp (sl a b) (r.length+1) (c::r)=[c::r])=_;have G:=D3 (sl a b) r.length c r;cases r with
  |nil =>
   show _=!decide (ik c a b=0);rw[<- hs,NE,Cc,G];simp
  |cons p r =>
   show _=(p::r).all λp=>decide (On a b c p);rw[NE,Cc,Bn,G];have J:∀ x∈p::r,decide (On a b c x)=true↔(sl a b c).isSome=true/\sl a b x=sl a b c:=λx Y=>by
    rw[<- PQ (U x Y).1 (U x Y).2];unfold al;dsimp only;rw[Aw,Cc];exact⟨λh=>⟨h.1,h.2.symm⟩,λh=>⟨h.1,h.2.symm⟩⟩
   constructor
   .rintro⟨I,B⟩ x Y
    exact(J x Y).mpr ⟨I,B x Y⟩
   .intro h
    exact⟨((J p bB).mp (h p bB)).1,λx Y=>((J x Y).mp (h x Y)).2⟩
def Q9 {l:Aa Pt}(nd:l.Nodup):yJ l=(jj l).flatMap λx=>((wX x.2.2).filter (lz (sl x.1 x.2.1))).map λy=>(x.1,x.2.1,y.1,y.2):=by
 unfold yJ c4;rw[List.filter_flatMap];have:∀ {Y:Aa (Pt × Pt × Aa Pt)},(∀ x∈Y,∀ p∈x.2.2,p≠x.1/\p≠x.2.1)->(Y.flatMap λx=>((wX x.2.2).map λy=>(x.1,x.2.1,y.1,y.2)).filter rg)=Y.flatMap λx=>((wX x.2.2).filter (lz (sl x.1 x.2.1))).map λy=>(x.1,x.2.1,y.1,y.2):=by
  intro Y h
  induction Y with
  |nil=>rfl
  |cons x Y U =>
   rw[Fx,Fx,U λy J=>h y (by simp[J])]
   congr 1
   rw[Wz]
   congr 1
   refine List.filter_congr λy J=>?_;have:=h x bB y.2 (m8 J).2
   exact(PQ this.1 this.2).symm
 exact this λx G=>V3 nd G
def SB {l:Aa Pt}(nd:l.Nodup):(yJ l).length=wJ (jj l):=by
 rw[Q9 nd];unfold wJ
 induction jj l with
 |nil=>rfl
 |cons x J Y =>
  rw[Fx,Bj,Y,Ap,Cu,Ql]
  congr 1
  exact(eD (sl x.1 x.2.1) _ x.2.2 (Ax _)).symm
def RX {l:Aa Pt}(nd:l.Nodup):kA (jj l)=(yJ l).head?:=by
 rw[Q9 nd]
 induction jj l with
 |nil=>rfl
 |cons x J Y =>
  rw[Fx,List.head?_append,List.head?_map];show (match u4 (rh x) with|some y=>Ab (x.1,x.2.1,y.1,y.2)|none=>kA J)=_
  rw[show u4 (rh x)=((wX x.2.2).filter (lz (sl x.1 x.2.1))).head? from fZ _ _ _ (Ax _),Y]
  cases ((wX x.2.2).filter (lz (sl x.1 x.2.1))).head? <;> rfl
def qBp (x:P4):xk 3 (mq x):=by
 refine⟨Dz rfl,λy Y=>?_⟩;have:∃ p:Pt,y=av p:=by
  simp only[Ba,Dv,HT] at Y;rcases Y with rfl|rfl|rfl|rfl <;> exact⟨_,rfl⟩
 obtain⟨p,rfl⟩:=this;refine⟨Dz rfl,λz J=>?_⟩;simp only[Ba,Dv,HT] at J;rcases J with rfl|rfl <;> trivial
def NT (x:Ak P4)(S:ap):bj [xm x,xm x] S=.ok (.bl true) S:=by
 cases x with
 |none =>
  rw[vL];rfl
 |some x=>exact aG S (qBp x)
def DH {Y:ap}(h:S[j]? = Ab m)(e:S<+:Y):Y[j]? = Ab m:=by
 obtain⟨r,rfl⟩:=e;rw[Bb (Ay.mp h).1];exact h
def AF (S:ap)(xs:Aa P4):mapO (xD 19 S) (xs.map mq)=Ab (xs.map mq):=dB λx Y=>by
 obtain⟨y,_,rfl⟩:=Br.mp Y;rfl
def fJ (c:Cl){l:Aa Pt}(L:oi 16 l){S:ap}(q:∀ U,S<+:U->Q (.bl true) U):Ok (cj c [z9 l] S) Q:=by
 have H:=XR L.up;rw[jQ];refine zD (ak:=[Ab (z9 l),none,none,none]) rfl ?_;rfl';refine KS L.len L.up L.box λj B A I=>?_;rfl';refine H9 (HH ?_);rfl';refine nO (gg:=my) (x:=.lst ((yJ l).map mq)) (y:=.lst []) (z:=.bl (!decide (yJ l=[]))) ?_ rfl ?_ rfl ?_
 .show (match B[j]? with|some (MO.lst T)=>(mapO (xD 19 B) T).map D.lst|_=>none)=_
  rw[A];show (mapO (xD 19 B) ((yJ l).map mq)).map D.lst=_;rw[AF];rfl
 .unfold my
  have G:pl wI (.lst ((yJ l).map mq))=true:=by
   show (((yJ l).map mq).all (pl 29))=true;rw[Jr];exact Bn.mpr λp _=>rfl
  rw[G];show bb.ok (D.bl (!zQ ((yJ l).map mq) [])) _=_;cases yJ l with
  |nil=>rfl
  |cons x T=>rfl
 have Y:∀ J:Ak D,Wo (XG (qU (qN 2 bj (qA (qN 1 (br c) (qA (qB 0) qC)) (qA (qG zO (qA (qB 1) qC)) qC)))) (RK Q)) (yR (bh 3) (qI (gf (wG (dw (qN 2 bj (qA (qN 1 (ci c) (qA (qB 0) qC)) (qA (qN 1 cu (qA (qB 0) qC)) qC))))) (qU (dC (.bl false))) zJ) (gf (wG (dw (qN 2 bj (qA (qN 1 (bu c) (qA (qB 0) qC)) (qA (qB 2) qC))))) (qU (dC (.bl false))) zJ)) ((Cf (Int.toNat 2)).map λ(i:Ah)=>D.int (i:An)) [Ab (z9 l),Ab (.loc j),Ab (xm (yJ l).head?),J] B):=by
  intro J;refine wB (λ_ ak U=>∃ J,ak=[Ab (z9 l),Ab (.loc j),Ab (xm (yJ l).head?),J]/\B<+:U) ?_ ?_ ⟨J,rfl,AT _⟩
  .rintro x T _ U ⟨J,rfl,G⟩
   rfl';refine qAG c om L λM E=>?_;rfl';refine HB L.len L.box λk w=>?_;rfl';rw[qAj H];refine qR (aG k trivial) ?_;rfl';refine TB c om L λo u=>?_;rfl';rw[RX H];refine qR (NT _ o) ?_;rfl';exact xM ⟨_,rfl,((G.trans E).trans w).trans u⟩
  .rintro _ U ⟨J,rfl,G⟩
   rfl';refine TC c om L λM E=>?_;rfl';refine kZ (DH A (G.trans E)) ?_;rw[Ap,SB H];rfl';refine qR (aG M trivial) ?_;rfl';exact q M ((I.trans G).trans E)
 refine⟨_,rfl,λe=>?_,λe=>?_⟩
 .cases O:yJ l with
  |nil=>rw[O] at e;cases e
  |cons x T =>
   have N:=A;rw[O] at N;rfl';refine vY (d:=mq x) N (by rw[show (0:An)=((0:Ah):An) from rfl,pT (show 0<((x::T).map mq).length by simp)];rfl) ?_
   rfl';have:=Y none;rw[O] at this;exact⟨by fin2,by fin2,this⟩
 .have O:yJ l=[]:=by simpa using e
  rfl';have:=Y none;rw[O] at this;exact⟨by fin2,by fin2,this⟩
def EV (c:Cl){d:D}(S:ap)(h:vm d):ci c [d] S=.ex (.ref c.NoLot) .non S:=by
 rw[uH];exact nZ (ak:=[Ab d]) rfl (c7 ((rK rfl).trans (kG c S h.1 h.2)))
def KO (c:Cl){d:D}(S:ap)(h:vm d):br c [d] S=.ex (.ref c.NoLot) .non S:=by
 rw[yU];exact nZ (ak:=[Ab d,none,none,none,none,none]) rfl (c7 ((rK rfl).trans (kG c S h.1 h.2)))
def KN (c:Cl){d:D}(S:ap)(h:vm d):bu c [d] S=.ex (.ref c.NoLot) .non S:=by
 rw[yT];exact nZ (ak:=[Ab d,none,none,none,none]) rfl (c7 ((rK rfl).trans (kG c S h.1 h.2)))
def fl (c:Cl):Aa (Af × Ah × DF):=[(c.is_round,1,ci c),(c.round_fours,1,br c),(c.first_round,1,bu c)]
def OV (c:Cl)(nf:(so c).Nodup)(a:Af)(Y:a∈so c)(d:D)(S:ap)(h:vm d):∃ F,Jd a (fl c)=Ab (1,F)/\F [d] S=.ex (.ref c.NoLot) .non S:=by
 have U:(c.round_fours == c.is_round)=false:=rS (i:=1) (j:=0) nf rfl rfl bU
 have G:(c.first_round == c.is_round)=false:=rS (i:=2) (j:=0) nf rfl rfl bU
 have J:(c.first_round == c.round_fours)=false:=rS (i:=2) (j:=1) nf rfl rfl bU
 have Y:a=c.is_round\/a=c.round_fours\/a=c.first_round:=by simpa [so] using Y
 rcases Y with rfl|rfl|rfl
 .exact⟨_,by simp[fl,Jd],EV c S h⟩
 .exact⟨_,by simp only[fl,Jd,U,Fo],KO c S h⟩
 .exact⟨_,by simp only[fl,Jd,G,J,Fo],KN c S h⟩
def RU (c:Cl)(nf:(so c).Nodup)(a:Af)(J:a∈so c)(d:D)(S:ap)(h:vm d):mJ 1 [(c.is_round,1,ci c),(c.round_fours,1,br c),(c.first_round,1,bu c)] (qA (qB 0) qC) [Ab d,Ab (.obj a)] S=.ex (.ref c.NoLot) .non S:=by
 obtain⟨F,N,U⟩:=OV c nf a J d S h;unfold mJ;show (match Jd a (fl c) with|some (n,F)=>(qA (qB 0) qC [Ab d,Ab (.obj a)] S).bind λY G=>if Y.length=n then F Y G else .bad|none=>.bad)=_
 rw[N];exact U
def EM (l:Aa Pt):Au:=decide (l≠[])&&decide (l.length<=16)&&mz (l.map kP)&&l.all λq=>decide (dz 1000 q)
def uT {l:Aa Pt}(h:EM l=true):oi 16 l:=by
 unfold EM at h;simp only[Aw,Cc,Bn] at h;refine⟨h.1.1.1,h.1.1.2,?_,h.2⟩;have:=(l9 _).mp h.1.2;rw[Dq] at this;exact this
def cP {M N:Ah}{l:Aa Pt}(h:oi M l)(e:M<=N):oi N l:=⟨h.ne,Cg h.len e,h.up,h.box⟩
def UR (xs:Aa D)(n:Ah):xA xs none (Ab (n:An))=xs.take n:=by
 unfold xA;have Y:_H.cy xs.length 0 none=0:=rfl;have J:_H.cy xs.length xs.length (Ab (n:An))=min n xs.length:=by
  show (if (n:An)<0 then ((n:An)+(xs.length:An)).toNat else min (n:An).toNat xs.length)=_
  rw[Bd om,Em]
 rw[Y,J];simp[Nat.min_comm]
noncomputable def Z_:Aa Pt:=[(0,0),(0,2),(2,0),(2,2)]
noncomputable def lnL:Aa Pt:=[(0,0),(1,1),(2,2),(3,3)]
noncomputable def _v:Aa Pt:=[(0,0),(0,1),(0,2),(0,3),(0,4),(0,5),(0,6),(0,7),(5,5),(5,6),(6,5),(6,6)]
def K4 (c:Cl)(nd:(wC c).Nodup)(nf:(so c).Nodup)(B:Aa An)(hl:B.length<=63):∃ S,qO 11 (rm c) [.lst (B.map D.int)] [] = .ok (.bl true) S:=by
 have q:Ok (qO 11 (rm c) [.lst (B.map D.int)] []) λd _=>d=.bl true:=by
  refine zD (ak:=[Ab (.lst (B.map D.int)),none,none,none,none,none,none,none,none,none,none]) rfl ?_;unfold rm;rfl';refine nP 8 om (λ(i:Ah)=>(0,(i:An))) (λi=>?_) ?_
  .rfl'
   exact rfl
  rfl';refine jC (by rw[Ap];decide) ?_
  rfl';refine jC bU ?_
  rfl';refine gF (λM ak _=>(∀ d∈M,∃ l,d=z9 l/\oi 16 l)/\∃ J G U O,ak=[Ab (.lst (B.map D.int)),J,G,U,O,none,none,none,none,none,none]) ?_ ?_ ⟨?_,_,_,_,_,rfl⟩
  .rintro d M _ S ⟨N,J,G,U,O,rfl⟩
   obtain⟨l,rfl,L⟩:=N d (.head _);rfl';refine fJ c L λA _=>?_;rfl';exact xM ⟨λd h=>N d (.tail _ h),_,_,_,_,rfl⟩
  .rintro _ S ⟨_,J,G,U,O,rfl⟩
   array_get_dec;array_get_dec;refine qA0 (NO B hl 6 rfl λms=>?_);refine wB (λ_ ak _=>∃ J G U O E H I T v Y,ak=[Ab (.lst (B.map D.int)),J,G,U,O,E,H,I,T,v,Y]) ?_ ?_ ⟨_,_,_,_,_,_,_,_,_,_,rfl⟩
   .rintro y xs _ S ⟨J,G,U,O,E,H,I,T,v,Y,rfl⟩
    rfl';refine qAM λp S0 p0=>?_;rfl';refine qAI p 9 om p0 λl S1 k1 L _=>?_;have ll:=L.len;have el:z9 l=.tup (l.map av):=rfl;rw[el];rfl';refine HF ?_;rfl';refine qAJ k1.pen λz S2 k2 hz=>?_;rfl';have k:xA (l.map av) (Ab 1) none=(l.drop 1).map av:=by rw[B7,Uf]
    rw[k];refine jC (by rw[Ap,Gs];show _+1<=bq;unfold bq;fin2) ?_
    have o:(l.drop 1).map av++[av z]=(l.drop 1++[z]).map av:=by rw[Di];rfl
    rw[o];refine⟨l.drop 1++[z],rfl,by rw[Bj,Gs];simp;fin2,?_⟩
    have s:oi 9 (wM (l.drop 1++[z])):=OW bB (by rw[Bj,Gs];have:=Nl.mpr L.ne;simp;fin2) λw hw=>by
     rcases Bq.mp hw with hw|hw
     .exact L.box w (Qu hw)
     .rw[Cw.mp hw]
      exact hz
    generalize wM (l.drop 1++[z])=bt at s;rfl';refine YT om k2.pen λn S3 x hn=>?_;rfl';refine cU hn λps S4 k4 ne hb zb up=>?_;rfl';refine BL om ?_;rfl';have u:xA ((uN ps).map av) none (Ab 8)=((uN ps).take 8).map av:=by
     have:=UR ((uN ps).map av) 8;rw[<- Ac4] at this;exact this
    rw[u];have m:oi 8 ((uN ps).take 8):=by
     have r:=uD ps;refine⟨λe=>?_,List.length_take_le _ _,(QN (XR up)).sublist (Aa4 _ _),λw hw=>?_⟩
     .rcases List.take_eq_nil_iff.mp e with e|e
      .cases e
      .rw[e] at r
       exact ne r.symm.eq_nil
     .have:=hb w (r.mem_iff.mp (Qv hw))
      unfold dz at *;fin2
    generalize (uN ps).take 8=sm8 at m;rfl';refine fH ?_;rfl';refine fJ c (cP L om) λS5 p5=>?_;rfl';refine⟨λe=>(by cases e),λ_=>?_⟩
    refine fH ?_;rfl';refine fJ c (l:=bt) (cP s om) λS6 p6=>?_;rfl';refine⟨λe=>(by cases e),λ_=>?_⟩
    rfl';refine fJ c (l:=sm8) (cP m om) λb p7=>?_;rfl';have pp:yM b p:=gA (gA (gA (gA x.pen k4) p5) p6) p7;refine zN (KR p 9 om l L b pp) λt S8 g=>?_;rfl';refine gF (λM ak _=>(∀ d∈M,∃ a,a∈so c/\d=.obj a)/\∃ J G U O E H I T Y,ak=[Ab (.lst (B.map D.int)),J,G,U,O,E,H,I,T,Ab t,Y]) ?_ ?_ ⟨?_,_,_,_,_,_,_,_,_,_,rfl⟩
    .rintro d M _ A ⟨N,J,G,U,O,E,H,I,T,Y,rfl⟩
     obtain⟨a,ha,rfl⟩:=N d (.head _);rfl';refine qAO (by rw[Gm];simp[pV]) (iE c nd) (bx:=[t,.obj a]) rfl (RU c nf a ha t A g) ?_
     rfl';refine qR (d:=.bl false) (S:=A) (by kernel_rfl!) ?_
     rfl';exact xM ⟨λd h=>N d (.tail _ h),_,_,_,_,_,_,_,_,_,rfl⟩
    .rintro _ A ⟨_,J,G,U,O,E,H,I,T,Y,rfl⟩
     rfl';exact xM ⟨_,_,_,_,_,_,_,_,_,_,rfl⟩
    .intro d N
     simp only[Ba,Dv,HT] at N;rcases N with rfl|rfl|rfl <;> exact⟨_,by simp[so],rfl⟩
   .rintro _ S ⟨J,G,U,O,E,H,I,T,v,Y,rfl⟩
    rfl';exact rfl
  .intro d N
   simp only[Ba,Dv,HT] at N;rcases N with rfl|rfl|rfl|rfl|rfl|rfl
   .exact⟨Z_,rfl,uT kd⟩
   .exact⟨Z_++[(3,3)],rfl,uT kd⟩
   .exact⟨[(0,0),(1,1),(2,2)],rfl,uT kd⟩
   .exact⟨lnL,rfl,uT kd⟩
   .exact⟨[(5,5)],rfl,uT kd⟩
   .exact⟨_v,rfl,uT kd⟩
 obtain⟨d,A,e,rfl⟩:=q;exact⟨A,e⟩
end _K
namespace _K
open _L _D
variable {mg:ah}
def vE {P:Bi}{K:Ai}{base:Bt}(T:Txt K mg c){k:Ah}{F:DF}(d:sy F P w K mg base true k "_law_same" 2):sy (qO 2 (fw F)) P w K mg base true (k+1) "_law_same" 2:=by
 refine dq P w base k 16 T rfl ck rfl ?_
 intros
 repeat' first
  |with_reducible exact ck
  |((with_reducible show QE _ _ _);with_reducible first|apply aV|apply BQ|apply VA|apply _g|apply aO|(apply aB;first|apply F1|apply F0|apply BZ|apply UB)|apply aC|apply VC|apply V9|apply VB|apply V7)
  |((with_reducible show _=_);first|exact T.nb ck|exact kY _|exact rfl|with_unfolding_all rfl)
  |((with_reducible show je _ _ _);with_reducible first|apply IK|apply IS|apply IM)
  |((with_reducible show ax _ _ _);first|assumption|exact ax.mono (by assumption)|exact ax.mono (ax.any (by assumption))|exact ax.mark (by assumption) _|exact ax.mono (ax.mark (by assumption) _))
  |((with_reducible show tu _ _ _ _);exact⟨rfl,rfl⟩)
  |((with_reducible show sy _ _ _ _ _ _ _ _ _ _);assumption)
  |with_reducible first|apply V6|apply nW|apply fN|apply oZ|apply V5|apply VH|(apply BS;first|apply nX|apply rW)|apply VI|apply nX|apply rW|apply _e|apply VD|apply aD|apply Q0|apply VF|apply VE|apply Q2|apply Q1|apply VG|apply BR|apply BD
  |((with_reducible apply _d);case hs=>exact rfl)
  |((with_reducible show ug _ _ _ _);first|assumption|exact ug.tr (by assumption))
  |((with_reducible show zh _ _ _ _ _ _ _ _ _ _);assumption)
  |((with_reducible show zj _ _ _ _ _ _ _ _ _ _ _ _ _);assumption)
  |((with_reducible show ZF _ _ _ _);first|apply _f|apply D7)
  |exact λ_=>⟨rfl,rfl,rfl⟩
  |(intro h;cases h;done)
  |((with_reducible show ki _);first|assumption|exact QY)
  |exact⟨rfl,rfl⟩
  |exact⟨rfl,rfl,rfl⟩
  |apply nW
  |apply fN
  |(intros;rfl)
  |(intro _ h;cases h <;> rfl)
  |decide
  |intro _
def MV {P:Bi}{K:Ai}{base:Bt}(T:Txt K mg c)(nd:(wC c).Nodup)(hT:(EH.all λy=>(Dy K y).isSome)=true)(nf:(so c).Nodup):∃ F,eC P w K mg base true 9 "law" ["_law_script"] F/\∀ ns:Aa An,ns.length<=63->∃ S,F [.lst (ns.map D.int)] [] = .ok (.bl true) S:=by
 refine hv (λ_=>?_) (dq (cm:=true) P w base 0 0 T rfl ck pN ?_);refine hv (λ_=>?_) (dq (cm:=true) P w base 1 1 T rfl ck kR ?_);refine hv (λ_=>?_) (dq (cm:=true) P w base 0 2 T rfl ck kQ ?_);refine hv (λ_=>?_) (dq (cm:=true) P w base 2 3 T rfl ck pM ?_);refine hv (λ_=>?_) (dq (cm:=true) P w base 3 4 T rfl ck fT ?_);refine hv (λ_=>?_) (dq (cm:=true) P w base 4 5 T rfl ck (uI c) ?_);refine hv (λ_=>?_) (dq (cm:=true) P w base 0 6 T rfl ck v7 ?_);refine hv (λ_=>?_) (dq (cm:=true) P w base 1 7 T rfl ck pL ?_);refine hv (λ_=>?_) (dq (cm:=true) P w base 2 8 T rfl ck tN ?_);refine hv (λ_=>?_) (dq (cm:=true) P w base 3 9 T rfl ck uO ?_);refine hv (λ_=>?_) (dq (cm:=true) P w base 0 10 T rfl ck yV ?_);refine hv (λ_=>?_) (dq (cm:=true) P w base 5 11 T rfl ck (uH c) ?_);refine hv (λ_=>?_) (dq (cm:=true) P w base 5 12 T rfl ck (yU c) ?_);refine hv (λ_=>?_) (dq (cm:=true) P w base 5 13 T rfl ck (yT c) ?_);refine hv (λ_=>?_) (dq (cm:=false) P w base 0 14 T rfl ck (jO c) ?_);refine hv (λ_=>?_) (dqL (cm:=true) (g:=dy c) (N:=2) P w base 7 7 0 15 T rfl ck ?_);have s0:sy (l6 0) P w K mg base true 0 "_law_same" 2:=⟨FM (T.src 16 rfl)⟩;have d__law_same:sy bj P w K mg base true 4 "_law_same" 2:=vL▸vE T (vE T (vE T (vE T s0)));refine hv (λ_=>?_) (dq (cm:=true) P w base 0 17 T rfl ck kM ?_);refine hv (λ_=>?_) (dq (cm:=true) P w base 0 18 T rfl ck pJ ?_);refine hv (λ_=>?_) (dq (cm:=true) P w base 0 19 T rfl ck kN ?_);refine hv (λ_=>?_) (dq (cm:=true) P w base 0 20 T rfl ck pH ?_);refine hv (λ_=>?_) (dq (cm:=true) P w base 0 21 T rfl ck uW ?_);refine hv (λ_=>?_) (dq (cm:=true) P w base 1 22 T rfl ck kO ?_);refine hv (λ_=>?_) (dq (cm:=true) P w base 2 23 T rfl ck pI ?_);refine hv (λ_=>?_) (dq (cm:=true) P w base 1 24 T rfl ck uZ ?_);refine hv (λ_=>?_) (dq (cm:=true) P w base 1 25 T rfl ck jP ?_);refine hv (λ_=>?_) (dq (cm:=true) P w base 0 26 T rfl ck u0 ?_);refine hv (λ_=>?_) (dq (cm:=true) P w base 0 27 T rfl ck uY ?_);refine hv (λ_=>?_) (dq (cm:=true) P w base 1 28 T rfl ck j3 ?_);refine hv (λ_=>?_) (dq (cm:=true) P w base 0 29 T rfl ck uX ?_);refine hv (λ_=>?_) (dq (cm:=true) P w base 2 30 T rfl ck j6 ?_);refine hv (λ_=>?_) (dq (cm:=true) P w base 2 31 T rfl ck vZ ?_);refine hv (λ_=>?_) (dq (cm:=true) P w base 6 32 T rfl ck (jQ c) ?_);refine⟨_,dqP 8 33 T rfl ck ?_,K4 c nd nf⟩
 all_goals
  intros
  repeat' first
   |with_reducible exact ck
   |((with_reducible show QE _ _ _);with_reducible first|apply aV|apply CT|apply BQ|apply CZ|apply VA|apply _g|apply aGi|apply aCl|apply aO|apply aN|apply CY|apply GJ|apply ND|(apply aB;first|apply F1|apply F0|apply BZ|apply LV|apply UB|apply qA3|apply IP)|(apply aT;first|apply LW|apply IQ|apply qA8)|apply aC|apply VC|apply CV|apply NG|apply CU|apply qAe|apply GI|apply NH|apply qAf|apply V9|apply GF|apply CW|apply qAg|apply VB|apply V7|apply qAd|apply NC|apply CS|apply iJ|(apply rV;(case slot=>apply PySem.F.slot_list_append);(case' hm=>first|apply PJ))|(apply rV;(case slot=>apply Vl);(case' hm=>first|apply LQ))|(apply rV;(case slot=>apply Vm);(case' hm=>first|apply LR))|(apply rV;(case slot=>apply PySem.F.slot_list_pop);(case' hm=>first|apply LU))|apply CP)
   |((with_reducible show _=_);first|exact T.nb ck|with_reducible apply Vw|with_reducible apply Ut|with_reducible apply Vx|with_reducible apply Vy|with_reducible apply Xt|exact kY _|exact rfl|with_unfolding_all rfl)
   |((with_reducible show je _ _ _);with_reducible first|apply qA4|apply IH|apply II|apply qBG|apply IR|apply qBB|apply qA5|apply IJ|apply qBA|apply qBE|apply _J|apply _M|apply _O|apply qB9|apply qA6|apply qBC|apply IK|apply IS|apply IM|apply LS|apply qA9|apply qA7)
   |((with_reducible show ax _ _ _);first|assumption|exact ax.mono (by assumption)|exact ax.mono (ax.any (by assumption))|exact ax.mark (by assumption) _|exact ax.mono (ax.mark (by assumption) _))
   |((with_reducible show tu _ _ _ _);exact⟨rfl,rfl⟩)
   |((with_reducible show sy _ _ _ _ _ _ _ _ _ _);assumption)
   |with_reducible first|apply V6|apply nW|apply fN|apply oZ|apply V5|apply aK0|apply aFv|apply NJ|apply NK|apply AC|apply VH|apply GP|(apply BS;first|apply Q3|apply nX|apply VJ|apply rW)|apply VI|apply Q3|apply nX|apply VJ|apply rW|apply _e|apply VD|apply A3|apply aD|apply Q0|apply A5|apply GK|apply VF|apply VE|apply A4|apply Q2|apply GQ|apply Q1|apply qAh|apply VG|apply BR|apply NL|apply NM|apply A8|apply GO|apply aAu|apply aP2|apply aRs|apply aTr|apply qBD|apply _N|apply IL|apply qBF|apply BD|apply Vw|apply Ut|apply Vx|apply Vy|apply Xt
   |((with_reducible apply aCs);case hsw=>exact rfl)
   |((with_reducible apply _d);case hs=>exact rfl)
   |with_reducible apply A6
   |exact T.cls
   |exact T.cl (by kernel_rfl)
   |exact T.rz (by kernel_rfl)
   |exact T.ct
   |exact T.gi (by kernel_rfl)
   |((with_reducible apply qBL);(case D=>assumption))
   |((with_reducible show ug _ _ _ _);first|assumption|exact ug.tr (by assumption))
   |((with_reducible show zh _ _ _ _ _ _ _ _ _ _);assumption)
   |((with_reducible show zj _ _ _ _ _ _ _ _ _ _ _ _ _);assumption)
   |((with_reducible show I_ _ _);refine lmK hT (by assumption) ?_ rfl)
   |((with_reducible show ZF _ _ _ _);first|apply _f|apply D7)
   |exact λ_=>⟨rfl,rfl,rfl⟩
   |(intro h;cases h;done)
   |((with_reducible show ki _);first|assumption|exact QY)
   |exact⟨rfl,rfl⟩
   |exact⟨rfl,rfl,rfl⟩
   |apply nW
   |apply fN
   |decide
   |(intros;rfl)
   |(intro _ h;cases h <;> rfl)
   |intro _
end _K
namespace _K
open _L _D
variable {K:Ai}
def bdf:zk top tab:=by
 repeat (refine⟨?_,?_⟩;(intro _ _ _ _ _ _ Q h;first|(obtain⟨_,rfl⟩:=W_ h;rfl)|(obtain⟨_,_,rfl⟩:=V_ h;rfl)|(obtain⟨_,_,_,rfl⟩:=U_ h;rfl)|(obtain⟨_,_,_,_,rfl⟩:=_w h;rfl)))
 exact trivial
def IW (q0:Dr K Ch "FarError" = Ab (Ab (.ref A)))(q1:Dr K Ch "NoPoint" = Ab (Ab (.ref O)))(q2:Dr K Ch "NoLot" = Ab (Ab (.ref I)))(q3:Dr K Ch "NoNumber" = Ab (Ab (.ref H)))(q4:Dr K Ch "NoCircle" = Ab (Ab (.ref N)))(q5:Dr K Ch "NoMarks" = Ab (Ab (.ref T)))(q6:Dr K Ch "NoFars" = Ab (Ab (.ref B)))(q7:Dr K Ch "NoText" = Ab (Ab (.ref L)))(q8:Dr K Ch "NoLine" = Ab (Ab (.ref C)))(q9:Dr K Ch "NoDeed" = Ab (Ab (.ref E)))(q10:Dr K Ch "Alike" = Ab (Ab (.ref Q)))(q11:Dr K Ch "TooMany" = Ab (Ab (.ref Y)))(q12:Dr K Ch "is_round" = Ab (Ab (.ref G)))(q13:Dr K Ch "round_fours" = Ab (Ab (.ref U)))(q14:Dr K Ch "first_round" = Ab (Ab (.ref J))):Z2 K (oh ⟨A,O,I,H,N,T,B,L,C,E,Q,Y,G,U,J⟩):=⟨q0,q1,q2,q3,q4,q5,q6,q7,q8,q9,q10,q11,q12,q13,q14,trivial⟩
def IY (Q:Dr K Ch "LEAST_NUMBER" = Ab (Ab (.int (-1000) k0)))(Y:Dr K Ch "MOST_NUMBER" = Ab (Ab (.int (1000) k1)))(g2:Dr K Ch "MOST_POINTS" = Ab (Ab (.int (40) k2))):Z3 K qq:=⟨⟨_,Q⟩,⟨_,Y⟩,⟨_,g2⟩,trivial⟩
def EJ {P:Bi}{w:Bz}(T:Txt K mg c)(nd:(wC c).Nodup)(hT:(EH.all λy=>(Dy K y).isSome)=true)(nf:(so c).Nodup)(hfa:mg "law" = Ab (.ref fa)) :
  ∃ fd:Gc,(∀ (s:Ag) (v:Ac),Pv s fd ⟨[v],[]⟩ [("_law_script",v)])/\∀ base:Bt,K.In base->base.Ns Ch mg->nk P w K mg base (nr P w) 9 fa fd ["_law_script"] (rX K):=
 MW (T.src 33 rfl) hfa (λkV doc pm an cdv ct s v=>.of_eq rfl) λbase=>MV T nd hT nf
end _K
namespace PySem.W.Fast
def tw16029817020983285196:True:=⟨⟩
def tw17840134526385663740:True:=⟨⟩
def tw7547250631195088397:True:=⟨⟩
def tw17236885028091730994:True:=⟨⟩
def tw7548694739704111622:True:=⟨⟩
def tw9319790345542976962:True:=⟨⟩
def tw5155251375382144375:True:=⟨⟩
def tw1328547202877668854:True:=⟨⟩
def tw12620619936739432698:True:=⟨⟩
def tw7896137427261596065:True:=⟨⟩
def tw16205019147022907913:True:=⟨⟩
def tw18231609926452660153:True:=⟨⟩
def tw17776027718488151611:True:=⟨⟩
def tw12307818517808212472:True:=⟨⟩
def tw14585670301880961238:True:=⟨⟩
def tw10539197018544331447:True:=⟨⟩
def tw11541758937893643870:True:=⟨⟩
def tw6102543913746040353:True:=⟨⟩
def tw6993088781507729829:True:=⟨⟩
def tw6171343136586321409:True:=⟨⟩
def tw15761836755231807048:True:=⟨⟩
def tw10141167187809095026:True:=⟨⟩
def tw5165101413559647570:True:=⟨⟩
def tw14298024753714484509:True:=⟨⟩
def tw10150872007423963545:True:=⟨⟩
def tw11367662724749985694:True:=⟨⟩
def tw9969240620601487100:True:=⟨⟩
def tw18414173950362608970:True:=⟨⟩
def tw6224836196745939600:True:=⟨⟩
def tw7903506663541403454:True:=⟨⟩
def tw14628759049367146406:True:=⟨⟩
def tw8551428323505412804:True:=⟨⟩
def tw11369261651598849593:True:=⟨⟩
def tw6945573143036606075:True:=⟨⟩
def tw15608247769434345068:True:=⟨⟩
def tw7042532580118931332:True:=⟨⟩
def tw2538548332128634261:True:=⟨⟩
def tw8535247376845718461:True:=⟨⟩
def tw16147813336226432021:True:=⟨⟩
def tw11155291147652645897:True:=⟨⟩
def tw16691846190833683111:True:=⟨⟩
def tw2744216548996569005:True:=⟨⟩
def tw425091168367700886:True:=⟨⟩
def tw12105335839810588760:True:=⟨⟩
def tw4974614624494330900:True:=⟨⟩
def tw18440971158724082316:True:=⟨⟩
def tw2276843978480277221:True:=⟨⟩
def tw12522827329867491926:True:=⟨⟩
def tw17303387203120948618:True:=⟨⟩
def tw6348575523048025383:True:=⟨⟩
def tw5710758459995398236:True:=⟨⟩
def tw14268847848583395311:True:=⟨⟩
def tw9291556700978115440:True:=⟨⟩
def tw10664699201366341163:True:=⟨⟩
def tw2045504112906770959:True:=⟨⟩
def tw12507254395182443698:True:=⟨⟩
def tw14904347364230369394:True:=⟨⟩
def tw17849757174217631231:True:=⟨⟩
def tw3826156988068162342:True:=⟨⟩
def tw3235026620604262430:True:=⟨⟩
def tw14186937122824695167:True:=⟨⟩
def tw5532653679952175176:True:=⟨⟩
def tw2536934279447224703:True:=⟨⟩
def tw13982601566006007512:True:=⟨⟩
def tw17706636352046095604:True:=⟨⟩
def tw14138050389785039954:True:=⟨⟩
def tw12424420099927792645:True:=⟨⟩
def tw11690253520355007556:True:=⟨⟩
def tw16731193079657633938:True:=⟨⟩
def tw2713820552915348801:True:=⟨⟩
def tw11272809290337407763:True:=⟨⟩
def tw13655611616356031965:True:=⟨⟩
def tw13438846480469911128:True:=⟨⟩
def tw16404905610069818674:True:=⟨⟩
def tw4244342174379085678:True:=⟨⟩
def tw14179126606450411869:True:=⟨⟩
def tw12490861327759220482:True:=⟨⟩
def tw18387760916369298653:True:=⟨⟩
def tw8542974631343717057:True:=⟨⟩
def tw8977255944735762595:True:=⟨⟩
def tw11228066535795463886:True:=⟨⟩
def tw10003118408873403001:True:=⟨⟩
def tw2838020455086581731:True:=⟨⟩
def tw10750619416681895005:True:=⟨⟩
def tw9330934284298845787:True:=⟨⟩
def tw297945163702468659:True:=⟨⟩
def tw12976807737527264500:True:=⟨⟩
def tw16196314097826481994:True:=⟨⟩
def tw3822474027792792074:True:=⟨⟩
def tw2463238179656400814:True:=⟨⟩
def tw1641529673495130359:True:=⟨⟩
def tw4572826976957005157:True:=⟨⟩
def tw16531051170889368782:True:=⟨⟩
def tw15449381208046725144:True:=⟨⟩
def tw6215140787588971421:True:=⟨⟩
def tw5897478172017934177:True:=⟨⟩
def tw10298469099037539773:True:=⟨⟩
def tw9448254864878490754:True:=⟨⟩
def tw5613068499264752091:True:=⟨⟩
def tw13977370730846543939:True:=⟨⟩
def tw13625977118063865207:True:=⟨⟩
def tw5114715226168844835:True:=⟨⟩
def tw2964472231974711383:True:=⟨⟩
def tw1202164836795334246:True:=⟨⟩
def tw16514532106607095681:True:=⟨⟩
def tw5466437392522512170:True:=⟨⟩
end PySem.W.Fast
open PySem.W
set_option maxRecDepth 100000 in
set_option maxHeartbeats 0 in
theorem PySem.Challenge.cw_fewdistances_k62_lots_on_circles_holds : PySem.Challenge.rw_fewdistances_k62_lots_on_circles.Holds := by
 w_on;o_law;k_head;(case hw=>w_witness2)
 k_fill
 refine _D.qA2 (l:=Td) (k:=9) (x:="_law_script") rfl rfl ⟨rfl,by decide,by decide,rfl⟩ (λ_=>by kernel_rfl) (λw h Y=>PySem.W.km_in_of Y) ?F
 case F =>
  intro w mg fa h KX G hmg
  refine' _K.EJ (_D.qAw _K.bdf ?hp rfl KX G ?s ?z (_K.IW ?q0 ?q1 ?q2 ?q3 ?q4 ?q5 ?q6 ?q7 ?q8 ?q9 ?q10 ?q11 ?q12 ?q13 ?q14) (_K.IY ?gi0 ?gi1 ?gi2) ?e1 ?e2 ?e3 ?e4 ?e5 ?e6) ?nd ?hT ?nf hmg
  (case s=>(repeat (refine' ⟨_D.wc.mk ?a ?l ?c ?k,?_⟩;(case a=>k_is);(case l=>k_is);(case c=>k_is);(case k=>k_is)));exact trivial)
  (case z=>rfl)
  (case q0=>k_is)
  (case q1=>k_is)
  (case q2=>k_is)
  (case q3=>k_is)
  (case q4=>k_is)
  (case q5=>k_is)
  (case q6=>k_is)
  (case q7=>k_is)
  (case q8=>k_is)
  (case q9=>k_is)
  (case q10=>k_is)
  (case q11=>k_is)
  (case q12=>k_is)
  (case q13=>k_is)
  (case q14=>k_is)
  (case gi0=>k_is)
  (case gi1=>k_is)
  (case gi2=>k_is)
  (case hp=>intro y hy;revert hy;simp;grind)
  (case e1=>rfl)
  (case e2=>rfl)
  (case e3=>rfl)
  (case e4=>rfl)
  (case e5=>rfl)
  (case e6=>rfl)
  (case nd=>decide)
  (case hT=>rfl)
  (case nf=>decide)
