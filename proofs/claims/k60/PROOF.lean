import PyProof.Rows.All
import Wide.All
import OpenK.AllK
import Wide.FinOn
import Lean
import PyProof.EqAt
import PyProof.EqKinds
import PyProof.TupleCall
import KE.KLam
import KE.KTryMore
import KE.KIsAll
import PyProof.NeKinds
import PyProof.Rows.CountFlat
import PyProof.Rows.FStr
import PyProof.ZipIter
import PyProof.EnumMake
import PyProof.EnumStmt
import KE.KDictLaws
import PyProof.DictWalks
import PyProof.Rows.SetFrom
import PyProof.SumWalkG
import PyProof.Rows.SumGenD
import PyProof.SeqI2
import KE.KItemsList
import PyProof.SetKind
import PyProof.TupleKey
import KE.KSortTup
import PyProof.ReprRoads
import PyProof.ReprBulk
import PyProof.TupleOfSeq
import PyProof.WalkInts
import PyProof.SeqI3
import PyProof.Rows.RuleDivmod
import PyProof.ListRange
import KE.KPairComp
import KE.KMinKey
import PyProof.Rows.CallKwBuiltin
import KE.KDictList
import PyProof.DictTruth
import PySem.Challenge.RW_fewdistances_k60_circles_of_whole_points
set_option Elab.async false
set_option linter.all false
set_option maxRecDepth 100000
set_option maxHeartbeats 0
set_option tactic.hygienic false
set_option bootstrap.genMatcherCode false
set_option genSizeOf false
set_option compiler.extract_closed false
open Array renaming length_toList->A4,getElem?_toList->A6,toList_append->Bo,getElem?_eq_some_iff->Bx,getElem?_eq_getElem->Ce,toList_push->Cy,getD_eq_getD_getElem?->CM,getD->Ds,size_extract->EH,toList_extract->Fa,toList_reverse->Gu,mem_toList_iff->Iu,perm_iff_toList_perm->Jz,getElem?_eq_none->Nj,size_map->Ol,forIn_toList->Pc,toList_inj->Rp,toList->T0
open Bool renaming and_eq_true->AF,false_eq_true->AI,and_eq_true_iff->CI,noConfusion->E6,false_ne_true->ED,not_true->Gc,not_eq_true'->HL,or_eq_true->IH,false_and->Jb,and_false->Og,not_false->Om,and_true->Tk,true_and->Ts,true_or->TW
open Classical renaming byContradiction->CW,choose_spec->Ig,choose->Lw
open False renaming elim->An
open ForInStep renaming yield->IG
open Int renaming le_trans->CY,toNat_natCast->Ee,le_of_lt->Ek,emod_lt_of_pos->Fu,emod_nonneg->Ho,le_refl->Ik,natCast_nonneg->Ph,not_lt->Sl,mul_pos->Uo
open List renaming getElem?_eq_getElem->As,mem_append_right->A3,mem_cons->AD,prefix_refl->AG,size_toArray->AK,mem_of_getElem?->AM,getElem?_append_left->AO,getElem?_eq_some_iff->AQ,length_map->AR,mem_append_left->AT,mem_map->AW,mem_append->AX,getElem?_append_right->Bb,mem_cons_of_mem->Bc,append_assoc->Be,mem_singleton->Bf,all_eq_true->Bh,length_cons->Bk,mem_iff_getElem->Bl,getElem?_map->Br,length_append->Bs,range->Bt,map_cons->Bu,getElem?_set_ne->By,pairwise_append->Bz,mem_cons_self->Cf,pairwise_cons->Cg,not_mem_nil->Cu,mem_range->Cw,getElem?_set_self->CJ,contains_iff_mem->De,append_nil->Di,length_take->Dz,drop_eq_getElem_cons->En,extract_eq_take_drop->Er,pairwise_map->Ey,nil_append->Ez,filterMap_cons->E4,replicate->EB,mem_filterMap->EE,map_append->EQ,pairwise_iff_getElem->EV,flatMap_cons->EW,lookup_cons->Fh,map_map->Fn,prefix_append->Fp,nodup_cons->Fx,find?_cons->Fz,any_cons->Ga,mem_iff_getElem?->Gh,perm_append_comm->Gk,length_drop->Gv,mem_reverse->Gw,getD->He,reverse_append->Hi,of_mem_zip->Hl,getElem?_take_of_lt->Ht,getElem?_replicate->Hy,length_eq_zero_iff->H9,pairwise_singleton->HC,nodup_nil->HG,reverse_cons->HQ,range_succ_eq_map->HU,take_of_length_le->HV,drop_of_length_le->HW,getElem?_eq_none->Ia,lookup->Ib,take_append_drop->Il,cons_append->Im,sum_cons->Io,mem_flatMap->Ip,mem_erase_of_ne->Iy,length_nil->IE,eq_nil_of_length_eq_zero->IK,all_map->IR,map_congr_left->Ja,forIn_nil->Jd,map_inj_right->Jp,getD_eq_getElem?_getD->Ka,getElem?_zip_eq_some->Kl,all_cons->Km,getElem_take->Kq,getElem_drop->Kr,length_erase_of_mem->Lh,prefix_iff_getElem?->Ll,getElem_inj->Lo,getElem_mem->Lv,zipIdx_cons->Lx,ext_getElem->Ma,getElem?_cons_succ->Me,drop_eq_nil_of_le->Mx,forIn_cons->Mz,find?_cons_of_neg->Nb,length_pos_of_mem->Nd,length_singleton->Nt,countP_mono_left->NE,singleton_append->Oa,reverse_reverse->Ow,range_eq_range'->Ox,append_toArray->OF,mem_map_of_mem->OO,lookup_append->OZ,getElem?_drop->Pb,map_nil->Pj,nodup_append->Qh,length_range->Qn,ext_getElem?->Qt,length->Ra,nodup_range->Rl,countP_cons->Ro,map_fst_zip->Rq,range'_succ->Rt,mem_filter->Ru,length_set->Ry,zipIdx_nil->Rz,foldl_cons->RX,length_zip->Sb,Nodup->Si,take_zero->Sr,map_id->Um,range'->Up
open List.Pairwise renaming nil->HK,imp_of_mem->Lg,filter->Uq,take->Uw,drop->Ux,imp₂->Uy
open List.Perm renaming append_left->EJ,append_right->Gd,refl->HH,trans->IM
open Nat renaming lt_of_lt_of_le->Au,le_refl->Ay,ne_of_lt->AS,le_trans->Ca,le_of_lt->Ch,le_of_ble_eq_true->Cz,lt_irrefl->CU,zero_le->Dn,zero_add->Ea,ne_of_gt->Ej,le_add_right->Eo,lt_succ_self->Ep,lt_of_le_of_ne->Et,lt_trans->E1,add_le_add_left->E5,mul_lt_mul_of_lt_of_le->EK,mul_le_mul->Fe,le_of_not_lt->Fg,add_sub_cancel_left->Fm,pos_of_ne_zero->Fv,eq_zero_of_not_pos->Ge,le_of_lt_succ->Gi,add_lt_of_lt_sub'->Gm,one_pos->Gn,sub_lt->Hj,lt_of_le_of_lt->Hx,not_lt->HT,succ_pos->IS,mod_lt->IY,add_right_comm->Jo,le_succ->Jx,lt_trichotomy->Kt,lt_succ_of_lt->Kx,lt_of_succ_lt->Ky,sub_pos_of_lt->Kz,add_comm->Mf,le_antisymm->Nk,add_le_of_le_sub'->Ob,le_of_sub_eq_zero->Oc,lt_sub_of_add_lt->Ou,add_le_add_right->Ov,pow_le_pow_right->Oy,add_sub_cancel'->OM,min_self->Po,le_of_eq->Pr,sub_self->Ps,add_zero->Pu,lt_of_not_le->Rr,add_le_add->So,add_assoc->Tr,lt_or_ge->Ud
open Ne renaming symm->Dw
open Option renaming some->Ab,map_eq_some_iff->Bw,bind_eq_some_iff->Dj,isSome_iff_exists->Fb,getD_some->Ic,isSome_map->Kg,isSome_some->OX,getD_none->Rc,map_some->RY,none->Ui
open Option.some renaming inj->Bg
open Or renaming inr->Rf,inl->Sv
open Prod renaming swap->Tv
open Prod.mk renaming injEq->Tu
open PyProof.Rows renaming wpS_bind->Aw,wpS_pure->A9,Keyed->AE,slot_tuple_getitem->CO,wpS_forRange->CS,SortSt->Dg,envOfC->Dp,seqObj->Dv,wpS_mono->Eh,callWith_type1->EC,wpS_modify->EM,callWith_builtin1->Fo,SortKind->Hr,wpS_get->HD,AllBare->HY,assignInOrder_cons->Jl,wpS_lift->Kb,subscriptTail->Ke,IntsAre->Mt,subscriptTail_builtinR->Mu,isBoolOf->Nc,gallopOf->Nl,get?_update_seq->Nm,entry_tuple_getitem->OB,args_tuple_getitem->OV,IsTup->Pw,assignInOrder_nil->Px,Subscript_->Sg,lt_int->Uu
open PyProof.Rows.F renaming plain_set_update_loop->EA,entry_set_update_loop->Hq
open PyProof.Rows.IntsAre renaming int_at->Su
open PyProof.Rows.IsTup renaming new->Tg
open PyProof.Rows.SortSt renaming mk'->Bi
open PySem renaming Value->Ac,Addr->Ad,wpAny_bind->Af,Shared->Ag,wpAny_pure->Al,wpAny->Ao,model->Aq,Str->Ar,Program->Az,intKind->A0,starEach->A5,tupleKeyHash->A7,Heap->A8,Expr->AH,Around->AJ,World->AL,Obj->AV,mainGlobals->Bd,Comprehension->Bm,compareOp->Cb,Scope->Cj,wpAny_holding->Cp,binaryOp->Cs,Pos->CB,Stmt->CF,wpAny_newObj_type->CG,foldedSetIterable->CH,SetTable->CK,mem_of_lookup->CN,wpAny_call_entry->CP,wpAny_callSpecial?_slot->CQ,FuncData->CV,cLine->CZ,wpAny_field->Dc,wpAny_setState_of->Df,backTo->Dh,wpAny_Call_Name_kw->Dl,sizeLine_eq->Dm,wpAny_mono->Dq,bootBuiltins->Dt,assignEach->Dy,rawInt->Eb,wpAny_seqItems->Ec,wpAny_rule->Ef,codeAny->El,cellsFrom->Em,NameKind->Es,wpAny_pyIter_list->Ew,codeAny_builtin->Ex,Env->E0,wpAny_askSetting->E7,wpAny_pyIter_tuple->EF,wpAny_setField_rec->EG,codeAny_mono->EL,wpAny_passesOwn->EN,Builtin->EU,sysModules->Ff,IsPair->Ft,letOwnedTupleGo->Fw,wpAny_attempt->Gb,Sem->Gf,Model->Gg,codeAny_call_builtin->Gs,swappedStores->Gx,swapsWithSole->Gy,wpAny_standAt->Gz,behindInMarks->Ha,TriplesOk->Hd,wpAny_execs_nil->Hk,sliceBounds->Hm,getItem->H0,wpAny_typeOf->H8,wpAny_setField->HF,ofAClassStatement->HN,wpAny_storeSet_of->HP,Operator->HR,BindsTo->HZ,wpAny_updateSeq_pair->Ix,PassesOwn->IC,Arguments->ID,codeAmong->IF,codeAny_of_tree->IJ,pickOrder->IL,pyNext->IN,pyIter->IP,builtinsNs->IU,wpAny_call->IW,recursionLimit->Jc,firstArgMember->Jf,IsZip->Jg,tupleKind_room_in1->Jm,wpAny_newFunctionEnv_cells->Jr,IsPart->Js,wpAny_of_eq->Jw,hashByValue->Jy,callerA->Kh,standAt->Ki,noteFrame->Kj,attributeBase->Kn,wpAny_onRaise->Ko,setSearchFrom->Ks,plainId_quiet->Ku,wpAny_comprehension_free->Ld,noFill_tuple_add->Lp,call_meets->Lq,checkBuiltinCall->Lr,closureFor->Lu,wpAny_isInstance->Ly,IsTupleKey->Mb,wpAny_forIn_list->Mc,bindArgs->Ms,valueAt->Mv,wpAny_specialOf->Mw,wpAny_ite_split->Ni,tupleKind->Nq,codeAny_call_function->Nr,swapsWith->Nu,weight_type_call_type->Nx,builtinLookup_eq_fast->Ny,newFunctionEnv->Oh,wpAny_runValue->On,isSubtype_type->Oo,wpAny_loadName_local->Oq,wpAny_loadName_cell->O1,assignInOrder->O6,bindL->O8,bindC->O9,seq_tuple_add->OA,atKey->OD,PlainAttrs->OG,setsByText->OJ,wpAny_setEntries_of->OL,bindName->OP,Result->OQ,setState->OR,setAdd->OS,concat_meets->Pi,Tok->Pv,wpAny_truthy_bool->Py,wpAny_sequenceKey->Qe,slot_list_getitem->Qf,list_append->Qg,ClassData->Qi,setFlight->Qj,pushCells->Ql,searchCouldBeSeen->Qq,wpAny_pyIter_slot->Qs,wpAny_eqBool_int->Qu,wpAny_execs_cons->Qv,unaryOp->Qw,seqIndex_of->Rb,wpAny_letGo->Rh,wpAny_pyIter_zip->Rj,wpAny_alloc->Rk,check_set_init_1->Rm,GenState->Rv,CmpOp->Rw,compTurn->RV,pushCells_keeps->RW,typeLookup_type->RZ,wpAny_updateSeq->Sa,wpAny_Name->Sd,typeLookup->Sf,call->Sh,intKind_is->Sk,defaultsOf->Sm,typeOf->Sw,storeName->Te,setItem->Tf,Keyword->Tl,seqItems?->To,Within->Tz,Fin->Va
open PySem.Around renaming under_plainId->EZ,frames_deeper->Iw,under_plain->Pd
open PySem.AutoListH renaming list_reverse_list_0->Pg
open PySem.Builtin.Frozenset renaming updateFrom->IZ,sizeOf->Li,newClass->Ta,oneOther->Tc,addrOf->Tx
open PySem.Builtin.Getset_descriptor renaming descrCheckInstance->Mn,descrNameAndClass->My,descrGetter->OE,descrGet->Pm
open PySem.Builtin.Int renaming intBits->Fi
open PySem.Builtin.List renaming listLengthHint->Jh,listExtendWith->Ji,listSameRef->Lj,listUpdate->Ue
open PySem.Builtin.ObjectAttr renaming bindTo->Kk,dataDescriptor?->Pl,getOf->Tw,find->Ua
open PySem.Builtin.Range renaming rangeSize->TD
open PySem.Builtin.Slice renaming slicePlaces->ET,sliceAdjust->Hc,sliceApplied->Jt,slicePartIndex->Se,sliceFields->Th
open PySem.Builtin.SmallTypes renaming nextOf->Cd,ownedTupleIsFree->Dx,ownedTupleHandOut->Hn
open PySem.Builtin.Tuple renaming tupleExact->Fc,tupleItemsOf->Ju,tupleIsExact->Sy
open PySem.Calls renaming spliced_cons->Fq,spliced_nil->HJ,Name_function_global->Jq,callWith_builtin->Na,evalArgs_plain->Ot
open PySem.Challenge renaming pw_fewdistances_k60_circles_of_whole_points->Iq,rw_fewdistances_k60_circles_of_whole_points->Ir
open PySem.Code renaming quiet_builtin->Jn,compLoop->Tp
open PySem.F renaming called_set->Bn,slot_tuple_iterator_next->EI,args_tuple_add_2->Hu,entry_tuple_add->Hz,slot_list_count->HA,slot_list_index->HB,slot_tuple_add->HS,slot_zip_next->II,args_tuple_iterator_next_1->IX,entry_tuple_iterator_next->Je,slot_int_bit_length->Jj,type_int_bit_length->Jk,excBase_ValueError->Jv,slot_list_reverse->La,type_list_reverse->Lb,slot_list_append->Lm,type_list_append->Ln,attr_ValueError->Md,entry_type_call->Mi,plain_list_iadd->Mj,plainAttrs_list->Mk,type_list_count->Ml,type_list_index->Mm,typeCall_set_1->Ng,entry_set_init->Nh,plainAttrs_int->Nn,plain_set_new->Nw,slot_set_iter->Nz,args_list_append_2->Os,entry_list_append->OC,slot_list_append->OW,args_zip_next_1->Qk,entry_zip_next->Ri
open PySem.Heap renaming get?_push_of_some->Aj,lt_size->Ax,get?_push_size->AC,get?_update_other->Bv,size_push->Cn,get?_update_self->Dd,SameBut->DL,get?_none_of_le->EY,FlyingW->IQ,MadeExcOf->Of,IsTuple->Uc,ExtBut->Uk,IsList->Ul,HeldW->Us
open PySem.Heap.IsSliceOf renaming new->Uv
open PySem.Heap.SameBut renaming update->Eg,refl->Qr
open PySem.IsL renaming update->Re
open PySem.MeetsSeq renaming list_index->Tn,EqGives->Uf
open PySem.NameKind renaming free->Dr,cell->Ie
open PySem.Obj renaming mapSeq->CT,mapFields->OK,data_mapFields->Pa,putSet->Sj
open PySem.P renaming add_list->Rg
open PySem.SeqAt.EqAt renaming bool_bool->Sx,same->Tj,of_refs->Ub
open PySem.SetTable renaming insertAt->AN,below->AU,sizeAbove->CL,grown->Ed,runEnd->Ei,insertAt_perm->E8,fill->Hg,Probe->HM,toList_insertAt->Lf,tooFull->Lz,laid->OH,fits->OI,has->Pp,layClean->Qo,slot->Tq
open PySem.SetTable.below renaming go->Qm
open PySem.SetTable.layClean renaming free->E9
open PySem.SetTable.probe renaming go->Gj
open PySem.Shared renaming TypeIs->Kv,heap->Nv
open PySem.Str renaming ofString->Fk,empty->Hb
open PySem.Value renaming ref->Ba,none->Bj,bool->Dk,type->Eu,int->IA,str->No,isStrOf->Td,builtin->Ti,isInt->Ug,float->Uh
open PySem.W renaming Frag->Ai,tabIn->Bq,nsIn->Co,kia_one->Ct,keepIn->CD,fnOf->Du,kitx_list->ES,exmOne->Fd,cellsFrom_some->Fy,kitOne->Go,codeIn->Gp,tabObj->Gq,envX->Gr,kla_obj->Hs,kitx_tuple->Hv,callWith_K->Hw,findIn->HE,kitx_dict->HI,hideAll->IB,methodObj->Kc,nsMap_none_of_in->Lc,instObj->Mr,CodeHd->Od,lookIn->Oe,kitAny->Op,hideAll_get->O0,mroIn->O7,mg_of->ON,of_hideAll->OT,codeRec_of->OU,isNs_of_in->OY,looks_findIn->Pk,specialIn->Pz,kitx_none->Qb,kitx_bool->Qc,plainGet->Qx,kitx_int->Qy,kitx_str->Qz,takesIn->Rx,OpenLaw->Sc,nsOkIn->Sn,kla_fn->Ss,WalkO->Tt
open PySem.W.Looks renaming ld->Vb
open PySem.W.WData renaming int->Uz
open PySem.W.WShape renaming has->Ur
open PySem.Walks renaming tuple->Uj,list->Ut
open PySem.pickOrder renaming go->Pq
open Sum renaming inl->Mp,inr->Mq
open True renaming intro->Ev
open _root_ renaming List->Aa,Nat->Ah,Option->Ak,Int->Am,Bool->Ap,Array->Av,if_pos->AA,if_neg->AB,decide_eq_true_eq->AY,of_decide_eq_true->AZ,String->Bp,if_true->Cc,if_false->Ci,decide_eq_false->Cq,False->CA,decide_eq_true->CC,beq_self_eq_true->Do,decide_eq_false_iff_not->E2,or_false->EO,Decidable->ER,decide_true->Fj,decide_false->Fl,True->HX,StateT->Ih,beq_eq_false_iff_ne->IT,Unit->IV,beq_iff_eq->Ls,DecidableEq->Np,of_decide_eq_false->Pe,not_or->Sz
noncomputable section
theorem om {p:Prop}(h:p:=by omega):p:=h
theorem li {p:Prop}(h:p:=by lia):p:=h
theorem kd {p:Prop}[ER p](h:p:=by decide +kernel):p:=h
section
namespace _L
open PySem PySem.Spec PyProof.Rows
abbrev Key:=Sum Am Ar
noncomputable def gG:Key->Ac->Ap
 |.inl k,v=>Ug k v
 |.inr x,v=>Td x v
noncomputable def DC (w:AL):Key->Am
 |.inl k=>hashInt k
 |.inr x=>hashStr w x
theorem zN:∀ {k:Key} {v:Ac},gG k v=true->(∃ i t,k=Mp i/\v=IA i t)\/(∃ x t,k=Mq x/\v=No x t)
 |.inl i,v,h=>by
  obtain⟨t,e⟩:=Value.isInt_shape (k:=i) (v:=v) h;exact .inl ⟨i,t,rfl,e⟩
 |.inr x,v,h=>by
  obtain⟨t,e⟩:=Value.isStrOf_shape (x:=x) (v:=v) h;exact .inr ⟨x,t,rfl,e⟩
theorem aS (i:Am)(t:Pv):gG (.inl i) (.int i t)=true:=by simp[gG,Ug]
theorem aU (x:Ar)(t:Pv):gG (.inr x) (.str x t)=true:=by simp[gG,Td]
theorem GT (a b:Am):decide ((Mp a:Key)=Mp b)=(a == b):=by
 by_cases e:a=b
 .subst e;simp
 .have h:¬ (Mp a:Key)=Mp b:=λq=>e (Sum.inl.inj q)
  rw[Cq h];exact(IT.mpr e).symm
theorem GW (a b:Ar):decide ((Mq a:Key)=Mq b)=decide (a=b):=by
 by_cases e:a=b
 .subst e;simp
 .have h:¬ (Mq a:Key)=Mq b:=λq=>e (Sum.inr.inj q)
  rw[Cq h,Cq e]
theorem GU (a:Am)(b:Ar):decide ((Mp a:Key)=Mq b)=false:=Cq (λq=>nomatch q)
theorem GV (a:Ar)(b:Am):decide ((Mq a:Key)=Mp b)=false:=Cq (λq=>nomatch q)
noncomputable def zQ (prog:Az)(w:AL):PySem.KeyKind prog w Key where
 is:=gG
 hash:=DC w
 inj:=λv a b ha hb=>by
  rcases zN ha with⟨i,t,rfl,rfl⟩|⟨x,t,rfl,rfl⟩
  .rcases zN hb with⟨j,u,rfl,e⟩|⟨y,u,rfl,e⟩
   .injection e with e1 _;rw[e1]
   .exact nomatch e
  .rcases zN hb with⟨j,u,rfl,e⟩|⟨y,u,rfl,e⟩
   .exact nomatch e
   .injection e with e1 _;rw[e1]
 byValue:=λk v h=>by
  rcases zN h with⟨i,t,rfl,rfl⟩|⟨x,t,rfl,rfl⟩ <;> rfl
 pyHash:=λhv h=>by
  rcases zN hv with⟨i,t,rfl,rfl⟩|⟨x,t,rfl,rfl⟩
  .exact wpAny_pyHash_int h
  .exact wpAny_pyHash_str h
 eqBool:=λhu hv h=>by
  rcases zN hu with⟨i,t,rfl,rfl⟩|⟨x,t,rfl,rfl⟩
  .rcases zN hv with⟨j,u,rfl,rfl⟩|⟨y,u,rfl,rfl⟩
   .rw[GT] at h;exact Qu h
   .rw[GU] at h;exact SeqAt.EqAt.int_str i t y u _ _ _ _ h
  .rcases zN hv with⟨j,u,rfl,rfl⟩|⟨y,u,rfl,rfl⟩
   .rw[GV] at h;exact SeqAt.EqAt.str_int x t j u _ _ _ _ h
   .rw[GW] at h;exact wpAny_eqBool_str h
 «strs»:=λk x t v h=>by
  rcases zN h with⟨i,u,rfl,e⟩|⟨y,u,rfl,e⟩
  .exact nomatch e
  .injection e with e1 _
   subst e1;cases v <;> rfl
theorem dA (prog:Az)(w:AL)(i:Am)(t:Pv):(zQ prog w).is (.inl i) (.int i t)=true:=aS i t
theorem dB (prog:Az)(w:AL)(x:Ar)(t:Pv):(zQ prog w).is (.inr x) (.str x t)=true:=aU x t
end _L
namespace _L
open PySem PySem.Spec PyProof.Rows
inductive V where
 |non|bl (b:Ap)|int (i:Am)|str (x:Ar)|byt (b:Av UInt8)|flt (b:UInt64)|ref (a:Ad)|ty (n:Bp)
 deriving Np
def qJ:V->Ac->Prop
 |.non,u=>u=Bj
 |.bl b,u=>u=Dk b
 |.int i,u=>∃ t,u=IA i t
 |.str x,u=>∃ t,u=No x t
 |.byt b,u=>∃ t,u=Value.bytes b t
 |.flt b,u=>∃ t,u=Uh b t
 |.ref a,u=>u=Ba a
 |.ty n,u=>u=Eu n
abbrev qK:Aa V->Aa Ac->Prop:=Paired qJ
theorem qK.length {xs:Aa V}{us:Aa Ac}(r:qK xs us):xs.length=us.length:=Paired.length r
theorem qK.get:∀ {xs:Aa V} {us:Aa Ac} {i:Ah} {x:V},qK xs us->xs[i]? = Ab x->∃ u,us[i]? = Ab u/\qJ x u
 |_,_,_,_,.nil,e=>by simp at e
 |_,_,0,_,.cons r _,e=>by simp at e;subst e;exact⟨_,rfl,r⟩
 |_,_,i+1,x,.cons _ t,e=>by
  obtain⟨u,h1,h2⟩:=qK.get (i:=i) (x:=x) t (by simpa using e)
  exact⟨u,by simpa using h1,h2⟩
theorem qK.set {x:V}{u:Ac}(r:qJ x u):∀ {xs:Aa V} {us:Aa Ac} (i:Ah),qK xs us->qK (xs.set i x) (us.set i u)
 |_,_,_,.nil=>.nil
 |_,_,0,.cons _ t=>.cons r t
 |_,_,i+1,.cons q t=>.cons q (qK.set r i t)
theorem qK.append {xs ys:Aa V}{us ws:Aa Ac}(h:qK xs us)(s:qK ys ws):qK (xs++ys) (us++ws):=by
 induction h with
 |nil=>exact s
 |cons r t ih=>exact .cons r ih
theorem qK.take:∀ {xs:Aa V} {us:Aa Ac} (n:Ah),qK xs us->qK (xs.take n) (us.take n)
 |_,_,0,_=>.nil
 |_,_,_+1,.nil=>.nil
 |_,_,n+1,.cons r t=>.cons r (qK.take n t)
theorem qK.drop:∀ {xs:Aa V} {us:Aa Ac} (n:Ah),qK xs us->qK (xs.drop n) (us.drop n)
 |_,_,0,r=>r
 |_,_,_+1,.nil=>.nil
 |_,_,n+1,.cons _ t=>qK.drop n t
def yC:Ak V->Ak Ac->Prop
 |some v,Ab u=>qJ v u
 |none,none=>HX
 |_,_=>CA
def KV {κ : Type}:Aa (κ × V)->Aa (κ × Ac)->Prop:=Paired λ(p:κ × V) (q:κ × Ac)=>p.1=q.1/\qJ p.2 q.2
noncomputable def kV:Key->V
 |.inl i=>.int i
 |.inr x=>.str x
inductive HO where
  |lst (xs:Aa V)
  |tup (xs:Aa V)
  |dK (kvs:Aa (Key × V))|dT (kvs:Aa (Aa Key × V))
  |set (S:Am->Ap) (n:Ah)
  |ins (C dx:Ad) (fs:Aa (Ar × V))
  |own (x:Ad)
  |xd (fs:Aa (Ar × V))
  |met (f x:Ad)
  |rng (lo hi:Am)
  |frz (o:AV) (u:HO)
  |tbl (ps:Av Ac)
  |ext (φ : A8->Prop)
abbrev Hp:=Ad->Ak HO
noncomputable def upd (H:Hp)(a:Ad)(o:HO):Hp:=λb=>if b=a then Ab o else H b
theorem qT {H:Hp}{a:Ad}{o:HO}:upd H a o a=Ab o:=by unfold upd;rw[AA rfl]
theorem qI {H:Hp}{a b:Ad}{o:HO}(h:b≠a):upd H a o b=H b:=by unfold upd;rw[AB h]
theorem TH {H:Hp}{a b:Ad}{o u:HO}(h:H a=Ab o)(h':H b=Ab u)(d:o≠u):a≠b:=by
 intro e;subst e;rw[h] at h';exact d (Bg h')
theorem qO {H:Hp}{a b:Ad}{o:HO}(h:H a=Ab o)(h':H b=none):a≠b:=by
 intro e;subst e;rw[h] at h';cases h'
section
variable (P:Az)(w:AL)
def z9 (H:Hp)(h:A8)(a:Ad):HO->Prop
 |.lst xs=>xs.length<=sizeLine/\∃ (its:Aa Ac) (n:Ah),qK xs its/\h.get? a=Ab { cls:=.type "list",data:=.seq its.toArray n }
 |.tup xs=>xs.length<=sizeLine/\∃ its:Aa Ac,qK xs its/\Pw h a its.toArray
 |.dK kvs=>kvs.length<=sizeLine/\(a == Ff)=false/\∃ vs,KV kvs vs/\h.DictOf (zQ P w) a vs
 |.dT kvs=>kvs.length<=sizeLine/\(a == Ff)=false/\∃ xs:Aa (Aa Key × Ad × Ac),
   Paired (λ(p:Aa Key × V) (q:Aa Key × Ad × Ac)=>p.1=q.1/\H q.2.1=Ab (.tup (p.1.map kV))/\qJ p.2 q.2.2) kvs xs /\
   ∃ o es ep,h.get? a=Ab o/\o.ExactDict/\o.data=.dict es ep/\es.toList=xs.map (entryOfKey (Nq (zQ P w)))/\(xs.map (·.1)).Nodup
 |.set S n=>h.SetOf (A0 P w) a S n
 |.ins C dx fs=>H dx=Ab (.own a)/\fs.length<=1000/\dx≠a/\h.get? a=Ab (Mr C dx) /\
   ∃ mA,h.Ns1 dx mA/\(∀ f,yC (fs.lookup f) (mA f))/\Tz mA (fs.map (·.1))
 |.own _=>∃ o,h.get? a=Ab o
 |.xd fs=>∃ mA,h.Ns1 a mA/\∀ f,yC (fs.lookup f) (mA f)
 |.rng lo hi=>∃ t u v,h.get? a=Ab { cls:=.type "range",data:=.fields #[.int lo t,.int hi u,.int 1 v] }
 |.frz o u=>h.get? a=Ab o/\z9 H h a u
 |.tbl ps=>h.get? a=Ab { cls:=.none,data:=.fields ps }
 |.met f x=>h.get? a=Ab (Kc (.ref f) (.ref x))
 |.ext φ => φ h/\(∃ o,h.get? a=Ab o)/\∀ h1 h2:A8,φ h1->(∀ o,h1.get? a=Ab o->h2.get? a=Ab o)->φ h2
def HOk (H:Hp)(h:A8):Prop:=∀ a o,H a=Ab o->z9 P w H h a o
end
section
variable {P:Az}{w:AL}{H H':Hp}{h h':A8}{a:Ad}{o:HO}
theorem z9.lt (x:z9 P w H h a o):a<h.objs.size:=by
 cases o with
 |lst xs=>obtain⟨_,_,_,_,e⟩:=x;exact Ax e
 |tup xs=>obtain⟨_,_,_,p⟩:=x;exact p.lt
 |dK kvs=>obtain⟨_,_,_,_,o,_,_,e,_⟩:=x;exact Ax e
 |dT kvs=>obtain⟨_,_,_,_,o,_,_,e,_⟩:=x;exact Ax e
 |set S n=>obtain⟨o,_,_,_,e,_⟩:=x;exact Ax e
 |ins C dx fs=>obtain⟨_,_,_,e,_⟩:=x;exact Ax e
 |own y=>obtain⟨_,e⟩:=x;exact Ax e
 |xd fs=>obtain⟨_,⟨_,_,_,e,_⟩,_⟩:=x;exact Ax e
 |rng lo hi=>obtain⟨_,_,_,e⟩:=x;exact Ax e
 |frz ob u=>obtain⟨e,_⟩:=x;exact Ax e
 |tbl ps=>exact Ax (show h.get? a=Ab _ from x)
 |met f y=>exact Ax (show h.get? a=Ab _ from x)
 |ext φ => obtain⟨_,⟨_,e⟩,_⟩:=x;exact Ax e
theorem Paired.mapP {α β:Type}{F G:α->β->Prop}{l₁:Aa α}{l₂:Aa β}(h:Paired F l₁ l₂)(f:∀ a b,F a b->G a b):Paired G l₁ l₂:=by
 induction h with
 |nil=>exact .nil
 |cons r t ih=>exact .cons (f _ _ r) ih
theorem z9.stay (x:z9 P w H h a o)(k:∀ b u,(b=a\/H b=Ab (.own a))->h.get? b=Ab u->h'.get? b=Ab u)
  (ho:∀ b,H b=Ab (.own a)->H' b=Ab (.own a)) (ht:∀ b xs,H b=Ab (.tup xs)->H' b=Ab (.tup xs)):z9 P w H' h' a o:=by
 induction o with
 |lst xs=>obtain⟨z,its,n,r,e⟩:=x;exact⟨z,its,n,r,k _ _ (.inl rfl) e⟩
 |tup xs=>obtain⟨z,its,r,ob,e,c⟩:=x;exact⟨z,its,r,ob,k _ _ (.inl rfl) e,c⟩
 |dK kvs=>obtain⟨z,y,vs,r,ob,es,ep,e,c⟩:=x;exact⟨z,y,vs,r,ob,es,ep,k _ _ (.inl rfl) e,c⟩
 |dT kvs =>
  obtain⟨z,y,xs,r,ob,es,ep,e,c⟩:=x;exact⟨z,y,xs,Paired.mapP r λp q z=>⟨z.1,ht _ _ z.2.1,z.2.2⟩,ob,es,ep,k _ _ (.inl rfl) e,c⟩
 |set S n=>obtain⟨ob,es,ep,t,e,c⟩:=x;exact⟨ob,es,ep,t,k _ _ (.inl rfl) e,c⟩
 |ins C dx fs =>
  obtain⟨d,z,ne,e,mA,⟨od,es,ep,e2,c⟩,r⟩:=x;exact⟨ho _ d,z,ne,k _ _ (.inl rfl) e,mA,⟨od,es,ep,k _ _ (.inr d) e2,c⟩,r⟩
 |own y=>obtain⟨ob,e⟩:=x;exact⟨ob,k _ _ (.inl rfl) e⟩
 |xd fs=>obtain⟨mA,⟨od,es,ep,e,c⟩,r⟩:=x;exact⟨mA,⟨od,es,ep,k _ _ (.inl rfl) e,c⟩,r⟩
 |rng lo hi=>obtain⟨t,u,v,e⟩:=x;exact⟨t,u,v,k _ _ (.inl rfl) e⟩
 |frz ob u ih=>obtain⟨e,q⟩:=x;exact⟨k _ _ (.inl rfl) e,ih q⟩
 |tbl ps =>
  have e:h.get? a=Ab { cls:=.none,data:=.fields ps }:=x;show h'.get? a=Ab { cls:=.none,data:=.fields ps };exact k a _ (.inl rfl) e
 |met f y =>
  have e:h.get? a=Ab (Kc (.ref f) (.ref y)):=x;show h'.get? a=Ab (Kc (.ref f) (.ref y));exact k a _ (.inl rfl) e
 |ext φ => obtain⟨p,⟨o,e⟩,st⟩:=x;exact⟨st _ _ p λo q=>k _ _ (.inl rfl) q,⟨o,k _ _ (.inl rfl) e⟩,st⟩
theorem HOk.lt (x:HOk P w H h)(e:H a=Ab o):a<h.objs.size:=(x a o e).lt
theorem HOk.fresh (x:HOk P w H h)(e:h.objs.size<=a):H a=none:=by
 cases q:H a with
 |none=>rfl
 |some u=>exact absurd (Au (x.lt q) e) (CU _)
theorem HOk.kept (x:HOk P w H h)(k:∀ b u,h.get? b=Ab u->h'.get? b=Ab u):HOk P w H h':=λa o e =>
 (x a o e).stay (λb u _ q=>k b u q) (λ_ q=>q) λ_ _ q=>q
theorem HOk.laid (x:HOk P w H h)(k:∀ b u,h.get? b=Ab u->h'.get? b=Ab u)(hp:h.objs.size<=a)(new:z9 P w (upd H a o) h' a o):HOk P w (upd H a o) h':=λb u e=>by
 have hn:=x.fresh hp;by_cases hb:b=a
 .subst hb;rw[qT] at e;cases e;exact new
 .rw[qI hb] at e
  exact(x b u e).stay (λc v _ q=>k c v q) (λc q=>by rw[qI (qO q hn)];exact q) λc xs q=>by rw[qI (qO q hn)];exact q
end
def Rd (H:Hp)(a:Ad)(u:HO):Prop:=H a=Ab u\/∃ o,H a=Ab (.frz o u)
theorem Rd.of {H:Hp}{a:Ad}{u:HO}(h:H a=Ab u):Rd H a u:=.inl h
theorem Rd.ok {P:Az}{w:AL}{H:Hp}{h:A8}{a:Ad}{u:HO}(r:Rd H a u)(x:HOk P w H h):z9 P w H h a u:=by
 rcases r with r|⟨o,r⟩
 .exact x a u r
 .obtain⟨_,q⟩:=x a _ r
  exact q
def Mut:Ak HO->Prop
 |some (.lst _)=>HX
 |some (.dK _)=>HX
 |some (.dT _)=>HX
 |some (.set _ _)=>HX
 |some (.ins _ _ _)=>HX
 |some (.ext _)=>HX
 |_=>CA
section
variable {P:Az}{w:AL}{H:Hp}{h h':A8}{x e:Ad}{o':HO}
theorem HOk.write (ok:HOk P w H h)(mu:Mut (H x))(he:e=x\/H e=Ab (.own x))(k:∀ b u,b≠e->h.get? b=Ab u->h'.get? b=Ab u)(heo:∃ u,h'.get? e=Ab u)
  (new:z9 P w (upd H x o') h' x o'):HOk P w (upd H x o') h':=λb u q=>by
 have nown:∀ c y,H c=Ab (.own y)->c≠x:=λc y r z=>by subst z;rw[r] at mu;exact mu
 have ntup:∀ c xs,H c=Ab (.tup xs)->c≠x:=λc xs r z=>by subst z;rw[r] at mu;exact mu
 by_cases hb:b=x
 .subst hb;rw[qT] at q;cases q;exact new
 .rw[qI hb] at q
  by_cases hbe:b=e
  .have q':H b=Ab (.own x):=by
    rcases he with z|z
    .exact absurd (hbe.trans z) hb
    .rw[hbe];exact z
   rw[q] at q';cases q';obtain⟨v,hv⟩:=heo;exact⟨v,by rw[hbe];exact hv⟩
  .refine(ok b u q).stay (λc v hc r=>k c v ?_ r) (λc r=>by rw[qI (nown c b r)];exact r) λc xs r=>by rw[qI (ntup c xs r)];exact r
   rcases hc with rfl|hc
   .exact hbe
   .rintro rfl
    rcases he with z|z
    .exact nown c b hc z
    .rw[hc] at z;cases z;exact hb rfl
end
structure Un (fs ex:Aa Ad)(H H':Hp)(h h':A8):Prop where
 keep:∀ b o,h.get? b=Ab o->H b=none->b ∉ fs->b ∉ ex->h'.get? b=Ab o
 slot:∀ b o,h.get? b=Ab o->H b=none->b∈fs->b ∉ ex->∃ sl,h'.get? b=Ab { o with slots:=sl }
 free:∀ b o,h.get? b=Ab o->H b=none->b ∉ ex->H' b=none
 there:∀ b o,h.get? b=Ab o->b ∉ ex->∃ o',h'.get? b=Ab o'
 tups:∀ b xs,H b=Ab (.tup xs)->H' b=Ab (.tup xs)
 frzs:∀ b o u,H b=Ab (.frz o u)->H' b=Ab (.frz o u)
 tbls:∀ b ps,H b=Ab (.tbl ps)->∃ more,H' b=Ab (.tbl (ps++more))
section
variable {fs fs' ex ex':Aa Ad}{H H1 H2:Hp}{h h1 h2 h':A8}{a x e:Ad}{o:HO}
theorem Un.any (u:Un fs ex H H1 h h1){b:Ad}{ob:AV}(q:h.get? b=Ab ob)(n:H b=none)(hx:b ∉ ex):∃ sl,h1.get? b=Ab { ob with slots:=sl }:=by
 by_cases hb:b∈fs
 .exact u.slot b ob q n hb hx
 .exact⟨ob.slots,u.keep b ob q n hb hx⟩
theorem Un.kept (k:∀ b u,h.get? b=Ab u->h'.get? b=Ab u):Un fs ex H H h h':=
 ⟨λb ob q _ _ _=>k b ob q,λb ob q _ _ _=>⟨ob.slots,k b ob q⟩,λ_ _ _ n _=>n,λb ob q _=>⟨ob,k b ob q⟩,λ_ _ q=>q,λ_ _ _ q=>q,λ_ ps q=>⟨#[],by rw[q];simp⟩⟩
theorem Un.refl:Un fs ex H H h h:=Un.kept λ_ _ q=>q
theorem Un.laid (k:∀ b u,h.get? b=Ab u->h'.get? b=Ab u)(hp:h.objs.size<=a)(hn:H a=none):Un fs ex H (upd H a o) h h' where
 keep:=λb u q _ _ _=>k b u q
 slot:=λb u q _ _ _=>⟨u.slots,k b u q⟩
 free:=λb u q n _=>by rw[qI (AS (Au (Ax q) hp))];exact n
 there:=λb u q _=>⟨u,k b u q⟩
 tups:=λb xs q=>by rw[qI (qO q hn)];exact q
 frzs:=λb u xs q=>by rw[qI (qO q hn)];exact q
 tbls:=λb ps q=>⟨#[],by rw[qI (qO q hn),q];simp⟩
theorem Un.write (mu:Mut (H x))(he:e=x\/H e=Ab (.own x))(k:∀ b u,b≠e->h.get? b=Ab u->h'.get? b=Ab u)(heo:∃ u,h'.get? e=Ab u):Un fs ex H (upd H x o) h h':=by
 have hx:∀ b,H b=none->b≠x:=λb n z=>by subst z;rw[n] at mu;exact mu
 have hb:∀ b,H b=none->b≠e:=λb n z=>by
  subst z;rcases he with r|r
  .exact hx b n r
  .rw[n] at r;cases r
 have hm:∀ b u,H b=Ab u->¬ Mut (Ab u)->b≠x:=λb u q nm z=>by subst z;rw[q] at mu;exact nm mu
 refine⟨λb u q n _ _=>k b u (hb b n) q,λb u q n _ _=>⟨u.slots,k b u (hb b n) q⟩,λb u q n _=>by rw[qI (hx b n)];exact n,λb u q _=>?_,
  λb xs q=>by rw[qI (hm b _ q λz=>z)];exact q,λb u xs q=>by rw[qI (hm b _ q λz=>z)];exact q,λb ps q=>⟨#[],by rw[qI (hm b _ q λz=>z),q];simp⟩⟩
 by_cases hbe:b=e
 .subst hbe;exact heo
 .exact⟨u,k b u hbe q⟩
end
noncomputable def trk (h:A8)(H:Hp):Aa Ad:=(Bt h.objs.size).filter λa=>(H a).isSome
noncomputable def jJ (h:A8)(H:Hp):A8:=IB h (trk h H)
theorem aJ (h:A8)(H:Hp):(jJ h H).objs.size=h.objs.size:=PySem.W.hideAll_size _ _
theorem Z7 {h:A8}{H:Hp}{b:Ad}{o:AV}(e:h.get? b=Ab o)(n:H b=none):(jJ h H).get? b=Ab o:=
 O0 _ e λhm=>by
  have q:(H b).isSome=true:=(Ru.mp hm).2;rw[n] at q;simp at q
theorem VW {h:A8}{H:Hp}{b:Ad}{o:AV}(e:(jJ h H).get? b=Ab o):h.get? b=Ab o/\H b=none:=by
 have e':h.get? b=Ab o:=OT (trk h H) e;refine⟨e',?_⟩;cases q:H b with
 |none=>rfl
 |some x =>
  have hm:b∈trk h H:=Ru.mpr ⟨Cw.mpr (Ax e'),by simp[q]⟩
  have z:(jJ h H).get? b=none:=PySem.W.hideAll_none (trk h H) hm;rw[z] at e;cases e
noncomputable def WW (g h:A8)(L:Ad):Aa (Ad × AV):=(Bt h.objs.size).filterMap λa=>if a=L\/(g.get? a).isSome=true then none else (h.get? a).map λo=>(a,o)
noncomputable def qM (g h:A8)(L d:Ad):Aa (Ad × AV):=(WW g h L).filter λp=>decide (p.1≠d)
end _L
namespace _L
open PySem PySem.Spec PyProof.Rows
variable {ch:Aa Ad}{E:Ac->Ag->Prop}{t':Ah}{g':Av Rv}{d':Drawn}{M:Gg}{Q:IV->Ag->Prop}
noncomputable def xF:Aa Ar:=["law","_law_right","by_hull","pair_bound","hub","greatest_often"]
def JF (mg:Ar->Ak Ac)(h:A8):Prop:=∃ bm o,mg "__builtins__" = Ab (.ref bm)/\bm≠IU/\h.get? bm=Ab o/\o.cls=.type "module" /\ o.dict=Ab IU/\o.data=.plain
structure Mod (K:Ai)(mg:Ar->Ak Ac)(base:A8):Prop where
 kin:K.In base
 glob:base.Ns Bd mg
 blt:∃ mb,base.Ns IU mb/\∀ x:Ar,x ≠ "__name__" -> mb x=Dt x
 nolimit:base.NoLimit
 bm:JF mg base
 code:∀ x∈xF,∀ c T,Bq K x=Ab (c,T)->Od base c T
 inj:∀ x∈xF,∀ y∈xF,∀ c d T,Bq K x=Ab (c,T)->Bq K y=Ab (d,T)->x=y
structure Cx where
 prog:Az
 w:AL
 K:Ai
 mg:Ar->Ak Ac
 base:A8
 A:AJ
 N:Aa Ar
 s₀:Ag
 H₀:Hp
 env:E0
 outer:Aa E0
 stack:Aa E0
 ex:Aa Ad
 fn:Ar->Ap
 calm:Ap
 pn:Aa (Ad × AV)
 xe:Ac->Ag->Prop
noncomputable def frs (l:Aa E0):Aa Ad:=l.filterMap (·.frame)
abbrev Cx.fs (X:Cx):Aa Ad:=frs X.outer
def Vis (sc:Cj)(x:Ar):Prop:=sc.names.lookup x=Ab .local \/ sc.names.lookup x=Ab .cell\/sc.names.lookup x=Ab .free
def Loc (sc:Cj)(x:Ar):Prop:=sc.names.lookup x=Ab .local \/ sc.names.lookup x=Ab .cell
def JJ (env:E0)(h:A8)(m:Ar->Ak Ac)(x:Ar)(u:Ac):Prop:=
 (env.kindOf x=Ab .local /\ m x=Ab u)\/((env.kindOf x=Ab .cell\/env.kindOf x=Ab .free)/\∃ c,env.cells.lookup x=Ab c/\h.IsCell c (Ab u))
structure Cx.Ok (X:Cx):Prop where
 mod:Mod X.K X.mg X.base
 kind:X.env.scope.kind=.function
 glob:X.env.globals=Bd
 blt:X.env.builtins=IU
 above:X.s₀.heap.objs.size<=X.env.locals
 inj:∀ x y c,X.env.cells.lookup x=Ab c->X.env.cells.lookup y=Ab c->x=y
 has:∀ x,(X.env.kindOf x=Ab .cell\/X.env.kindOf x=Ab .free)->∃ c,X.env.cells.lookup x=Ab c
 cab:∀ x c,X.fn x=true->X.env.cells.lookup x=Ab c->X.s₀.heap.objs.size<=c
 hd:X.calm=true->X.A.handled=none
 frames:X.A.frames=Ab X.stack
 stk:X.stack=X.outer\/(X.stack=X.env::X.outer/\X.env.frame=Ab X.env.locals)
 exf:∀ b∈X.ex,b≠X.env.locals/\∀ x c,X.env.cells.lookup x=Ab c->c≠b
 bs:∀ b o,X.base.get? b=Ab o->X.s₀.heap.get? b=Ab o/\X.H₀ b=none
 bsz:X.base.objs.size<=X.s₀.heap.objs.size
 noex:∀ b o,X.base.get? b=Ab o->b ∉ X.ex
 exfs:∀ b∈X.ex,b ∉ X.fs
 funs:X.s₀.heap.FunFrames X.base X.outer
 frf:∀ b∈X.fs,X.H₀ b=none
structure Inv (X:Cx)(pins:Aa (Ad × AV))(σ : Aa (Ak V))(H:Hp)(s:Ag):Prop where
 ok:X.Ok
 os:s.os=X.s₀.os
 bare:HY s.gens
 base:Un X.fs X.ex X.H₀ H X.s₀.heap s.heap
 loc:∃ m,s.heap.Ns X.env.locals m/\∀ (i:Ah) (x:Ar) (v:V),X.N[i]? = Ab x->σ[i]? = Ab (Ab v)->Vis X.env.scope x->∃ u,qJ v u/\JJ X.env s.heap m x u
 cell:∀ x c,X.env.cells.lookup x=Ab c->∃ v,s.heap.IsCell c v
 free:H X.env.locals=none
 freeC:∀ x c,X.env.cells.lookup x=Ab c->H c=none
 pin:∀ p∈X.pn++pins,s.heap.get? p.1=Ab p.2/\H p.1=none/\p.1≠X.env.locals/\p.1 ∉ X.fs/\∀ v,p.2.data≠.cell v
 hok:HOk X.prog X.w H s.heap
 len:σ.length=X.N.length
section
variable {X:Cx}{pins:Aa (Ad × AV)}{σ : Aa (Ak V)}{H H':Hp}{s:Ag}{h':A8}
theorem Cx.Ok.nofr (ok:X.Ok){b:Ad}{o:AV}(e:X.base.get? b=Ab o):b ∉ X.fs:=λhb=>by
 have:=(ok.funs.mem hb).1;rw[e] at this;cases this
theorem Inv.bs (I:Inv X pins σ H s):∀ b o,X.base.get? b=Ab o->s.heap.get? b=Ab o/\H b=none:=λb o e =>
 ⟨I.base.keep b o (I.ok.bs b o e).1 (I.ok.bs b o e).2 (I.ok.nofr e) (I.ok.noex b o e),I.base.free b o (I.ok.bs b o e).1 (I.ok.bs b o e).2 (I.ok.noex b o e)⟩
theorem Inv.bk (I:Inv X pins σ H s):∀ b o,X.base.get? b=Ab o->s.heap.get? b=Ab o:=λb o e=>(I.bs b o e).1
theorem Inv.mod (I:Inv X pins σ H s):Mod X.K X.mg X.base:=I.ok.mod
theorem Inv.kIn (I:Inv X pins σ H s):X.K.In s.heap:=I.ok.mod.kin.keeps I.bk
theorem Inv.nolimit (I:Inv X pins σ H s):s.heap.NoLimit:=I.ok.mod.nolimit.keeps I.bk
theorem Inv.lt (I:Inv X pins σ H s):X.env.locals<s.heap.objs.size:=let ⟨_,hn,_⟩:=I.loc;hn.lt
theorem Inv.sz (I:Inv X pins σ H s):X.s₀.heap.objs.size<=s.heap.objs.size:=Ca I.ok.above (Ch I.lt)
theorem Inv.nofs (I:Inv X pins σ H s){a:Ad}(h:s.heap.objs.size<=a):a ∉ X.fs:=λhb=>by
 obtain⟨_,o,ho,_⟩:=I.ok.funs.mem hb;exact absurd (Au (Ax ho) (Ca I.sz h)) (CU _)
theorem Inv.cne (I:Inv X pins σ H s):∀ x c,X.env.cells.lookup x=Ab c->c≠X.env.locals:=λx c e z=>by
 obtain⟨v,o,ho,hd⟩:=I.cell x c e;obtain⟨m,⟨o',es,ep,ho',hd',_⟩,_⟩:=I.loc;rw[z,ho'] at ho;cases ho;rw[hd'] at hd;cases hd
theorem Inv.funs (I:Inv X pins σ H s):s.heap.FunFrames X.base X.outer:=by
 have all:∀ (l:Aa E0),(∀ b∈frs l,b∈X.fs)->X.s₀.heap.FunFrames X.base l->s.heap.FunFrames X.base l:=by
  intro l
  induction l with
  |nil=>intro _ _;trivial
  |cons env r ih =>
   intro hs hl;obtain⟨hk,⟨L,o,hf,hn,ho,hd⟩,hr⟩:=hl;have hL:L∈X.fs:=hs L (by unfold frs;rw[E4,hf];exact Cf)
   obtain⟨sl,e⟩:=I.base.slot L o ho (I.ok.frf L hL) hL λz=>I.ok.exfs L z hL;exact⟨hk,⟨L,_,hf,hn,e,hd⟩,ih (λb hb=>hs b (by unfold frs;rw[E4,hf];exact Bc _ hb)) hr⟩
 exact all X.outer (λ_ hb=>hb) I.ok.funs
theorem Inv.stack (I:Inv X pins σ H s):s.heap.FunFrames X.base X.stack:=by
 rcases I.ok.stk with e|⟨e,hf⟩
 .rw[e];exact I.funs
 .rw[e]
  obtain⟨m,hn,_⟩:=I.loc;refine .cons (by rw[I.ok.kind];decide) hf hn ?_ I.funs
  exact EY (Ca I.ok.bsz I.ok.above)
theorem Inv.stkSub (I:Inv X pins σ H s):∀ b∈frs X.stack,b∈X.env.locals::X.fs:=λb hb=>by
 rcases I.ok.stk with e|⟨e,hf⟩
 .rw[e] at hb;exact Bc _ hb
 .rw[e] at hb
  unfold frs at hb;rw[E4,hf] at hb;exact hb
theorem Inv.stkFree (I:Inv X pins σ H s):∀ b∈frs X.stack,H b=none:=λb hb=>by
 rcases AD.mp (I.stkSub b hb) with e|hb
 .rw[e];exact I.free
 .obtain⟨_,o,ho,_⟩:=I.ok.funs.mem hb
  exact I.base.free b o ho (I.ok.frf b hb) λz=>I.ok.exfs b z hb
theorem Inv.step {g':Av Rv}{t':Ah}{d':Drawn}(I:Inv X pins σ H s)
  (hch:∀ b∈ch,(b∈X.ex\/X.s₀.heap.objs.size<=b)/\b≠X.env.locals/\(∀ x c,X.env.cells.lookup x=Ab c->c≠b)/\∀ p∈X.pn++pins,p.1≠b)
  (keep:∀ b o,b≠X.env.locals->b ∉ X.fs->b ∉ ch->s.heap.get? b=Ab o->H b=none->h'.get? b=Ab o)
  (slot:∀ b o,b≠X.env.locals->b∈X.fs->b ∉ ch->s.heap.get? b=Ab o->H b=none->∃ sl,h'.get? b=Ab { o with slots:=sl }) (free:∀ b o,b ∉ ch->s.heap.get? b=Ab o->H b=none->H' b=none)
  (there:∀ b o,b ∉ ch->s.heap.get? b=Ab o->∃ o',h'.get? b=Ab o')
  (tups:∀ b xs,H b=Ab (.tup xs)->H' b=Ab (.tup xs)) (frzs:∀ b o u,H b=Ab (.frz o u)->H' b=Ab (.frz o u)) (tbls:∀ b ps,H b=Ab (.tbl ps)->∃ more,H' b=Ab (.tbl (ps++more)))
  (ns:∀ m,s.heap.Ns X.env.locals m->h'.Ns X.env.locals m) (hok:HOk X.prog X.w H' h') (hg:HY g') :
  Inv X pins σ H' { s with heap:=h',gens:=g',drawn:=d',toks:=t' }:=by
 have neL:∀ b o,X.s₀.heap.get? b=Ab o->b≠X.env.locals:=λb o e=>AS (Au (Ax e) I.ok.above);have neC:∀ b o,X.s₀.heap.get? b=Ab o->b ∉ X.ex->b ∉ ch:=λb o e hx hb=>by
  rcases (hch b hb).1 with z|z
  .exact hx z
  .exact absurd (Au (Ax e) z) (CU _)
 have cellK:∀ x c,X.env.cells.lookup x=Ab c->∀ v,s.heap.IsCell c v->h'.IsCell c v:=λx c e v ⟨o,ho,hd⟩=>by
  have nch:c ∉ ch:=λz=>(hch c z).2.2.1 x c e rfl;by_cases hc:c∈X.fs
  .obtain⟨sl,q⟩:=slot c o (I.cne x c e) hc nch ho (I.freeC x c e)
   exact⟨_,q,hd⟩
  .exact⟨o,keep c o (I.cne x c e) hc nch ho (I.freeC x c e),hd⟩
 refine⟨I.ok,I.os,hg,⟨λb o e n hb hx=>?_,λb o e n hb hx=>?_,λb o e n hx=>?_,λb o e hx=>?_,λb xs e=>tups b xs (I.base.tups b xs e),λb o xs e=>frzs b o xs (I.base.frzs b o xs e),λb ps e=>?_⟩,?_,λx c e=>?_,?_,λx c e=>?_,λp hp=>?_,hok,I.len⟩
 .exact keep b o (neL b o e) hb (neC b o e hx) (I.base.keep b o e n hb hx) (I.base.free b o e n hx)
 .obtain⟨sl,e1⟩:=I.base.slot b o e n hb hx
  obtain⟨sl',e2⟩:=slot b _ (neL b o e) hb (neC b o e hx) e1 (I.base.free b o e n hx);exact⟨sl',e2⟩
 .obtain⟨o',e1⟩:=I.base.there b o e hx
  exact free b o' (neC b o e hx) e1 (I.base.free b o e n hx)
 .obtain⟨o',e1⟩:=I.base.there b o e hx
  exact there b o' (neC b o e hx) e1
 .obtain⟨m1,e1⟩:=I.base.tbls b ps e
  obtain⟨m2,e2⟩:=tbls b _ e1;exact⟨m1++m2,by rw[e2,Array.append_assoc]⟩
 .obtain⟨m,hn,hl⟩:=I.loc
  refine⟨m,ns m hn,λi x v e1 e2 e3=>?_⟩;obtain⟨u,r,l⟩:=hl i x v e1 e2 e3;refine⟨u,r,?_⟩;rcases l with l|⟨k,c,e,z⟩
  .exact .inl l
  .exact .inr ⟨k,c,e,cellK x c e _ z⟩
 .obtain⟨v,z⟩:=I.cell x c e
  exact⟨v,cellK x c e v z⟩
 .obtain⟨m,⟨o,_,_,ho,_⟩,_⟩:=I.loc
  exact free _ o (λz=>(hch _ z).2.1 rfl) ho I.free
 .obtain⟨v,o,ho,hd⟩:=I.cell x c e
  exact free c o (λz=>(hch c z).2.2.1 x c e rfl) ho (I.freeC x c e)
 .obtain⟨e,n,ne,nf,d⟩:=I.pin p hp
  have nch:p.1 ∉ ch:=λz=>(hch p.1 z).2.2.2 p hp rfl;exact⟨keep p.1 p.2 ne nf nch e n,free p.1 p.2 nch e n,ne,nf,d⟩
theorem Inv.un {t':Ah}(I:Inv X pins σ H s)(u:Un X.fs [] H H' s.heap h')(hok:HOk X.prog X.w H' h'):Inv X pins σ H' { s with heap:=h',toks:=t' }:=by
 obtain⟨m,⟨o,es,ep,ho,r⟩,_⟩:=id I.loc;obtain⟨sl,hL⟩:=u.any ho I.free (by simp)
 exact I.step (g':=s.gens) (d':=s.drawn) (ch:=[]) (λ_ z=>nomatch z) (λb o _ hb _ e n=>u.keep b o e n hb (by simp)) (λb o _ hb _ e n=>u.slot b o e n hb (by simp)) (λb o _ e n=>u.free b o e n (by simp)) (λb o _ e=>u.there b o e (by simp)) u.tups u.frzs u.tbls (λm' hm=>by
  obtain⟨o',es',ep',ho',r'⟩:=hm;rw[ho] at ho';cases ho';exact⟨_,es',ep',hL,r'⟩) hok I.bare
theorem Inv.call {t':Ah}{d':Drawn}(I:Inv X pins σ H s)(u:Un (frs X.stack) ch H H' s.heap h')(hok:HOk X.prog X.w H' h')(hg:HY g')
  (hch:∀ b∈ch,(b∈X.ex\/X.s₀.heap.objs.size<=b)/\b≠X.env.locals/\(∀ x c,X.env.cells.lookup x=Ab c->c≠b)/\∀ p∈X.pn++pins,p.1≠b) :
  Inv X pins σ H' { s with heap:=h',gens:=g',drawn:=d',toks:=t' }:=by
 obtain⟨m,⟨o,es,ep,ho,r⟩,_⟩:=id I.loc;obtain⟨sl,hL⟩:=u.any ho I.free λz=>(hch _ z).2.1 rfl;exact I.step (ch:=ch) hch (λb o hL hb hc e n=>u.keep b o e n (λz=>(AD.mp (I.stkSub b z)).elim hL hb) hc) (λb o _ _ hc e n=>u.any e n hc) (λb o hc e n=>u.free b o e n hc) (λb o hc e=>u.there b o e hc) u.tups u.frzs u.tbls (λm' hm=>by
  obtain⟨o',es',ep',ho',r'⟩:=hm;rw[ho] at ho';cases ho';exact⟨_,es',ep',hL,r'⟩) hok hg
theorem Inv.turned {t':Ah}{it:Ad}(I:Inv X pins σ H s)(k:∀ b o,b≠it->s.heap.get? b=Ab o->h'.get? b=Ab o)(hn:H it=none)(hL:it≠X.env.locals)
  (h1:it∈X.ex\/X.s₀.heap.objs.size<=it) (h2:∀ x c,X.env.cells.lookup x=Ab c->c≠it) (h3:∀ p∈X.pn++pins,p.1≠it):Inv X pins σ H { s with heap:=h',toks:=t' }:=by
 have nit:∀ b u,H b=Ab u->b≠it:=λb u e z=>by rw[z,hn] at e;cases e
 refine I.step (g':=s.gens) (d':=s.drawn) (ch:=[it]) (λb hb=>?_) (λb o _ _ hc e _=>k b o (λz=>hc (by simp[z])) e) (λb o _ _ hc e _=>⟨o.slots,k b o (λz=>hc (by simp[z])) e⟩) (λ_ _ _ _ n=>n)
  (λb o hc e=>⟨o,k b o (λz=>hc (by simp[z])) e⟩) (λ_ _ e=>e) (λ_ _ _ e=>e) (λb ps e=>⟨#[],by rw[e];simp⟩) (λm hm=>?_) (λb u e=>?_) I.bare
 .have e:b=it:=by simpa using hb
  subst e;exact⟨h1,hL,h2,h3⟩
 .obtain⟨o,es,ep,ho,r⟩:=hm
  exact⟨o,es,ep,k _ o (Dw hL) ho,r⟩
 .refine(I.hok b u e).stay (λc v hc q=>k c v ?_ q) (λ_ q=>q) λ_ _ q=>q
  rcases hc with z|z
  .rw[z];exact nit b u e
  .exact nit c _ z
theorem Inv.tok (I:Inv X pins σ H s)(t:Ah):Inv X pins σ H { s with toks:=t }:=I.un (h':=s.heap) (t':=t) Un.refl I.hok
theorem Inv.kept {t':Ah}(I:Inv X pins σ H s)(k:∀ b u,s.heap.get? b=Ab u->h'.get? b=Ab u):Inv X pins σ H { s with heap:=h',toks:=t' }:=I.un (Un.kept k) (I.hok.kept k)
theorem Inv.laid {a:Ad}{o:HO}{t':Ah}(I:Inv X pins σ H s)(k:∀ b u,s.heap.get? b=Ab u->h'.get? b=Ab u)(hp:s.heap.objs.size<=a)(new:z9 X.prog X.w (upd H a o) h' a o) :
  Inv X pins σ (upd H a o) { s with heap:=h',toks:=t' }:=I.un (Un.laid k hp (I.hok.fresh hp)) (I.hok.laid k hp new)
theorem Inv.write {x e:Ad}{o:HO}{t':Ah}(I:Inv X pins σ H s)(mu:Mut (H x))(he:e=x\/H e=Ab (.own x))(k:∀ b u,b≠e->s.heap.get? b=Ab u->h'.get? b=Ab u)(heo:∃ u,h'.get? e=Ab u)
  (new:z9 X.prog X.w (upd H x o) h' x o):Inv X pins σ (upd H x o) { s with heap:=h',toks:=t' }:=I.un (Un.write mu he k heo) (I.hok.write mu he k heo new)
theorem Inv.pins_of {pins':Aa (Ad × AV)}(I:Inv X pins σ H s)(h:∀ p∈pins',s.heap.get? p.1=Ab p.2/\H p.1=none/\p.1≠X.env.locals/\p.1 ∉ X.fs/\∀ v,p.2.data≠.cell v):Inv X pins' σ H s:=
 ⟨I.ok,I.os,I.bare,I.base,I.loc,I.cell,I.free,I.freeC,λp hp=>(AX.mp hp).elim (λz=>I.pin p (AT _ z)) (h p),I.hok,I.len⟩
theorem pL {N:Aa Ar}(hN:N.Nodup){i j:Ah}{x:Ar}(a:N[i]? = Ab x)(b:N[j]? = Ab x):i=j:=by
 obtain⟨h1,e1⟩:=AQ.mp a;obtain⟨h2,e2⟩:=AQ.mp b;exact(Lo hN).mp (e1.trans e2.symm)
theorem oG {A:AJ}{i:Ah}{x:Ar}{v:V}{u:Ac}(I:Inv X pins σ H s)(hN:X.N.Nodup)(hi:X.N[i]? = Ab x)(hx:Loc X.env.scope x)(r:qJ v u)
  (h:∀ s',Inv X pins (σ.set i (Ab v)) H s'->(∃ a,DL a s.heap s'.heap/\(a=X.env.locals\/X.env.cells.lookup x=Ab a))->Q () s') (hf:X.fn x=true\/X.env.scope.names.lookup x=Ab .local:=by first|exact .inl rfl|exact .inr rfl|assumption):Ao M A (Te X.env x u) Q E s:=by
 obtain⟨m,hn,hl⟩:=id I.loc;have hcls:(X.env.scope.kind == .class||(X.env.scope.kind == .module&&X.env.locals != X.env.globals))=false:=by rw[I.ok.kind];rfl
 have hiσ:i<σ.length:=by rw[I.len];exact(AQ.mp hi).1
 have cne:=I.cne;have tracked:∀ {a:Ad} {h':A8},(∃ o,s.heap.get? a=Ab o/\H a=none)->DL a s.heap h'->HOk X.prog X.w H h':=λ{a h'} ha hs b ob e=>by
  obtain⟨_,_,hfree⟩:=ha;refine(I.hok b ob e).stay (λc w' hc q=>(hs.2 c ?_).trans q) (λ_ q=>q) λ_ _ q=>q;rintro rfl;rcases hc with rfl|hc
  .rw[hfree] at e;cases e
  .rw[hfree] at hc;cases hc
 rcases hx with hk|hk
 .refine wpAny_storeName_local hk hn (λh' hn' hs=>?_) hcls
  obtain⟨oL,_,_,hoL,_⟩:=id hn;refine h _ ⟨I.ok,I.os,I.bare,⟨λb o e n hb hx=>?_,λb o e n hb hx=>?_,I.base.free,λb o e hx=>?_,I.base.tups,I.base.frzs,I.base.tbls⟩,⟨_,hn',λj y v' e1 e2 e3=>?_⟩,λy c e=>?_,I.free,I.freeC,λp hp=>?_,tracked ⟨oL,hoL,I.free⟩ hs,by simpa using I.len⟩ ⟨_,hs,.inl rfl⟩
  .exact(hs.2 b (AS (Au (Ax e) I.ok.above))).trans (I.base.keep b o e n hb hx)
  .obtain⟨sl,e1⟩:=I.base.slot b o e n hb hx
   exact⟨sl,(hs.2 b (AS (Au (Ax e) I.ok.above))).trans e1⟩
  .obtain⟨o',e1⟩:=I.base.there b o e hx
   exact⟨o',(hs.2 b (AS (Au (Ax e) I.ok.above))).trans e1⟩
  .by_cases hj:j=i
   .subst hj
    rw[hi] at e1;cases e1;rw[CJ hiσ] at e2;cases e2;exact⟨u,r,.inl ⟨hk,by simp⟩⟩
   .rw[By (Dw hj)] at e2
    obtain⟨u',r',q⟩:=hl j y v' e1 e2 e3;refine⟨u',r',?_⟩;rcases q with⟨k,e⟩|⟨k,c,e,z⟩
    .refine .inl ⟨k,?_⟩
     have:y≠x:=λe=>hj (pL hN e1 (e▸hi));simp[this,e]
    .exact .inr ⟨k,c,e,z.sameBut hs (cne y c e)⟩
  .obtain⟨w',z⟩:=I.cell y c e
   exact⟨w',z.sameBut hs (cne y c e)⟩
  .obtain⟨e,n,ne,nf,d⟩:=I.pin p hp
   exact⟨(hs.2 p.1 ne).trans e,n,ne,nf,d⟩
 .have hfn:X.fn x=true:=by
   rcases hf with z|z
   .exact z
   .rw[z] at hk;cases hk
  obtain⟨c,hc⟩:=I.ok.has x (.inl hk);obtain⟨w',z⟩:=I.cell x c hc;refine wpAny_storeName_cell I.ok.kind hk hc z (λh' hc' hs=>?_);obtain⟨oc,hoc,hocd⟩:=id z;refine h { s with heap:=h' } ⟨I.ok,I.os,I.bare,⟨λb o e n hb hx=>?_,λb o e n hb hx=>?_,I.base.free,λb o e hx=>?_,I.base.tups,I.base.frzs,I.base.tbls⟩,⟨m,hn.sameBut hs (Dw (cne x c hc)),λj y v' e1 e2 e3=>?_⟩,λy c' e=>?_,I.free,I.freeC,λp hp=>?_,tracked ⟨oc,hoc,I.freeC x c hc⟩ hs,by simpa using I.len⟩ ⟨c,hs,.inr hc⟩
  .exact(hs.2 b (AS (Au (Ax e) (I.ok.cab x c hfn hc)))).trans (I.base.keep b o e n hb hx)
  .obtain⟨sl,e1⟩:=I.base.slot b o e n hb hx
   exact⟨sl,(hs.2 b (AS (Au (Ax e) (I.ok.cab x c hfn hc)))).trans e1⟩
  .obtain⟨o',e1⟩:=I.base.there b o e hx
   exact⟨o',(hs.2 b (AS (Au (Ax e) (I.ok.cab x c hfn hc)))).trans e1⟩
  .by_cases hj:j=i
   .subst hj
    rw[hi] at e1;cases e1;rw[CJ hiσ] at e2;cases e2;exact⟨u,r,.inr ⟨.inl hk,c,hc,hc'⟩⟩
   .rw[By (Dw hj)] at e2
    obtain⟨u',r',q⟩:=hl j y v' e1 e2 e3;refine⟨u',r',?_⟩;rcases q with q|⟨k,c',e,z'⟩
    .exact .inl q
    .refine .inr ⟨k,c',e,z'.sameBut hs ?_⟩
     rintro rfl;exact hj (pL hN e1 (I.ok.inj _ _ _ e hc▸hi))
  .by_cases hcc:c'=c
   .subst hcc;exact⟨_,hc'⟩
   .obtain⟨w2,z2⟩:=I.cell y c' e
    exact⟨w2,z2.sameBut hs hcc⟩
  .obtain⟨e,n,ne,nf,d⟩:=I.pin p hp
   refine⟨(hs.2 p.1 ?_).trans e,n,ne,nf,d⟩;intro q;rw[q,hoc] at e;have q':oc=p.2:=Bg e;exact d w' (by rw[<- q'];exact hocd)
theorem yF {A:AJ}{i:Ah}{x:Ar}{v:V}{u:Ac}(I:Inv X pins σ H s)(hN:X.N.Nodup)(hi:X.N[i]? = Ab x)(hx:Loc X.env.scope x)(r:qJ v u)
  (h:∀ s',Inv X pins (σ.set i (Ab v)) H s'->Q () s') (hf:X.fn x=true\/X.env.scope.names.lookup x=Ab .local:=by first|exact .inl rfl|exact .inr rfl|assumption):Ao M A (Te X.env x u) Q E s:=
 oG I hN hi hx r (λs' I' _=>h s' I') hf
theorem Inv.call' {s':Ag}(I:Inv X pins σ H s)(ho:s'.os=s.os)(u:Un (frs X.stack) ch H H' s.heap s'.heap)(hok:HOk X.prog X.w H' s'.heap)(hg:HY s'.gens)
  (hch:∀ b∈ch,(b∈X.ex\/X.s₀.heap.objs.size<=b)/\b≠X.env.locals/\(∀ x c,X.env.cells.lookup x=Ab c->c≠b)/\∀ p∈X.pn++pins,p.1≠b):Inv X pins σ H' s':=by
 obtain⟨h',g',d',t',o'⟩:=s';have e:o'=s.os:=ho;subst e;exact I.call (g':=g') (t':=t') (d':=d') u hok hg hch
end
abbrev XK:=Ac->Ak Ad->Hp->Prop
abbrev St:=Aa (Ak V)
abbrev VK:=V->Hp->Prop
abbrev TE:=St->Hp->VK->Prop
abbrev TT:=St->Hp->(Ap->Hp->Prop)->Prop
abbrev TA:=St->Hp->(Aa V->Hp->Prop)->Prop
structure Ends where
 nx:St->Hp->Prop
 rt:VK
 bk:St->Hp->Prop:=λ_ _=>CA
 ct:St->Hp->Prop:=λ_ _=>CA
abbrev TS:=Ends->St->Hp->Prop
inductive EP (X:Cx)(pins:Aa (Ad × AV))(σ : St)(Q:VK)(u:Ac)(s':Ag):Prop
 |mk (v:V) (H':Hp) (I:Inv X pins σ H' s') (r:qJ v u) (q:Q v H'):EP X pins σ Q u s'
inductive TP (X:Cx)(pins:Aa (Ad × AV))(σ : St)(Q:Ap->Hp->Prop)(b:Ap)(s':Ag):Prop
 |mk (H':Hp) (I:Inv X pins σ H' s') (q:Q b H'):TP X pins σ Q b s'
inductive AP (X:Cx)(pins:Aa (Ad × AV))(σ : St)(Q:Aa V->Hp->Prop)(us:Aa Ac)(s':Ag):Prop
 |mk (vs:Aa V) (H':Hp) (I:Inv X pins σ H' s') (r:qK vs us) (q:Q vs H'):AP X pins σ Q us s'
def SP (X:Cx)(pins:Aa (Ad × AV))(D:Ends)(f:Flow)(s':Ag):Prop:=
 match f with
 |.next=>∃ σ' H',Inv X pins σ' H' s'/\D.nx σ' H'
 |.brk=>∃ σ' H',Inv X pins σ' H' s'/\D.bk σ' H'
 |.cont=>∃ σ' H',Inv X pins σ' H' s'/\D.ct σ' H'
 |.ret u=>∃ v σ' H',Inv X pins σ' H' s'/\qJ v u/\D.rt v H'
def PE (X:Cx)(e:AH)(t:TE):Prop:=
 ∀ (pins:Aa (Ad × AV)) (s:Ag) (σ : St) (H:Hp) (Q:VK),Inv X pins σ H s->t σ H Q->Ao (Aq X.prog X.w) X.A (eval e X.env) (EP X pins σ Q) X.xe s
def PT (X:Cx)(e:AH)(t:TT):Prop:=
 ∀ (pins:Aa (Ad × AV)) (s:Ag) (σ : St) (H:Hp) (Q:Ap->Hp->Prop),Inv X pins σ H s->t σ H Q->Ao (Aq X.prog X.w) X.A (isTrue e X.env (eval e X.env)) (TP X pins σ Q) X.xe s
def PW (X:Cx)(e:AH)(t:TT):Prop:=
 ∀ (whole:Gf Ac) (pins:Aa (Ad × AV)) (s:Ag) (σ : St) (H:Hp) (Q:Ap->Hp->Prop),Inv X pins σ H s->t σ H Q->Ao (Aq X.prog X.w) X.A (isTrue e X.env whole) (TP X pins σ Q) X.xe s
def PA (X:Cx)(es:Aa AH)(t:TA):Prop:=
 ∀ (pos:CB) (pins:Aa (Ad × AV)) (s:Ag) (σ : St) (H:Hp) (Q:Aa V->Hp->Prop),Inv X pins σ H s->t σ H Q->Ao (Aq X.prog X.w) X.A (spliced (Dh pos (A5 es X.env))) (AP X pins σ Q) X.xe s
def PS (X:Cx)(st:CF)(t:TS):Prop:=
 ∀ (pins:Aa (Ad × AV)) (s:Ag) (σ : St) (H:Hp) (D:Ends),Inv X pins σ H s->t D σ H->Ao (Aq X.prog X.w) X.A (exec st X.env) (SP X pins D) X.xe s
def PSs (X:Cx)(st:Aa CF)(t:TS):Prop:=
 ∀ (pins:Aa (Ad × AV)) (s:Ag) (σ : St) (H:Hp) (D:Ends),Inv X pins σ H s->t D σ H->Ao (Aq X.prog X.w) X.A (execs st X.env) (SP X pins D) X.xe s
theorem thn {α:Type}{t:Gf α}{Q Q':α->Ag->Prop}{A:AJ}{s:Ag}(h:Ao M A t Q E s)(hQ:∀ a s,Q a s->Q' a s):Ao M A t Q' E s:=Dq h hQ λ_ _ x=>x
end _L
namespace _L
open PySem PySem.Spec PyProof.Rows
variable {pins:Aa (Ad × AV)}{u:Ac}{E Q:Ac->Ag->Prop}
section
variable {X:Cx}
theorem bin {a b:AH}{ta tb:TE}(ha:PE X a ta)(hb:PE X b tb){pins:Aa (Ad × AV)}{s:Ag}{σ : St}{H:Hp}{R:V->V->Hp->Prop}(I:Inv X pins σ H s)(h:ta σ H λx H1=>tb σ H1 λy H2=>R x y H2)
  {α:Type} {Q:α->Ag->Prop} {f:Ac->Ac->Gf α}
  (hf:∀ v u s2 x y H2,Inv X pins σ H2 s2->qJ x v->qJ y u->R x y H2->Ao (Aq X.prog X.w) X.A (f v u) Q X.xe s2) :
  Ao (Aq X.prog X.w) X.A (eval a X.env) (λv s₁=>Ao (Aq X.prog X.w) X.A (eval b X.env) (λu s₂=>Ao (Aq X.prog X.w) X.A (f v u) Q X.xe s₂) X.xe s₁) X.xe s:=by
 refine thn (ha pins s σ H _ I h) λv s1 ⟨x,H1,I1,r1,q1⟩=>?_;refine thn (hb pins s1 σ H1 _ I1 q1) λu s2 ⟨y,H2,I2,r2,q2⟩=>?_;exact hf v u s2 x y H2 I2 r1 r2 q2
def FT (i:Ah):TE:=λσ H Q=>∃ v,σ[i]? = Ab (Ab v)/\Q v H
def tC (v:V):TE:=λ_ H Q=>Q v H
theorem iH {i:Ah}{x:Ar}{pos:CB}(hN:X.N[i]? = Ab x)(hv:Vis X.env.scope x)(hd:(x == ("__debug__" : Ar))=false:=by decide)(hcd:(x == ("__classdict__" : Ar))=false:=by decide):PE X (.Name x pos) (FT i):=by
 intro pins s σ H Q I h;obtain⟨v,e,h⟩:=h;obtain⟨m,hn,hl⟩:=I.loc;obtain⟨u,r,l⟩:=hl i x v hN e hv;have fin:EP X pins σ Q u s:=⟨v,H,I,r,h⟩;rcases l with⟨hk,hm⟩|⟨hk,c,hc,hcell⟩
 .exact Sd (Oq I.ok.kind hk hn hm fin) hd
 .rcases hk with hk|hk
  .exact Sd (O1 I.ok.kind hk hc hcell fin) hd
  .exact Sd (wpAny_loadName_free I.ok.kind hk hc hcell fin hcd) hd
theorem BN:PE X (.Constant (.int i) j pos) (tC (.int i)):=λ_ _ _ H _ I h=>wpAny_Constant_int ⟨.int i,H,I.tok _,⟨_,rfl⟩,h⟩
theorem N9:PE X (.Constant (.bool b) j pos) (tC (.bl b)):=λ_ _ _ H _ I h=>Constant_bool ⟨.bl b,H,I,rfl,h⟩
theorem BO:PE X (.Constant .none j pos) (tC .non):=λ_ _ _ H _ I h=>Constant_none ⟨.non,H,I,rfl,h⟩
theorem BQ:PE X (.Constant (.str x) j pos) (tC (.str x)):=λ_ _ _ H _ I h=>Calls.Constant_str ⟨.str x,H,I.tok _,⟨_,rfl⟩,h⟩
def Gl (X:Cx)(x:Ar):Prop:=X.env.kindOf x=Ab .globalImplicit
theorem yE {s:Ag}{σ:St}{H:Hp}{x:Ar}{pos:CB}(I:Inv X pins σ H s)(hg:Gl X x)(hm:X.mg x=Ab u)(h:Q u s)
  (hd:(x == ("__debug__" : Ar))=false:=by decide):Ao (Aq X.prog X.w) X.A (eval (.Name x pos) X.env) Q E s:=
 Jq I.ok.kind hg (Calls.loadGlobal_global (by rw[I.ok.glob];exact I.mod.glob.keeps I.bk) hm h) hd
theorem yK {s:Ag}{σ:St}{H:Hp}{x:Ar}{pos:CB}(I:Inv X pins σ H s)(hg:Gl X x)(hm:X.mg x=none)(hv:Dt x=Ab u)(h:Q u s)
  (hn:x ≠ "__name__":=by decide) (hd:(x == ("__debug__" : Ar))=false:=by decide):Ao (Aq X.prog X.w) X.A (eval (.Name x pos) X.env) Q E s:=by
 obtain⟨mb,h1,h2⟩:=I.mod.blt;exact Jq I.ok.kind hg (Calls.loadGlobal_builtin (by rw[I.ok.glob];exact I.mod.glob.keeps I.bk) hm (by rw[I.ok.blt];exact h1.keeps I.bk) ((h2 x hn).trans hv) h) hd
theorem U1 {x:Ar}{v:V}{pos:CB}(hg:Gl X x)(hm:X.mg x=Ab u)(r:qJ v u)(hd:(x == ("__debug__" : Ar))=false:=by decide):PE X (.Name x pos) (tC v):=
 λ_ _ _ H _ I h=>yE I hg hm ⟨v,H,I,r,h⟩ hd
theorem U0 {x:Ar}{v:V}{pos:CB}(hg:Gl X x)(hm:X.mg x=none)(hv:Dt x=Ab u)(r:qJ v u)(hn:x ≠ "__name__":=by decide)(hd:(x == ("__debug__" : Ar))=false:=by decide):PE X (.Name x pos) (tC v):=
 λ_ _ _ H _ I h=>yK I hg hm hv ⟨v,H,I,r,h⟩ hn hd
variable {a b:AH}{ta tb:TE}{pos:CB}
variable {tA tB':TT}{qM:Aa AH}
theorem F0 (ha:PT X a tA):PW X (.BoolOp .Or [a] pos) tA:=by
 intro wh pins s σ H Q I h;refine isTrue_or (thn (ha pins s σ H Q I h) λc s1 e=>?_);cases c with
 |false=>exact isTrue_or_nil e
 |true=>exact e
theorem BP {t:TE}(h:PE X a t):PE X (.BoolOp op [a] pos) t:=λpins s σ H Q I hw=>BoolOp_one (h pins s σ H Q I hw)
end
end _L
namespace _L
open PySem PySem.Spec PyProof.Rows
variable {tg:AH}{w:AL}{es:Aa AH}{i:Ah}{K:Ai}{x:Ar}{P:Az}
def SqL (K:Ai)(H:Hp)(a:Ad)(xs:Aa V):Prop:=
 Rd H a (.lst xs) \/
  ∃ (o:AV) (its:Av Ac) (n:Ah),K.lookup a=Ab o/\o.cls=.type "list" /\ o.dict=none/\o.data=.seq its n/\its.size<=sizeLine/\qK xs its.toList
def SqT (K:Ai)(H:Hp)(a:Ad)(xs:Aa V):Prop:=
 Rd H a (.tup xs) \/
  ∃ (o:AV) (its:Av Ac) (n:Ah),K.lookup a=Ab o/\o.cls=.type "tuple" /\ o.data=.seq its n/\its.size<=sizeLine/\qK xs its.toList
noncomputable def LN:Ac->Ak V
 |.none=>Ab .non
 |.bool b=>Ab (.bl b)
 |.int i _=>Ab (.int i)
 |.str x _=>Ab (.str x)
 |.bytes b _=>Ab (.byt b)
 |.float b _=>Ab (.flt b)
 |.ref a=>Ab (.ref a)
 |.type n=>Ab (.ty n)
 |_=>none
theorem qJ.abs {x:V}{u:Ac}(r:qJ x u):LN u=Ab x:=by
 cases x with
 |non=>cases r;rfl
 |bl _=>cases r;rfl
 |int _=>obtain⟨t,rfl⟩:=r;rfl
 |str _=>obtain⟨t,rfl⟩:=r;rfl
 |byt _=>obtain⟨t,rfl⟩:=r;rfl
 |flt _=>obtain⟨t,rfl⟩:=r;rfl
 |ref _=>cases r;rfl
 |ty _=>cases r;rfl
theorem qJ.inj {x y:V}{u:Ac}(r:qJ x u)(q:qJ y u):x=y:=Bg (r.abs.symm.trans q.abs)
theorem qK.inj {xs ys:Aa V}{us:Aa Ac}(h:qK xs us)(k:qK ys us):xs=ys:=by
 induction h generalizing ys with
 |nil=>cases k;rfl
 |cons r t ih =>
  cases k with
  |cons r' t'=>rw[r.inj r',ih t']
section
variable {X:Cx}{pins:Aa (Ad × AV)}{σ : St}{H:Hp}{s:Ag}{a:Ad}{xs ys:Aa V}
theorem SqL.of (h:H a=Ab (.lst xs)):SqL K H a xs:=.inl (.inl h)
theorem SqT.of (h:H a=Ab (.tup xs)):SqT K H a xs:=.inl (.inl h)
theorem Inv.list (I:Inv X pins σ H s)(h:SqL X.K H a xs):∃ its:Aa Ac,qK xs its/\PlainL s.heap a its.toArray/\xs.length<=sizeLine:=by
 rcases h with h|⟨o,its,n,hk,hc,hd,hs,hz,r⟩
 .obtain⟨z,its,n,r,e⟩:=h.ok I.hok
  exact⟨its,r,⟨_,n,e,rfl,rfl,rfl⟩,z⟩
 .refine⟨its.toList,r,⟨o,n,I.kIn a o hk,hc,hd,by simpa using hs⟩,?_⟩
  have e:=r.length;simp only[A4] at e;omega
theorem Inv.tuple (I:Inv X pins σ H s)(h:SqT X.K H a xs):∃ its:Aa Ac,qK xs its/\Pw s.heap a its.toArray/\xs.length<=sizeLine:=by
 rcases h with h|⟨o,its,n,hk,hc,hs,hz,r⟩
 .obtain⟨z,its,r,p⟩:=h.ok I.hok
  exact⟨its,r,p,z⟩
 .refine⟨its.toList,r,⟨o,I.kIn a o hk,hc,n,by simpa using hs⟩,?_⟩
  have e:=r.length;simp only[A4] at e;omega
theorem Inv.list_inj (I:Inv X pins σ H s)(h:SqL X.K H a xs)(h':SqL X.K H a ys):xs=ys:=by
 obtain⟨its,r,⟨o,n,e,_,_,d⟩,_⟩:=I.list h;obtain⟨its',r',⟨o',n',e',_,_,d'⟩,_⟩:=I.list h';rw[e] at e';cases e';rw[d] at d';injection d' with d1 _
 have:its=its':=by simpa using congrArg T0 d1
 subst this;exact r.inj r'
theorem Inv.tuple_inj (I:Inv X pins σ H s)(h:SqT X.K H a xs)(h':SqT X.K H a ys):xs=ys:=by
 obtain⟨its,r,⟨o,e,_,n,d⟩,_⟩:=I.tuple h;obtain⟨its',r',⟨o',e',_,n',d'⟩,_⟩:=I.tuple h';rw[e] at e';cases e';rw[d] at d';injection d' with d1 _
 have:its=its':=by simpa using congrArg T0 d1
 subst this;exact r.inj r'
end
abbrev Cx.wish (X:Cx)(E:Ac->Ag->Prop):Cx:={ X with xe:=E }
abbrev Cx.nox (X:Cx):Cx:=X.wish λ_ _=>CA
theorem Cx.Ok.wish {X:Cx}(ok:X.Ok)(E:Ac->Ag->Prop):(X.wish E).Ok:=
 ⟨ok.mod,ok.kind,ok.glob,ok.blt,ok.above,ok.inj,ok.has,ok.cab,ok.hd,ok.frames,ok.stk,ok.exf,ok.bs,ok.bsz,ok.noex,ok.exfs,ok.funs,ok.frf⟩
theorem Cx.Ok.unwish {X:Cx}{E:Ac->Ag->Prop}(ok:(X.wish E).Ok):X.Ok:=
 ⟨ok.mod,ok.kind,ok.glob,ok.blt,ok.above,ok.inj,ok.has,ok.cab,ok.hd,ok.frames,ok.stk,ok.exf,ok.bs,ok.bsz,ok.noex,ok.exfs,ok.funs,ok.frf⟩
section
variable {X:Cx}{pins:Aa (Ad × AV)}{σ : St}{H:Hp}{s:Ag}{E:Ac->Ag->Prop}
theorem Inv.wish (I:Inv X pins σ H s)(E:Ac->Ag->Prop):Inv (X.wish E) pins σ H s:=⟨I.ok.wish E,I.os,I.bare,I.base,I.loc,I.cell,I.free,I.freeC,I.pin,I.hok,I.len⟩
theorem Inv.unwish (I:Inv (X.wish E) pins σ H s):Inv X pins σ H s:=⟨I.ok.unwish,I.os,I.bare,I.base,I.loc,I.cell,I.free,I.freeC,I.pin,I.hok,I.len⟩
theorem SP.unwish {D:Ends}{f:Flow}{s':Ag}(h:SP (X.wish E) pins D f s'):SP X pins D f s':=by
 cases f with
 |next=>obtain⟨σ',H',I,q⟩:=h;exact⟨σ',H',I.unwish,q⟩
 |brk=>obtain⟨σ',H',I,q⟩:=h;exact⟨σ',H',I.unwish,q⟩
 |cont=>obtain⟨σ',H',I,q⟩:=h;exact⟨σ',H',I.unwish,q⟩
 |ret u=>obtain⟨v,σ',H',I,r,q⟩:=h;exact⟨v,σ',H',I.unwish,r,q⟩
theorem PE.nox {e:AH}{t:TE}(h:PE X.nox e t):PE X e t:=λpins s σ H Q I hw =>
 Dq (h pins s σ H Q (I.wish _) hw) (λ_ _ ⟨v,H',I',r,q⟩=>⟨v,H',I'.unwish,r,q⟩) λ_ _ z=>An z
theorem PT.nox {e:AH}{t:TT}(h:PT X.nox e t):PT X e t:=λpins s σ H Q I hw =>
 Dq (h pins s σ H Q (I.wish _) hw) (λ_ _ ⟨H',I',q⟩=>⟨H',I'.unwish,q⟩) λ_ _ z=>An z
theorem PSs.nox {st:Aa CF}{t:TS}(h:PSs X.nox st t):PSs X st t:=λpins s σ H D I hw =>
 Dq (h pins s σ H D (I.wish _) hw) (λ_ _ q=>q.unwish) λ_ _ z=>An z
end
section
variable {X:Cx}{st:CF}{qM:Aa CF}{t u:TS}{e:AH}{te:TE}{pos:CB}
def NU:TS:=λD σ H=>D.nx σ H
def SD (t u:TS):TS:=λD σ H=>t { D with nx:=u D } σ H
theorem U8:PSs X [] NU:=λ_ _ σ H _ I h=>Hk ⟨σ,H,I,h⟩
theorem X4 (h1:PS X st t)(h2:PSs X qM u):PSs X (st::qM) (SD t u):=by
 intro pins s σ H D I h;refine Qv (thn (h1 pins s σ H { D with nx:=u D } I h) λf s1 q=>?_)
 cases f with
 |next =>
  obtain⟨σ',H',I',q⟩:=q;exact h2 pins s1 σ' H' D I' q
 |ret v=>exact q
 |brk=>exact q
 |cont=>exact q
theorem U9 (h1:PS X st t):PSs X [st] t:=by
 intro pins s σ H D I h;refine Qv (thn (h1 pins s σ H D I h) λf s1 q=>?_);cases f with
 |next=>exact Hk q
 |ret v=>exact q
 |brk=>exact q
 |cont=>exact q
theorem Inv.quiet {pins:Aa (Ad × AV)}{σ:St}{H:Hp}{s:Ag}(I:Inv X pins σ H s):interactive X.env=false:=by simp[interactive,I.ok.kind]
end
abbrev TG:=V->St->Hp->(St->Hp->Prop)->Prop
abbrev TGs:=Aa V->St->Hp->(St->Hp->Prop)->Prop
def PG (X:Cx)(target:AH)(t:TG):Prop:=
 ∀ (pins:Aa (Ad × AV)) (s:Ag) (σ : St) (H:Hp) (v:V) (u:Ac) (Q:St->Hp->Prop),Inv X pins σ H s->qJ v u->t v σ H Q ->
  Ao (Aq X.prog X.w) X.A (assign target X.env u) (λ_ s'=>∃ σ' H',Inv X pins σ' H' s'/\Q σ' H') X.xe s
def PGs (X:Cx)(ts:Aa AH)(t:TGs):Prop:=
 ∀ (pins:Aa (Ad × AV)) (s:Ag) (σ : St) (H:Hp) (vs:Aa V) (us:Aa Ac) (Q:St->Hp->Prop),Inv X pins σ H s->qK vs us->t vs σ H Q ->
  Ao (Aq X.prog X.w) X.A (O6 ((Dy ts X.env).map (·.2)) us) (λ_ s'=>∃ σ' H',Inv X pins σ' H' s'/\Q σ' H') X.xe s
abbrev JK:=V->V->V->Hp->(Hp->Prop)->Prop
def tY (X:Cx)(t:JK):Prop:=
 ∀ (pins:Aa (Ad × AV)) (s:Ag) (σ : St) (H:Hp) (o i v:V) (ov iv u:Ac) (Q:Hp->Prop),Inv X pins σ H s->qJ o ov->qJ i iv->qJ v u->t o i v H Q ->
  Ao (Aq X.prog X.w) X.A (Tf ov iv u) (λ_ s'=>∃ H',Inv X pins σ H' s'/\Q H') X.xe s
abbrev TIp:=V->V->Hp->VK->Prop
def PIp (X:Cx)(op:HR)(t:TIp):Prop:=
 ∀ (pins:Aa (Ad × AV)) (s:Ag) (σ : St) (H:Hp) (x y:V) (v u:Ac) (Q:VK),Inv X pins σ H s->qJ x v->qJ y u->t x y H Q ->
  Ao (Aq X.prog X.w) X.A (inplaceOp op v u) (EP X pins σ Q) X.xe s
section
variable {X:Cx}{pos:CB}
def MV (i:Ah):TG:=λv σ H Q=>Q (σ.set i (Ab v)) H
theorem U3 (hN:X.N.Nodup)(hi:X.N[i]? = Ab x)(hx:Loc X.env.scope x)(hf:X.fn x=true\/X.env.scope.names.lookup x=Ab .local:=by first|exact .inl rfl|exact .inr rfl|assumption):PG X (.Name x pos) (MV i):=by
 intro pins s σ H v u Q I r h;exact wpAny_assign_Name (yF I hN hi hx r (λs' I'=>⟨_,H,I',h⟩) hf)
def D3:TGs:=λvs σ H Q=>vs=[]/\Q σ H
def MU (t:TG)(u:TGs):TGs:=λvs σ H Q=>∃ v r,vs=v::r/\t v σ H λσ' H'=>u r σ' H' Q
theorem U4:PGs X [] D3:=by
 intro pins s σ H vs us Q I r h;obtain⟨e,h⟩:=h;subst e;cases r;exact Px ⟨σ,H,I,h⟩
theorem X0 {e:AH}{t:TG}{u:TGs}(h1:PG X e t)(h2:PGs X es u)
  (hs:(Dy (e::es) X.env).map (·.2)=assign e X.env::(Dy es X.env).map (·.2):=by rfl):PGs X (e::es) (MU t u):=by
 intro pins s σ H vs us Q I r h;obtain⟨v,vr,e1,h⟩:=h;subst e1;cases r with
 |cons r rr =>
  rw[hs];refine Jl (thn (h1 pins s σ H _ _ _ I r h) λ_ s1 ⟨σ1,H1,I1,q1⟩=>?_);exact h2 pins s1 σ1 H1 _ _ Q I1 rr q1
def D4 (K:Ai)(n:Ah)(t:TGs):TG:=λv σ H Q=>∃ a xs,v=.ref a/\SqT K H a xs/\xs.length=n/\t xs σ H Q
theorem BS {k:Ah}{t:TGs}{n:Ah}(hc:X.calm=true)(h:PGs X es t)
  (hn:(Dy es X.env).length=n:=by rfl) (hst:(Dy es X.env).findIdx? (·.1)=none:=by rfl):PG X (.Tuple es k pos) (D4 X.K n t):=by
 intro pins s σ H v u Q I r hw;obtain⟨a,xs,e1,hq,hl,hw⟩:=hw;subst e1;cases r;obtain⟨its,rv,ht,hz⟩:=I.tuple hq;refine assign_Tuple_tuple (I.ok.hd hc) ht (by simp[hn,<- hl,rv.length]) hst λh' hx=>?_
 have I1:Inv X pins σ H { s with heap:=h' }:=I.kept (t':=s.toks) λb o e=>hx b o (AS (Ax e)) e
 exact h pins _ σ H xs _ Q I1 (by simpa using rv) hw
def SC (i j:Ah)(ta:TA):TS:=λD σ H=>ta σ H λvs H1=>∃ v w,vs=[v,w]/\D.nx ((σ.set i (Ab v)).set j (Ab w)) H1
theorem BX {j:Ah}{y:Ar}{a b:AH}{ta:TA}{px py pt:CB} {kt k2 pt2} (hc:X.calm=true) (hN:X.N.Nodup) (hi:X.N[i]? = Ab x) (hj:X.N[j]? = Ab y) (hij:i≠j)
  (hx:X.env.scope.names.lookup x=Ab .local) (hy:X.env.scope.names.lookup y=Ab .local) (ha:PA X [a,b] ta)
  (hw:Gx [.Tuple [.Name x px,.Name y py] kt pt] (.Tuple [a,b] k2 pt2) X.env=pure (Ab [x,y]))
  (hs:Gy [.Tuple [.Name x px,.Name y py] kt pt] (.Tuple [a,b] k2 pt2) pos.line X.env=pure false:=by rfl) :
  PS X (.Assign [.Tuple [.Name x px,.Name y py] kt pt] (.Tuple [a,b] k2 pt2) pos) (SC i j ta):=by
 intro pins s σ H D I h;rw[exec_Assign_arm];refine Af (Gz ?_);rw[hs];refine Af (Al ?_);rw[AB (by decide)]
 refine Af (Tuple_ (thn (ha _ pins s σ H _ I h) λus s1 ⟨vs,H1,I1,r1,q1⟩=>?_));obtain⟨v,w,e1,q1⟩:=q1;subst e1;obtain⟨u1,u2,rfl,rv,rw'⟩:∃ u1 u2,us=[u1,u2]/\qJ v u1/\qJ w u2:=by
  cases r1 with
  |cons p q =>
   cases q with
   |cons p' q' =>
    cases q';exact⟨_,_,rfl,p,p'⟩
 refine CG ?_ (by show 2<=sizeLine;decide)
 have I2:Inv X pins σ H1 { s1 with heap:=s1.heap.push { cls:=.type "tuple",data:=.seq [u1,u2].toArray } }:=I1.kept (t':=s1.toks) λb o e=>Aj _ e
 rw[hw];refine Af (Al ?_);show Ao (Aq X.prog X.w) X.A (do rule "assign.swapped-stores";let items <- unpackItems (.ref s1.heap.objs.size) 2 none;O6 [λv=>OP X.env y v,λv=>OP X.env x v] items.reverse;pure Flow.next) _ _ _
 refine Af (Ef (Af (unpackItems_tuple (items:=#[u1,u2]) (I.ok.hd hc) (Tg s1.heap _) λh' hx'=>?_)));have I3:=I2.kept (h':=h') (t':=s1.toks) λb o e=>hx' b o (AS (Ax e)) e;show Ao _ _ (O6 [λv=>OP X.env y v,λv=>OP X.env x v] [u2,u1] >>= λ_=>pure Flow.next) _ _ _;refine Af (Jl (wpAny_bindName (yF I3 hN hj (.inl hy) rw' (λs2 I4=>?_) (.inr hy))));refine Jl (wpAny_bindName (yF I4 hN hi (.inl hx) rv (λs3 I5=>Px (Al ?_)) (.inr hx)));rw[List.set_comm _ _ (Dw hij)] at I5;exact⟨_,H1,I5,q1⟩
def DZ (i:Ah)(te:TE)(ti:TIp):TS:=λD σ H=>∃ x,σ[i]? = Ab (Ab x)/\te σ H λy H1=>ti x y H1 λz H2=>D.nx (σ.set i (Ab z)) H2
theorem BV {e:AH}{te:TE}{op:HR}{ti:TIp}{pos':CB}(hN:X.N.Nodup)(hi:X.N[i]? = Ab x)(hx:Loc X.env.scope x)(he:PE X e te)(ho:PIp X op ti)(hf:X.fn x=true\/X.env.scope.names.lookup x=Ab .local:=by first|exact .inl rfl|exact .inr rfl|assumption) :
  PS X (.AugAssign (.Name x pos') op e pos) (DZ i te ti):=by
 intro pins s σ H D I h;obtain⟨v,e1,h⟩:=h;obtain⟨m,hn,hl⟩:=I.loc;have vis:Vis X.env.scope x:=by rcases hx with k|k;exact .inl k;exact .inr (.inl k)
 obtain⟨u,r,l⟩:=hl i x v hi e1 vis;refine wpAny_AugAssign_Name ?_;have go:Ao (Aq X.prog X.w) X.A (eval e X.env) (λw s₂=>Ao (Aq X.prog X.w) X.A (inplaceOp op u w) (λr s₃=>Ao (Aq X.prog X.w) X.A (Te X.env x r) (λ_=>SP X pins D .next) X.xe s₃) X.xe s₂) X.xe s:=by
  refine thn (he pins s σ H _ I h) λw s1 ⟨y,H1,I1,r1,q1⟩=>?_;refine thn (ho pins s1 σ H1 v y u w _ I1 r r1 q1) λz s2 ⟨zv,H2,I2,r2,q2⟩=>?_;exact yF I2 hN hi hx r2 (λs3 I3=>⟨_,H2,I3,q2⟩) hf
 rcases l with⟨hk,hm⟩|⟨hk,c,hc,hcell⟩
 .exact Oq I.ok.kind hk hn hm go
 .rcases hk with hk|hk
  .exact O1 I.ok.kind hk hc hcell go
  .rcases hx with k|k
   .have:X.env.scope.names.lookup x=Ab .free:=hk
    rw[k] at this;cases this
   .have:X.env.scope.names.lookup x=Ab .free:=hk
    rw[k] at this;cases this
def ipI (f:Am->Am->Am):TIp:=λx y H Q=>∃ i j,x=.int i/\y=.int j/\Q (.int (f i j)) H
theorem GO:PIp X .Add (ipI λi j=>i+j):=by
 intro pins s σ H x y v u Q I r1 r2 h;obtain⟨i,j,e1,e2,q⟩:=h;subst e1;subst e2;obtain⟨t,rfl⟩:=r1;obtain⟨t',rfl⟩:=r2;exact iadd_int ⟨.int _,H,I.tok _,⟨_,rfl⟩,q⟩
theorem GP:PIp X .Sub (ipI λi j=>i-j):=by
 intro pins s σ H x y v u Q I r1 r2 h;obtain⟨i,j,e1,e2,q⟩:=h;subst e1;subst e2;obtain⟨t,rfl⟩:=r1;obtain⟨t',rfl⟩:=r2;exact isub_int ⟨.int _,H,I.tok _,⟨_,rfl⟩,q⟩
end
section
variable {X:Cx}{pos:CB}
def FU (c:TT)(tb:TS):TS:=λD σ H=>∃ W:Ah->St->Hp->Prop,(∃ m,W m σ H)/\∀ m σ H,W m σ H ->
 c σ H λb H1=>if b=true then ∃ N:St->Hp->Prop,(∀ σ' H',N σ' H'->∃ m',m'<m/\W m' σ' H')/\tb { D with nx:=N,ct:=N,bk:=D.nx } σ H1 else D.nx σ H1
theorem X3 {c:AH}{body:Aa CF}{tc:TT}{tb:TS}(hp:IC (Aq X.prog X.w) X.A X.env X.xe)(hc:PT X c tc)(hb:PSs X body tb):PS X (.While c body [] pos) (FU tc tb):=by
 intro pins s σ H D I h;obtain⟨W,⟨m0,w0⟩,turn⟩:=h;refine wpAny_While (codeAny_whileLoop (λn s'=>∃ σ' H',Inv X pins σ' H' s'/\W n σ' H') ?_ m0 ⟨σ,H,I,w0⟩);rintro n s1 ⟨σ1,H1,I1,w1⟩;refine EN hp (thn (hc pins s1 σ1 H1 _ I1 (turn n σ1 H1 w1)) λb s2 ⟨H2,I2,q2⟩=>?_);cases b with
 |true =>
  obtain⟨N,hN,q2⟩:=q2;rw[AA rfl];refine EN hp (thn (hb pins s2 σ1 H2 _ I2 q2) λf s3 q3=>?_);cases f with
  |next =>
   obtain⟨σ3,H3,I3,n3⟩:=q3;obtain⟨m',hm,w3⟩:=hN σ3 H3 n3;exact⟨m',hm,σ3,H3,I3,w3⟩
  |cont =>
   obtain⟨σ3,H3,I3,n3⟩:=q3;obtain⟨m',hm,w3⟩:=hN σ3 H3 n3;exact⟨m',hm,σ3,H3,I3,w3⟩
  |brk=>exact q3
  |ret v=>exact q3
 |false =>
  rw[AB ED];exact Hk ⟨σ1,H2,I2,q2⟩
end
structure It where
 go:Ah->Hp->Prop
 yld:Ah->Hp->V->Hp->Prop
 stop:Ah->Hp->Prop
def zO (X:Cx)(pins:Aa (Ad × AV))(H:Hp)(b:Ad):Prop:=
 H b=none/\b≠X.env.locals/\b ∉ X.fs/\(b∈X.ex\/X.s₀.heap.objs.size<=b)/\(∀ x c,X.env.cells.lookup x=Ab c->c≠b)/\∀ p∈X.pn++pins,p.1≠b
theorem Inv.fpOk {X:Cx}{pins:Aa (Ad × AV)}{σ:St}{H H':Hp}{s:Ag}{b:Ad}(I:Inv X pins σ H s)(hb:s.heap.objs.size<=b)(hn:H' b=none):zO X pins H' b:=by
 refine⟨hn,Ej (Au I.lt hb),I.nofs hb,.inr (Ca I.sz hb),λx c e z=>?_,λp hp z=>?_⟩
 .obtain⟨v,q⟩:=I.cell x c e
  exact absurd (Au q.lt (by rw[z];exact hb)) (CU _)
 .exact absurd (Au (Ax (I.pin p hp).1) (by rw[z];exact hb)) (CU _)
structure Turn (P:Az)(w:AL)(K:Ai)(tg:AH)(J:It)(fp:Aa Ad)(it:Ad)(tn:Ah->A8->Prop):Prop where
 mem:it∈fp
 obj:∀ i h,tn i h->∀ b∈fp,∃ o,h.get? b=Ab o/\∀ v,o.data≠.cell v
 keep:∀ i h h',tn i h->(∀ b∈fp,∀ o,h.get? b=Ab o->h'.get? b=Ab o)->tn i h'
 item:∀ (X:Cx),X.prog=P->X.w=w->X.K=K->X.calm=true->∀ (i:Ah) (pins:Aa (Ad × AV)) (s:Ag) (σ : St) (H:Hp) (E:Ac->Ag->Prop),Inv X pins σ H s->(∀ b∈fp,zO X pins H b)->tn i s.heap->J.go i H ->
  Ao (Aq P w) X.A (IN (.ref it)) (λr s1=>∃ u,r=Ab u /\
   Ao (Aq P w) X.A (Fw tg (.ref it) u) (λ_ s2=>∃ x H',Inv X pins σ H' s2/\qJ x u/\J.yld i H x H'/\tn (i+1) s2.heap/\∀ b∈fp,H' b=none) E s1) E s
 done:∀ (X:Cx),X.prog=P->X.w=w->X.K=K->X.calm=true->∀ (i:Ah) (pins:Aa (Ad × AV)) (s:Ag) (σ : St) (H:Hp) (E:Ac->Ag->Prop),Inv X pins σ H s->(∀ b∈fp,zO X pins H b)->tn i s.heap->J.stop i H ->
  Ao (Aq P w) X.A (IN (.ref it)) (λr s1=>r=none/\Inv X pins σ H s1) E s
 self:∀ (A:AJ) (i:Ah) (s:Ag) (Q:Ac->Ag->Prop) (E:Ac->Ag->Prop),tn i s.heap->Q (.ref it) s->Ao (Aq P w) A (IP (.ref it)) Q E s
abbrev TI:=St->Hp->(It->Hp->Prop)->Prop
inductive PIE (X:Cx)(pins:Aa (Ad × AV))(σ : St)(tg:AH)(R:It->Hp->Prop)(itv:Ac)(s2:Ag):Prop
 |mk (it:Ad) (fp:Aa Ad) (tn:Ah->A8->Prop) (J:It) (H':Hp) (e:itv=.ref it) (I:Inv X pins σ H' s2) (t:Turn X.prog X.w X.K tg J fp it tn) (z:tn 0 s2.heap) (f:∀ b∈fp,zO X pins H' b) (q:R J H'):PIE X pins σ tg R itv s2
def PI (X:Cx)(tg iter:AH)(wi:TI):Prop:=
 ∀ (pins:Aa (Ad × AV)) (s:Ag) (σ : St) (H:Hp) (R:It->Hp->Prop),Inv X pins σ H s->wi σ H R ->
  Ao (Aq X.prog X.w) X.A (eval iter X.env) (λv s1=>Ao (Aq X.prog X.w) X.A (IP v) (PIE X pins σ tg R) X.xe s1) X.xe s
theorem eI {M:Gg}{A:AJ}{E:Ac->Ag->Prop}{s:Ag}{it:Ad}{u:Ac}{o:AV}{n:Bp}{vs:Av Ac}{Q:IV->Ag->Prop}(ho:s.heap.get? it=Ab o)(hc:o.cls=.type n)(hd:o.data=.fields vs)
    (hn:["enumerate","zip","dict_itemiterator","dict_reverseitemiterator","odict_iterator","itertools.zip_longest","itertools.pairwise"].contains n=false) (hQ:Q () s):Ao M A (Fw tg (.ref it) u) Q E s:=by
  unfold Fw;cases tg <;> first
    |exact Al hQ
    |(cases u <;> first
        |exact Al hQ
        | (refine Af (wpAny_load ho ?_)
           rw[hc,hd];show Ao M A (if (["enumerate","zip","dict_itemiterator","dict_reverseitemiterator","odict_iterator","itertools.zip_longest","itertools.pairwise"].contains n&&vs[0]? == Ab (Eb _))=true then _ else _) Q E s
           rw[AB (by intro h;rw[hn,Jb] at h;cases h)]
           exact Al hQ))
noncomputable def Itl (K:Ai)(a:Ad):It:=
 ⟨λi H=>∃ xs x,SqL K H a xs/\xs[i]? = Ab x,λi H x H'=>H'=H/\∀ xs,SqL K H a xs->xs[i]? = Ab x,λi H=>∃ xs,SqL K H a xs/\xs.length<=i⟩
noncomputable def Itt (K:Ai)(a:Ad):It:=
 ⟨λi H=>∃ xs x,SqT K H a xs/\xs[i]? = Ab x,λi H x H'=>H'=H/\∀ xs,SqT K H a xs->xs[i]? = Ab x,λi H=>∃ xs,SqT K H a xs/\xs.length<=i⟩
noncomputable def Itr (lo:Am)(n:Ah):It:=⟨λi _=>i<n,λi H x H'=>H'=H/\x=.int (lo+i),λi _=>n<=i⟩
theorem t9 (a it:Ad):Turn P w K tg (Itl K a) [it] it (λi h=>h.IsListIter it a i) where
 mem:=by simp
 obj:=λi h st b hb=>by
  have e:b=it:=by simpa using hb
  subst e;obtain⟨o,e,c,d⟩:=st;exact⟨o,e,λv z=>by rw[d] at z;cases z⟩
 keep:=λi h h' st k=>st.at λo e=>k it (by simp) o e
 item:=by
  intro X hP hw hK hc i pins s σ H E I hf st hg;subst hP hw hK;obtain⟨xs,x,hq,hx⟩:=hg;obtain⟨its,rv,p,hz⟩:=I.list hq;obtain⟨u,hu,ru⟩:=rv.get hx;obtain⟨f0,f1,f2,f3,f4,f5⟩:=hf it (by simp)
  refine wpAny_pyNext_list_item st p.isList (x:=u) (by simpa using hu) λh' st' sb=>?_
  have I1:Inv X pins σ H { s with heap:=h' }:=I.turned (t':=s.toks) (λb o hb e=>(sb.2 b hb).trans e) f0 f1 f3 f4 f5
  obtain⟨o,e,c,d⟩:=id st';exact⟨u,rfl,eI (s:={ s with heap:=h' }) e c d (by decide) ⟨x,H,I1,ru,⟨rfl,λys hy=>by rw[I.list_inj hy hq];exact hx⟩,st',λb hb=>(hf b hb).1⟩⟩
 done:=by
  intro X hP hw hK hc i pins s σ H E I hf st hg;subst hP hw hK;obtain⟨xs,hq,hx⟩:=hg;obtain⟨its,rv,p,hz⟩:=I.list hq;obtain⟨f0,f1,f2,f3,f4,f5⟩:=hf it (by simp)
  have hl:=rv.length;exact wpAny_pyNext_list_end (I.ok.hd hc) st p.isList (by simp;omega) λh' eb=>⟨rfl,I.turned (t':=s.toks) (λb o hb e=>eb b o hb e) f0 f1 f3 f4 f5⟩
 self:=λ_ _ _ _ _ st h=>wpAny_pyIter_listiter st h
theorem c9 (a it:Ad):Turn P w K tg (Itt K a) [it] it (λi h=>h.IsTupleIter it a i) where
 mem:=by simp
 obj:=λi h st b hb=>by
  have e:b=it:=by simpa using hb
  subst e;obtain⟨o,e,c,d⟩:=st;exact⟨o,e,λv z=>by rw[d] at z;cases z⟩
 keep:=λi h h' st k=>st.at λo e=>k it (by simp) o e
 item:=by
  intro X hP hw hK hc i pins s σ H E I hf st hg;subst hP hw hK;obtain⟨xs,x,hq,hx⟩:=hg;obtain⟨its,rv,p,hz⟩:=I.tuple hq;obtain⟨u,hu,ru⟩:=rv.get hx;obtain⟨f0,f1,f2,f3,f4,f5⟩:=hf it (by simp)
  refine wpAny_pyNext_tuple_item st (show s.heap.IsTuple a its.toArray from p) (x:=u) (by simpa using hu) λh' st' sb=>?_
  have I1:Inv X pins σ H { s with heap:=h' }:=I.turned (t':=s.toks) (λb o hb e=>(sb.2 b hb).trans e) f0 f1 f3 f4 f5
  obtain⟨o,e,c,d⟩:=id st';exact⟨u,rfl,eI (s:={ s with heap:=h' }) e c d (by decide) ⟨x,H,I1,ru,⟨rfl,λys hy=>by rw[I.tuple_inj hy hq];exact hx⟩,st',λb hb=>(hf b hb).1⟩⟩
 done:=by
  intro X hP hw hK hc i pins s σ H E I hf st hg;subst hP hw hK;obtain⟨xs,hq,hx⟩:=hg;obtain⟨its,rv,p,hz⟩:=I.tuple hq;obtain⟨f0,f1,f2,f3,f4,f5⟩:=hf it (by simp)
  have hl:=rv.length;exact wpAny_pyNext_tuple_end (I.ok.hd hc) st (show s.heap.IsTuple a its.toArray from p) (by simp;omega) λh' eb=>⟨rfl,I.turned (t':=s.toks) (λb o hb e=>eb b o hb e) f0 f1 f3 f4 f5⟩
 self:=λ_ _ _ _ _ st h=>wpAny_pyIter_tupleiter st h
theorem c8 (it:Ad)(lo:Am)(n:Ah):Turn P w K tg (Itr lo n) [it] it (λi h=>IsRangeIter h it (lo+(i:Ah)*1) ((n:Am)-(i:Ah)) 1) where
 mem:=by simp
 obj:=λi h st b hb=>by
  have e:b=it:=by simpa using hb
  subst e;exact⟨_,st,λv z=>by
   have z':Data.fields _=Data.cell v:=z;cases z'⟩
 keep:=λi h h' st k=>k it (by simp) _ st
 item:=by
  intro X hP hw hK hc i pins s σ H E I hf st hg;subst hP hw hK;obtain⟨f0,f1,f2,f3,f4,f5⟩:=hf it (by simp)
  have W:=Walks.range (prog:=X.prog) (w:=X.w) (I.ok.hd hc) it lo 1 n;refine W.item i s _ _ hg st λv h' tk hv st' kk=>?_;obtain⟨t,rfl⟩:=hv;have I1:Inv X pins σ H { s with heap:=h',toks:=tk }:=I.turned (λb o hb e=>kk b o (by simpa using hb) e) f0 f1 f3 f4 f5
  refine⟨_,rfl,eI (s:={ s with heap:=h',toks:=tk }) (n:="range_iterator") st' rfl rfl (by decide) ⟨.int (lo+i),H,I1,⟨t,?_⟩,⟨rfl,rfl⟩,st',λb hb=>(hf b hb).1⟩⟩
  rw[Int.mul_one]
 done:=by
  intro X hP hw hK hc i pins s σ H E I hf st hg;subst hP hw hK;obtain⟨f0,f1,f2,f3,f4,f5⟩:=hf it (by simp)
  exact wpAny_pyNext_range_end (I.ok.hd hc) st (by have:n<=i:=hg;omega) λh' eb=>⟨rfl,I.turned (t':=s.toks) (λb o hb e=>eb b o hb e) f0 f1 f3 f4 f5⟩
 self:=λ_ _ _ _ _ st h=>wpAny_pyIter_rangeiter st h
end _L
namespace _L
open PySem PySem.Spec PyProof.Rows
variable {pins:Aa (Ad × AV)}{fp:Aa Ad}{s:Ag}{H:Hp}{σ:St}
section
variable {X:Cx}{tg:AH}
theorem lM {R:It->Hp->Prop}{E:Ac->Ag->Prop}{lo hi:Am}{t u v:Pv}{tk:Ah}(I:Inv X pins σ H s)(h1 : -(2 ^ 62)<=lo)(h2:lo<2 ^ 62)(h3 : -(2 ^ 62)<=hi)(h4:hi<2 ^ 62)
  (q:R (Itr lo (hi-lo).toNat) H):Ao (Aq X.prog X.w) X.A (IP (.ref s.heap.objs.size)) (PIE X pins σ tg R) E { s with heap:=s.heap.push { cls:=.type "range",data:=.fields #[.int lo t,.int hi u,.int 1 v] },toks:=tk }:=by
 refine wpAny_pyIter_range (IsRange.new ..) (small_one h1 h2 h3 h4) ?_;have I1:Inv X pins σ H { s with heap:=s.heap.push { cls:=.type "range",data:=.fields #[.int lo t,.int hi u,.int 1 v] },toks:=tk }:=I.kept λb o e=>Aj _ e
 refine⟨(s.heap.push { cls:=.type "range",data:=.fields #[.int lo t,.int hi u,.int 1 v] }).objs.size,[(s.heap.push { cls:=.type "range",data:=.fields #[.int lo t,.int hi u,.int 1 v] }).objs.size],_,_,H,rfl,
  I1.kept (t':=tk) λb o e=>Aj _ e,c8 _ lo (hi-lo).toNat,?_,λb hb=>?_,q⟩
 .have e1:lo+((0:Ah):Am)*1=lo:=by simp
  have e2:(((hi-lo).toNat:Ah):Am)-((0:Ah):Am)=TD lo hi 1:=by rw[rangeSize_one];split <;> omega
  show IsRangeIter _ _ (lo+((0:Ah):Am)*1) ((((hi-lo).toNat:Ah):Am)-((0:Ah):Am)) 1;rw[e1,e2];exact AC _ rfl
 .have e:b=(s.heap.push { cls:=.type "range",data:=.fields #[.int lo t,.int hi u,.int 1 v] }).objs.size:=by simpa using hb
  subst e;exact I1.fpOk (Ay _) (I1.hok.fresh (Ay _))
def S8 (wi:TI)(g:TG)(tb:TS):TS:=λD σ H=>wi σ H λJ H1=>∃ W:Ah->Ah->St->Hp->Prop,(∃ m,W 0 m σ H1)/\∀ i m σ H,W i m σ H ->
 (J.stop i H/\D.nx σ H)\/(J.go i H/\∃ N:St->Hp->Prop,(∀ σ' H',N σ' H'->∃ m',m'<m/\W (i+1) m' σ' H')/\∀ x H',J.yld i H x H'->g x σ H' λσ2 H2=>tb { D with nx:=N,ct:=N,bk:=D.nx } σ2 H2)
noncomputable def wV (fp:Aa Ad)(h:A8):Aa (Ad × AV):=fp.filterMap λb=>(h.get? b).map λo=>(b,o)
theorem yR {h:A8}{b:Ad}{o:AV}(hb:b∈fp)(e:h.get? b=Ab o):(b,o)∈wV fp h:=EE.mpr ⟨b,hb,by rw[e];rfl⟩
theorem mU {h:A8}{p:Ad × AV}(hp:p∈wV fp h):p.1∈fp/\h.get? p.1=Ab p.2:=by
 obtain⟨b,hb,e⟩:=EE.mp hp;cases q:h.get? b with
 |none=>rw[q] at e;cases e
 |some o =>
  rw[q] at e;have e':(b,o)=p:=Bg e;subst e';exact⟨hb,q⟩
theorem Inv.pinned (I:Inv X pins σ H s)(hf:∀ b∈fp,zO X pins H b)(ho:∀ b∈fp,∃ o,s.heap.get? b=Ab o/\∀ v,o.data≠.cell v):Inv X (pins++wV fp s.heap) σ H s:=
 I.pins_of λp hp=>(AX.mp hp).elim (λz=>I.pin p (A3 _ z)) λz=>by
  obtain⟨hb,e⟩:=mU z;obtain⟨f0,f1,f2,_⟩:=hf p.1 hb;obtain⟨o,e',d⟩:=ho p.1 hb;rw[e] at e';cases e';exact⟨e,f0,f1,f2,d⟩
theorem Inv.unpinned {pl:Aa (Ad × AV)}(I:Inv X (pins++pl) σ H s):Inv X pins σ H s:=I.pins_of λp hp=>I.pin p (A3 _ (AT _ hp))
inductive ForI (X:Cx)(pins:Aa (Ad × AV))(fp:Aa Ad)(tn:Ah->A8->Prop)(W:Ah->Ah->St->Hp->Prop)(n:Ah)(s':Ag):Prop
 |mk (i:Ah) (σ' : St) (H':Hp) (I:Inv X pins σ' H' s') (t:tn i s'.heap) (f:∀ b∈fp,H' b=none) (w:W i n σ' H'):ForI X pins fp tn W n s'
theorem BW {iter:AH}{body:Aa CF}{wi:TI}{g:TG}{tb:TS}{pos:CB}(hp:IC (Aq X.prog X.w) X.A X.env X.xe)(hc:X.calm=true)(hi:PI X tg iter wi)(hg:PG X tg g)(hb:PSs X body tb)
  (hs:∀ x,CH iter X.env x=pure x:=by intro _;rfl):PS X (.For tg iter body [] pos) (S8 wi g tb):=by
 intro pins s σ H D I h;refine wpAny_For (thn (hi pins s σ H _ I h) λv s1 h1=>thn h1 λitv s2 h2=>?_) hs;obtain⟨it,fp,tn,J,H2,e,I2,T,st2,f2,W,⟨m0,w0⟩,turn⟩:=h2;subst e;have stat:∀ {H':Hp},(∀ b∈fp,H' b=none)->∀ b∈fp,zO X pins H' b:=λhn b hb=>⟨hn b hb,(f2 b hb).2⟩;refine codeAny_forLoop_any (ForI X pins fp tn W) ?_ m0 ⟨0,σ,H2,I2,st2,λb hb=>(f2 b hb).1,w0⟩;rintro n s3 ⟨i,σ3,H3,I3,st3,fr3,w3⟩;rcases turn i n σ3 H3 w3 with⟨stop,qn⟩|⟨go,N,hN,step⟩
 .refine EN hp (thn (T.done X rfl rfl rfl hc i pins s3 σ3 H3 X.xe I3 (stat fr3) st3 stop) λr s4 ⟨hr,I4⟩=>?_)
  subst hr;exact Hk ⟨σ3,H3,I4,qn⟩
 .refine EN hp (thn (T.item X rfl rfl rfl hc i pins s3 σ3 H3 X.xe I3 (stat fr3) st3 go) λr s4 ⟨u,hr,h4⟩=>?_)
  subst hr;refine EN hp (thn h4 λ_ s5 ⟨x,H5,I5,r5,y5,st5,fr5⟩=>?_);have I5':=I5.pinned (stat fr5) (T.obj _ _ st5);refine EN hp (thn (hg _ s5 σ3 H5 x u _ I5' r5 (step x H5 y5)) λ_ s6 ⟨σ6,H6,I6,q6⟩=>?_);refine EN hp (thn (hb _ s6 σ6 H6 _ I6 q6) λf s7 q7=>?_);have again:∀ {σ7:St} {H7:Hp},Inv X (pins++wV fp s5.heap) σ7 H7 s7->N σ7 H7->∃ m,m<n/\ForI X pins fp tn W m s7:=λ{σ7 H7} I7 n7=>by
   obtain⟨m',hm,w7⟩:=hN σ7 H7 n7;refine⟨m',hm,i+1,σ7,H7,I7.unpinned,T.keep _ _ _ st5 λb hb o e=>(I7.pin (b,o) (A3 _ (A3 _ (yR hb e)))).1,λb hb=>?_,w7⟩;obtain⟨o,e,d⟩:=T.obj _ _ st5 b hb;exact(I7.pin (b,o) (A3 _ (A3 _ (yR hb e)))).2.1
  cases f with
  |next=>obtain⟨σ7,H7,I7,n7⟩:=q7;exact again I7 n7
  |cont=>obtain⟨σ7,H7,I7,n7⟩:=q7;exact again I7 n7
  |brk=>obtain⟨σ7,H7,I7,q7⟩:=q7;exact⟨σ7,H7,I7.unpinned,q7⟩
  |ret v=>obtain⟨x7,σ7,H7,I7,r7,q7⟩:=q7;exact⟨x7,σ7,H7,I7.unpinned,r7,q7⟩
end
end _L
namespace _L
open PySem PySem.Spec PyProof.Rows
variable {us:Aa Ac}{f:Ac->Ac->Gf Ac}{g:Am->Am->Am}
abbrev R2:=V->V->Hp->VK->Prop
def OpR (X:Cx)(f:Ac->Ac->Gf Ac)(r:R2):Prop:=
 ∀ (pins:Aa (Ad × AV)) (s:Ag) (σ : St) (H:Hp) (x y:V) (v u:Ac) (Q:VK),Inv X pins σ H s->qJ x v->qJ y u->r x y H Q ->
  Ao (Aq X.prog X.w) X.A (f v u) (EP X pins σ Q) X.xe s
def UnR (X:Cx)(f:Ac->Gf Ac)(r:V->Hp->VK->Prop):Prop:=
 ∀ (pins:Aa (Ad × AV)) (s:Ag) (σ : St) (H:Hp) (x:V) (v:Ac) (Q:VK),Inv X pins σ H s->qJ x v->r x H Q ->
  Ao (Aq X.prog X.w) X.A (f v) (EP X pins σ Q) X.xe s
def g6 (X:Cx)(f:Ac)(r:Aa V->Hp->VK->Prop):Prop:=
 ∀ (pins:Aa (Ad × AV)) (s:Ag) (σ : St) (H:Hp) (xs:Aa V) (us:Aa Ac) (Q:VK),Inv X pins σ H s->qK xs us->r xs H Q ->
  Ao (Aq X.prog X.w) X.A (call f us) (EP X pins σ Q) X.xe s
def LK (X:Cx)(r:V->Hp->(Ap->Hp->Prop)->Prop):Prop:=
 ∀ (pins:Aa (Ad × AV)) (s:Ag) (σ : St) (H:Hp) (x:V) (v:Ac) (Q:Ap->Hp->Prop),Inv X pins σ H s->qJ x v->r x H Q ->
  Ao (Aq X.prog X.w) X.A (truthy v) (TP X pins σ Q) X.xe s
def tOp (r:R2)(ta tb:TE):TE:=λσ H Q=>ta σ H λx H1=>tb σ H1 λy H2=>r x y H2 Q
def rI (C:Am->Am->Prop)(g:Am->Am->V):R2:=λx y H Q=>∃ i j,x=.int i/\y=.int j/\C i j/\Q (g i j) H
def rI0 (g:Am->Am->V):R2:=λx y H Q=>∃ i j,x=.int i/\y=.int j/\Q (g i j) H
def rU (g:Am->V):V->Hp->VK->Prop:=λx H Q=>∃ i,x=.int i/\Q (g i) H
section
variable {X:Cx}{a b c:AH}{ta tb tc:TE}{pos:CB}
theorem LR (ha:PE X a ta)(hb:PE X b tb){pins:Aa (Ad × AV)}{s:Ag}{σ : St}{H:Hp}{R:V->V->Hp->Prop}(I:Inv X pins σ H s)
  (h:ta σ H λx H1=>tb σ H1 λy H2=>R x y H2) {Q:Ac->Ag->Prop} {f:Ac->Ac->Gf Ac}
  (hf:∀ v u s2 x y H2,Inv X pins σ H2 s2->qJ x v->qJ y u->R x y H2->Ao (Aq X.prog X.w) X.A (f v u) Q X.xe s2) :
  Ao (Aq X.prog X.w) X.A (eval a X.env) (λv s₁=>Ao (Aq X.prog X.w) X.A (eval b X.env) (λu s₂=>Ao (Aq X.prog X.w) X.A (f v u) Q X.xe s₂) X.xe s₁) X.xe s:=by
 refine thn (ha pins s σ H _ I h) λv s1 ⟨x,H1,I1,r1,q1⟩=>?_;refine thn (hb pins s1 σ H1 _ I1 q1) λu s2 ⟨y,H2,I2,r2,q2⟩=>?_;exact hf v u s2 x y H2 I2 r1 r2 q2
theorem opI {f:Ac->Ac->Gf Ac}{C:Am->Am->Prop}
  (rule:∀ (i j:Am) (t u:Pv) (s:Ag) (Q:Ac->Ag->Prop) (E:Ac->Ag->Prop),C i j->Q (.int (g i j) s.toks) { s with toks:=s.toks+1 } -> Ao (Aq X.prog X.w) X.A (f (.int i t) (.int j u)) Q E s) :
  OpR X f (rI C λi j=>.int (g i j)):=by
 intro pins s σ H x y v u Q I rx ry h;obtain⟨i,j,rfl,rfl,hc,q⟩:=h;obtain⟨t,rfl⟩:=rx;obtain⟨t',rfl⟩:=ry;exact rule i j t t' s _ _ hc ⟨.int (g i j),H,I.tok _,⟨_,rfl⟩,q⟩
theorem BC {f:Ac->Ac->Gf Ac}
  (rule:∀ (i j:Am) (t u:Pv) (s:Ag) (Q:Ac->Ag->Prop) (E:Ac->Ag->Prop),Q (.int (g i j) s.toks) { s with toks:=s.toks+1 } -> Ao (Aq X.prog X.w) X.A (f (.int i t) (.int j u)) Q E s) :
  OpR X f (rI0 λi j=>.int (g i j)):=by
 intro pins s σ H x y v u Q I rx ry h;obtain⟨i,j,rfl,rfl,q⟩:=h;obtain⟨t,rfl⟩:=rx;obtain⟨t',rfl⟩:=ry;exact rule i j t t' s _ _ ⟨.int (g i j),H,I.tok _,⟨_,rfl⟩,q⟩
theorem eX {g:Am->Am->Ap}
  (rule:∀ (i j:Am) (t u:Pv) (s:Ag) (Q:Ac->Ag->Prop) (E:Ac->Ag->Prop),Q (.bool (g i j)) s->Ao (Aq X.prog X.w) X.A (f (.int i t) (.int j u)) Q E s) :
  OpR X f (rI0 λi j=>.bl (g i j)):=by
 intro pins s σ H x y v u Q I rx ry h;obtain⟨i,j,rfl,rfl,q⟩:=h;obtain⟨t,rfl⟩:=rx;obtain⟨t',rfl⟩:=ry;exact rule i j t t' s _ _ ⟨.bl (g i j),H,I,rfl,q⟩
def LI (i j:Am):Prop:=0<j/\j<1073741824
def JG (i j:Am):Prop:=0<=j/\j<=1000000/\i.natAbs<2 ^ 64
def oS (i j:Am):Prop:=(-(2 ^ 64)<i/\i<2 ^ 64)\/(-(2 ^ 64)<j/\j<2 ^ 64)
theorem oS.ok {i j:Am}(h:oS i j):IntMulOk i j:=by
 rcases h with⟨h1,h2⟩|⟨h1,h2⟩
 .exact .of_left (intBits_le_64 h1 h2)
 .exact .of_right (intBits_le_64 h1 h2)
theorem BE:OpR X (Cs .Add) (rI0 λi j=>.int (i+j)):=BC λ_ _ _ _ _ _ _ q=>add_int q
theorem BK:OpR X (Cs .Sub) (rI0 λi j=>.int (i-j)):=BC λ_ _ _ _ _ _ _ q=>sub_int q
theorem BH:OpR X (Cs .Mult) (rI oS λi j=>.int (i*j)):=opI λ_ _ _ _ _ _ _ hc q=>mul_int q hc.ok
theorem VY:OpR X (Cs .FloorDiv) (rI LI λi j=>.int (i/j)):=opI λi j _ _ _ _ _ hc q=>by
 have h1:(0:Am)<j:=hc.1;have h2:j<1073741824:=hc.2;exact floordiv_int om (by rw[Int.fdiv_eq_ediv_of_nonneg i om];exact q) (.inl (PyProof.noPylong_small om))
theorem BG:OpR X (Cs .Mod) (rI (λ_ j=>0<j) λi j=>.int (i % j)):=opI λi j _ _ _ _ _ hc q=>by
 have h1:(0:Am)<j:=hc;exact mod_int' om (by rw[Int.fmod_eq_emod_of_nonneg i om];exact q)
theorem BI:OpR X (Cs .Pow) (rI JG λi j=>.int (i ^ j.toNat)):=opI λ_ _ _ _ _ _ _ hc q=>pow_int_small hc.1 hc.2.1 hc.2.2 q
theorem BJ:OpR X (Cs .LShift) (rI JG λi j=>.int (i*2 ^ j.toNat)):=opI λ_ _ _ _ _ _ _ hc q=>lshift_int_small hc.1 hc.2.1 hc.2.2 q
theorem unI {f:Ac->Gf Ac}{g:Am->Am}
  (rule:∀ (i:Am) (t:Pv) (s:Ag) (Q:Ac->Ag->Prop) (E:Ac->Ag->Prop),Q (.int (g i) s.toks) { s with toks:=s.toks+1 } -> Ao (Aq X.prog X.w) X.A (f (.int i t)) Q E s) :
  UnR X f (rU λi=>.int (g i)):=by
 intro pins s σ H x v Q I rx h;obtain⟨i,rfl,q⟩:=h;obtain⟨t,rfl⟩:=rx;exact rule i t s _ _ ⟨.int (g i),H,I.tok _,⟨_,rfl⟩,q⟩
theorem FY:UnR X (Qw .USub) (rU λi=>.int (-i)):=unI λ_ _ _ _ _ q=>neg_int q
end
section
variable {X:Cx}{a b c:AH}{ta tb tc:TE}{pos:CB}
theorem GG {pins:Aa (Ad × AV)}{σ:St}{H:Hp}{s:Ag}{Q:VK}{k k':Ap}(I:Inv X pins σ H s)(q:Q (.bl k) H)(e:k=k'):EP X pins σ Q (.bool k') s:=by
 subst e;exact⟨.bl k,H,I,rfl,q⟩
theorem N8:OpR X (Cb .Lt) (rI0 λi j=>.bl (decide (i<j))):=eX λ_ _ _ _ _ _ _ q=>lt_int q
theorem N7:OpR X (Cb .LtE) (rI0 λi j=>.bl (decide (i<=j))):=eX λ_ _ _ _ _ _ _ q=>le_int q
theorem N6:OpR X (Cb .Gt) (rI0 λi j=>.bl (decide (j<i))):=eX λ_ _ _ _ _ _ _ q=>gt_int q
theorem N5:OpR X (Cb .GtE) (rI0 λi j=>.bl (decide (j<=i))):=eX λ_ _ _ _ _ _ _ q=>ge_int q
theorem BF:OpR X (Cb .Is) (λx y H Q=>y=.non/\Q (.bl (decide (x=.non))) H):=by
 intro pins s σ H x y v u Q I rx ry h;obtain⟨rfl,q⟩:=h;cases ry;refine is_none_gen (GG I q ?_);cases x <;> first
  |(cases rx;rfl)
  |(obtain⟨t,rfl⟩:=rx;rfl)
theorem OpR.or {r r':R2}(h:OpR X f r)(h':OpR X f r'):OpR X f (λx y H Q=>r x y H Q\/r' x y H Q):=by
 intro pins s σ H x y v u Q I rx ry q;rcases q with q|q
 .exact h pins s σ H x y v u Q I rx ry q
 .exact h' pins s σ H x y v u Q I rx ry q
theorem uP (b:AH){op:Rw}(h:op≠.In:=by decide)(h2:op≠.NotIn:=by decide):Ha op b=false:=by
 have e1:(op == CmpOp.In)=false:=by cases op <;> first|rfl|exact absurd rfl h
 have e2:(op == CmpOp.NotIn)=false:=by cases op <;> first|rfl|exact absurd rfl h2
 cases b <;> simp[Ha,e1,e2]
def rR (K:Ai)(x:V)(H:Hp)(k:Ap):Prop:=
 match x with
 |.non=>k=false
 |.bl b=>k=b
 |.int i=>k=(i != 0)
 |.str y=>y.length<=sizeLine/\k=((y.length:Am) != 0)
 |.byt y=>y.size<=sizeLine/\k=((y.size:Am) != 0)
 |.ref p=>(∃ xs,SqL K H p xs/\k=!xs.isEmpty)\/(∃ xs,SqT K H p xs/\k=!xs.isEmpty)\/∃ kvs,H p=Ab (.dK kvs)/\k=!kvs.isEmpty
 |_=>CA
theorem eL {κ:Type}{kvs:Aa (κ × V)}{vs:Aa (κ × Ac)}(r:KV kvs vs):(!vs.isEmpty)=!kvs.isEmpty:=by
 cases r <;> rfl
theorem bA {xs:Aa V}{its:Aa Ac}(r:qK xs its):(!its.toArray.isEmpty)=!xs.isEmpty:=by
 cases r <;> simp
theorem kQ:(sizeLine:Ah)<2 ^ 63:=by rw[Dm];decide
theorem bS:LK X (λx H Q=>∃ k,rR X.K x H k/\Q k H):=by
 intro pins s σ H x v Q I rx h;obtain⟨k,e,q⟩:=h;have hl:=kQ;have hs:sizeLine=16777216:=Dm;cases x with
 |non =>
  cases rx;have e':k=false:=e;subst e';exact truthy_none ⟨H,I,q⟩
 |bl b =>
  cases rx;have e':k=b:=e;subst e';exact Py ⟨H,I,q⟩
 |int i =>
  obtain⟨t,rfl⟩:=rx;have e':k=(i != 0):=e;subst e';exact PySem.P.truthy_int ⟨H,I,q⟩
 |str y =>
  obtain⟨t,rfl⟩:=rx;obtain⟨hy,e'⟩:y.length<=sizeLine/\k=((y.length:Am) != 0):=e;subst e';exact PySem.P.truthy_str om ⟨H,I.tok _,q⟩
 |byt y =>
  obtain⟨t,rfl⟩:=rx;obtain⟨hy,e'⟩:y.size<=sizeLine/\k=((y.size:Am) != 0):=e;subst e';exact PySem.W.truthy_bytes om ⟨H,I.tok _,q⟩
 |ref p =>
  cases rx;have e':(∃ xs,SqL X.K H p xs/\k=!xs.isEmpty)\/(∃ xs,SqT X.K H p xs/\k=!xs.isEmpty)\/∃ kvs,H p=Ab (.dK kvs)/\k=!kvs.isEmpty:=e;rcases e' with⟨xs,hx,e'⟩|⟨xs,hx,e'⟩|⟨kvs,hx,e'⟩
  .subst e'
   obtain⟨its,r,pl,hz⟩:=I.list hx;have hlen:=r.length;exact wpAny_truthy_list pl.isList (by simp only[AK];omega) ⟨H,I.tok _,by rw[bA r];exact q⟩
  .subst e'
   obtain⟨its,r,pl,hz⟩:=I.tuple hx;have hlen:=r.length;exact truthy_tuple pl (by simp only[AK];omega) ⟨H,I.tok _,by rw[bA r];exact q⟩
  .subst e'
   obtain⟨hz,hS,vs,r,m⟩:kvs.length<=sizeLine/\(p == Ff)=false/\∃ vs,KV kvs vs/\s.heap.DictOf (zQ X.prog X.w) p vs:=I.hok p _ hx;have hlen:kvs.length=vs.length:=Paired.length r;exact wpAny_truthy_dict hS m om ⟨H,I.tok _,by rw[eL r];exact q⟩
 |_=>exact(show CA from e).elim
theorem eY:OpR X (Cs .Add) (λx y H Q=>∃ i j,x=.str i/\y=.str j/\i.length+j.length<=sizeLine/\Q (.str (i++j)) H):=by
 intro pins s σ H x y v u Q I rx ry h;obtain⟨i,j,rfl,rfl,hz,q⟩:=h;obtain⟨t,rfl⟩:=rx;obtain⟨t',rfl⟩:=ry;exact add_str (λt' tk=>⟨.str (i++j),H,I.tok _,⟨_,rfl⟩,q⟩) hz
theorem gP {x:V}(r:qK [x] us):∃ u,us=[u]/\qJ x u:=by
 cases r with
 |cons r1 r2=>cases r2;exact⟨_,rfl,r1⟩
theorem tW {x y:V}(r:qK [x,y] us):∃ u w',us=[u,w']/\qJ x u/\qJ y w':=by
 cases r with
 |cons r1 r2 =>
  cases r2 with
  |cons r3 r4=>cases r4;exact⟨_,_,rfl,r1,r3⟩
theorem mH:g6 X (.type "int") (λxs H Q=>(∃ i,xs=[.int i]/\Q (.int i) H)\/∃ k,xs=[.bl k]/\Q (.int (if k then 1 else 0)) H):=by
 intro pins s σ H xs us Q I r h;rcases h with⟨i,rfl,q⟩|⟨k,rfl,q⟩
 .obtain⟨u,rfl,t,rfl⟩:=gP r
  exact call_int_int ⟨.int i,H,I,⟨_,rfl⟩,q⟩
 .obtain⟨u,rfl,r1⟩:=gP r
  cases r1;exact call_int_bool ⟨.int (if k then 1 else 0),H,I.tok _,⟨_,rfl⟩,q⟩
def JI (K:Ai)(x:V)(H:Hp)(n:Ah):Prop:=
 match x with
 |.str y=>y.length<=sizeLine/\n=y.length
 |.byt y=>y.size<=sizeLine/\n=y.size
 |.ref p=>(∃ xs,SqL K H p xs/\n=xs.length)\/∃ xs,SqT K H p xs/\n=xs.length
 |_=>CA
theorem Q0:g6 X (.builtin "len") (λxs H Q=>∃ x n,xs=[x]/\JI X.K x H n/\Q (.int n) H):=by
 intro pins s σ H xs us Q I r h;obtain⟨x,n,rfl,e,q⟩:=h;obtain⟨u,rfl,rx⟩:=gP r;have hl:=kQ;have hs:sizeLine=16777216:=Dm;cases x with
 |str y =>
  obtain⟨t,rfl⟩:=rx;obtain⟨hy,e'⟩:y.length<=sizeLine/\n=y.length:=e;subst e';exact len_str om ⟨.int _,H,I.tok _,⟨_,rfl⟩,q⟩
 |byt y =>
  obtain⟨t,rfl⟩:=rx;obtain⟨hy,e'⟩:y.size<=sizeLine/\n=y.size:=e;subst e';exact PySem.W.len_bytes om ⟨.int _,H,I.tok _,⟨_,rfl⟩,q⟩
 |ref p =>
  cases rx;have e':(∃ xs,SqL X.K H p xs/\n=xs.length)\/∃ xs,SqT X.K H p xs/\n=xs.length:=e;rcases e' with⟨xs,hx,e'⟩|⟨xs,hx,e'⟩
  .subst e'
   obtain⟨its,r',pl,hz⟩:=I.list hx;have hlen:=r'.length;exact Calls.call_len_list pl.isList (by simp only[AK];omega) ⟨.int xs.length,H,I.tok _,⟨_,by simp only[AK];rw[hlen]⟩,q⟩
  .subst e'
   obtain⟨its,r',pl,hz⟩:=I.tuple hx;have hlen:=r'.length;exact len_tuple pl (by simp only[AK];omega) ⟨.int xs.length,H,I.tok _,⟨_,by simp only[AK];rw[hlen]⟩,q⟩
 |_=>exact(show CA from e).elim
end
end _L
namespace _L
open PySem PySem.Spec PyProof.Rows
variable {mA:Ar->Ak Ac}
structure ObjM (h:A8)(x dx C:Ad)(mA:Ar->Ak Ac):Prop where
 obj:h.get? x=Ab (Mr C dx)
 ns:h.Ns1 dx mA
 ne:dx≠x
set_option tactic.hygienic true in
theorem i3 {h:A8}{dx:Ad}(n:h.Ns1 dx mA):∃ od,h.get? dx=Ab od/\∀ name,Oe name od=Ab (mA name):=by
 obtain⟨o,es,ep,ho,hd,hk,_,hm⟩:=n;refine⟨o,ho,λname=>?_⟩;have e:=hm name;unfold nsFind findBy at e;rw[<- Array.find?_toList] at e;unfold Oe;rw[hd];dsimp only
 split
 .rename_i y q
  rw[q] at e;exact congrArg Ab e
 .rename_i q
  rw[q] at e;have a:es.toList.any (·.refKey)=false:=by
   rw[List.any_eq_false];intro y hy;obtain⟨z,t,hkey⟩:=hk y (Iu.mp hy);simp[DictEntry.refKey,hkey]
  have a':¬ es.toList.any (·.refKey)=true:=by rw[a];exact ED
  rw[AB a'];exact congrArg Ab e
theorem ObjM.look {h:A8}{x dx C:Ad}(I:ObjM h x dx C mA):∃ od,PySem.W.InstAt h x (Mr C dx) C (Ab od)/\∀ name,Oe name od=Ab (mA name):=
 let ⟨od,ho,hl⟩:=i3 I.ns
 ⟨od,⟨I.obj,rfl,rfl,ho⟩,hl⟩
theorem yC.some_of {v:V}{o:Ak Ac}(r:yC (Ab v) o):∃ u,o=Ab u/\qJ v u:=by
 cases o with
 |none=>exact(show CA from r).elim
 |some u=>exact⟨u,rfl,r⟩
section
variable {P:Az}{w:AL}{H H':Hp}{h h':A8}{a C dx:Ad}{fs fs':Aa (Ar × V)}
theorem V0 (hok:HOk P w H h)(e:H a=Ab (.ins C dx fs)):∃ mA,ObjM h a dx C mA/\(∀ f,yC (fs.lookup f) (mA f))/\Tz mA (fs.map (·.1))/\fs.length<=1000/\H dx=Ab (.own a):=by
 obtain⟨d,z,ne,ob,mA,n,r,q⟩:=(show z9 P w H h a (.ins C dx fs) from hok a _ e)
 exact⟨mA,⟨ob,n,ne⟩,r,q,z,d⟩
end
structure Cls (K:Ai)(C:Ad):Prop where
 pg:Qx K C Hb=true
 hd:PySem.W.hasDictIn K C=true
 po:PySem.W.plainOver K C=true
 sa:HE K (.ref C) "__setattr__" = Ab (Ab (.builtin "object.__setattr__"))
theorem Cls.get {K:Ai}{C:Ad}(c:Cls K C)(f:Ar):Qx K C f=true:=c.pg
section
variable {X:Cx}{pins:Aa (Ad × AV)}{σ : St}{H:Hp}{s:Ag}{A:AJ}{E:Ac->Ag->Prop}{Q:Ac->Ag->Prop}{c:Ac}{b:Ap}
inductive TyOf (K:Ai)(H:Hp):V->Ac->Prop where
 |non:TyOf K H .non (.type "NoneType")
 |bl (x:Ap):TyOf K H (.bl x) (.type "bool")
 |int (i:Am):TyOf K H (.int i) (.type "int")
 |str (x:Ar):TyOf K H (.str x) (.type "str")
 |flt (x:UInt64):TyOf K H (.flt x) (.type "float")
 |lst {a:Ad} {xs:Aa V} (e:H a=Ab (.lst xs)):TyOf K H (.ref a) (.type "list")
 |frz {a:Ad} {o:AV} {xs:Aa V} (e:H a=Ab (.frz o (.lst xs))):TyOf K H (.ref a) (.type "list")
 |tup {a:Ad} {xs:Aa V} (e:H a=Ab (.tup xs)):TyOf K H (.ref a) (.type "tuple")
 |dK {a:Ad} {kvs:Aa (Key × V)} (e:H a=Ab (.dK kvs)):TyOf K H (.ref a) (.type "dict")
 |dT {a:Ad} {kvs:Aa (Aa Key × V)} (e:H a=Ab (.dT kvs)):TyOf K H (.ref a) (.type "dict")
 |ins {a C dx:Ad} {fs:Aa (Ar × V)} (e:H a=Ab (.ins C dx fs)) (cl:Cls K C) (ha:HE K (.ref C) "__class__" = Ab (Ab (.builtin "object.__class__")))
   (hn:Pz K (.builtin "object.__class__") "__get__" = Ab (Ab (.builtin "getset_descriptor.__get__"))) (htk:Rx K (.builtin "object.__class__")=Ab true)
   (hm:O7 K C (.type "object")=Ab true):TyOf K H (.ref a) (.ref C)
theorem aP {x:V}{u t:Ac}(I:Inv X pins σ H s)(rx:qJ x u)(ty:TyOf X.K H x t)(e:Go X.K t c=Ab b)(h:∀ tk,Q (.bool b) { s with toks:=tk }) :
  Ao (Aq X.prog X.w) A (call (.builtin "isinstance") [u,c]) Q E s:=by
 cases ty with
 |non=>cases (show u=Bj from rx);exact Ct Qb I.kIn Ev e (λz=>nomatch z) h
 |bl y=>cases (show u=Dk y from rx);exact Ct Qc I.kIn Ev e (λz=>nomatch z) h
 |int i=>obtain⟨t,q⟩:=(show ∃ t,u=IA i t from rx);cases q;exact Ct Qy I.kIn Ev e (λz=>nomatch z) h
 |str y=>obtain⟨t,q⟩:=(show ∃ t,u=No y t from rx);cases q;exact Ct Qz I.kIn Ev e (λz=>nomatch z) h
 |flt y=>obtain⟨t,q⟩:=(show ∃ t,u=Uh y t from rx);cases q;exact Ct PySem.W.kitx_float I.kIn Ev e (λz=>nomatch z) h
 |@lst a xs ea =>
  cases (show u=Ba a from rx)
  obtain⟨_,_,n,_,h1⟩:=(show z9 X.prog X.w H s.heap a (.lst xs) from I.hok a _ ea)
  exact Ct ES I.kIn ⟨_,h1,rfl⟩ e (λz=>nomatch z) h
 |@frz a ob xs ea =>
  cases (show u=Ba a from rx)
  obtain⟨_,_,_,n,_,h1⟩:=(show z9 X.prog X.w H s.heap a (.frz ob (.lst xs)) from I.hok a _ ea)
  exact Ct ES I.kIn ⟨_,h1,rfl⟩ e (λz=>nomatch z) h
 |@tup a xs ea =>
  cases (show u=Ba a from rx)
  obtain⟨_,_,_,p⟩:=(show z9 X.prog X.w H s.heap a (.tup xs) from I.hok a _ ea)
  obtain⟨o,h1,h2,_⟩:=p;exact Ct Hv I.kIn ⟨o,h1,h2⟩ e (λz=>nomatch z) h
 |@dK a kvs ea =>
  cases (show u=Ba a from rx)
  obtain⟨_,_,vs,_,p⟩:=(show z9 X.prog X.w H s.heap a (.dK kvs) from I.hok a _ ea)
  obtain⟨o,es,ep,h1,h2,_⟩:=p;exact Ct HI I.kIn ⟨o,h1,h2.1⟩ e (λz=>nomatch z) h
 |@dT a kvs ea =>
  cases (show u=Ba a from rx)
  obtain⟨_,_,xs,_,o,es,ep,h1,h2,_⟩:=(show z9 X.prog X.w H s.heap a (.dT kvs) from I.hok a _ ea)
  exact Ct HI I.kIn ⟨o,h1,h2.1⟩ e (λz=>nomatch z) h
 |@ins a C dx fs ea cl ha hn htk hm =>
  cases (show u=Ba a from rx)
  obtain⟨mA,O,_⟩:=V0 I.hok ea;obtain⟨od,J,_⟩:=O.look;exact Ct (PySem.W.kitx_own (cl.get _) cl.hd ha hn htk hm) I.kIn J e (λz=>nomatch z) h
end
end _L
namespace _L
open PySem PySem.Spec PyProof.Rows
variable {A:AJ}{ps:Aa Ar}{K:Ai}{mg:Ar->Ak Ac}{kindOf:Ar->Ak Es}{scope:Cj}
structure Room (k:Ah)(A:AJ):Prop where
 hd:A.handled=none
 dp:A.depth+3*k+5<Jc
 un:A.units+16*k+200<CZ
 gd:A.guards=Ab []
theorem Room.deeper {k:Ah}(r:Room (k+1) A)(env:E0):Room k (A.deeper env):=
 ⟨r.hd,by have:=r.dp;show A.depth+1+3*k+5<_;omega,by have:=r.un;show A.units+3+16*k+200<_;omega,r.gd⟩
theorem Room.depth {k:Ah}(r:Room k A):A.depth<Jc:=by have:=r.dp;omega
theorem Room.units {k:Ah}(r:Room k A):A.units+64<CZ:=by have:=r.un;omega
def SB:TA:=λ_ H Q=>Q [] H
section
variable {X:Cx}{e:AH}{es:Aa AH}{te:TE}{t:TA}{pos:CB}
theorem BL:PA X [] SB:=λ_ _ _ _ H Q I h=>HJ ⟨[],H,I,.nil,h⟩
def SE (t:TA):TE:=λσ H Q=>t σ H λxs H1=>xs.length<=sizeLine/\∀ p,H1 p=none->Q (.ref p) (upd H1 p (.tup xs))
def SA (t:TA):TE:=λσ H Q=>t σ H λxs H1=>xs.length<=sizeLine/\∀ p,H1 p=none->Q (.ref p) (upd H1 p (.lst xs))
theorem BR  (h:PA X es t):PE X (.Tuple es x1 pos) (SE t):=by
 intro pins s σ H Q I hq;refine wpAny_Tuple_spliced (thn (h pos pins s σ H _ I hq) λus s1 ⟨xs,H1,I1,r,z,q⟩=>⟨by rw[<- r.length];exact z,?_⟩)
 have hf:H1 s1.heap.objs.size=none:=I1.hok.fresh (Ay _);refine⟨.ref s1.heap.objs.size,upd H1 s1.heap.objs.size (.tup xs),I1.laid (t':=s1.toks) (λb u e=>Aj _ e) (Ay _) ?_,rfl,q _ hf⟩;exact⟨z,us,r,⟨_,AC _ rfl,rfl,_,rfl⟩⟩
theorem iG (h:PA X es t):PE X (.List es pos) (SA t):=by
 intro pins s σ H Q I hq;refine wpAny_List_spliced (thn (h pos pins s σ H _ I hq) λus s1 ⟨xs,H1,I1,r,z,q⟩=>⟨by rw[<- r.length];exact z,?_⟩)
 have hf:H1 s1.heap.objs.size=none:=I1.hok.fresh (Ay _);refine⟨.ref s1.heap.objs.size,upd H1 s1.heap.objs.size (.lst xs),I1.laid (t':=s1.toks) (λb u e=>Aj _ e) (Ay _) ?_,rfl,q _ hf⟩;exact⟨z,us,0,r,AC _ rfl⟩
end
abbrev Sp:=Aa V->Hp->VK->XK->Prop
abbrev CXT:=Aa E0->Hp->Ag->XK->Ac->Ag->Prop
structure Env0 (P:Az)(w:AL)(K:Ai)(mg:Ar->Ak Ac)(base:A8)(A:AJ)(outer:Aa E0)(s:Ag)(H:Hp):Prop where
 frames:A.frames=Ab outer
 mod:Mod K mg base
 bs:∀ b o,base.get? b=Ab o->s.heap.get? b=Ab o/\H b=none
 bsz:base.objs.size<=s.heap.objs.size
 funs:s.heap.FunFrames base outer
 frf:∀ b∈frs outer,H b=none
 hok:HOk P w H s.heap
 bare:HY s.gens
def CE (outer:Aa E0)(P:Az)(w:AL)(H:Hp)(s:Ag)(Q:VK)(u:Ac)(s':Ag):Prop:=
 ∃ v H',s'.os=s.os/\HY s'.gens/\Un (frs outer) [] H H' s.heap s'.heap/\HOk P w H' s'.heap/\qJ v u/\Q v H'
def CR (CX:CXT)(outer:Aa E0)(P:Az)(w:AL)(H:Hp)(s:Ag)(Q:VK)(E:XK)(r:OQ)(s':Ag):Prop:=
 match r with
 |.ok (.ret u)=>CE outer P w H s Q u s'
 |.ok _=>CA
 |.error e=>CX outer H s E e s'
structure FnOk (P:Az)(w:AL)(K:Ai)(mg:Ar->Ak Ac)(base:A8)(CX:CXT)(k:Ah)(f:Ad)(fd:CV)(ps:Aa Ar)(sp:Sp):Prop where
 len:∀ vs H Q E,sp vs H Q E->vs.length=ps.length
 run:∀ (A:AJ) (outer:Aa E0) (s:Ag) (H:Hp) (args:Args) (us:Aa Ac) (vs:Aa V) (Q:VK) (E:XK),Room k A->Env0 P w K mg base A outer s H->HZ s fd args (ps.zip us)->qK vs us->sp vs H Q E ->
  El (Aq P w) A (.call (.ref f) args) (CR CX outer P w H s Q E) s
section
variable {X:Cx}{pins:Aa (Ad × AV)}{σ : St}{H:Hp}{s s':Ag}
theorem Inv.env0 (I:Inv X pins σ H s):Env0 X.prog X.w X.K X.mg X.base X.A X.stack s H:=
 ⟨I.ok.frames,I.ok.mod,I.bs,Ca I.ok.bsz I.sz,I.stack,I.stkFree,I.hok,I.bare⟩
theorem Inv.after {Q:VK}{u:Ac}(I:Inv X pins σ H s)(h:CE X.stack X.prog X.w H s Q u s'):EP X pins σ Q u s':=by
 obtain⟨v,H',os,bare,un,hok,r,q⟩:=h;obtain⟨hh,g,d,t,os'⟩:=s';obtain rfl:os'=s.os:=os;exact⟨v,H',I.call (h':=hh) (g':=g) (d':=d) (t':=t) (ch:=[]) un hok bare (λb z=>absurd z (by simp)),r,q⟩
end
def wM (K:Ai)(fd:CV)(ps:Aa Ar)(ds:Aa Ac):Prop:=
 ∀ (s:Ag) (us:Aa Ac),K.In s.heap->(us++ds).length=ps.length->HZ s fd ⟨us,[]⟩ (ps.zip (us++ds))
theorem wM.all {fd:CV}(h:∀ us:Aa Ac,us.length=ps.length->Ms fd ⟨us,[]⟩=pure (ps.zip us)):wM K fd ps []:=λs us _ hl=>by
 rw[Di] at hl ⊢;exact .of_eq (h us hl)
structure FnScope (N P:Aa Ar)(sc:Cj):Prop where
 kind:sc.kind=.function
 co:sc.isCoroutine=false
 gen:sc.isGenerator=false
 nd:N.Nodup
 pre:N.take P.length=P
 par:∀ x∈P,sc.names.lookup x=Ab .local \/ sc.names.lookup x=Ab .cell
 nofree:∀ y∈sc.names,y.2≠.free
theorem mE {x:Ar}:∀ {binds:Aa (Ar × Ac)} {m:Ar->Ak Ac},(∀ v,(x,v) ∉ binds)->O8 kindOf binds m x=m x
 |[],_,_=>rfl
 |(n,v)::r,m,h=>by
  unfold O8;rw[mE λw hw=>h w (Bc _ hw)]
  split
  .have:x≠n:=by rintro rfl;exact h v Cf
   simp[this]
  .rfl
theorem mC {x:Ar}:∀ {binds:Aa (Ar × Ac)} {m:Ar->Ak Ac},(∀ v,(x,v) ∉ binds)->O9 kindOf binds m x=m x
 |[],_,_=>rfl
 |(n,v)::r,m,h=>by
  unfold O9;rw[mC λw hw=>h w (Bc _ hw)]
  split
  .rfl
  .have:x≠n:=by rintro rfl;exact h v Cf
   simp[this]
theorem mD {x:Ar}{v:Ac}:∀ {P:Aa Ar} {vs:Aa Ac} {i:Ah} {m:Ar->Ak Ac},P.Nodup->P[i]? = Ab x->vs[i]? = Ab v->kindOf x=Ab .local ->
  O8 kindOf (P.zip vs) m x=Ab v
 |[],_,_,_,_,h,_,_=>by simp at h
 |_::_,[],_,_,_,_,h,_=>by simp at h
 |p::P,w::vs,0,m,nd,h1,h2,hk=>by
  simp at h1 h2;subst h1;subst h2;show O8 kindOf ((p,w)::P.zip vs) m p=_;unfold O8;rw[mE λv hv=>(Fx.mp nd).1 (Hl hv).1,AA hk];simp
 |p::P,w::vs,i+1,m,nd,h1,h2,hk=>by
  show O8 kindOf ((p,w)::P.zip vs) m x=_;unfold O8;exact mD (i:=i) (Fx.mp nd).2 (by simpa using h1) (by simpa using h2) hk
theorem mB {x:Ar}{v:Ac}:∀ {P:Aa Ar} {vs:Aa Ac} {i:Ah} {m:Ar->Ak Ac},P.Nodup->P[i]? = Ab x->vs[i]? = Ab v->kindOf x≠Ab .local ->
  O9 kindOf (P.zip vs) m x=Ab v
 |[],_,_,_,_,h,_,_=>by simp at h
 |_::_,[],_,_,_,_,h,_=>by simp at h
 |p::P,w::vs,0,m,nd,h1,h2,hk=>by
  simp at h1 h2;subst h1;subst h2;show O9 kindOf ((p,w)::P.zip vs) m p=_;unfold O9;rw[mC λv hv=>(Fx.mp nd).1 (Hl hv).1,AB hk];simp
 |p::P,w::vs,i+1,m,nd,h1,h2,hk=>by
  show O9 kindOf ((p,w)::P.zip vs) m x=_;unfold O9;exact mB (i:=i) (Fx.mp nd).2 (by simpa using h1) (by simpa using h2) hk
noncomputable def x5 (N:Aa Ar)(vs:Aa V):St:=vs.map Ab++EB (N.length-vs.length) none
noncomputable def bZ (CX:CXT)(P:Az)(w:AL)(K:Ai)(mg:Ar->Ak Ac)(base:A8)(N:Aa Ar)(qual:Ar)(scope:Cj)(f:Ad)(cd:Ac)(A:AJ)(outer:Aa E0)(s:Ag)(H:Hp)(E:XK):Cx where
 prog:=P
 w:=w
 K:=K
 mg:=mg
 base:=base
 A:=A.deeper (Dp qual scope s.heap.objs.size f cd)
 N:=N
 s₀:=s
 H₀:=H
 env:=Dp qual scope s.heap.objs.size f cd
 outer:=outer
 stack:=Dp qual scope s.heap.objs.size f cd::outer
 ex:=[]
 calm:=true
 fn:=λ_=>true
 pn:=[]
 xe:=λe s'=>Ao (Aq P w) (A.deeper (Dp qual scope s.heap.objs.size f cd)) (leaving (Dp qual scope s.heap.objs.size f cd) e) (λ_ s''=>CX outer H s E e s'') (λe' s''=>CX outer H s E e' s'') s'
theorem nF {sc:Cj}{n:Ah}{x:Ar}(h:sc.names.lookup x=Ab .cell):∃ c,(Em n sc.names []).lookup x=Ab c:=by
 have q:=Fy sc.names n [] (.inl h);exact Fb.mp q
theorem mP {CX:CXT}{P:Az}{w:AL}{base:A8}{N:Aa Ar}{qual:Ar}{f:Ad}{cd:Ac}{outer:Aa E0}{s s1:Ag}{H:Hp}{E:XK}{us:Aa Ac}{vs:Aa V}
  (S:FnScope N ps scope) (hd:A.handled=none) (e0:Env0 P w K mg base A outer s H) (hl:vs.length=ps.length) (r:qK vs us)
  (x:InCallC s s.heap.objs.size (O8 (Dp qual scope s.heap.objs.size f cd).kindOf (ps.zip us) λ_=>none) (Em (s.heap.objs.size+1) scope.names []) (O9 (Dp qual scope s.heap.objs.size f cd).kindOf (ps.zip us) λ_=>none) s1) :
  Inv (bZ CX P w K mg base N qual scope f cd A outer s H E) [] (x5 N vs) H s1:=by
 have hpl:ps.length<=N.length:=by have:=congrArg Ra S.pre;rw[Dz] at this;omega
 obtain⟨h1,tk,rfl,hk⟩:=x.done;have noA:∀ b:Ad,b ∉ (bZ CX P w K mg base N qual scope f cd A outer s H E).ex:=λb z=>absurd (show b∈([]:Aa Ad) from z) (by simp)
 refine⟨⟨e0.mod,S.kind,rfl,rfl,Ay _,λy z c h1 h2=>?_,λy hy=>?_,λy c _ h=>?_,λ_=>hd,Iw e0.frames,.inr ⟨rfl,rfl⟩,λb z=>absurd z (noA b),e0.bs,e0.bsz,λb _ _=>noA b,λb z=>absurd z (noA b),e0.funs,e0.frf⟩,
  rfl,e0.bare,Un.kept hk,⟨_,x.toInCall.ns,λi y v h1 h2 h3=>?_⟩,λy c h=>⟨_,x.cell y c h⟩,e0.hok.fresh (Ay _),λy c h=>?_,λp hp=>absurd (show p∈([]:Aa (Ad × AV)) from hp) (by simp),e0.hok.kept hk,?_⟩
 .exact name_of_addr x.apart (CN h1) (CN h2)
 .have hy:scope.names.lookup y=Ab .cell\/scope.names.lookup y=Ab .free:=hy
  rcases hy with hy|hy
  .exact nF hy
  .exact absurd rfl (S.nofree _ (CN hy))
 .exact Ch (x.above y c (CN h))
 .have hi:i<vs.length:=by
   unfold x5 at h2;by_cases hi:i<vs.length
   .exact hi
   .rw[Bb (by simpa using hi)] at h2
    rw[Hy] at h2
    split at h2 <;> cases h2
  have ha:vs[i]? = Ab v:=by
   unfold x5 at h2;rw[AO (by simpa using hi),Br] at h2
   cases e:vs[i]? with
   |none=>rw[e] at h2;cases h2
   |some a=>rw[e] at h2;cases h2;rfl
  obtain⟨u,hu,rv⟩:=r.get ha;have hp:ps[i]? = Ab y:=by
   rw[<- S.pre,Ht om];exact h1
  have ndP:ps.Nodup:=by rw[<- S.pre];exact S.nd.sublist (List.take_sublist _ _)
  refine⟨u,rv,?_⟩;rcases S.par y (AM hp) with k|k
  .exact .inl ⟨k,mD ndP hp hu k⟩
  .obtain⟨c,e⟩:=nF (n:=s.heap.objs.size+1) k
   refine .inr ⟨.inl k,c,e,?_⟩;have q:=x.cell y c e;rw[mB ndP hp hu (by show scope.names.lookup y≠_;rw[k];decide)] at q
   exact q
 .exact e0.hok.fresh (Ch (x.above y c (CN h)))
 .unfold x5
  show _=N.length;rw[Bs,AR,List.length_replicate];omega
theorem MT {CX:CXT}{P:Az}{w:AL}{base:A8}{k:Ah}{f:Ad}{name qual:Ar}{params:ID}{body:Aa CF}{dV kV doc pm cdv ct oc:Ac}{an od:Ak Ad}
  {osl:Av (Ak Ac)} {N ps:Aa Ar} {sp:Sp} (lk:K.lookup f=Ab ⟨oc,od,.func (Du name qual params body scope dV kV doc pm an cdv ct),osl⟩) (hcd:Gp K cdv qual=true) (S:FnScope N ps scope)
  (len:∀ vs H Q E,sp vs H Q E->vs.length=ps.length)
  (hbody:∀ (A:AJ) (outer:Aa E0) (s:Ag) (H:Hp) (vs:Aa V) (Q:VK) (E:XK),Room k (A.deeper (Dp qual scope s.heap.objs.size f cdv))->sp vs H Q E ->
   ∃ t,PSs (bZ CX P w K mg base N qual scope f cdv A outer s H E) body t/\t { nx:=λ_ H'=>Q .non H',rt:=Q } (x5 N vs) H) :
  FnOk P w K mg base CX (k+1) f (Du name qual params body scope dV kV doc pm an cdv ct) ps sp:=by
 refine⟨len,λA outer s H args us vs Q E hr e0 hb r hsp=>?_⟩;have hl:=len _ _ _ _ hsp;have KX:K.In s.heap:=e0.mod.kin.keeps λb o e=>(e0.bs b o e).1;have lim:s.heap.NoLimit:=e0.mod.nolimit.keeps λb o e=>(e0.bs b o e).1;have hkind:∀ y∈ps.zip us,scope.names.lookup y.1=Ab .local \/ (scope.names.lookup y.1=Ab .cell/\((Em (s.heap.objs.size+1) scope.names []).lookup y.1).isSome=true):=λ⟨n,v⟩ hy=>by
  rcases S.par n (Hl hy).1 with q|q
  .exact .inl q
  .exact .inr ⟨q,Fy _ _ _ (.inl q)⟩
 refine Nr hr.depth (KX _ _ lk) rfl S.co S.gen rfl (OU KX hcd) (hb _ _ _ _ ?_);refine Jr S.kind hkind λenv he s1 x=>?_;subst he;refine⟨lim.keeps x.toInCall.keep,codeAny_func ?_⟩;obtain⟨t,ht,hq⟩:=hbody A outer s H vs Q E (hr.deeper _) hsp;have I:Inv (bZ CX P w K mg base N qual scope f cdv A outer s H E) [] (x5 N vs) H s1:=mP S hr.hd e0 hl r x;refine Dq (ht [] s1 (x5 N vs) H _ I hq) (λfl s' hs=>?_) λe s' hs=>hs;have fin:∀ {σ' : St} {H':Hp} {v:V} {u:Ac},Inv (bZ CX P w K mg base N qual scope f cdv A outer s H E) [] σ' H' s'->qJ v u->Q v H'->CE outer P w H s Q u s':=
  λ{σ' H' v u} J rv q=>⟨v,H',J.os,J.bare,J.base,J.hok,rv,q⟩
 cases fl with
 |ret u =>
  obtain⟨v,σ',H',J,rv,q⟩:=hs;exact fin J rv q
 |next =>
  obtain⟨σ',H',J,q⟩:=hs;exact fin (v:=V.non) (u:=Bj) J rfl q
 |brk =>
  obtain⟨_,_,_,q⟩:=hs;exact An q
 |cont =>
  obtain⟨_,_,_,q⟩:=hs;exact An q
end _L
namespace _H
open PySem PyProof.Rows
variable {Q:Ac->Ag->Prop}{lo hi:Ak Am}
noncomputable def lexLt:Aa Am->Aa Am->Ap
 |[],[]=>false
 |[],_::_=>true
 |_::_,[]=>false
 |x::xs,y::ys=>if x=y then lexLt xs ys else decide (x<y)
theorem lexLt_cons (x y:Am)(xs ys:Aa Am):lexLt (x::xs) (y::ys)=if x=y then lexLt xs ys else decide (x<y):=rfl
theorem JE:lexLt [] []=false:=rfl
section
variable {prog:Az}{w:AL}{A:AJ}{E:Ac->Ag->Prop}{s:Ag}
theorem cat_tup {t b:Ad}{vs ws:Aa Ac}(ht:Pw s.heap t vs.toArray)(hb:Pw s.heap b ws.toArray)(hv:vs≠[])
  (h1:ws=[]->Q (.ref t) s) (h2:ws≠[]->Q (.ref s.heap.objs.size) { s with heap:=s.heap.push { cls:=.type "tuple",data:=.seq (vs++ws).toArray } })
  (hsz:vs.length+ws.length<=sizeLine):Ao (Aq prog w) A (Cs .Add (.ref t) (.ref b)) Q E s:=by
 obtain⟨⟨cls,dd,data,sl⟩,ho,hc,n,hd⟩:=id ht;obtain⟨⟨cls2,dd2,data2,sl2⟩,ho2,hc2,n2,hd2⟩:=id hb;simp only at hc hd hc2 hd2;subst hc hd hc2 hd2;have e:vs.toArray++ws.toArray=(vs++ws).toArray:=by simp
 by_cases hw:ws=[]
 .exact Pi ⟨_,ho,rfl⟩ ⟨_,ho2,rfl⟩ Lp OA HS Hz (Hu _ _)
   (tuple_addW1 t b vs.toArray ws.toArray n n2 dd dd2 sl sl2 (by simpa using hv) (by simp[hw])) ⟨ho,ho2,h1 hw⟩
 .refine Pi ⟨_,ho,rfl⟩ ⟨_,ho2,rfl⟩ Lp OA HS Hz (Hu _ _)
   (tuple_addW2 t b vs.toArray ws.toArray n n2 dd dd2 sl sl2 (by simpa using hv) (by simpa using hw) (by rw[AK,AK];exact hsz)) ⟨ho,ho2,?_⟩
  rw[e];exact h2 hw
noncomputable def sIx (n d:Ah):Ak Am->Ah
 |none=>d
 |some v=>if v<0 then (v+(n:Am)).toNat else min v.toNat n
theorem FO (n d:Ah)(hd:d<=n)(o:Ak Am):sIx n d o<=n:=by
 cases o with
 |none=>exact hd
 |some v =>
  show (if v<0 then (v+(n:Am)).toNat else min v.toNat n)<=n
  by_cases hv:v<0
  .rw[AA hv];omega
  .rw[AB hv];exact Nat.min_le_right _ _
theorem dQ (v:Am)(n d:Ah):(if v<0 then max (v+(n:Am)) 0 else min v (n:Am))=((sIx n d (Ab v):Ah):Am):=by
 show (if v<0 then max (v+(n:Am)) 0 else min v (n:Am))=(((if v<0 then (v+(n:Am)).toNat else min v.toNat n):Ah):Am)
 by_cases hv:v<0
 .simp only[AA hv];omega
 .simp only[AB hv];omega
theorem rT (lo hi:Ak Am)(n:Ah):Hc lo hi 1 (n:Am)=(((sIx n 0 lo:Ah):Am),((sIx n n hi:Ah):Am)):=by
 have h1:¬ ((1:Am)<0):=by omega
 unfold Hc;simp only[h1,Ci];refine Prod.ext ?_ ?_
 .cases lo with
  |none=>rfl
  |some v=>exact dQ v n 0
 .cases hi with
  |none=>rfl
  |some v=>exact dQ v n n
theorem eZ (i j:Ah):ET (i:Am) (j:Am) 1=j-i:=by
 unfold ET;have h1:(1:Am)>0:=by omega
 simp only[h1,Cc,Int.ediv_one]
 split <;> omega
theorem bQ {v:Ac}{o:Ak Am}{Q:Ak Am->Ag->Prop}(p:Js v o)(h:Q o s):Ao (Aq prog w) A (Se v) Q E s:=by
 cases p with
 |none=>exact slicePart_none h
 |int i t=>exact slicePart_int h
theorem vJ {sl:Ad}{vl vu:Ac}{n:Ah}{Q:Am × Am × Ah->Ag->Prop}(hs:s.heap.IsSliceOf sl vl vu .none)(pl:Js vl lo)(pu:Js vu hi)
  (h:Q (((sIx n 0 lo:Ah):Am),1,sIx n n hi-sIx n 0 lo) s):Ao (Aq prog w) A (Jt (.ref sl) (pure (n:Am))) Q E s:=by
 obtain⟨os,hos,hcs,hds⟩:=id hs;unfold Jt Th;refine Af (Af (Dc hos hds (x:=vl) rfl (Af (Dc hos hds (x:=vu) rfl (Af (Dc hos hds (x:=.none) rfl (Al ?_)))))));refine Af (slicePart_none ?_);show Ao _ _ (if ((1:Am) == 0)=true then _ else _) _ _ s
 rw[AB (by decide)]
 refine Af (bQ pl (Af (bQ pu (Af (Al ?_)))));show Ao _ _ (match Hc lo hi 1 (n:Am) with|(lo,hi)=>pure (lo,(1:Am),ET lo hi 1)) _ _ s
 rw[rT lo hi n];show Ao _ _ (pure (((sIx n 0 lo:Ah):Am),(1:Am),ET ((sIx n 0 lo:Ah):Am) ((sIx n n hi:Ah):Am) 1)) _ _ s;rw[eZ];exact Al h
theorem X1 (xs:Av Ac)(i k:Ah):((Bt k).filterMap λ(m:Ah)=>xs[((i:Am)+(m:Am)*1).toNat]?).toArray=((xs.toList.drop i).take k).toArray:=by
 have e:(λ(m:Ah)=>xs[((i:Am)+(m:Am)*1).toNat]?)=λm=>xs[i+m]?:=by
  funext m
  have:((i:Am)+(m:Am)*1).toNat=i+m:=by omega
  rw[this]
 rw[e];have:=pick_run xs i k;rw[List.filterMap_map] at this;have e2:((λx=>xs[x]?)∘λx=>i+x)=λm=>xs[i+m]?:=rfl;rw[e2] at this;rw[this]
theorem getItem_tuple_cut {t sl:Ad}{items:Av Ac}{vl vu:Ac}(ht:Pw s.heap t items)(hs:s.heap.IsSliceOf sl vl vu .none)(pl:Js vl lo)(pu:Js vu hi)
  (hw:¬ (sIx items.size 0 lo=0/\sIx items.size items.size hi=items.size))
  (h:Q (.ref s.heap.objs.size) { s with heap:=s.heap.push { cls:=.type "tuple",data:=.seq ((items.toList.drop (sIx items.size 0 lo)).take (sIx items.size items.size hi-sIx items.size 0 lo)).toArray } })
  (hsz:items.size<=sizeLine):Ao (Aq prog w) A (H0 (.ref t) (.ref sl)) Q E s:=by
 have htake:sizeOk (.seq ((items.toList.drop (sIx items.size 0 lo)).take (sIx items.size items.size hi-sIx items.size 0 lo)).toArray):=by
  show ((items.toList.drop (sIx items.size 0 lo)).take (sIx items.size items.size hi-sIx items.size 0 lo)).toArray.size<=sizeLine;rw[AK,Dz,Gv,A4];omega
 have hj:sIx items.size items.size hi<=items.size:=FO _ _ (Ay _) hi;obtain⟨os,hos,hcs,hds⟩:=id hs;have hTs:s.TypeIs (.ref sl) "slice":=⟨os,hos,hcs⟩;unfold H0
 try with_reducible refine Cp ?_
 first|refine Af (Al ?_)|skip
 refine Af (Qe ht.typeIs (by decide) ?_)
 refine Af (CQ (name:=Fk "__getitem__") ht.typeIs CO
  (CP CO ht.typeIs OB ?_ (OV _ _)))
 show Ao _ _ (Ju (.ref t) >>= _) _ _ s;refine Af (tupleItemsOf_ ht ?_);refine Af (H8 hTs ?_);rw[AA (by decide)]
 refine Af (vJ hs pl pu ?_);have hno:¬ ((((sIx items.size 0 lo:Ah):Am) == 0&&(1:Am) == 1&&(sIx items.size items.size hi-sIx items.size 0 lo) == items.size)=true):=by
  intro q;rw[AF,AF] at q;have q1:((sIx items.size 0 lo:Ah):Am)=0:=eq_of_beq q.1.1;have q2:sIx items.size items.size hi-sIx items.size 0 lo=items.size:=eq_of_beq q.2;exact hw ⟨by omega,by omega⟩
 show Ao _ _ (if (((sIx items.size 0 lo:Ah):Am) == 0&&(1:Am) == 1&&(sIx items.size items.size hi-sIx items.size 0 lo) == items.size)=true then _ else _) _ _ s
 rw[AB hno,X1]
 first
  |exact Af (m:=Fc _) (CG (Al ⟨_,rfl,Al h⟩) htake)
  |exact Af (m:=Fc _) (CG (Af (Al (Al ⟨_,rfl,Al h⟩))) htake)
  |exact Af (Af (m:=Fc _) (CG (Al (Al ⟨_,rfl,Al h⟩)) htake))
  |exact Af (Af (m:=Fc _) (CG (Al ⟨_,rfl,Al h⟩) htake))
end
end _H
namespace _L
open PySem PySem.Spec PyProof.Rows
abbrev TO:=St->Hp->(Ak Am->Hp->Prop)->Prop
def PO (X:Cx)(e:Ak AH)(t:TO):Prop:=
 ∀ (pins:Aa (Ad × AV)) (s:Ag) (σ : St) (H:Hp) (Q:Ak Am->Hp->Prop),Inv X pins σ H s->t σ H Q ->
  Ao (Aq X.prog X.w) X.A (evalPart e X.env) (λu s'=>∃ o H',Inv X pins σ H' s'/\Js u o/\Q o H') X.xe s
def NV (t:TE):TO:=λσ H Q=>t σ H λx H1=>∃ i,x=.int i/\Q (Ab i) H1
theorem eJ {ns:Aa Am}:∀ {us:Aa Ac},qK (ns.map V.int) us->Mt us ns:=by
 induction ns with
 |nil=>intro us r;rw[Pj] at r;cases r;exact .nil
 |cons n ns ih =>
  intro us r;rw[Bu] at r;cases r with
  |cons r1 r2 =>
   obtain⟨t,e⟩:=r1;subst e;exact .cons n t (ih r2)
section
variable {X:Cx}{e:AH}{te:TE}{lo hi:Ak AH}{tl th:TO}{pos p2:CB}
theorem U7 (h:PE X e te):PO X (Ab e) (NV te):=by
 intro pins s σ H Q I hw;rw[evalPart_some];refine thn (h pins s σ H _ I hw) λu s1 ⟨x,H1,I1,r1,q1⟩=>?_;obtain⟨i,rfl,q⟩:=q1;obtain⟨t,rfl⟩:=r1;exact⟨Ab i,H1,I1,.int i t,q⟩
def SlR (X:Cx)(r:V->Ak Am->Ak Am->Hp->VK->Prop):Prop:=
 ∀ (pins:Aa (Ad × AV)) (s:Ag) (σ : St) (H:Hp) (x:V) (v vl vu:Ac) (lo hi:Ak Am) (sl:Ad) (Q:VK),Inv X pins σ H s->qJ x v->s.heap.IsSliceOf sl vl vu .none->Js vl lo->Js vu hi->r x lo hi H Q ->
  ∃ T id,Sf (.type T) "__getitem__" = pure (Ab (.builtin id))/\s.TypeIs v T/\Ao (Aq X.prog X.w) X.A (H0 v (.ref sl)) (EP X pins σ Q) X.xe s
theorem SlR.or {r r':V->Ak Am->Ak Am->Hp->VK->Prop}(h:SlR X r)(h':SlR X r'):SlR X (λx lo hi H Q=>r x lo hi H Q\/r' x lo hi H Q):=by
 intro pins s σ H x v vl vu lo hi sl Q I rx hs pl pu q;rcases q with q|q
 .exact h pins s σ H x v vl vu lo hi sl Q I rx hs pl pu q
 .exact h' pins s σ H x v vl vu lo hi sl Q I rx hs pl pu q
def tSl (r:V->Ak Am->Ak Am->Hp->VK->Prop)(te:TE)(tl th:TO):TE:=λσ H Q=>te σ H λx H1=>tl σ H1 λl H2=>th σ H2 λu H3=>r x l u H3 Q
theorem ZZ {r:V->Ak Am->Ak Am->Hp->VK->Prop}(hr:SlR X r)(he:PE X e te)(hl:PO X lo tl)(hu:PO X hi th):PE X (.Subscript e (.Slice lo hi none p2) pos) (tSl r te tl th):=by
 intro pins s σ H Q I h;refine Sg (thn (he pins s σ H _ I h) λv s1 ⟨x,H1,I1,r1,q1⟩=>?_);refine wpAny_Slice (thn (hl pins s1 σ H1 _ I1 q1) λvl s2 ⟨l,H2,I2,pl,q2⟩=>thn (hu pins s2 σ H2 _ I2 q2) λvu s3 ⟨u,H3,I3,pu,q3⟩=>?_);rw[evalPart_none];refine Al ?_;have I4:Inv X pins σ H3 { s3 with heap:=s3.heap.push { cls:=.type "slice",data:=.fields #[vl,vu,.none] } }:=I3.kept (t':=s3.toks) λb ob q=>Aj _ q
 obtain⟨T,id,hT,ht,hg⟩:=hr pins { s3 with heap:=s3.heap.push { cls:=.type "slice",data:=.fields #[vl,vu,.none] } } σ H3 x v vl vu l u s3.heap.objs.size Q I4 r1 (Uv ..) pl pu q3
 show Ao (Aq X.prog X.w) X.A (Ke e (.Slice lo hi none p2) v (.ref s3.heap.objs.size)) (EP X pins σ Q) X.xe { s3 with heap:=s3.heap.push { cls:=.type "slice",data:=.fields #[vl,vu,.none] } }
 exact tail_any (ops:=[.ref s3.heap.objs.size,v]) ht hT hg (by with_unfolding_all rfl)
noncomputable def kG (xs:Aa V)(lo hi:Ak Am):Aa V:=(xs.drop (_H.sIx xs.length 0 lo)).take (_H.sIx xs.length xs.length hi-_H.sIx xs.length 0 lo)
theorem gS (xs:Aa V)(lo hi:Ak Am):(kG xs lo hi).length<=xs.length:=by
 unfold kG;rw[Dz,Gv];omega
def DW (K:Ai):V->Ak Am->Ak Am->Hp->VK->Prop:=λx lo hi H Q=>∃ a xs,x=.ref a/\SqT K H a xs /\
 ¬ (_H.sIx xs.length 0 lo=0/\_H.sIx xs.length xs.length hi=xs.length)/\∀ p,H p=none->Q (.ref p) (upd H p (.tup (kG xs lo hi)))
theorem FQ:SlR X (DW X.K):=by
 intro pins s σ H x v vl vu lo hi sl Q I rx hs pl pu h;obtain⟨a,xs,rfl,hx,hw,q⟩:=h;cases rx;obtain⟨its,r,ht,hz⟩:=I.tuple hx;have hlen:its.toArray.size=xs.length:=by rw[AK];exact r.length.symm
 refine⟨"tuple",_,CO.lookup,ht.typeIs,?_⟩;refine _H.getItem_tuple_cut ht hs pl pu (by rw[hlen];exact hw) ?_ (by rw[hlen];exact hz)
 rw[hlen];refine⟨.ref s.heap.objs.size,_,I.laid (t':=s.toks) (o:=.tup (kG xs lo hi)) (λb ob q=>Aj _ q) (Ay _) ?_,rfl,q _ (I.hok.fresh (Ay _))⟩;exact⟨Ca (gS xs lo hi) hz,_,(r.drop (_H.sIx xs.length 0 lo)).take (_H.sIx xs.length xs.length hi-_H.sIx xs.length 0 lo),Tg _ _⟩
end
end _L
namespace _L
open PySem PySem.Spec PyProof.Rows
variable {pins:Aa (Ad × AV)}{s:Ag}{H:Hp}{σ:St}
noncomputable def ixN (n:Ah)(i:Am):Ak Ah:=if 0<=i then (if i<n then Ab i.toNat else none) else if -(n:Am)<=i then Ab (i+n).toNat else none
noncomputable def atI {α:Type}(xs:Aa α)(i:Am):Ak α:=(ixN xs.length i).bind λj=>xs[j]?
theorem sG {n:Ah}{i:Am}{j:Ah}(h:ixN n i=Ab j):seqIndex? i n=Ab j/\j<n /\ -(n:Am)<=i/\i<n:=by
 unfold ixN at h;by_cases h0:0<=i
 .rw[AA h0] at h
  by_cases h1:i<n
  .rw[AA h1] at h
   have e:i.toNat=j:=Bg h;exact⟨by rw[Rb h0 h1,e],by omega,by omega,h1⟩
  .rw[AB h1] at h;cases h
 .rw[AB h0] at h
  by_cases h1 : -(n:Am)<=i
  .rw[AA h1] at h
   have e:(i+n).toNat=j:=Bg h;exact⟨by rw[seqIndex_neg om h1,e],by omega,h1,by omega⟩
  .rw[AB h1] at h;cases h
theorem dM {α:Type}{xs:Aa α}{i:Am}{v:α}(h:atI xs i=Ab v):∃ j,seqIndex? i xs.length=Ab j/\xs[j]? = Ab v/\j<xs.length /\ -(xs.length:Am)<=i/\i<xs.length:=by
 unfold atI at h;cases e:ixN xs.length i with
 |none=>rw[e] at h;cases h
 |some j =>
  rw[e] at h;obtain⟨h1,h2,h3,h4⟩:=sG e;exact⟨j,h1,h,h2,h3,h4⟩
def bW (b:AH):Prop:=∀ o i,subscripted b false o i=operate [o,i] (H0 o i)
def IxR (X:Cx)(r:R2):Prop:=
 ∀ (value slice:AH) (pins:Aa (Ad × AV)) (s:Ag) (σ : St) (H:Hp) (x y:V) (v u:Ac) (Q:VK),Inv X pins σ H s->qJ x v->qJ y u->r x y H Q ->
  subscripted slice false v u=operate [v,u] (H0 v u)->Ao (Aq X.prog X.w) X.A (Ke value slice v u) (EP X pins σ Q) X.xe s
def MtR (X:Cx)(id:Bp)(r:V->Aa V->Hp->VK->Prop):Prop:=
 ∀ (pins:Aa (Ad × AV)) (s:Ag) (σ : St) (H:Hp) (x:V) (xs:Aa V) (v:Ac) (us:Aa Ac) (Q:VK),Inv X pins σ H s->qJ x v->qK xs us->r x xs H Q ->
  Ao (Aq X.prog X.w) X.A (call (.builtin id) (v::us)) (EP X pins σ Q) X.xe s
section
variable {X:Cx}{a b:AH}{ta tb:TE}{pos:CB}
theorem IxR.or {r r':R2}(h:IxR X r)(h':IxR X r'):IxR X (λx y H Q=>r x y H Q\/r' x y H Q):=by
 intro value slice pins s σ H x y v u Q I rx ry q hs;rcases q with q|q
 .exact h value slice pins s σ H x y v u Q I rx ry q hs
 .exact h' value slice pins s σ H x y v u Q I rx ry q hs
theorem MtR.or {id:Bp}{r r':V->Aa V->Hp->VK->Prop}(h:MtR X id r)(h':MtR X id r'):MtR X id (λx xs H Q=>r x xs H Q\/r' x xs H Q):=by
 intro pins s σ H x xs v us Q I rx rs q;rcases q with q|q
 .exact h pins s σ H x xs v us Q I rx rs q
 .exact h' pins s σ H x xs v us Q I rx rs q
theorem NA {r:R2}(hr:IxR X r)(ha:PE X a ta)(hb:PE X b tb)(hs:bW b):PE X (.Subscript a b pos) (tOp r ta tb):=by
 intro pins s σ H Q I h;exact Sg (LR ha hb I h λv u s2 x y H2 I2 rx ry q=>hr a b pins s2 σ H2 x y v u Q I2 rx ry q (hs _ _))
def DQ (K:Ai):R2:=λx y H Q=>∃ p xs i v,x=.ref p/\y=.int i/\SqL K H p xs/\atI xs i=Ab v/\Q v H
def DR (K:Ai):R2:=λx y H Q=>∃ p xs i v,x=.ref p/\y=.int i/\SqT K H p xs/\atI xs i=Ab v/\Q v H
theorem sH:IxR X (DQ X.K):=by
 intro value slice pins s σ H x y v u Q I rx ry h hs;obtain⟨p,xs,i,z,rfl,rfl,hq,he,q⟩:=h;cases rx;obtain⟨t,rfl⟩:=ry;obtain⟨its,r,pl,hz⟩:=I.list hq;obtain⟨j,h1,h2,h3,h4,h5⟩:=dM he;obtain⟨w,ew,rw'⟩:=r.get h2;have hl:=r.length;have hn:=kQ;have fin:EP X pins σ Q w s:=⟨z,H,I,rw',q⟩;by_cases h0:0<=i
 .have hj:i.toNat=j:=by
   rw[Rb h0 h5] at h1;exact Bg h1
  exact item_listR pl.isList h0 om (by rw[hj];simpa using ew) fin hs
 .have hj:(i+(its.toArray.size:Am)).toNat=j:=by
   rw[seqIndex_neg om h4] at h1;rw[AK,<- hl];exact Bg h1
  exact Mu (x:=w) pl.isList.typeIs Qf.lookup
   (wpAny_getItem_list_neg (Q:=λr s'=>r=w/\EP X pins σ Q r s') pl.isList om (by rw[AK] <;> omega) om (by rw[hj];simpa using ew) ⟨rfl,fin⟩) hs
theorem GS:IxR X (DR X.K):=by
 intro value slice pins s σ H x y v u Q I rx ry h hs;obtain⟨p,xs,i,z,rfl,rfl,hq,he,q⟩:=h;cases rx;obtain⟨t,rfl⟩:=ry;obtain⟨its,r,pl,hz⟩:=I.tuple hq;obtain⟨j,h1,h2,h3,h4,h5⟩:=dM he;obtain⟨w,ew,rw'⟩:=r.get h2;have hl:=r.length;have hn:=kQ;have fin:EP X pins σ Q w s:=⟨z,H,I,rw',q⟩;exact Mu (x:=w) pl.typeIs slot_tuple_getitem.lookup
  (getItem_tuple (j:=j) (Q:=λr s'=>r=w/\EP X pins σ Q r s') pl om om (by rw[AK,<- hl];exact h1) (by simpa using ew) ⟨rfl,fin⟩) hs
theorem eU (its:Aa Ac)(n j:Ah)(u:Ac):CT (·.setIfInBounds j u) { cls:=.type "list",data:=.seq its.toArray n } = { cls:=.type "list",data:=.seq (its.set j u).toArray n }:=by
 simp[CT]
theorem Inv.lst {p:Ad}{xs:Aa V}(I:Inv X pins σ H s)(h:H p=Ab (.lst xs)) :
  ∃ (its:Aa Ac) (n:Ah),qK xs its/\s.heap.get? p=Ab { cls:=.type "list",data:=.seq its.toArray n } /\ xs.length<=sizeLine:=by
 obtain⟨z,its,n,r,e⟩:=I.hok p _ h;exact⟨its,n,r,e,z⟩
theorem Inv.lstUpd {p:Ad}{xs ys:Aa V}{its its':Aa Ac}{n n':Ah}{f:AV->AV}(I:Inv X pins σ H s)(h:H p=Ab (.lst xs))
  (ho:s.heap.get? p=Ab { cls:=.type "list",data:=.seq its.toArray n }) (hf:f { cls:=.type "list",data:=.seq its.toArray n } = { cls:=.type "list",data:=.seq its'.toArray n' }) (r:qK ys its') (hz:ys.length<=sizeLine) (t:Ah) :
  Inv X pins σ (upd H p (.lst ys)) { s with heap:=s.heap.update p f,toks:=t }:=by
 have e:(s.heap.update p f).get? p=Ab { cls:=.type "list",data:=.seq its'.toArray n' }:=by
  rw[Dd f ho (by rw[hf] <;> rfl),hf]
 refine I.write (x:=p) (e:=p) (by rw[h];trivial) (.inl rfl) (λb u hb q=>(Bv _ _ (Dw hb)).trans q) ⟨_,e⟩ ?_
 exact⟨hz,its',n',r,e⟩
def NI:V->V->V->Hp->(Hp->Prop)->Prop:=λo i v H Q=>∃ p xs k j,o=.ref p/\i=.int k/\H p=Ab (.lst xs)/\ixN xs.length k=Ab j/\Q (upd H p (.lst (xs.set j v)))
theorem XM:tY X NI:=by
 intro pins s σ H o i v ov iv u Q I ro ri rv h;obtain⟨p,xs,k,j,rfl,rfl,hp,hj,q⟩:=h;cases ro;obtain⟨t,rfl⟩:=ri;obtain⟨its,n,r,ho,hz⟩:=I.lst hp;obtain⟨h1,h2,h3,h4⟩:=sG hj;have hl:=r.length;have hn:=kQ;have I':Inv X pins σ (upd H p (.lst (xs.set j v))) { s with heap:=s.heap.update p (CT (·.setIfInBounds j u)) }:=
  I.lstUpd hp ho (eU its n j u) (r.set rv j) (by rw[Ry];exact hz) s.toks
 by_cases h0:0<=k
 .have hk:k.toNat=j:=by
   rw[Rb h0 h4] at h1;exact Bg h1
  exact PySem.W.ki_setAt ho h0 om (by rw[AK,<- hl];exact h4) (by rw[hk];exact⟨_,I',q⟩)
 .have hk:(k+(its.toArray.size:Am)).toNat=j:=by
   rw[seqIndex_neg om h3] at h1;rw[AK,<- hl];exact Bg h1
  exact PySem.W.ki_setBack ho om (by rw[AK,<- hl];exact h3) om (by rw[hk];exact⟨_,I',q⟩)
theorem lR (lo hi:Ak Am)(n:Ah):(Hm lo hi none n).1=((_H.sIx n 0 lo:Ah):Am)/\(Hm lo hi none n).2.1=((_H.sIx n n hi:Ah):Am)/\(Hm lo hi none n).2.2=1:=by
 refine⟨?_,?_,rfl⟩
 .cases lo with
  |none=>simp[Hm,_H.sIx]
  |some i =>
   simp only[Hm,_H.sIx,Rc,show (1:Am)>0 by decide,Cc]
   by_cases h:i<0
   .simp only[h,Cc] <;> omega
   .simp only[h,Ci] <;> omega
 .cases hi with
  |none=>simp[Hm,_H.sIx]
  |some i =>
   simp only[Hm,_H.sIx,Rc,show (1:Am)>0 by decide,Cc]
   by_cases h:i<0
   .simp only[h,Cc] <;> omega
   .simp only[h,Ci] <;> omega
theorem tF (its:Aa Ac)(lo hi:Ak Am):slicePick its.toArray lo hi none=((its.drop (_H.sIx its.length 0 lo)).take (_H.sIx its.length its.length hi-_H.sIx its.length 0 lo)).toArray:=by
 obtain⟨h1,h2,h3⟩:=lR lo hi its.toArray.size;unfold slicePick;rw[h1,h2,h3];simp only[sliceRange_one,pick_run,AK] <;> rfl
def DV (K:Ai):V->Ak Am->Ak Am->Hp->VK->Prop:=λx lo hi H Q=>∃ a xs,x=.ref a/\SqL K H a xs/\∀ p,H p=none->Q (.ref p) (upd H p (.lst (kG xs lo hi)))
theorem rD:SlR X (DV X.K):=by
 intro pins s σ H x v vl vu lo hi sl Q I rx hs pl pu h;obtain⟨a,xs,rfl,hx,q⟩:=h;cases rx;obtain⟨its,r,ht,hz⟩:=I.list hx;have hlen:=r.length;refine⟨"list",_,Qf.lookup,ht.isList.typeIs,?_⟩;refine wpAny_getItem_list_slice ht.isList hs pl pu .none (by simp) ?_ (by rw[AK] <;> omega)
 rw[tF,<- hlen];refine⟨.ref s.heap.objs.size,_,I.laid (t':=s.toks) (o:=.lst (kG xs lo hi)) (λb ob q=>Aj _ q) (Ay _) ?_,rfl,q _ (I.hok.fresh (Ay _))⟩;exact⟨Ca (gS xs lo hi) hz,_,0,(r.drop (_H.sIx xs.length 0 lo)).take (_H.sIx xs.length xs.length hi-_H.sIx xs.length 0 lo),AC _ rfl⟩
theorem g6.or {f:Ac}{r r':Aa V->Hp->VK->Prop}(h:g6 X f r)(h':g6 X f r'):g6 X f (λxs H Q=>r xs H Q\/r' xs H Q):=by
 intro pins s σ H xs us Q I rs q;rcases q with q|q
 .exact h pins s σ H xs us Q I rs q
 .exact h' pins s σ H xs us Q I rs q
def tyV (K:Ai)(T:Bp)(x:V)(H:Hp):Prop:=match x with
 |.str _=>T = "str"
 |.int _=>T = "int"
 |.ref p=>(T = "list" /\ ∃ xs,SqL K H p xs)\/(T = "tuple" /\ ∃ o,K.lookup p=Ab o/\o.cls=.type "tuple" /\ o.dict=none) \/
   (T = "dict" /\ ((∃ kvs,H p=Ab (.dK kvs))\/∃ kvs,H p=Ab (.dT kvs)))\/(T = "set" /\ ∃ S n,H p=Ab (.set S n))
 |_=>CA
theorem oH {T:Bp}{x:V}{v:Ac}(I:Inv X pins σ H s)(r:qJ x v)(ty:tyV X.K T x H) :
  s.TypeIs v T/\∀ a,v=.ref a->∃ ob,s.heap.get? a=Ab ob/\ob.dict=none:=by
 cases x with
 |str z =>
  obtain⟨t,rfl⟩:=r;cases (show T = "str" from ty)
  exact⟨typeIs_str s z t,λ_ e=>nomatch e⟩
 |int i =>
  obtain⟨t,rfl⟩:=r;cases (show T = "int" from ty)
  exact⟨typeIs_int s i t,λ_ e=>nomatch e⟩
 |ref p =>
  cases r;rcases ty with⟨rfl,xs,hq⟩|⟨rfl,o,hk,hc,hd⟩|⟨rfl,hk⟩|⟨rfl,S,n,hk⟩
  .obtain⟨its,_,pl,_⟩:=I.list hq
   refine⟨pl.isList.typeIs,λa e=>?_⟩;cases e;obtain⟨o,n,e,c,hd,_⟩:=pl;exact⟨o,e,hd⟩
  .refine⟨⟨o,I.kIn p o hk,hc⟩,λa e=>?_⟩
   cases e;exact⟨o,I.kIn _ o hk,hd⟩
  .have z:∃ o,s.heap.get? p=Ab o/\o.ExactDict:=by
    rcases hk with⟨kvs,hk⟩|⟨kvs,hk⟩
    .obtain⟨_,_,_,_,o,_,_,e,ex,_⟩:=I.hok p _ hk
     exact⟨o,e,ex⟩
    .obtain⟨_,_,_,_,o,_,_,e,ex,_⟩:=I.hok p _ hk
     exact⟨o,e,ex⟩
   obtain⟨o,e,ex⟩:=z;refine⟨⟨o,e,ex.1⟩,λa e2=>?_⟩;cases e2;exact⟨o,e,ex.2.1⟩
  .obtain⟨o,_,_,_,e,ex,_⟩:=I.hok p _ hk
   refine⟨⟨o,e,ex.1⟩,λa e2=>?_⟩;cases e2;exact⟨o,e,ex.2.1⟩
 |_=>exact An ty
variable {o e:AH}{es:Aa AH}{to:TE}{t:TA}{name:Ar}{apos cpos:CB}{T id:Bp}{r:V->Aa V->Hp->VK->Prop}
/- xs.append(e),list.index on a module's tuple .. are MtR facts of 06m -/
end
end _L
namespace _L
open PySem PySem.Spec PyProof.Rows
def MtM (X:Cx)(id:Bp)(r:V->Aa V->Hp->VK->Prop):Prop:=
 ∀ (pins:Aa (Ad × AV)) (s:Ag) (σ : St) (H:Hp) (x:V) (xs:Aa V) (v:Ac) (us:Aa Ac) (Q:VK),Inv X pins σ H s->qJ x v->qK xs us->r x xs H Q ->
  Ao (Aq X.prog X.w) X.A (call (.builtin id) (v::us)) (EP X pins σ Q) X.xe s
theorem qK.one {x:V}{us:Aa Ac}(h:qK [x] us):∃ u,us=[u]/\qJ x u:=gP h
theorem qK.two {x y:V}{us:Aa Ac}(h:qK [x,y] us):∃ u v,us=[u,v]/\qJ x u/\qJ y v:=tW h
theorem qK.eraseIdx:∀ {xs:Aa V} {us:Aa Ac} (i:Ah),qK xs us->qK (xs.eraseIdx i) (us.eraseIdx i)
 |_,_,_,.nil=>.nil
 |_,_,0,.cons _ t=>t
 |_,_,i+1,.cons r t=>.cons r (qK.eraseIdx i t)
section
variable {X:Cx}{pins:Aa (Ad × AV)}{σ : St}{H:Hp}{s:Ag}{l b:Ad}{xs ys zs:Aa V}
theorem Inv.lset {its its':Aa Ac}{n:Ah}{f:Av Ac->Av Ac}{t':Ah}(I:Inv X pins σ H s)(hH:H l=Ab (.lst xs))
  (e:s.heap.get? l=Ab { cls:=.type "list",data:=.seq its.toArray n }) (hf:f its.toArray=its'.toArray) (hv:qK ys its') (hz:ys.length<=sizeLine) :
  Inv X pins σ (upd H l (.lst ys)) { s with heap:=s.heap.update l (CT f),toks:=t' }:=by
 have q:=Re e f;rw[hf] at q;refine I.write (x:=l) (e:=l) (by rw[hH];exact trivial) (.inl rfl) (λb' u hb hu=>(Bv s.heap (CT f) (Dw hb)).trans hu) ⟨_,q⟩ ?_
 exact⟨hz,its',_,hv,q⟩
theorem Inv.lstM (I:Inv X pins σ H s)(hH:H l=Ab (.lst xs)):xs.length<=sizeLine/\∃ (its:Aa Ac) (n:Ah),qK xs its/\xs.length=its.length/\s.heap.get? l=Ab { cls:=.type "list",data:=.seq its.toArray n }:=by
 obtain⟨z,its,n,r,e⟩:=I.hok l _ hH;exact⟨z,its,n,r,r.length,e⟩
end
section
variable {X:Cx}
def UJ:V->Aa V->Hp->VK->Prop:=λx vs H Q=>∃ l xs y,x=.ref l/\vs=[y]/\H l=Ab (.lst xs)/\xs.length<sizeLine/\Q .non (upd H l (.lst (xs++[y])))
theorem i8:MtM X "list.append" UJ:=by
 intro pins s σ H x vs v us Q I rx rv h;obtain⟨l,xs,y,rfl,rfl,hH,hz,q⟩:=h;cases rx;obtain⟨u,rfl,ru⟩:=rv.one;obtain⟨z,its,n,r,hl,e⟩:=I.lstM hH;refine Lq OW ⟨_,e,rfl⟩ OC (Os _ _) (Qg l its.toArray n u (by rw[AK];omega)) ⟨e,?_⟩
 refine⟨.non,_,I.lset (its':=its++[u]) hH e (by simp) (r.append (.cons ru .nil)) ?_,rfl,q⟩
 rw[Bs,Nt];omega
end
end _L
namespace _L
open PySem PySem.Spec PyProof.Rows
variable {xs:Aa (Aa Key × Ad × Ac)}{kvs:Aa (Aa Key × V)}{Q:Ac->Ag->Prop}{H':Hp}
section
variable {κ : Type}[Np κ]
noncomputable def w6 (kvs:Aa (κ × V))(k:κ):Ak V:=(kvs.find? λkv=>decide (kv.1=k)).map (·.2)
noncomputable def wW (kvs:Aa (κ × V))(k:κ)(v:V):Aa (κ × V):=
 if (kvs.any λkv=>decide (kv.1=k))=true then kvs.map (λkv=>if kv.1=k then (kv.1,v) else kv) else kvs++[(k,v)]
theorem pR {p:κ × V}{r:Aa (κ × V)}{k:κ}(e:p.1=k):w6 (p::r) k=Ab p.2:=by simp[w6,Fz,e]
theorem pQ {p:κ × V}{r:Aa (κ × V)}{k:κ}(e:¬ p.1=k):w6 (p::r) k=w6 r k:=by simp[w6,Fz,e]
theorem lX (k:κ):∀ kvs:Aa (κ × V),(kvs.any λkv=>decide (kv.1=k))=(w6 kvs k).isSome
 |[]=>rfl
 |p::r=>by
  rw[Ga];by_cases e:p.1=k
  .simp only[pR e,CC e,TW,OX]
  .rw[pQ e,Cq e,Bool.false_or];exact lX k r
theorem gT (kvs:Aa (κ × V))(k:κ)(v:V):(wW kvs k v).length<=kvs.length+1:=by
 unfold wW
 split
 .rw[AR];omega
 .rw[Bs,Bk,IE];omega
theorem yC.isSome_eq {o:Ak V}{u:Ak Ac}(r:yC o u):o.isSome=u.isSome:=by
 cases o with
 |none=>cases u with
  |none=>rfl
  |some _=>exact(show CA from r).elim
 |some _=>cases u with
  |none=>exact(show CA from r).elim
  |some _=>rfl
theorem yC.getD {o:Ak V}{u:Ak Ac}{d:V}{d':Ac}(r:yC o u)(rd:qJ d d'):qJ (o.getD d) (u.getD d'):=by
 cases o with
 |none=>cases u with
  |none=>exact rd
  |some _=>exact(show CA from r).elim
 |some _=>cases u with
  |none=>exact(show CA from r).elim
  |some _=>exact r
theorem KV.val {kvs:Aa (κ × V)}{vs:Aa (κ × Ac)}(r:KV kvs vs)(k:κ):yC (w6 kvs k) (Mv vs k):=by
 unfold KV at r
 induction r with
 |nil=>exact Ev
 |@cons p q ps qs h t ih =>
  obtain⟨h1,h2⟩:=h;by_cases e:p.1=k
  .have e':q.1=k:=h1.symm.trans e
   have b:Mv (q::qs) k=Ab q.2:=by simp[Mv,Fz,e']
   rw[pR e,b];exact h2
  .have e':¬ q.1=k:=λz=>e (h1.trans z)
   have b:Mv (q::qs) k=Mv qs k:=by simp[Mv,Fz,e']
   rw[pQ e,b];exact ih
theorem KV.any {kvs:Aa (κ × V)}{vs:Aa (κ × Ac)}(r:KV kvs vs)(k:κ):(kvs.any λkv=>decide (kv.1=k))=vs.any λkv=>decide (kv.1=k):=by
 unfold KV at r
 induction r with
 |nil=>rfl
 |cons h t ih=>rw[Ga,Ga,ih,h.1]
theorem KV.repl {kvs:Aa (κ × V)}{vs:Aa (κ × Ac)}(r:KV kvs vs)(k:κ){y:V}{u:Ac}(ry:qJ y u) :
  KV (kvs.map λkv=>if kv.1=k then (kv.1,y) else kv) (vs.map λkv=>if kv.1=k then (kv.1,u) else kv):=by
 unfold KV at r ⊢
 induction r with
 |nil=>exact .nil
 |@cons p q ps qs h t ih =>
  rw[Bu,Bu];refine .cons ?_ ih;obtain⟨h1,h2⟩:=h;by_cases e:p.1=k
  .rw[AA e,AA (h1.symm.trans e)];exact⟨h1,ry⟩
  .rw[AB e,AB (λz=>e (h1.trans z))];exact⟨h1,h2⟩
theorem KV.put {kvs:Aa (κ × V)}{vs:Aa (κ × Ac)}(r:KV kvs vs)(k:κ){y:V}{u:Ac}(ry:qJ y u):KV (wW kvs k y) (stored vs k u):=by
 unfold wW stored;rw[r.any k];by_cases e:(vs.any λkv=>decide (kv.1=k))=true
 .rw[AA e,AA e];exact r.repl k ry
 .rw[AB e,AB e];exact Paired.snoc r ⟨rfl,ry⟩
theorem KV.length {kvs:Aa (κ × V)}{vs:Aa (κ × Ac)}(r:KV kvs vs):kvs.length=vs.length:=Paired.length r
end
theorem gF {P:Az}{w:AL}{k:Key}{u:Ac}(r:qJ (kV k) u):(zQ P w).is k u=true:=by
 cases k with
 |inl i=>obtain⟨t,e⟩:=(show ∃ t,u=IA i t from r);subst e;exact dA P w i t
 |inr x=>obtain⟨t,e⟩:=(show ∃ t,u=No x t from r);subst e;exact dB P w x t
theorem mR {P:Az}{w:AL}:∀ {ks:Aa Key} {us:Aa Ac},qK (ks.map kV) us->ItemsAre (zQ P w) ks us
 |[],_,r=>by rw[Pj] at r;cases r;exact .nil
 |k::ks,_,r=>by
  rw[Bu] at r;cases r with
  |cons h t=>exact .cons (gF h) (mR t)
abbrev KT (H:Hp):Aa (Aa Key × V)->Aa (Aa Key × Ad × Ac)->Prop:=Paired λp q=>p.1=q.1/\H q.2.1=Ab (.tup (p.1.map kV))/\qJ p.2 q.2.2
theorem KT.val {H:Hp}(r:KT H kvs xs)(k:Aa Key):yC (w6 kvs k) ((OD xs k).map (·.2)):=by
 induction r with
 |nil=>exact Ev
 |@cons p q ps qs h t ih =>
  obtain⟨h1,_,h2⟩:=h;by_cases e:p.1=k
  .have e':q.1=k:=h1.symm.trans e
   have b:OD (q::qs) k=Ab q.2:=by simp[OD,Fz,e']
   rw[pR e,b];exact h2
  .have e':¬ q.1=k:=λz=>e (h1.trans z)
   have b:OD (q::qs) k=OD qs k:=by simp[OD,Fz,e']
   rw[pQ e,b];exact ih
theorem KT.repl {H:Hp}(r:KT H kvs xs)(k:Aa Key){y:V}{u:Ac}(ry:qJ y u) :
  KT H (kvs.map λkv=>if kv.1=k then (kv.1,y) else kv) (xs.map (putAt k u)):=by
 induction r with
 |nil=>exact .nil
 |@cons p q ps qs h t ih =>
  rw[Bu,Bu];refine .cons ?_ ih;obtain⟨h1,h2,h3⟩:=h;unfold putAt;by_cases e:p.1=k
  .rw[AA e,AA (h1.symm.trans e)];exact⟨h1,h2,ry⟩
  .rw[AB e,AB (λz=>e (h1.trans z))];exact⟨h1,h2,h3⟩
theorem KT.put {H:Hp}(r:KT H kvs xs)(k:Aa Key){b:Ad}{y:V}{u:Ac}(hb:H b=Ab (.tup (k.map kV)))(ry:qJ y u) :
  KT H (wW kvs k y) (storedH xs k b u):=by
 have e:(kvs.any λkv=>decide (kv.1=k))=(OD xs k).isSome:=by
  rw[lX,(r.val k).isSome_eq,Kg]
 unfold wW storedH;rw[e];by_cases q:(OD xs k).isSome=true
 .rw[AA q,AA q];exact r.repl k ry
 .rw[AB q,AB q];exact Paired.snoc r ⟨rfl,hb,ry⟩
theorem KT.keeps {H:Hp}(r:KT H kvs xs)(ht:∀ b ys,H b=Ab (.tup ys)->H' b=Ab (.tup ys)):KT H' kvs xs:=
 Paired.mapP r λ_ _ z=>⟨z.1,ht _ _ z.2.1,z.2.2⟩
section
variable {P:Az}{w:AL}{H:Hp}{h:A8}{a:Ad}
theorem WN {u:HO}(ok:HOk P w H h)(e:Rd H a u):z9 P w H h a u:=e.ok ok
theorem tM {kvs:Aa (Key × V)}(ok:HOk P w H h)(e:Rd H a (.dK kvs)):kvs.length<=sizeLine/\(a == Ff)=false/\∃ vs,KV kvs vs/\h.DictOf (zQ P w) a vs:=
 show z9 P w H h a (.dK kvs) from WN ok e
theorem MM {kvs:Aa (Key × V)}(ok:HOk P w H h)(e:H a=Ab (.dK kvs)):kvs.length<=sizeLine/\(a == Ff)=false/\∃ vs,KV kvs vs/\h.DictOf (zQ P w) a vs:=tM ok (.inl e)
theorem bF {ks:Aa Key}(ok:HOk P w H h)(e:H a=Ab (.tup (ks.map kV))):(Nq (zQ P w)).is h ks a:=by
 obtain⟨_,its,r,o,h1,h2,n,h3⟩:=(show z9 P w H h a (.tup (ks.map kV)) from ok a _ e)
 exact⟨o,its.toArray,n,h1,h2,h3,by simpa using mR r⟩
theorem tN (ok:HOk P w H h)(e:Rd H a (.dT kvs)):kvs.length<=sizeLine/\(a == Ff)=false /\
  ∃ xs,KT H kvs xs/\h.DictOfH (Nq (zQ P w)) a xs:=by
 obtain⟨z,y,xs,r,o,es,ep,h1,h2,h3,h4,h5⟩:=(show z9 P w H h a (.dT kvs) from WN ok e)
 refine⟨z,y,xs,r,o,es,ep,h1,h2,h3,h4,λx hx=>?_,h5⟩;have all:∀ {l:Aa (Aa Key × V)} {m:Aa (Aa Key × Ad × Ac)},KT H l m->∀ x∈m,(Nq (zQ P w)).is h x.1 x.2.1:=by
  intro l m q
  induction q with
  |nil=>intro x hx;exact nomatch hx
  |@cons p q ps qs hq t ih =>
   intro x hx;rcases AD.mp hx with e|hx
   .subst e
    exact bF ok (by rw[<- hq.1];exact hq.2.1)
   .exact ih x hx
 exact all r x hx
theorem MP (ok:HOk P w H h)(e:H a=Ab (.dT kvs)):kvs.length<=sizeLine/\(a == Ff)=false /\
  ∃ xs,KT H kvs xs/\h.DictOfH (Nq (zQ P w)) a xs:=tN ok (.inl e)
end
def j7 (H:Hp)(a:Ad)(y:V)(r:Ak V):Prop:=
 (∃ kvs k,Rd H a (.dK kvs)/\y=kV k/\r=w6 kvs k)\/∃ kvs k b,Rd H a (.dT kvs)/\y=.ref b/\H b=Ab (.tup (k.map kV))/\r=w6 kvs k
def bU (H:Hp)(a:Ad)(y v:V)(H':Hp):Prop:=
 (∃ kvs k,H a=Ab (.dK kvs)/\y=kV k/\kvs.length<sizeLine/\H'=upd H a (.dK (wW kvs k v))) \/
 ∃ kvs k b,H a=Ab (.dT kvs)/\y=.ref b/\H b=Ab (.tup (k.map kV))/\kvs.length<sizeLine/\H'=upd H a (.dT (wW kvs k v))
theorem j7.k {H:Hp}{a:Ad}{kvs:Aa (Key × V)}{k:Key}(e:H a=Ab (.dK kvs)):j7 H a (kV k) (w6 kvs k):=.inl ⟨kvs,k,.inl e,rfl,rfl⟩
theorem j7.t {H:Hp}{a b:Ad}{k:Aa Key}(e:H a=Ab (.dT kvs))(eb:H b=Ab (.tup (k.map kV))):j7 H a (.ref b) (w6 kvs k):=.inr ⟨kvs,k,b,.inl e,rfl,eb,rfl⟩
theorem bU.k {H:Hp}{a:Ad}{kvs:Aa (Key × V)}{k:Key}{v:V}(e:H a=Ab (.dK kvs))(hl:kvs.length<sizeLine):bU H a (kV k) v (upd H a (.dK (wW kvs k v))):=.inl ⟨kvs,k,e,rfl,hl,rfl⟩
theorem bU.t {H:Hp}{a b:Ad}{k:Aa Key}{v:V}(e:H a=Ab (.dT kvs))(eb:H b=Ab (.tup (k.map kV)))(hl:kvs.length<sizeLine) :
  bU H a (.ref b) v (upd H a (.dT (wW kvs k v))):=.inr ⟨kvs,k,b,e,rfl,eb,hl,rfl⟩
section
variable {X:Cx}{pins:Aa (Ad × AV)}{σ : St}{H:Hp}{s:Ag}{a:Ad}{y v:V}{u r:Ac}{o:Ak V}{A:AJ}{E:Ac->Ag->Prop}
theorem Inv.big (I:Inv X pins σ H s):Ff<s.heap.objs.size:=by
 have h:Bd<s.heap.objs.size:=(I.mod.glob.keeps I.bk).lt;exact E1 (by decide) h
theorem cU (hu:A.units+1<CZ)(I:Inv X pins σ H s)(g:j7 H a y (Ab v))(ry:qJ y u)(h:∀ w' s',Inv X pins σ H s'->qJ v w'->Q w' s') :
  Ao (Aq X.prog X.w) A (H0 (.ref a) u) Q E s:=by
 rcases g with⟨kvs,k,e,ey,l⟩|⟨kvs,k,b,e,ey,eb,l⟩
 .subst ey
  obtain⟨z,hd,vs,rel,dd⟩:=tM I.hok e;obtain⟨w',hw,rw'⟩:=yC.some_of (v:=v) (o:=Mv vs k) (by rw[l];exact rel.val k)
  exact wpAny_getItem_of (gF ry) dd.mapOf hw (h w' _ (I.tok _) rw')
 .subst ey
  cases (show u=Ba b from ry)
  obtain⟨z,hd,xs,rel,dd⟩:=tN I.hok e;obtain⟨w',hw,rw'⟩:=yC.some_of (v:=v) (o:=(OD xs k).map (·.2)) (by rw[l];exact rel.val k)
  obtain⟨p,hp,hp2⟩:=Bw.mp hw;refine wpAny_getItem_heap (Jm hu) (bF I.hok eb) dd hp ?_;rw[hp2];exact h w' _ (I.tok _) rw'
theorem LZ (hu:A.units+1<CZ)(I:Inv X pins σ H s)(g:j7 H a y o)(ry:qJ y u)(h:∀ s',Inv X pins σ H s'->Q (.bool o.isSome) s') :
  Ao (Aq X.prog X.w) A (Cb .In u (.ref a)) Q E s:=by
 rcases g with⟨kvs,k,e,ey,l⟩|⟨kvs,k,b,e,ey,eb,l⟩
 .subst ey
  obtain⟨z,hd,vs,rel,dd⟩:=tM I.hok e;refine wpAny_in_of (gF ry) hd dd.mapOf ?_;rw[<- (rel.val k).isSome_eq,<- l];exact h _ (I.tok _)
 .subst ey
  cases (show u=Ba b from ry)
  obtain⟨z,hd,xs,rel,dd⟩:=tN I.hok e;refine wpAny_in_heap (Jm hu) (bF I.hok eb) hd dd ?_;have q:=(rel.val k).isSome_eq;rw[Kg] at q;rw[<- q,<- l];exact h _ (I.tok _)
theorem dU {h':A8}{t':Ah}{ob:HO}(I:Inv X pins σ H s)(mu:Mut (H a))(hs:DL a s.heap h')(he:∃ q,h'.get? a=Ab q)(new:z9 X.prog X.w (upd H a ob) h' a ob) :
  Inv X pins σ (upd H a ob) { s with heap:=h',toks:=t' }:=
 I.write (x:=a) (e:=a) mu (.inl rfl) (λb q hb z=>(hs.2 b hb).trans z) he new
theorem KQ {P:Az}{w:AL}{h':A8}{kvs:Aa (Key × V)}{vs:Aa (Key × Ac)}(z:kvs.length<=sizeLine)(hd:(a == Ff)=false)(rel:KV kvs vs)(dd:h'.DictOf (zQ P w) a vs) :
  z9 P w H' h' a (.dK kvs):=⟨z,hd,vs,rel,dd⟩
theorem cV {Q:IV->Ag->Prop}(hu:A.units+1<CZ)(I:Inv X pins σ H s)(g:bU H a y v H')(ry:qJ y u)(rv:qJ v r)(h:∀ s',Inv X pins σ H' s'->Q () s') :
  Ao (Aq X.prog X.w) A (Tf (.ref a) u r) Q E s:=by
 rcases g with⟨kvs,k,e,ey,l,eH⟩|⟨kvs,k,b,e,ey,eb,l,eH⟩
 .subst ey eH
  obtain⟨z,hd,vs,rel,dd⟩:=MM I.hok e;have hz:vs.length<=sizeLine:=by rw[<- rel.length];exact z
  have hl:(wW kvs k v).length<=sizeLine:=by have:=gT kvs k v;omega
  refine wpAny_setItem_pairs (hsz:=hz) (gF ry) dd λh' dd' hs=>h _ ?_;have he:∃ q,h'.get? a=Ab q:=let ⟨q,_,_,hq,_⟩:=dd';⟨q,hq⟩
  exact dU I (by rw[e];exact Ev) hs he (KQ hl hd (rel.put k rv) dd')
 .subst ey eH
  cases (show u=Ba b from ry)
  obtain⟨z,hd,xs,rel,dd⟩:=MP I.hok e;have hz:xs.length<=sizeLine:=by rw[<- Paired.length rel];exact z
  have hl:(wW kvs k v).length<=sizeLine:=by have:=gT kvs k v;omega
  refine wpAny_setItem_heap (hsz:=hz) (Jm hu) (bF I.hok eb) dd λh' dd' hs=>h _ ?_;obtain⟨q,es,ep,hq,h2,h3,h4,_,h5⟩:=dd';refine dU I (by rw[e];exact Ev) hs ⟨q,hq⟩ ⟨hl,hd,_,(rel.put k eb rv).keeps λc ys ec=>?_,q,es,ep,hq,h2,h3,h4,h5⟩
  rw[qI (TH ec e (λz=>nomatch z))];exact ec
end
def oV (i:AH):Prop:=∀ ov iv,subscripted i false ov iv=operate [ov,iv] (H0 ov iv)
theorem UW {prog:Az}{w:AL}{A:AJ}{E:Ac->Ag->Prop}{s:Ag}{env:E0}{value slice:AH}{pos:CB}{T id:Bp}
  (hl:Sf (.type T) "__getitem__" = pure (Ab (.builtin id))) (hs:oV slice)
  (h:Ao (Aq prog w) A (eval value env) (λo s₁=>Ao (Aq prog w) A (eval slice env) (λi s₂=>s₂.TypeIs o T/\Ao (Aq prog w) A (H0 o i) Q E s₂) E s₁) E s) :
  Ao (Aq prog w) A (eval (.Subscript value slice pos) env) Q E s:=by
 refine Sg (Dq h (λo s₁ h₁=>Dq h₁ (λi s₂ h₂=>?_) λ_ _ x=>x) λ_ _ x=>x);obtain⟨hT,h₂⟩:=h₂;unfold Ke;refine Af ?_;rw[getitemInPython_of_ne hT.not_modules];refine Af (Mw hT hl ?_);have fin:Ao (Aq prog w) A (subscripted slice false o i) (λr s₃=>Ao (Aq prog w) A (letTemporaryGo value o r >>= λ_=>pure r) Q E s₃) E s₂:=by
  rw[hs o i];exact wpAny_operating (Dq h₂ (λr s₃ h₃=>Af (wpAny_letTemporaryGo (Al h₃))) λ_ _ x=>x)
 first
  |exact Al (Af fin)
  |exact Af (Al (Af fin))
  |exact Af fin
theorem d9 {X:Cx}{pins:Aa (Ad × AV)}{σ:St}{H:Hp}{s:Ag}{a:Ad}{y:V}{o:Ak V}(I:Inv X pins σ H s)(g:j7 H a y o):s.TypeIs (.ref a) "dict":=by
 rcases g with⟨kvs,k,e,_,_⟩|⟨kvs,k,b,e,_,_,_⟩
 .obtain⟨_,_,vs,_,dd⟩:=tM I.hok e
  exact dd.typeIs
 .obtain⟨_,_,xs,_,dd⟩:=tN I.hok e
  exact dd.typeIs
theorem QP {P:Az}{w:AL}{H:Hp}(h:A8)(hb:Ff<h.objs.size):z9 P w H (h.push { cls:=.type "dict",data:=.dict #[] }) h.objs.size (.dK []):=
 ⟨Dn _,IT.mpr (Dw (AS hb)),[],.nil,Heap.DictOf.new h⟩
def FS:TE:=λ_ H Q=>∀ p,H p=none->Q (.ref p) (upd H p (.dK []))
section
variable {X:Cx}{pos:CB}
theorem lJ:PE X (.Dict [] [] pos) FS:=λpins s σ H Q I h =>
 wpAny_Dict_empty ⟨.ref s.heap.objs.size,_,I.laid (a:=s.heap.objs.size) (o:=.dK []) (t':=s.toks) (λ_ _ q=>Aj _ q) (Ay _) (QP s.heap I.big),rfl,h _ (I.hok.fresh (Ay _))⟩
end
end _L
namespace _A
open PySem PySem.W PySem.Calls PyProof.Rows
theorem b9 {P:Params}{h:A8}:∀ (ns:Aa Am) (vs:Aa Ac),WellAll P h vs (ns.map Uz)->Mt vs ns:=by
 intro ns
 induction ns with
 |nil =>
  intro vs w;rw[Pj] at w;cases w;exact .nil
 |cons n ns ih =>
  intro vs w;rw[Bu] at w;cases w with
  |cons a b =>
   cases a;exact .cons _ _ (ih _ b)
theorem oB {l:OpenLaw}{n:Ah}(hn:l.most=Ab n){P:Params}{h:A8}{args:Aa WData}{vals:Aa Ac}
  (hpre:l.row.toRowW.claim.pre args=true) (hwl:WellAll P h vals args) :
  ∃ a vs ns,vals=[Ba a]/\args=[WData.list (ns.map Uz)]/\h.get? a=Ab { cls:=.type "list",data:=.seq vs.toArray } /\ Mt vs ns/\ns.length<=n:=by
 have hsh:WShape.hasAll [] args [.list .int]=true:=(pre_splitW hpre).1;have hc:l.pre.holds [] { args:=args } = true:=(pre_splitW hpre).2;obtain⟨d,r,rfl,h1,h2⟩:=hasAllW_cons hsh;obtain rfl:=hasAllW_nil h2;obtain⟨xs,rfl,h3⟩:=hasW_list h1;obtain⟨ns,rfl⟩:=items_int h3;have hlen:ns.length<=n:=by
  unfold OpenLaw.pre at hc;have h4:(WTm.not (.lt (.lit (.int (n:Am))) (.len (.arg 0)))).holds [] { args:=[.list (ns.map .int)] } = true:=by
   have h4:=(holds_andW hc).1;rw[hn] at h4;exact h4
  have h5:=condW_of h4 (w_not (w_lt w_lit (w_len_list (w_arg rfl))));rw[AR] at h5;refine Fg λq=>?_;have q':(n:Am)<((ns.length:Ah):Am):=by omega
  first
   |(rw[CC q'] at h5;exact absurd h5 (by decide))
   |(simp at h5;omega)
 cases hwl with
 |cons w1 w2 =>
  cases w2;cases w1 with
  |list ho hall=>exact⟨_,_,ns,rfl,rfl,ho,b9 ns _ hall,hlen⟩
theorem iI (l:OpenLaw)(args:Aa WData):l.row.toRowW.claim.post args (.bool true) args=true:=
 postW_of (r:=l.row.toRowW) (X:=(true == true))
  (show Ur [] (.bool true) .bool=true by first|rfl|decide|simp[Ur,WShape.arms,WShape.armsAll])
  (show (WTm.eq .res (.lit (.bool true))).value [] { args:=args,res:=Ab (.bool true),after:=args } = Ab (.bool (true == true)) from w_eq_bool (w_res rfl) w_lit) rfl
theorem attach_call {l:OpenLaw}{n:Ah}{q:Az}{loose:Aa Ar}{XP:(Ar->Ak Ac)->A8->Prop}{YP:AL->A8->Prop}{d:DefRec}
  (hn:l.most=Ab n) (hdf:d.params.defaults=[])
  (call:∀ (w:AL) (s₀ s₁:Ag) (mg mb:Ar->Ak Ac) (fa:Ad) (o:AV) (pm cd doc:Ac) (a:Ad) (vs:Aa Ac) (ns:Aa Am),
   Ground q loose [] XP w s₀ mg mb s₁.heap->YP w s₁.heap ->
   s₁.heap.get? fa=Ab o->o.data=.func (docDef d.name d.params d.body d.scope pm cd doc)->s₁.heap.CodeRec cd d.name->mg d.name=Ab (.ref fa) ->
   s₁.heap.get? a=Ab { cls:=.type "list",data:=.seq vs.toArray } -> Mt vs ns->ns.length<=n->s₁.gens=#[] ->
   El (Aq l.prog w) Kh (.call (.ref fa) ⟨[.ref a],[]⟩) (λr s'=>r=.ok (.ret (.bool true))/\OldK s₁.heap s'.heap/\s'.os=s₁.os/\HY s'.gens) s₁) :
  WalkO q loose XP YP l.row.toRowW d [] (λf vs=>Sh f vs):=by
 intro w s₀ s₁ mg mb G Y fa o pm cd doc dV kV ho hd hcd hD hmg hg args vals as hpre hlay hrd hwl hlo;obtain rfl:dV=.none:=Dflts.none hD hdf;obtain rfl:kV=.none:=Dflts.noKw hD;obtain⟨a,vs,ns,rfl,rfl,hobj,hints,hlen⟩:=oB hn hpre hwl;refine enter_call (EL (call w s₀ s₁ mg mb fa o pm cd doc a vs ns G Y ho (fd_plain hd) hcd hmg hobj hints hlen hg) λr s' hq=>?_);obtain⟨rfl,h2,h3,h4⟩:=hq;exact⟨.inl ⟨.bool true,.bool true,[],rfl,λ_=>rfl,.bool true,iI l _,λ_=>⟨HK,λ_ hm=>(nomatch hm)⟩⟩,h2,h3,h4⟩
end _A
namespace _L
open PySem PySem.Spec PyProof.Rows
theorem oJ {vs:Aa Ac}{ns:Aa Am}(h:Mt vs ns):qK (ns.map V.int) vs:=by
 induction h with
 |nil=>exact .nil
 |cons n t h ih=>exact .cons ⟨t,rfl⟩ ih
def SqX (K:Ai)(H:Hp)(a:Ad)(xs:Aa V):Prop:=
 Rd H a (.lst xs)\/∃ (its:Aa Ac) (n:Ah),K.lookup a=Ab { cls:=.type "list",data:=.seq its.toArray n } /\ xs.length<=sizeLine/\qK xs its
theorem SqX.l {K:Ai}{H:Hp}{a:Ad}{xs:Aa V}(h:SqX K H a xs):SqL K H a xs:=by
 rcases h with h|⟨its,n,e,l,v⟩
 .exact .inl h
 .exact .inr ⟨_,its.toArray,n,e,rfl,rfl,rfl,by rw[AK,<- v.length];exact l,by simpa using v⟩
end _L
namespace _L
open PySem PySem.Spec PyProof.Rows
variable {ps:Aa Ar}{f:Ad}{x qual:Ar}{H:Hp}
noncomputable def xT (s:CF):ID:=match s with
 |.FunctionDef _ a _ _ _ _ _ _ _ _=>a
 |_=>{ posonlyargs:=[],args:=[],vararg:=none,kwonlyargs:=[],kw_defaults:=[],kwarg:=none,defaults:=[] }
noncomputable def zC (s:CF):Aa CF:=match s with
 |.FunctionDef _ _ b _ _ _ _ _ _ _=>b
 |_=>[]
noncomputable def qG (s:CF):Cj:=match s with
 |.FunctionDef _ _ _ _ _ _ sc _ _ _=>sc
 |_=>{ kind:=.function,names:=[],isGenerator:=false,isCoroutine:=false }
abbrev CX0:CXT:=λ_ _ _ _ _ _=>CA
structure Fun (K:Ai)(x qual:Ar)(st:CF)(f:Ad)(fd:CV):Prop where
 ex:∃ (oc:Ac) (od:Ak Ad) (kV doc pm:Ac) (an:Ak Ad) (cdv ct:Ac) (osl:Av (Ak Ac)),
  fd=Du x qual (xT st) (zC st) (qG st) .none kV doc pm an cdv ct/\K.lookup f=Ab ⟨oc,od,.func fd,osl⟩/\Gp K cdv qual=true
 kp:CD K (.ref f)=true
section
variable {P:Az}{w:AL}{K:Ai}{mg:Ar->Ak Ac}{base:A8}
theorem Fun.ok {st:CF}{fd:CV}{N:Aa Ar}{k:Ah}{sp:Sp}(F:Fun K x qual st f fd)(S:FnScope N ps (qG st))(len:∀ vs H Q E,sp vs H Q E->vs.length=ps.length)
  (hbody:∀ (cdv:Ac) (A:AJ) (outer:Aa E0) (s:Ag) (H:Hp) (vs:Aa V) (Q:VK) (E:XK),Room k (A.deeper (Dp qual (qG st) s.heap.objs.size f cdv))->sp vs H Q E ->
   ∃ t,PSs (bZ CX0 P w K mg base N qual (qG st) f cdv A outer s H E).nox (zC st) t/\t { nx:=λ_ H'=>Q .non H',rt:=Q } (x5 N vs) H):FnOk P w K mg base CX0 (k+1) f fd ps sp:=by
 obtain⟨oc,od,kV,doc,pm,an,cdv,ct,osl,rfl,lk,hcd⟩:=F.ex;refine MT lk hcd S len λA outer s H vs Q E hr hsp=>?_;obtain⟨t,h,q⟩:=hbody cdv A outer s H vs Q E hr hsp;exact⟨t,h.nox,q⟩
theorem Fun.binds {st:CF}{fd:CV}(F:Fun K x qual st f fd)
  (h:∀ (kV doc pm:Ac) (an:Ak Ad) (cdv ct:Ac) (us:Aa Ac),us.length=ps.length->Ms (Du x qual (xT st) (zC st) (qG st) .none kV doc pm an cdv ct) ⟨us,[]⟩=pure (ps.zip us)):wM K fd ps []:=by
 obtain⟨oc,od,kV,doc,pm,an,cdv,ct,osl,rfl,lk,hcd⟩:=F.ex;exact .all (h kV doc pm an cdv ct)
theorem GK {st:CF}{oc:Ac}{od an:Ak Ad}{osl:Av (Ak Ac)}{kV doc pm cdv ct:Ac}(l:K.lookup f=Ab ⟨oc,od,.func (Du x qual (xT st) (zC st) (qG st) .none kV doc pm an cdv ct),osl⟩)
  (c:Gp K cdv qual=true) (k:CD K (.ref f)=true):Fun K x qual st f (Du x qual (xT st) (zC st) (qG st) .none kV doc pm an cdv ct):=⟨⟨oc,od,kV,doc,pm,an,cdv,ct,osl,rfl,l,c⟩,k⟩
end
def qF (H H':Hp):Prop:=∀ b o,H b=Ab o->H' b=Ab o
theorem qF.refl (H:Hp):qF H H:=λ_ _ h=>h
theorem qF.trans {H1 H2:Hp}(a:qF H H1)(b:qF H1 H2):qF H H2:=λc o h=>b c o (a c o h)
theorem qF.free {H':Hp}(e:qF H H'){l:Ad}(h:H' l=Ui):H l=Ui:=by
 cases q:H l with
 |none=>rfl
 |some o =>
  rw[e l o q] at h;cases h
theorem qF.seq {K:Ai}{H':Hp}{a:Ad}{xs:Aa V}(e:qF H H')(h:SqL K H a xs):SqL K H' a xs:=by
 rcases h with (h|⟨o,h⟩)|h
 .exact .inl (.inl (e _ _ h))
 .exact .inl (.inr ⟨o,e _ _ h⟩)
 .exact .inr h
end _L
end
section
namespace _D
open PySem PySem.Spec PyProof.Rows _L
inductive D where
 |non|bl (b:Ap)|int (i:Am)|str (x:Ar)|ty (n:Bp)|obj (a:Ad)|tup (xs:Aa D)|lst (xs:Aa D)|dct0|loc (i:Ah)|exn (c:Ac)|fd (ks:Aa Key) (ds:Aa D)|clo (a:Ad) (vs:Aa V) (ds:Aa D)
noncomputable def nW (a:Ad)(c:Ac):HO:=.ext λh=>∃ ob,h.get? a=Ab ob/\ob.cls=c
inductive MO where
 |dead|lst (xs:Aa D)|dct (kvs:Aa (Key × D))|ins (C:Ad) (fs:Aa (Ar × D))
abbrev Sto:=Aa MO
inductive Res (β : Type) where
 |ok (d:β) (S:Sto)|ex (c:Ac) (x:D) (S:Sto)|bad
@[inline] def Res.bind {β γ:Type}(r:Res β)(f:β->Sto->Res γ) : Res γ:=
 match r with
 |.ok d S=>f d S
 |.ex c x S=>.ex c x S
 |.bad=>.bad
theorem Res.bind_ok {β γ:Type}(d:β)(S:Sto)(f:β->Sto->Res γ) : (Res.ok d S).bind f=f d S:=rfl
section
variable (K:Ai)(P:Hp)(α : Aa Ad)
mutual
def Rep:D->V->Prop
 |.non,v=>v=.non
 |.bl b,v=>v=.bl b
 |.int i,v=>v=.int i
 |.str x,v=>v=.str x
 |.ty n,v=>v=.ty n
 |.obj a,v=>v=.ref a/\CD K (.ref a)=true
 |.tup ds,v=>∃ a vs,v=.ref a/\SqT K P a vs/\qD ds vs
 |.lst ds,v=>∃ a vs,v=.ref a/\SqX K P a vs/\qD ds vs
 |.dct0,v=>∃ a,v=.ref a/\P a=Ab (.dK [])
 |.loc i,v=>∃ a,v=.ref a/\α[i]? = Ab a
 |.exn c,v=>∃ a,v=.ref a/\P a=Ab (nW a c)
 |.fd ks ds,v=>∃ a o vs,v=.ref a/\P a=Ab (.frz o (.dK (ks.zip vs)))/\ks.length=vs.length/\qD ds vs
 |.clo a vs ds,v=>v=.ref a/\qD ds vs
def qD:Aa D->Aa V->Prop
 |[],vs=>vs=[]
 |d::ds,vs=>∃ w ws,vs=w::ws/\Rep d w/\qD ds ws
end
end
section
variable {K:Ai}{P P':Hp}{α α':Aa Ad}
theorem wH (e:qF P P'){a:Ad}{xs:Aa V}(h:SqT K P a xs):SqT K P' a xs:=by
 rcases h with (h|⟨o,h⟩)|h
 .exact .inl (.inl (e _ _ h))
 .exact .inl (.inr ⟨o,e _ _ h⟩)
 .exact .inr h
theorem sX (e:qF P P'){a:Ad}{u:HO}(h:Rd P a u):Rd P' a u:=by
 rcases h with h|⟨o,h⟩
 .exact .inl (e _ _ h)
 .exact .inr ⟨o,e _ _ h⟩
theorem xA (e:qF P P'){a:Ad}{xs:Aa V}(h:SqX K P a xs):SqX K P' a xs:=by
 rcases h with h|h
 .exact .inl (sX e h)
 .exact .inr h
theorem gJ {i:Ah}{a:Ad}(h:α<+:α')(e:α[i]? = Ab a):α'[i]? = Ab a:=by
 obtain⟨r,rfl⟩:=h;rw[AO (AQ.mp e).1];exact e
mutual
theorem Rep.mono (e:qF P P')(h:α<+:α'):∀ (d:D) (v:V),Rep K P α d v->Rep K P' α' d v
 |.non,_,r=>by simpa only [Rep] using r
 |.bl _,_,r=>by simpa only [Rep] using r
 |.int _,_,r=>by simpa only [Rep] using r
 |.str _,_,r=>by simpa only [Rep] using r
 |.ty _,_,r=>by simpa only [Rep] using r
 |.obj _,_,r=>by simpa only [Rep] using r
 |.tup ds,v,r=>by
  simp only[Rep] at r ⊢;obtain⟨a,vs,rfl,q,t⟩:=r;exact⟨a,vs,rfl,wH e q,qD.mono e h ds vs t⟩
 |.lst ds,v,r=>by
  simp only[Rep] at r ⊢;obtain⟨a,vs,rfl,q,t⟩:=r;exact⟨a,vs,rfl,xA e q,qD.mono e h ds vs t⟩
 |.dct0,v,r=>by
  simp only[Rep] at r ⊢;obtain⟨a,rfl,q⟩:=r;exact⟨a,rfl,e _ _ q⟩
 |.loc i,v,r=>by
  simp only[Rep] at r ⊢;obtain⟨a,rfl,q⟩:=r;exact⟨a,rfl,gJ h q⟩
 |.exn c,v,r=>by
  simp only[Rep] at r ⊢;obtain⟨a,rfl,q⟩:=r;exact⟨a,rfl,e _ _ q⟩
 |.fd ks ds,v,r=>by
  simp only[Rep] at r ⊢;obtain⟨a,o,vs,rfl,q,hl,t⟩:=r;exact⟨a,o,vs,rfl,e _ _ q,hl,qD.mono e h ds vs t⟩
 |.clo a vs ds,v,r=>by
  simp only[Rep] at r ⊢;exact⟨r.1,qD.mono e h ds vs r.2⟩
theorem qD.mono (e:qF P P')(h:α<+:α'):∀ (ds:Aa D) (vs:Aa V),qD K P α ds vs->qD K P' α' ds vs
 |[],vs,r=>by simpa only [qD] using r
 |d::ds,vs,r=>by
  simp only[qD] at r ⊢;obtain⟨w,ws,rfl,r1,r2⟩:=r;exact⟨w,ws,rfl,Rep.mono e h d w r1,qD.mono e h ds ws r2⟩
end
theorem qD.nil:qD K P α [] []:=by simp only[qD]
theorem qD.cons {d:D}{v:V}{ds:Aa D}{vs:Aa V}(r:Rep K P α d v)(t:qD K P α ds vs):qD K P α (d::ds) (v::vs):=by
 simp only[qD];exact⟨v,vs,rfl,r,t⟩
theorem qD.nil_inv {vs:Aa V}(r:qD K P α [] vs):vs=[]:=by simpa only [qD] using r
theorem qD.cons_inv {d:D}{ds:Aa D}{vs:Aa V}(r:qD K P α (d::ds) vs):∃ w ws,vs=w::ws/\Rep K P α d w/\qD K P α ds ws:=by simpa only [qD] using r
theorem qD.length:∀ {ds:Aa D} {vs:Aa V},qD K P α ds vs->ds.length=vs.length
 |[],vs,r=>by rw[r.nil_inv];rfl
 |d::ds,vs,r=>by
  obtain⟨w,ws,rfl,_,t⟩:=r.cons_inv;rw[Bk,Bk,t.length]
theorem qD.append:∀ {ds es:Aa D} {vs ws:Aa V},qD K P α ds vs->qD K P α es ws->qD K P α (ds++es) (vs++ws)
 |[],es,vs,ws,r,t=>by rw[r.nil_inv];exact t
 |d::ds,es,vs,ws,r,t=>by
  obtain⟨w,us,rfl,r1,r2⟩:=r.cons_inv;exact .cons r1 (r2.append t)
theorem qD.get:∀ {ds:Aa D} {vs:Aa V} {i:Ah} {d:D},qD K P α ds vs->ds[i]? = Ab d->∃ v,vs[i]? = Ab v/\Rep K P α d v
 |[],_,_,_,_,e=>by simp at e
 |d::ds,vs,i,d',r,e=>by
  obtain⟨w,ws,rfl,r1,r2⟩:=r.cons_inv;cases i with
  |zero=>simp at e;subst e;exact⟨w,rfl,r1⟩
  |succ i =>
   obtain⟨v,h1,h2⟩:=r2.get (i:=i) (d:=d') (by simpa using e)
   exact⟨v,by simpa using h1,h2⟩
theorem qD.drop:∀ {ds:Aa D} {vs:Aa V} (n:Ah),qD K P α ds vs->qD K P α (ds.drop n) (vs.drop n)
 |ds,vs,0,r=>by simpa using r
 |[],vs,n+1,r=>by rw[r.nil_inv];exact .nil
 |d::ds,vs,n+1,r=>by
  obtain⟨w,ws,rfl,_,r2⟩:=r.cons_inv;simpa using r2.drop n
theorem qD.take:∀ {ds:Aa D} {vs:Aa V} (n:Ah),qD K P α ds vs->qD K P α (ds.take n) (vs.take n)
 |ds,vs,0,r=>by simpa using qD.nil
 |[],vs,n+1,r=>by rw[r.nil_inv];exact .nil
 |d::ds,vs,n+1,r=>by
  obtain⟨w,ws,rfl,r1,r2⟩:=r.cons_inv;simpa using qD.cons r1 (r2.take n)
theorem qD.set {d:D}{v:V}(q:Rep K P α d v):∀ {ds:Aa D} {vs:Aa V} (n:Ah),qD K P α ds vs->qD K P α (ds.set n d) (vs.set n v)
 |[],vs,n,r=>by rw[r.nil_inv];exact .nil
 |e::ds,vs,0,r=>by
  obtain⟨w,ws,rfl,r1,r2⟩:=r.cons_inv;exact .cons q r2
 |e::ds,vs,n+1,r=>by
  obtain⟨w,ws,rfl,r1,r2⟩:=r.cons_inv;exact .cons r1 (r2.set q n)
end
abbrev qE:=Aa (Ak D)
def qV (K:Ai)(P:Hp)(α : Aa Ad)(σ : _L.St)(env:qE):Prop:=env.length=σ.length/\∀ (i:Ah) (d:D),env[i]? = Ab (Ab d)->∃ v,σ[i]? = Ab (Ab v)/\Rep K P α d v
def KVs (K:Ai)(P:Hp)(α : Aa Ad){κ : Type}:Aa (κ × D)->Aa (κ × V)->Prop:=Paired λ(p:κ × D) (q:κ × V)=>p.1=q.1/\Rep K P α p.2 q.2
def MOk (K:Ai)(H P:Hp)(α : Aa Ad)(a:Ad):MO->Prop
 |.dead=>HX
 |.lst ds=>∃ vs,H a=Ab (.lst vs)/\qD K P α ds vs
 |.dct kvs=>∃ vs,H a=Ab (.dK vs)/\KVs K P α kvs vs
 |.ins C fs=>∃ dx vs,H a=Ab (.ins C dx vs)/\KVs K P α fs vs
inductive TbAt (x:Ar)(H P:Hp)(α : Aa Ad)(T:Ad):Prop
 |mk (ps:Av Ac) (e:H T=Ab (.tbl ps)) (pn:P T=none) (an:T ∉ α) (ok:Hd ps.toList) (cd:∀ pos cv,IF pos ps.toList=Ab cv->∃ c oc vs t,cv=.ref c/\H c=Ab (.frz oc (.frz oc (.own 0)))/\oc.data=.fields vs/\vs[1]? = Ab (.str (x ++ ".<locals>." ++ "<lambda>") t)):TbAt x H P α T
def rQ (K:Ai)(H P:Hp)(α : Aa Ad):Prop:=∀ x∈xF,∀ c T,Bq K x=Ab (c,T)->TbAt x H P α T
def GR (u:HO):Prop:=(∃ ps,u=.tbl ps)\/∃ o,u=.frz o (.frz o (.own 0))
theorem rQ.keep {K:Ai}{H H' P P':Hp}{α α':Aa Ad}(r:rQ K H P α)(e:∀ b u,H b=Ab u->GR u->H' b=Ab u)(hp:∀ b u,H b=Ab u->GR u->P b=none->b ∉ α->P' b=none/\b ∉ α'):rQ K H' P' α':=λx hx c T h =>
 let ⟨ps,e1,pn,an,ok,cd⟩:=r x hx c T h
 let z:=hp _ _ e1 (.inl ⟨_,rfl⟩) pn an
 ⟨ps,e _ _ e1 (.inl ⟨_,rfl⟩),z.1,z.2,ok,λpos cv q=>let ⟨c,oc,vs,t,a,b,d⟩:=cd pos cv q;⟨c,oc,vs,t,a,e _ _ b (.inr ⟨_,rfl⟩),d⟩⟩
structure Rel (K:Ai)(H P:Hp)(α : Aa Ad)(S:Sto):Prop where
 tb:rQ K H P α
 sub:qF P H
 len:α.length=S.length
 nd:α.Nodup
 sep:∀ (i:Ah) (a:Ad) (o:MO),α[i]? = Ab a->S[i]? = Ab o->o≠.dead->P a=none
 at':∀ (i:Ah) (a:Ad) (o:MO),α[i]? = Ab a->S[i]? = Ab o->MOk K H P α a o
 own:∀ (i:Ah) (a:Ad),α[i]? = Ab a->H a≠none
section
variable {K:Ai}{H P P':Hp}{α α':Aa Ad}{S:Sto}
theorem qV.mono {σ : _L.St}{env:qE}(e:qF P P')(h:α<+:α')(r:qV K P α σ env):qV K P' α' σ env:=
 ⟨r.1,λi d q=>let ⟨v,h1,h2⟩:=r.2 i d q;⟨v,h1,Rep.mono e h d v h2⟩⟩
theorem KVs.mono {κ : Type}(e:qF P P')(h:α<+:α'){kvs:Aa (κ × D)}{vs:Aa (κ × V)}(r:KVs K P α kvs vs):KVs K P' α' kvs vs:=by
 refine Paired.mapP r λp q z=>⟨z.1,Rep.mono e h _ _ z.2⟩
theorem MOk.mono {a:Ad}(e:qF P P')(h:α<+:α'):∀ {o:MO},MOk K H P α a o->MOk K H P' α' a o
 |.dead,_=>trivial
 |.lst _,⟨vs,q,r⟩=>⟨vs,q,qD.mono e h _ _ r⟩
 |.dct _,⟨vs,q,r⟩=>⟨vs,q,r.mono e h⟩
 |.ins _ _,⟨dx,vs,q,r⟩=>⟨dx,vs,q,r.mono e h⟩
theorem Rel.grow {H':Hp}(r:Rel K H P α S)(e:qF H H'):Rel K H' P α S where
 tb:=r.tb.keep (λb u q _=>e _ _ q) λ_ _ _ _ p n=>⟨p,n⟩
 sub:=r.sub.trans e
 len:=r.len
 nd:=r.nd
 sep:=r.sep
 at':=λi a o q1 q2=>by
  have m:=r.at' i a o q1 q2;cases o with
  |dead=>trivial
  |lst ds=>obtain⟨vs,q,t⟩:=m;exact⟨vs,e _ _ q,t⟩
  |dct kvs=>obtain⟨vs,q,t⟩:=m;exact⟨vs,e _ _ q,t⟩
  |ins C fs=>obtain⟨dx,vs,q,t⟩:=m;exact⟨dx,vs,e _ _ q,t⟩
 own:=λi a q=>by
  have m:=r.own i a q;cases z:H a with
  |none=>exact absurd z m
  |some o=>rw[e _ _ z];intro w;cases w
theorem pO {H:Hp}{a:Ad}{o:HO}(h:H a=none):qF H (upd H a o):=λb u e=>by rw[qI (qO e h)];exact e
theorem Rel.pure {a:Ad}{o:HO}(r:Rel K H P α S)(h:H a=none):Rel K (upd H a o) (upd P a o) α S/\qF P (upd P a o):=by
 have hP:P a=none:=by
  cases z:P a with
  |none=>rfl
  |some u=>rw[r.sub _ _ z] at h;cases h
 have sP:qF P (upd P a o):=pO hP;have r1:=r.grow (pO (o:=o) h);refine⟨⟨r.tb.keep (λb u q _=>(qI (qO q h)).trans q) λb u q _ p n=>⟨(qI (qO q h)).trans p,n⟩,λb u e=>?_,r.len,r.nd,λi b u q1 q2 q3=>?_,λi b u q1 q2=>(r1.at' i b u q1 q2).mono sP (AG _),r1.own⟩,sP⟩
 .by_cases hb:b=a
  .subst hb;rw[qT] at e ⊢;exact e
  .rw[qI hb] at e ⊢;exact r.sub _ _ e
 .have hb:b≠a:=by rintro rfl;exact r.own i b q1 h
  rw[qI hb];exact r.sep i b u q1 q2 q3
theorem Rel.new {a:Ad}{o:HO}{m:MO}(r:Rel K H P α S)(h:H a=none)(hm:MOk K (upd H a o) P (α ++ [a]) a m):Rel K (upd H a o) P (α ++ [a]) (S++[m]):=by
 have hP:P a=none:=by
  cases z:P a with
  |none=>rfl
  |some u=>rw[r.sub _ _ z] at h;cases h
 have r1:=r.grow (pO (o:=o) h);have hp:α<+:α++[a]:=Fp _ _;have split:∀ (i:Ah) (b:Ad),(α++[a])[i]? = Ab b->(i<α.length/\α[i]? = Ab b)\/(i=α.length/\b=a):=λi b q=>by
  by_cases hi:i<α.length
  .rw[AO hi] at q;exact .inl ⟨hi,q⟩
  .rw[Bb om] at q
   cases hk:i-α.length with
   |zero=>rw[hk] at q;simp at q;exact .inr ⟨by omega,q.symm⟩
   |succ k=>rw[hk] at q;simp at q
 refine⟨r.tb.keep (λb u q _=>(qI (qO q h)).trans q) λb u q _ p n=>⟨p,λz=>(AX.mp z).elim n λw=>qO q h (by simpa using w)⟩,r1.sub,by simp[r.len],?_,λi b u q1 q2 q3=>?_,λi b u q1 q2=>?_,λi b q=>?_⟩
 .rw[Qh]
  refine⟨r.nd,by simp,λb hb c hc e=>?_⟩
  simp at hc;subst hc;subst e;obtain⟨i,hi,e⟩:=Bl.mp hb;exact r.own i b (by rw[As hi,e]) h
 .rcases split i b q1 with⟨hi,z⟩|⟨hi,rfl⟩
  .rw[AO (by rw[<- r.len];exact hi)] at q2
   exact r.sep i b u z q2 q3
  .exact hP
 .rcases split i b q1 with⟨hi,z⟩|⟨hi,rfl⟩
  .rw[AO (by rw[<- r.len];exact hi)] at q2
   exact(r1.at' i b u z q2).mono (qF.refl _) hp
  .rw[hi,r.len,Bb (Ay _)] at q2
   simp at q2;subst q2;exact hm
 .rcases split i b q with⟨_,z⟩|⟨_,rfl⟩
  .exact r1.own i b z
  .rw[qT];intro z;cases z
theorem iB {N:Aa Ad}(hN:N.Nodup){i j:Ah}{x:Ad}(a:N[i]? = Ab x)(b:N[j]? = Ab x):i=j:=by
 obtain⟨h1,e1⟩:=AQ.mp a;obtain⟨h2,e2⟩:=AQ.mp b;exact(Lo hN).mp (e1.trans e2.symm)
theorem Rel.put {a:Ad}{i:Ah}{o:HO}{m m':MO}(r:Rel K H P α S)(ha:α[i]? = Ab a)(hs:S[i]? = Ab m)(hd:m≠.dead)(hm:MOk K (upd H a o) P α a m'):Rel K (upd H a o) P α (S.set i m'):=by
 have hP:=r.sep i a m ha hs hd;have hi:i<S.length:=(AQ.mp hs).1;refine⟨r.tb.keep (λb u q hu=>?_) λ_ _ _ _ p n=>⟨p,n⟩,λb u e=>?_,by simp[r.len],r.nd,λj b u q1 q2 q3=>?_,λj b u q1 q2=>?_,λj b q=>?_⟩
 .refine(qI ?_).trans q
  rintro rfl;have z:=r.at' i _ m ha hs;cases m with
  |dead=>exact hd rfl
  |lst ds=>obtain⟨vs,z,_⟩:=z;rw[q] at z;rcases hu with⟨_,rfl⟩|⟨_,rfl⟩ <;> cases z
  |dct kvs=>obtain⟨vs,z,_⟩:=z;rw[q] at z;rcases hu with⟨_,rfl⟩|⟨_,rfl⟩ <;> cases z
  |ins C fs=>obtain⟨dx,vs,z,_⟩:=z;rw[q] at z;rcases hu with⟨_,rfl⟩|⟨_,rfl⟩ <;> cases z
 .have hb:b≠a:=by rintro rfl;rw[hP] at e;cases e
  rw[qI hb];exact r.sub _ _ e
 .by_cases hj:j=i
  .subst hj;rw[ha] at q1;cases q1;exact hP
  .rw[By (Dw hj)] at q2;exact r.sep j b u q1 q2 q3
 .by_cases hj:j=i
  .subst hj;rw[ha] at q1;cases q1
   rw[CJ hi] at q2;cases q2;exact hm
  .rw[By (Dw hj)] at q2
   have hb:b≠a:=by rintro rfl;exact hj (iB r.nd q1 ha)
   have z:=r.at' j b u q1 q2;cases u with
   |dead=>trivial
   |lst ds=>obtain⟨vs,q,t⟩:=z;exact⟨vs,by rw[qI hb];exact q,t⟩
   |dct kvs=>obtain⟨vs,q,t⟩:=z;exact⟨vs,by rw[qI hb];exact q,t⟩
   |ins C fs=>obtain⟨dx,vs,q,t⟩:=z;exact⟨dx,vs,by rw[qI hb];exact q,t⟩
 .by_cases hb:b=a
  .subst hb;rw[qT];intro z;cases z
  .rw[qI hb];exact r.own j b q
end
theorem nn {β : Type}{a:β}{p:Prop}(h:(none:Ak β) = Ab a):p:=by cases h
theorem jK {β : Type}{c:Prop}[ER c]{a b:β}(h:(if c then Ab a else none)=Ab b):c/\a=b:=by
 by_cases z:c
 .rw[AA z] at h;exact⟨z,Bg h⟩
 .rw[AB z] at h;exact nn h
end _D
end
namespace _D
open PySem PySem.Spec PyProof.Rows _L
variable {more:Aa (Ad × AV)}{us args cs:Aa Ac}{body:Aa CF}{vs:Aa V}{u vv:Ac}{p C:Ad}{od:Ak Ad}{sl:Av (Ak Ac)}{np:CB}{M:Gg}{R:It->Hp->Prop}{sp:Sp}{S S1:Sto}{Q:VK}
abbrev DE:=qE->Sto->Res D
abbrev DT:=qE->Sto->Res Ap
abbrev DA:=qE->Sto->Res (Aa D)
inductive Out where
 |nx (env:qE) (S:Sto)|rt (d:D) (S:Sto)|bk (env:qE) (S:Sto)|ct (env:qE) (S:Sto)|ex (c:Ac) (x:D) (env:qE) (S:Sto)|bad
abbrev DS:=qE->Sto->Out
def Old (X:Cx)(pins:Aa (Ad × AV))(H:Hp)(b:Ad):Prop:=
 (∃ o,X.s₀.heap.get? b=Ab o)\/H b≠none\/(∃ p∈X.pn++pins,p.1=b)\/∃ x,X.env.cells.lookup x=Ab b
def Cv (X:Cx)(pins:Aa (Ad × AV))(H:Hp)(B h:A8):Prop:=∀ b o,h.get? b=Ab o->Old X pins H b->b ∉ frs X.stack->B.get? b=Ab o
inductive FlyX (X:Cx)(pins:Aa (Ad × AV))(H:Hp)(c:Ac)(e:Ad)(h:A8):Prop where
 |new (g:A8) (args:Aa Ac):Of g h e c args->g.FunFrames X.base X.stack->(∀ b o,h.get? b=Ab o->Old X pins H b->g.get? b=Ab o)->FlyX X pins H c e h
 |fly (B:A8) (a0:Ac):IQ B X.stack e c a0 h->Cv X pins H B h->FlyX X pins H c e h
inductive XOk (X:Cx)(P:Hp)(α : Aa Ad)(c:Ac)(x:D)(S:Sto)(u:Ac)(s:Ag):Prop
 |mk (e:Ad) (pins:Aa (Ad × AV)) (σ : _L.St) (H:Hp) (P':Hp) (α' : Aa Ad) (e1:u=.ref e) (I:Inv X pins σ H s) (r:Rel X.K H P' α' S) (q1:qF P P') (q2:α<+:α') (q3:X.ex=[]/\X.stack=X.env::X.outer/\X.env.frame=Ab X.env.locals) (q4:FlyX X pins H c e s.heap):XOk X P α c x S u s
theorem XOk.base {X:Cx}{P P1:Hp}{α α1:Aa Ad}{c:Ac}{x:D}{s:Ag}(e:qF P P1)(h:α<+:α1)(k:XOk X P1 α1 c x S u s):XOk X P α c x S u s:=by
 obtain⟨a,pins,σ,H,P',α',e1,I,r,q1,q2,q3,q4⟩:=k;exact⟨a,pins,σ,H,P',α',e1,I,r,e.trans q1,h.trans q2,q3,q4⟩
section
variable (X:Cx)
def qH {β:Type}(P:Hp)(α : Aa Ad)(r:Res β)(Ok:β->Sto->Prop):Prop:=
 match r with
 |.ok d S'=>Ok d S'
 |.ex c x S'=>∀ u s',XOk X P α c x S' u s'->X.xe u s'
 |.bad=>CA
def OkV (P:Hp)(α : Aa Ad)(Q:VK)(d:D)(S':Sto):Prop:=∀ v H' P' α',Rel X.K H' P' α' S'->qF P P'->α<+:α'->Rep X.K P' α' d v->Q v H'
def OkT (P:Hp)(α : Aa Ad)(Q:Ap->Hp->Prop)(b:Ap)(S':Sto):Prop:=∀ H' P' α',Rel X.K H' P' α' S'->qF P P'->α<+:α'->Q b H'
def OkA (P:Hp)(α : Aa Ad)(Q:Aa V->Hp->Prop)(ds:Aa D)(S':Sto):Prop:=∀ vs H' P' α',Rel X.K H' P' α' S'->qF P P'->α<+:α'->qD X.K P' α' ds vs->Q vs H'
abbrev qP (P:Hp)(α : Aa Ad)(r:Res D)(Q:VK):Prop:=qH X P α r (OkV X P α Q)
abbrev kB (P:Hp)(α : Aa Ad)(r:Res Ap)(Q:Ap->Hp->Prop):Prop:=qH X P α r (OkT X P α Q)
abbrev kA (P:Hp)(α : Aa Ad)(r:Res (Aa D))(Q:Aa V->Hp->Prop):Prop:=qH X P α r (OkA X P α Q)
def qX (P:Hp)(α : Aa Ad)(r:Out)(D:Ends):Prop:=
 match r with
 |.nx env' S'=>∀ σ' H' P' α',Rel X.K H' P' α' S'->qV X.K P' α' σ' env'->qF P P'->α<+:α'->D.nx σ' H'
 |.bk env' S'=>∀ σ' H' P' α',Rel X.K H' P' α' S'->qV X.K P' α' σ' env'->qF P P'->α<+:α'->D.bk σ' H'
 |.ct env' S'=>∀ σ' H' P' α',Rel X.K H' P' α' S'->qV X.K P' α' σ' env'->qF P P'->α<+:α'->D.ct σ' H'
 |.rt d S'=>∀ v H' P' α',Rel X.K H' P' α' S'->qF P P'->α<+:α'->Rep X.K P' α' d v->D.rt v H'
 |.ex c x _ S'=>∀ u s',XOk X P α c x S' u s'->X.xe u s'
 |.bad=>CA
inductive tD (f:DE)(σ : _L.St)(H:Hp)(Q:VK):Prop
 |mk (P:Hp) (α : Aa Ad) (env:qE) (S:Sto) (r:Rel X.K H P α S) (re:qV X.K P α σ env) (af:qP X P α (f env S) Q):tD f σ H Q
inductive tDT (f:DT)(σ : _L.St)(H:Hp)(Q:Ap->Hp->Prop):Prop
 |mk (P:Hp) (α : Aa Ad) (env:qE) (S:Sto) (r:Rel X.K H P α S) (re:qV X.K P α σ env) (af:kB X P α (f env S) Q):tDT f σ H Q
inductive tDA (f:DA)(σ : _L.St)(H:Hp)(Q:Aa V->Hp->Prop):Prop
 |mk (P:Hp) (α : Aa Ad) (env:qE) (S:Sto) (r:Rel X.K H P α S) (re:qV X.K P α σ env) (af:kA X P α (f env S) Q):tDA f σ H Q
inductive tDS (f:DS)(D:Ends)(σ : _L.St)(H:Hp):Prop
 |mk (P:Hp) (α : Aa Ad) (env:qE) (S:Sto) (r:Rel X.K H P α S) (re:qV X.K P α σ env) (af:qX X P α (f env S) D):tDS f D σ H
end
section
variable {X:Cx}{P P1:Hp}{α α1:Aa Ad}
theorem qP.base {r:Res D}(e:qF P P1)(h:α<+:α1)(k:qP X P α r Q):qP X P1 α1 r Q:=by
 cases r with
 |ok d S=>exact λv H' P' α' r q1 q2 q3=>k v H' P' α' r (e.trans q1) (h.trans q2) q3
 |ex c x S=>exact λu s' q=>k u s' (q.base e h)
 |bad=>exact k
theorem kB.base {r:Res Ap}{Q:Ap->Hp->Prop}(e:qF P P1)(h:α<+:α1)(k:kB X P α r Q):kB X P1 α1 r Q:=by
 cases r with
 |ok d S=>exact λH' P' α' r q1 q2=>k H' P' α' r (e.trans q1) (h.trans q2)
 |ex c x S=>exact λu s' q=>k u s' (q.base e h)
 |bad=>exact k
theorem kA.base {r:Res (Aa D)}{Q:Aa V->Hp->Prop}(e:qF P P1)(h:α<+:α1)(k:kA X P α r Q):kA X P1 α1 r Q:=by
 cases r with
 |ok d S=>exact λv H' P' α' r q1 q2 q3=>k v H' P' α' r (e.trans q1) (h.trans q2) q3
 |ex c x S=>exact λu s' q=>k u s' (q.base e h)
 |bad=>exact k
theorem qX.base {r:Out}{D:Ends}(e:qF P P1)(h:α<+:α1)(k:qX X P α r D):qX X P1 α1 r D:=by
 cases r with
 |nx env S=>exact λv H' P' α' r q0 q1 q2=>k v H' P' α' r q0 (e.trans q1) (h.trans q2)
 |bk env S=>exact λv H' P' α' r q0 q1 q2=>k v H' P' α' r q0 (e.trans q1) (h.trans q2)
 |ct env S=>exact λv H' P' α' r q0 q1 q2=>k v H' P' α' r q0 (e.trans q1) (h.trans q2)
 |rt d S=>exact λv H' P' α' r q1 q2 q3=>k v H' P' α' r (e.trans q1) (h.trans q2) q3
 |ex c x env S=>exact λu s' q=>k u s' (q.base e h)
 |bad=>exact k
theorem xr {v:V}{H:Hp}{d:D}(k:OkV X P α Q d S)(r:Rel X.K H P α S)(q:Rep X.K P α d v):Q v H:=k v H P α r (qF.refl _) (AG _) q
end
section
variable {X:Cx}{a b e:AH}{pos:CB}
theorem peW {t t':TE}(h:PE X e t)(w:∀ σ H Q,t' σ H Q->t σ H Q):PE X e t':=λpins s σ H Q I q=>h pins s σ H Q I (w σ H Q q)
theorem psW {st:CF}{t t':TS}(h:PS X st t)(w:∀ D σ H,t' D σ H->t D σ H):PS X st t':=λpins s σ H D I q=>h pins s σ H D I (w D σ H q)
theorem BY {st:Aa CF}{t t':TS}(h:PSs X st t)(w:∀ D σ H,t' D σ H->t D σ H):PSs X st t':=λpins s σ H D I q=>h pins s σ H D I (w D σ H q)
theorem paW {es:Aa AH}{t t':TA}(h:PA X es t)(w:∀ σ H Q,t' σ H Q->t σ H Q):PA X es t':=λpos pins s σ H Q I q=>h pos pins s σ H Q I (w σ H Q q)
structure Got (X:Cx)(pins:Aa (Ad × AV))(σ : _L.St)(env:qE)(P:Hp)(α : Aa Ad)(u:Ac)(s1:Ag)(v:V)(H1 P1:Hp)(α1:Aa Ad)(d:D)(S1:Sto):Prop where
 inv:Inv X pins σ H1 s1
 val:qJ v u
 rel:Rel X.K H1 P1 α1 S1
 env:qV X.K P1 α1 σ env
 rep:Rep X.K P1 α1 d v
 same:qF P P1
 pre:α<+:α1
inductive GotG (X:Cx)(pins:Aa (Ad × AV))(σ : _L.St)(env:qE)(P:Hp)(α : Aa Ad)(u:Ac)(s1:Ag){γ : Type}(g:D->Sto->Res γ)(Ok:γ->Sto->Prop):Prop
 |mk (v:V) (H1 P1:Hp) (α1:Aa Ad) (d:D) (S1:Sto) (G:Got X pins σ env P α u s1 v H1 P1 α1 d S1) (q:qH X P α (g d S1) Ok):GotG X pins σ env P α u s1 g Ok
inductive GotAG (X:Cx)(pins:Aa (Ad × AV))(σ : _L.St)(env:qE)(P:Hp)(α : Aa Ad)(us:Aa Ac)(s1:Ag){γ : Type}(g:Aa D->Sto->Res γ)(Ok:γ->Sto->Prop):Prop
 |mk (vs:Aa V) (H1 P1:Hp) (α1:Aa Ad) (ds:Aa D) (S1:Sto) (I:Inv X pins σ H1 s1) (rv:qK vs us) (r:Rel X.K H1 P1 α1 S1) (re:qV X.K P1 α1 σ env) (rp:qD X.K P1 α1 ds vs) (e1:qF P P1) (e2:α<+:α1) (q:qH X P α (g ds S1) Ok):GotAG X pins σ env P α us s1 g Ok
inductive GotT (X:Cx)(pins:Aa (Ad × AV))(σ : _L.St)(env:qE)(P:Hp)(α : Aa Ad)(b:Ap)(s1:Ag){γ : Type}(g:Ap->Sto->Res γ)(Ok:γ->Sto->Prop):Prop
 |mk (H1 P1:Hp) (α1:Aa Ad) (S1:Sto) (I:Inv X pins σ H1 s1) (r:Rel X.K H1 P1 α1 S1) (re:qV X.K P1 α1 σ env) (e1:qF P P1) (e2:α<+:α1) (q:qH X P α (g b S1) Ok):GotT X pins σ env P α b s1 g Ok
theorem zJ {γ:Type}{f:DE}{g:D->Sto->Res γ}{Ok:γ->Sto->Prop}{pins:Aa (Ad × AV)}{s:Ag}{σ:_L.St}{H P:Hp}{α:Aa Ad}{env:qE}(he:PE X e (tD X f))(I:Inv X pins σ H s)(r:Rel X.K H P α S)
  (re:qV X.K P α σ env) (af:qH X P α ((f env S).bind g) Ok) :
  Ao (Aq X.prog X.w) X.A (eval e X.env) (λu s1=>GotG X pins σ env P α u s1 g Ok) X.xe s:=by
 refine thn (he pins s σ H (λv H1=>∃ P1 α1 d S1,Rel X.K H1 P1 α1 S1/\qV X.K P1 α1 σ env/\Rep X.K P1 α1 d v/\qF P P1/\α<+:α1/\qH X P α (g d S1) Ok) I ⟨P,α,env,S,r,re,?_⟩) λu s1 ⟨v,H1,I1,rv,P1,α1,d,S1,q1,q2,q3,q4,q5,q6⟩=>⟨v,H1,P1,α1,d,S1,⟨I1,rv,q1,q2,q3,q4,q5⟩,q6⟩;cases q:f env S with
 |bad=>rw[q] at af;exact af
 |ex c x S'=>rw[q] at af;exact af
 |ok d S' =>
  rw[q] at af;exact λv H' P' α' r' e1 e2 rp=>⟨P',α',d,S',r',re.mono e1 e2,rp,e1,e2,af⟩
theorem xM {γ:Type}{es:Aa AH}{f:DA}{g:Aa D->Sto->Res γ}{Ok:γ->Sto->Prop}{pins:Aa (Ad × AV)}{s:Ag}{σ:_L.St}{H P:Hp}{α:Aa Ad}{env:qE}(he:PA X es (tDA X f))(I:Inv X pins σ H s)(r:Rel X.K H P α S)
  (re:qV X.K P α σ env) (af:qH X P α ((f env S).bind g) Ok) (pos:CB) :
  Ao (Aq X.prog X.w) X.A (spliced (Dh pos (A5 es X.env))) (λus s1=>GotAG X pins σ env P α us s1 g Ok) X.xe s:=by
 refine thn (he pos pins s σ H (λvs H1=>∃ P1 α1 ds S1,Rel X.K H1 P1 α1 S1/\qV X.K P1 α1 σ env/\qD X.K P1 α1 ds vs/\qF P P1/\α<+:α1/\qH X P α (g ds S1) Ok) I ⟨P,α,env,S,r,re,?_⟩) λu s1 ⟨v,H1,I1,rv,P1,α1,d,S1,q1,q2,q3,q4,q5,q6⟩=>⟨v,H1,P1,α1,d,S1,I1,rv,q1,q2,q3,q4,q5,q6⟩;cases q:f env S with
 |bad=>rw[q] at af;exact af
 |ex c x S'=>rw[q] at af;exact af
 |ok d S' =>
  rw[q] at af;exact λv H' P' α' r' e1 e2 rp=>⟨P',α',d,S',r',re.mono e1 e2,rp,e1,e2,af⟩
theorem nQ {γ:Type}{f:DT}{g:Ap->Sto->Res γ}{Ok:γ->Sto->Prop}{pins:Aa (Ad × AV)}{s:Ag}{σ:_L.St}{H P:Hp}{α:Aa Ad}{env:qE}{m:Gf Ap}
  (he:∀ (Q:Ap->Hp->Prop),tDT X f σ H Q->Ao (Aq X.prog X.w) X.A m (TP X pins σ Q) X.xe s) (r:Rel X.K H P α S) (re:qV X.K P α σ env) (af:qH X P α ((f env S).bind g) Ok) :
  Ao (Aq X.prog X.w) X.A m (λb s1=>GotT X pins σ env P α b s1 g Ok) X.xe s:=by
 refine thn (he (λb H1=>∃ P1 α1 S1,Rel X.K H1 P1 α1 S1/\qV X.K P1 α1 σ env/\qF P P1/\α<+:α1/\qH X P α (g b S1) Ok) ⟨P,α,env,S,r,re,?_⟩) λb s1 ⟨H1,I1,P1,α1,S1,q1,q2,q4,q5,q6⟩=>⟨H1,P1,α1,S1,I1,q1,q2,q4,q5,q6⟩;cases q:f env S with
 |bad=>rw[q] at af;exact af
 |ex c x S'=>rw[q] at af;exact af
 |ok d S' =>
  rw[q] at af;exact λH' P' α' r' e1 e2=>⟨P',α',S',r',re.mono e1 e2,e1,e2,af⟩
noncomputable def dC (d:D):DE:=λ_ S=>.ok d S
noncomputable def qB (i:Ah):DE:=λenv S=>match env[i]? with
 |some (Ab d)=>.ok d S
 |_=>.bad
theorem KA:PE X (.Constant (.int i) j pos) (tD X (dC (.int i))):=peW BN λσ H Q ⟨P,α,env,S,r,re,af⟩=>xr af r (by simp only[Rep])
theorem MF:PE X (.Constant (.bool i) j pos) (tD X (dC (.bl i))):=peW N9 λσ H Q ⟨P,α,env,S,r,re,af⟩=>xr af r (by simp only[Rep])
theorem KH:PE X (.Constant (.str i) j pos) (tD X (dC (.str i))):=peW BQ λσ H Q ⟨P,α,env,S,r,re,af⟩=>xr af r (by simp only[Rep])
theorem KD:PE X (.Constant .none j pos) (tD X (dC .non)):=peW BO λσ H Q ⟨P,α,env,S,r,re,af⟩=>xr af r (by simp only[Rep])
set_option tactic.hygienic true in
theorem UX {i:Ah}{σ:_L.St}{H:Hp}(h:tD X (qB i) σ H Q):FT i σ H Q:=by
 obtain⟨P,α,env,S,r,re,af⟩:=h;unfold qB at af
 split at af
 .rename_i d q
  obtain⟨v,h1,h2⟩:=re.2 i d q;exact⟨v,h1,xr af r h2⟩
 .exact An af
theorem dv (i:Ah){x:Ar}(hN:X.N[i]? = Ab x:=by rfl)(hv:Vis X.env.scope x:=by first|exact Sv rfl|exact Rf (Sv rfl)|exact Rf (Rf rfl))(hd:(x == ("__debug__" : Ar))=false:=by decide)
  (hcd:(x == ("__classdict__" : Ar))=false:=by decide):PE X (.Name x pos) (tD X (qB i)):=peW (iH hN hv hd hcd) λσ H Q h=>UX h
theorem YC {x:Ar}{d:D}{v:V}(hg:Gl X x)(hm:X.mg x=Ab u)(r:qJ v u)(q:∀ P α,Rep X.K P α d v)(hd:(x == ("__debug__" : Ar))=false:=by decide):PE X (.Name x pos) (tD X (dC d)):=
 peW (U1 hg hm r hd) λσ H Q ⟨P,α,env,S,r,re,af⟩=>xr af r (q _ _)
theorem Y8 {x:Ar}{n:Bp}(hg:Gl X x)(hm:X.mg x=none)(hv:Dt x=Ab (.type n))(hn:x ≠ "__name__":=by decide)(hd:(x == ("__debug__" : Ar))=false:=by decide):PE X (.Name x pos) (tD X (dC (.ty n))):=
 peW (U0 (v:=.ty n) hg hm hv rfl hn hd) λσ H Q ⟨P,α,env,S,r,re,af⟩=>xr af r (by simp only[Rep])
abbrev G2:=D->D->Sto->Res D
def OpD (X:Cx)(f:Ac->Ac->Gf Ac)(g:G2):Prop:=
 ∀ (pins:Aa (Ad × AV)) (σ : _L.St) (H:Hp) (s:Ag) (P:Hp) (α : Aa Ad) (S:Sto) (v u:V) (vv uu:Ac) (a b:D) (Q:VK),Inv X pins σ H s->Rel X.K H P α S->qJ v vv->qJ u uu->Rep X.K P α a v->Rep X.K P α b u->qP X P α (g a b S) Q ->
  Ao (Aq X.prog X.w) X.A (f vv uu) (EP X pins σ Q) X.xe s
theorem OpD.of {f:Ac->Ac->Gf Ac}{r:R2}{g:G2}(h:OpR X f r)(w:∀ H P α S v u a b Q,Rel X.K H P α S->Rep X.K P α a v->Rep X.K P α b u->qP X P α (g a b S) Q->r v u H Q):OpD X f g:=
 λpins σ H s P α S v u vv uu a b Q I rl r1 r2 p1 p2 af=>h pins s σ H v u vv uu Q I r1 r2 (w H P α S v u a b Q rl p1 p2 af)
def UnD (X:Cx)(f:Ac->Gf Ac)(g:D->Sto->Res D):Prop:=
 ∀ (pins:Aa (Ad × AV)) (σ : _L.St) (H:Hp) (s:Ag) (P:Hp) (α : Aa Ad) (S:Sto) (v:V) (vv:Ac) (a:D) (Q:VK),Inv X pins σ H s->Rel X.K H P α S->qJ v vv->Rep X.K P α a v->qP X P α (g a S) Q ->
  Ao (Aq X.prog X.w) X.A (f vv) (EP X pins σ Q) X.xe s
def IxD (X:Cx)(g:G2):Prop:=
 ∀ (value slice:AH) (pins:Aa (Ad × AV)) (σ : _L.St) (H:Hp) (s:Ag) (P:Hp) (α : Aa Ad) (S:Sto) (v u:V) (vv uu:Ac) (a b:D) (Q:VK),Inv X pins σ H s->Rel X.K H P α S->qJ v vv->qJ u uu->Rep X.K P α a v->Rep X.K P α b u->qP X P α (g a b S) Q ->
  subscripted slice false vv uu=operate [vv,uu] (H0 vv uu)->Ao (Aq X.prog X.w) X.A (Ke value slice vv uu) (EP X pins σ Q) X.xe s
def wN (X:Cx)(f:Ac)(g:Aa D->Sto->Res D):Prop:=
 ∀ (pins:Aa (Ad × AV)) (σ : _L.St) (H:Hp) (s:Ag) (P:Hp) (α : Aa Ad) (S:Sto) (vs:Aa V) (us:Aa Ac) (ds:Aa D) (Q:VK),Inv X pins σ H s->Rel X.K H P α S->qK vs us->qD X.K P α ds vs->qP X P α (g ds S) Q ->
  Ao (Aq X.prog X.w) X.A (call f us) (EP X pins σ Q) X.xe s
noncomputable def d2 (g:G2)(fa fb:DE):DE:=λenv S=>(fa env S).bind λx S1=>(fb env S1).bind λy S2=>g x y S2
noncomputable def d1 (g:D->Sto->Res D)(fa:DE):DE:=λenv S=>(fa env S).bind g
variable {fa fb:DE}
theorem nN {g:G2}{f:Ac->Ac->Gf Ac}{pins:Aa (Ad × AV)}{s:Ag}{σ:_L.St}{H:Hp}(ho:OpD X f g)(ha:PE X a (tD X fa))(hb:PE X b (tD X fb))(I:Inv X pins σ H s)(h:tD X (d2 g fa fb) σ H Q) :
  Ao (Aq X.prog X.w) X.A (eval a X.env) (λv s₁=>Ao (Aq X.prog X.w) X.A (eval b X.env) (λu s₂=>Ao (Aq X.prog X.w) X.A (f v u) (EP X pins σ Q) X.xe s₂) X.xe s₁) X.xe s:=by
 obtain⟨P,α,env,S,r,re,af⟩:=h;refine thn (zJ ha I r re af) λvv s1 ⟨v,H1,P1,α1,d,S1,G1,af1⟩=>?_;refine thn (zJ hb G1.inv G1.rel G1.env (P:=P1) (α:=α1) (Ok:=OkV X P1 α1 Q) (g:=λy S2=>g d y S2) ?_) λuu s2 ⟨u,H2,P2,α2,d',S2,G2,af2⟩=>?_
 .exact qP.base G1.same G1.pre af1
 .exact ho pins σ H2 s2 P2 α2 S2 v u vv uu d d' Q G2.inv G2.rel G1.val G2.val (Rep.mono G2.same G2.pre _ _ G1.rep) G2.rep (qP.base G2.same G2.pre af2)
theorem MI {op:HR}{g:G2}(ho:OpD X (Cs op) g)(ha:PE X a (tD X fa))(hb:PE X b (tD X fb)):PE X (.BinOp a op b pos) (tD X (d2 g fa fb)):=
 λpins s σ H Q I h=>wpAny_BinOp (nN ho ha hb I h)
theorem K7 {op:Rw}{g:G2}(ho:OpD X (Cb op) g)(ha:PE X a (tD X fa))(hb:PE X b (tD X fb))(hm:Ha op b=false:=by first|exact uP _|with_unfolding_all rfl):PE X (.Compare a [op] [b] pos) (tD X (d2 g fa fb)):=
 λpins s σ H Q I h=>wpAny_Compare1 (nN ho ha hb I h) hm
theorem MJ {op:UnaryOp}{g:D->Sto->Res D}(ho:UnD X (Qw op) g)(ha:PE X a (tD X fa)):PE X (.UnaryOp op a pos) (tD X (d1 g fa)):=by
 intro pins s σ H Q I h;obtain⟨P,α,env,S,r,re,af⟩:=h;exact UnaryOp_ (thn (zJ ha I r re af) λvv s1 ⟨v,H1,P1,α1,d,S1,G1,af1⟩=>ho pins σ H1 s1 P1 α1 S1 v vv d Q G1.inv G1.rel G1.val G1.rep (qP.base G1.same G1.pre af1))
theorem MH {g:G2}(ho:IxD X g)(ha:PE X a (tD X fa))(hb:PE X b (tD X fb))(hs:bW b:=by intro _ _;rfl):PE X (.Subscript a b pos) (tD X (d2 g fa fb)):=by
 intro pins s σ H Q I h;obtain⟨P,α,env,S,r,re,af⟩:=h;have IxR':IxR X (λx y H Q=>∃ P α S a b,Rel X.K H P α S/\Rep X.K P α a x/\Rep X.K P α b y/\qP X P α (g a b S) Q):=λvalue slice pins s σ H x y v u Q I rx ry ⟨P,α,S,a,b,r,p1,p2,af⟩ hsl =>
  ho value slice pins σ H s P α S x y v u a b Q I r rx ry p1 p2 af hsl
 refine peW (NA IxR' ha hb hs) (t':=tD X (d2 g fa fb)) (λσ H Q h=>?_) pins s σ H Q I ⟨P,α,env,S,r,re,af⟩;obtain⟨P,α,env,S,r,re,af⟩:=h;refine⟨P,α,env,S,r,re,?_⟩;unfold d2 at af;cases q:fa env S with
 |bad=>rw[q] at af;exact af
 |ex c x S'=>rw[q] at af;exact af
 |ok d S1 =>
  rw[q] at af;intro v H1 P1 α1 r1 e1 e2 rp;refine⟨P1,α1,env,S1,r1,re.mono e1 e2,?_⟩;have af':qP X P α ((fb env S1).bind λy S2=>g d y S2) Q:=af;cases q2:fb env S1 with
  |bad=>rw[q2] at af';exact af'
  |ex c x S'=>rw[q2] at af';exact λu s' z=>af' u s' (z.base e1 e2)
  |ok d' S2 =>
   rw[q2] at af';intro u H2 P2 α2 r2 e3 e4 rp2;exact⟨P2,α2,S2,d,d',r2,Rep.mono e3 e4 _ _ rp,rp2,qP.base (e1.trans e3) (e2.trans e4) af'⟩
noncomputable def qC:DA:=λ_ S=>.ok [] S
noncomputable def qA (f:DE)(g:DA):DA:=λenv S=>(f env S).bind λx S1=>(g env S1).bind λxs S2=>.ok (x::xs) S2
theorem K1:PA X [] (tDA X qC):=paW BL λσ H Q ⟨P,α,env,S,r,re,af⟩=>af [] H P α r (qF.refl _) (AG _) .nil
theorem Y7 {es:Aa AH}{g:DA}(ha:PE X e (tD X fa))(hr:PA X es (tDA X g))(hs:A5 (e::es) X.env=(false,eval e X.env)::A5 es X.env:=by rfl):PA X (e::es) (tDA X (qA fa g)):=by
 intro pos pins s σ H Q I h;obtain⟨P,α,env,S,r,re,af⟩:=h;rw[hs];show Ao _ _ (spliced ((false,eval e X.env)::Dh pos (A5 es X.env))) _ _ s;refine Fq (thn (zJ ha I r re af) λu s1 ⟨x,H1,P1,α1,d,S1,G1,af1⟩=>?_);refine thn (xM hr G1.inv G1.rel G1.env (P:=P1) (α:=α1) (Ok:=OkA X P1 α1 Q) (kA.base G1.same G1.pre af1) pos) λus s2 ⟨xs,H2,P2,α2,ds,S2,I2,rv,r2,re2,rp2,e1,e2,af2⟩=>?_;exact⟨x::xs,H2,I2,.cons G1.val rv,af2 _ _ _ _ r2 e1 e2 (.cons (Rep.mono e1 e2 _ _ G1.rep) rp2)⟩
noncomputable def lim:Ah:=16777216
theorem zI:lim=sizeLine:=Dm.symm
noncomputable def x9 (f:DA):DE:=λenv S=>(f env S).bind λxs S1=>if xs.length<=lim then .ok (.tup xs) S1 else .bad
noncomputable def xC (f:DA):DE:=λenv S=>(f env S).bind λxs S1=>if xs.length<=lim then .ok (.lst xs) S1 else .bad
noncomputable def pU (f:DA):DE:=λenv S=>(f env S).bind λxs S1=>if xs.length<=lim then .ok (.loc S1.length) (S1++[.lst xs]) else .bad
theorem sZ {K:Ai}{P:Hp}{α:Aa Ad}{a:Ad}{ds:Aa D}(h:SqT K P a vs)(r:qD K P α ds vs):Rep K P α (.tup ds) (.ref a):=by simp only[Rep];exact⟨a,vs,rfl,h,r⟩
theorem sY {K:Ai}{P:Hp}{α:Aa Ad}{a:Ad}{ds:Aa D}(h:SqX K P a vs)(r:qD K P α ds vs):Rep K P α (.lst ds) (.ref a):=by simp only[Rep];exact⟨a,vs,rfl,h,r⟩
theorem pM {H P:Hp}{α:Aa Ad}{ds:Aa D}(r:Rel X.K H P α S)(hp:H p=none)(rp:qD X.K P α ds vs)(af:OkV X P α Q (.tup ds) S):Q (.ref p) (upd H p (.tup vs)):=by
 obtain⟨r1,e1⟩:=r.pure (o:=.tup vs) hp;exact af _ _ _ α r1 e1 (AG _) (sZ (.of qT) (qD.mono e1 (AG _) _ _ rp))
theorem wG {H P:Hp}{α:Aa Ad}{ds:Aa D}(r:Rel X.K H P α S)(hp:H p=none)(rp:qD X.K P α ds vs)(af:OkV X P α Q (.lst ds) S):Q (.ref p) (upd H p (.lst vs)):=by
 obtain⟨r1,e1⟩:=r.pure (o:=.lst vs) hp;exact af _ _ _ α r1 e1 (AG _) (sY (.inl (.inl qT)) (qD.mono e1 (AG _) _ _ rp))
theorem gI {H P:Hp}{α:Aa Ad}{ds:Aa D}(r:Rel X.K H P α S)(hp:H p=none)(rp:qD X.K P α ds vs)(af:OkV X P α Q (.loc S.length) (S++[.lst ds])):Q (.ref p) (upd H p (.lst vs)):=by
 have hpre:α<+:α++[p]:=Fp _ _;have r1:=r.new (o:=.lst vs) (m:=.lst ds) hp ⟨vs,qT,qD.mono (qF.refl _) hpre _ _ rp⟩;refine af _ _ _ _ r1 (qF.refl _) hpre ?_;simp only[Rep];exact⟨p,rfl,by rw[<- r.len];simp⟩
theorem f7 {f:DA}{σ:_L.St}{H:Hp}{G:Aa D->Sto->Res D}{mk:Aa V->HO}(h:tD X (λenv S=>(f env S).bind λxs S1=>if xs.length<=lim then G xs S1 else .bad) σ H Q)
  (k:∀ H1 P1 α1 S1 ds vs p,Rel X.K H1 P1 α1 S1->H1 p=none->qD X.K P1 α1 ds vs->qP X P1 α1 (G ds S1) Q->Q (.ref p) (upd H1 p (mk vs))) :
  tDA X f σ H λvs H1=>vs.length<=sizeLine/\∀ p,H1 p=none->Q (.ref p) (upd H1 p (mk vs)):=by
 obtain⟨P,α,env,S,r,re,af⟩:=h;refine⟨P,α,env,S,r,re,?_⟩;have af':qP X P α ((f env S).bind λxs S1=>if xs.length<=lim then G xs S1 else .bad) Q:=af
 cases q:f env S with
 |bad=>rw[q] at af';exact af'
 |ex c x S'=>rw[q] at af';exact af'
 |ok ds S1 =>
  rw[q] at af';intro vs H1 P1 α1 r1 e1 e2 rp;have af2:qP X P α (if ds.length<=lim then G ds S1 else .bad) Q:=af'
  by_cases hl:ds.length<=lim
  .rw[AA hl] at af2
   exact⟨by rw[<- rp.length,<- zI];exact hl,λp hp=>k H1 P1 α1 S1 ds vs p r1 hp rp (qP.base e1 e2 af2)⟩
  .rw[AB hl] at af2;exact An af2
theorem KJ {es:Aa AH}{f:DA} {x1} (h:PA X es (tDA X f)):PE X (.Tuple es x1 pos) (tD X (x9 f)):=
 peW (BR h) λσ H Q q=>f7 (G:=λxs S1=>.ok (.tup xs) S1) (mk:=.tup) q λH1 P1 α1 S1 ds vs p r hp rp af=>pM r hp rp af
theorem KC {es:Aa AH}{f:DA}(h:PA X es (tDA X f)):PE X (.List es pos) (tD X (xC f)):=
 peW (iG h) λσ H Q q=>f7 (G:=λxs S1=>.ok (.lst xs) S1) (mk:=.lst) q λH1 P1 α1 S1 ds vs p r hp rp af=>wG r hp rp af
theorem YE {es:Aa AH}{f:DA}(h:PA X es (tDA X f)):PE X (.List es pos) (tD X (pU f)):=
 peW (iG h) λσ H Q q=>f7 (G:=λxs S1=>.ok (.loc S1.length) (S1++[MO.lst xs])) (mk:=.lst) q λH1 P1 α1 S1 ds vs p r hp rp af=>gI r hp rp af
end
section
variable {X:Cx}{a b c e:AH}{pos:CB}{fa fb fc:DE}{ta tb:DT}
noncomputable def yQ:D->Sto->Ak Ap
 |.non,_=>Ab false
 |.bl b,_=>Ab b
 |.int i,_=>Ab (i != 0)
 |.str x,_=>if x.length<=lim then Ab ((x.length:Am) != 0) else none
 |.tup xs,_=>Ab (!xs.isEmpty)
 |.lst xs,_=>Ab (!xs.isEmpty)
 |.dct0,_=>Ab false
 |.loc i,S=>match S[i]? with
  |some (.lst xs)=>Ab (!xs.isEmpty)
  |some (.dct kvs)=>Ab (!kvs.isEmpty)
  |_=>none
 |_,_=>none
theorem qD.isEmpty {K:Ai}{P:Hp}{α:Aa Ad}{ds:Aa D}(r:qD K P α ds vs):(!ds.isEmpty)=!vs.isEmpty:=by
 cases ds with
 |nil=>rw[r.nil_inv];rfl
 |cons d ds=>obtain⟨w,ws,rfl,_,_⟩:=r.cons_inv;rfl
theorem xD {K:Ai}{H P:Hp}(e:qF P H){a:Ad}{xs:Aa V}(h:SqT K P a xs):SqT K H a xs:=wH e h
theorem uW {H P:Hp}{α:Aa Ad}{v:V}{d:D}{k:Ap}(r:Rel X.K H P α S)(p:Rep X.K P α d v)(h:yQ d S=Ab k):rR X.K v H k:=by
 cases d with
 |non=>simp only[Rep] at p;subst p;cases h;rfl
 |bl b=>simp only[Rep] at p;subst p;cases h;rfl
 |int i=>simp only[Rep] at p;subst p;cases h;rfl
 |str x =>
  simp only[Rep] at p;subst p;obtain⟨hl,rfl⟩:=jK h;exact⟨by rw[<- zI];exact hl,rfl⟩
 |tup xs =>
  simp only[Rep] at p;obtain⟨a,vs,rfl,q,t⟩:=p;cases h;exact .inr (.inl ⟨vs,xD r.sub q,t.isEmpty⟩)
 |lst xs =>
  simp only[Rep] at p;obtain⟨a,vs,rfl,q,t⟩:=p;cases h;exact .inl ⟨vs,(xA r.sub q).l,t.isEmpty⟩
 |dct0 =>
  simp only[Rep] at p;obtain⟨a,rfl,q⟩:=p;cases h;exact .inr (.inr ⟨[],r.sub _ _ q,rfl⟩)
 |loc i =>
  simp only[Rep] at p;obtain⟨a,rfl,q⟩:=p;have h:(match S[i]? with|some (.lst xs)=>Ab (!xs.isEmpty)|some (.dct kvs)=>Ab (!kvs.isEmpty)|_=>none)=Ab k:=h
  cases hs:S[i]? with
  |none=>rw[hs] at h;exact nn h
  |some m =>
   rw[hs] at h;cases m with
   |lst xs =>
    cases h;obtain⟨vs,z,t⟩:=r.at' i a _ q hs;exact .inl ⟨vs,.of z,t.isEmpty⟩
   |dct kvs =>
    cases h;obtain⟨vs,z,t⟩:=r.at' i a _ q hs;refine .inr (.inr ⟨vs,z,?_⟩);cases t <;> rfl
   |_=>exact nn h
 |ty n=>exact nn h
 |obj a=>exact nn h
 |exn c=>exact nn h
 |fd ks ds=>exact nn h
 |clo a vs ds=>exact nn h
theorem NW {pins:Aa (Ad × AV)}{s:Ag}{σ:_L.St}{H P:Hp}{α:Aa Ad}{v:V}{d:D}{k:Ap}{Q:Ap->Hp->Prop}(I:Inv X pins σ H s)(r:Rel X.K H P α S)(rv:qJ v vv)(p:Rep X.K P α d v)(h:yQ d S=Ab k)(q:Q k H) :
  Ao (Aq X.prog X.w) X.A (truthy vv) (TP X pins σ Q) X.xe s:=bS pins s σ H v vv Q I rv ⟨k,uW r p h,q⟩
noncomputable def XF (o:Ak Ap)(S:Sto):Res Ap:=match o with
 |some b=>.ok b S
 |none=>.bad
noncomputable def dTr (f:DE):DT:=λenv S=>(f env S).bind λd S1=>XF (yQ d S1) S1
theorem r0 {o:Ak Ap}{P:Hp}{α:Aa Ad}{Ok:Ap->Sto->Prop}(h:qH X P α (XF o S) Ok):∃ b,o=Ab b/\Ok b S:=by
 cases o with
 |none=>exact An h
 |some b=>exact⟨b,rfl,h⟩
theorem GB (ha:PE X a (tD X fa))(he:∀ whole,isTrue a X.env whole=(do let v <- whole;Ki a.pos;holding [v] (truthy v)):=by intro _;rfl):PT X a (tDT X (dTr fa)):=by
 intro pins s σ H Q I h;obtain⟨P,α,env,S,r,re,af⟩:=h;refine isTrue_plain (thn (zJ ha I r re af) λvv s1 ⟨v,H1,P1,α1,d,S1,G1,af1⟩=>?_) (he _);obtain⟨k,e1,q⟩:=r0 af1;exact NW G1.inv G1.rel G1.val G1.rep e1 (q H1 P1 α1 G1.rel G1.same G1.pre)
theorem G9 {op:Rw}{g:G2}(ho:OpD X (Cb op) g)(ha:PE X a (tD X fa))(hb:PE X b (tD X fb))(hm:Ha op b=false:=by first|exact uP _|with_unfolding_all rfl):PT X (.Compare a [op] [b] pos) (tDT X (dTr (d2 g fa fb))):=by
 intro pins s σ H Q I h;obtain⟨P,α,env,S,r,re,af⟩:=h;refine wpAny_isTrue_Compare1 ?_ hm;have key:tD X (d2 g fa fb) σ H (λv H1=>∃ k,rR X.K v H1 k/\Q k H1):=by
  refine⟨P,α,env,S,r,re,?_⟩;have af':qH X P α ((d2 g fa fb env S).bind λd S1=>XF (yQ d S1) S1) (OkT X P α Q):=af;cases q:d2 g fa fb env S with
  |bad=>rw[q] at af';exact af'
  |ex c x S'=>rw[q] at af';exact af'
  |ok d S1 =>
   rw[q] at af';obtain⟨k,e1,qk⟩:=r0 (X:=X) af';exact λv H1 P1 α1 r1 e3 e4 rp=>⟨k,uW r1 rp e1,qk H1 P1 α1 r1 e3 e4⟩
 exact thn (nN ho ha hb I key) λv s1 h1=>thn h1 λu s2 h2=>thn h2 λx s3 ⟨y,H3,I3,r3,k,tk,qk⟩=>bS pins s3 σ H3 y x Q I3 r3 ⟨k,tk,qk⟩
noncomputable def kJ (g g':G2)(fa fb fc:DE):DE:=λenv S=>(fa env S).bind λx S1=>(fb env S1).bind λy S2=>(g x y S2).bind λz S3 =>
 match yQ z S3 with
 |some true=>(fc env S3).bind λw S4=>g' y w S4
 |some false=>.ok z S3
 |none=>.bad
inductive GotO (X:Cx)(pins:Aa (Ad × AV))(σ : _L.St)(P:Hp)(α : Aa Ad)(w:Ac)(s1:Ag){γ : Type}(k:D->Sto->Res γ)(Ok:γ->Sto->Prop):Prop
 |mk (y:V) (H1 P1:Hp) (α1:Aa Ad) (d:D) (S1:Sto) (I:Inv X pins σ H1 s1) (rv:qJ y w) (r:Rel X.K H1 P1 α1 S1) (rp:Rep X.K P1 α1 d y) (e1:qF P P1) (e2:α<+:α1) (q:qH X P α (k d S1) Ok):GotO X pins σ P α w s1 k Ok
theorem BD {γ:Type}{f:Ac->Ac->Gf Ac}{g:G2}{k:D->Sto->Res γ}{Ok:γ->Sto->Prop}{pins:Aa (Ad × AV)}{σ:_L.St}{H:Hp}{s:Ag}{P:Hp}{α:Aa Ad}{v u:V}{uu:Ac}{a b:D}(ho:OpD X f g)(I:Inv X pins σ H s)(r:Rel X.K H P α S)
  (rv:qJ v vv) (ru:qJ u uu) (pa:Rep X.K P α a v) (pb:Rep X.K P α b u) (af:qH X P α ((g a b S).bind k) Ok) :
  Ao (Aq X.prog X.w) X.A (f vv uu) (λw s1=>GotO X pins σ P α w s1 k Ok) X.xe s:=by
 refine thn (ho pins σ H s P α S v u vv uu a b (λy H1=>∃ P1 α1 d S1,Rel X.K H1 P1 α1 S1/\Rep X.K P1 α1 d y/\qF P P1/\α<+:α1/\qH X P α (k d S1) Ok) I r rv ru pa pb ?_) λw s1 ⟨y,H1,I1,r1,P1,α1,d,S1,q1,q2,q3,q4,q5⟩=>⟨y,H1,P1,α1,d,S1,I1,r1,q1,q2,q3,q4,q5⟩;cases q:g a b S with
 |bad=>rw[q] at af;exact af
 |ex c x S'=>rw[q] at af;exact af
 |ok d S' =>
  rw[q] at af;exact λv H' P' α' r' e1 e2 rp=>⟨P',α',d,S',r',rp,e1,e2,af⟩
theorem qH.base' {β:Type}{P P1:Hp}{α α1:Aa Ad}{r:Res β}{Ok Ok1:β->Sto->Prop}(e:qF P P1)(h:α<+:α1)(ho:∀ d S,Ok d S->Ok1 d S)(k:qH X P α r Ok):qH X P1 α1 r Ok1:=by
 cases r with
 |ok d S=>exact ho d S k
 |ex c x S=>exact λu s' q=>k u s' (q.base e h)
 |bad=>exact k
theorem QF {op op':Rw}{g g':G2}(ho:OpD X (Cb op) g)(ho':OpD X (Cb op') g')(ha:PE X a (tD X fa))(hb:PE X b (tD X fb))(hc:PE X c (tD X fc))
  (hm:lastMarks [op,op'] [b,c]=false:=by with_unfolding_all rfl):PE X (.Compare a [op,op'] [b,c] pos) (tD X (kJ g g' fa fb fc)):=by
 intro pins s σ H Q I h;obtain⟨P,α,env,S,r,re,af⟩:=h;refine Compare_chain (thn (zJ ha I r re af) λvv s1 ⟨v,H1,P1,α1,d,S1,G1,af1⟩=>chain_link (thn (zJ hb G1.inv G1.rel G1.env (qP.base G1.same G1.pre af1)) λuu s2 ⟨u,H2,P2,α2,d',S2,G2,af2⟩ =>
  thn (BD ho G2.inv G2.rel G1.val G2.val (Rep.mono G2.same G2.pre _ _ G1.rep) G2.rep (qP.base G2.same G2.pre af2)) λw s3 ⟨y,H3,P3,α3,z,S3,I3,r3,rl3,rp3,e3,e4,af3⟩=>?_)) hm
 cases ht:yQ z S3 with
 |none=>simp only[ht] at af3;exact An af3
 |some k =>
  simp only[ht] at af3;have tv:=uW rl3 rp3 ht;refine thn (bS pins s3 σ H3 y w (λk' H'=>k'=k/\H'=H3) I3 r3 ⟨k,tv,rfl,rfl⟩) λk' s4 ⟨H4,I4,hk,hH⟩=>?_;subst hk;subst hH;cases k' with
  |false=>exact ite_ff ⟨y,H4,I4,r3,af3 y H4 P3 α3 rl3 e3 e4 rp3⟩
  |true =>
   refine ite_tt (chain_last (thn (zJ hc I4 rl3 (G2.env.mono e3 e4) (qP.base e3 e4 af3)) λww s5 ⟨w',H5,P5,α5,d5,S5,G5,af5⟩=>?_));exact ho' pins σ H5 s5 P5 α5 S5 u w' uu ww d' d5 Q G5.inv G5.rel G2.val G5.val (Rep.mono (e3.trans G5.same) (e4.trans G5.pre) _ _ G2.rep) G5.rep (qP.base G5.same G5.pre af5)
noncomputable def vR (t:DT):DT:=λenv S=>(t env S).bind λb S1=>.ok (!b) S1
noncomputable def nP (t u:DT):DT:=λenv S=>(t env S).bind λb S1=>if b then .ok true S1 else u env S1
theorem GA (ha:PT X a (tDT X ta)):PT X (.UnaryOp .Not a pos) (tDT X (vR ta)):=by
 intro pins s σ H Q I h;obtain⟨P,α,env,S,r,re,af⟩:=h;refine isTrue_not (thn (nQ (λQ' q=>ha pins s σ H Q' I q) r re af) λb s1 ⟨H1,P1,α1,S1,I1,r1,re1,e1,e2,af1⟩=>⟨H1,I1,af1 H1 P1 α1 r1 e1 e2⟩)
def PWD (X:Cx)(e:AH)(t:DT):Prop:=PW X e (tDT X t)
theorem PWD.pt {t:DT}(h:PWD X e t):PT X e (tDT X t):=h _
theorem GC (ha:PT X a (tDT X ta)):PWD X (.BoolOp .Or [a] pos) ta:=F0 ha
theorem MQ {qM:Aa AH}(ha:PT X a (tDT X ta))(hb:PWD X (.BoolOp .Or (b::qM) pos) tb):PWD X (.BoolOp .Or (a::b::qM) pos) (nP ta tb):=by
 intro wh pins s σ H Q I h;obtain⟨P,α,env,S,r,re,af⟩:=h;refine isTrue_or (thn (nQ (λQ' q=>ha pins s σ H Q' I q) r re af) λk s1 ⟨H1,P1,α1,S1,I1,r1,re1,e1,e2,af1⟩=>?_);cases k with
 |true=>exact⟨H1,I1,af1 H1 P1 α1 r1 e1 e2⟩
 |false=>exact hb wh pins s1 σ H1 Q I1 ⟨P1,α1,env,S1,r1,re1,kB.base e1 e2 af1⟩
noncomputable def p9 (f g:DE):DE:=λenv S=>(f env S).bind λx S1=>match yQ x S1 with
 |some true=>g env S1
 |some false=>.ok x S1
 |none=>.bad
noncomputable def Q8 (f:DE):DE:=λenv S=>(f env S).bind λx S1=>match yQ x S1 with
 |some b=>.ok (.bl (!b)) S1
 |none=>.bad
theorem KG  (h:PE X a (tD X fa)):PE X (.BoolOp op [a] pos) (tD X fa):=BP h
theorem FV {pins:Aa (Ad × AV)}{s:Ag}{σ:_L.St}{H:Hp}{v:V}{k:Ap}{R:Ap->Ag->Prop}(I:Inv X pins σ H s)(rv:qJ v vv)(t:rR X.K v H k)(h:∀ s',Inv X pins σ H s'->R k s') :
  Ao (Aq X.prog X.w) X.A (truthy vv) R X.xe s:=thn (bS pins s σ H v vv (λk' H'=>k'=k/\H'=H) I rv ⟨k,t,rfl,rfl⟩) λk' s4 ⟨H4,I4,hk,hH⟩=>by subst hk;subst hH;exact h s4 I4
theorem K3 {qM:Aa AH}(ha:PE X a (tD X fa))(hb:PE X (.BoolOp .And (b::qM) pos) (tD X fb)):PE X (.BoolOp .And (a::b::qM) pos) (tD X (p9 fa fb)):=by
 intro pins s σ H Q I h;obtain⟨P,α,env,S,r,re,af⟩:=h;refine BoolOp_and (thn (zJ ha I r re af) λvv s1 ⟨v,H1,P1,α1,d,S1,G1,af1⟩=>?_);cases ht:yQ d S1 with
 |none=>simp only[ht] at af1;exact An af1
 |some k =>
  simp only[ht] at af1;refine FV G1.inv G1.val (uW G1.rel G1.rep ht) λs2 I2=>?_;cases k with
  |true=>exact hb pins s2 σ H1 Q I2 ⟨P1,α1,env,S1,G1.rel,G1.env,qP.base G1.same G1.pre af1⟩
  |false=>exact⟨v,H1,I2,G1.val,af1 v H1 P1 α1 G1.rel G1.same G1.pre G1.rep⟩
theorem KE (ha:PE X a (tD X fa)):PE X (.UnaryOp .Not a pos) (tD X (Q8 fa)):=by
 intro pins s σ H Q I h;obtain⟨P,α,env,S,r,re,af⟩:=h;refine UnaryOp_ (thn (zJ ha I r re af) λvv s1 ⟨v,H1,P1,α1,d,S1,G1,af1⟩=>?_);cases ht:yQ d S1 with
 |none=>simp only[ht] at af1;exact An af1
 |some k =>
  simp only[ht] at af1;exact not_of (FV G1.inv G1.val (uW G1.rel G1.rep ht) λs2 I2=>⟨.bl (!k),H1,I2,rfl,af1 (.bl (!k)) H1 P1 α1 G1.rel G1.same G1.pre (by simp only[Rep])⟩)
end
@[inline] def Res.toS {β:Type}(env:qE)(r:Res β)(k:β->Sto->Out):Out:=
 match r with
 |.ok d S=>k d S
 |.ex c x S=>.ex c x env S
 |.bad=>.bad
section
variable {X:Cx}{a b c e:AH}{pos:CB}{fa fb fc:DE}{ta tb:DT}{f g:DS}{st:CF}{qM:Aa CF}
noncomputable def zK:DS:=λenv S=>.nx env S
noncomputable def qS (f g:DS):DS:=λenv S=>match f env S with
 |.nx env1 S1=>g env1 S1
 |o=>o
theorem KW:PSs X [] (tDS X zK):=BY U8 λD σ H ⟨P,α,env,S,r,re,af⟩=>af σ H P α r re (qF.refl _) (AG _)
theorem YL (h1:PS X st (tDS X f))(h2:PSs X qM (tDS X g)):PSs X (st::qM) (tDS X (qS f g)):=BY (X4 h1 h2) λD σ H ⟨P,α,env,S,r,re,af⟩=>by
 refine⟨P,α,env,S,r,re,?_⟩;unfold qS at af;cases q:f env S with
 |nx env1 S1 =>
  rw[q] at af;exact λσ' H' P' α' r' re' e1 e2=>⟨P',α',env1,S1,r',re',qX.base e1 e2 af⟩
 |rt d S1=>rw[q] at af;exact af
 |bk env1 S1=>rw[q] at af;exact af
 |ct env1 S1=>rw[q] at af;exact af
 |ex c x env1 S1=>rw[q] at af;exact af
 |bad=>rw[q] at af;exact af
theorem KY (h1:PS X st (tDS X f)):PSs X [st] (tDS X f):=U9 h1
theorem x6 {β:Type}{P:Hp}{α:Aa Ad}{env:qE}{r:Res β}{k:β->Sto->Out}{D:Ends}(h:qX X P α (r.toS env k) D):qH X P α r λd S=>qX X P α (k d S) D:=by
 cases r with
 |ok d S=>exact h
 |ex c x S=>exact h
 |bad=>exact h
inductive GotS (X:Cx)(pins:Aa (Ad × AV))(σ : _L.St)(env:qE)(P:Hp)(α : Aa Ad)(u:Ac)(s1:Ag)(k:D->Sto->Out)(E:Ends):Prop
 |mk (v:V) (H1 P1:Hp) (α1:Aa Ad) (d:D) (S1:Sto) (G:Got X pins σ env P α u s1 v H1 P1 α1 d S1) (q:qX X P1 α1 (k d S1) E):GotS X pins σ env P α u s1 k E
theorem pV {k:D->Sto->Out}{pins:Aa (Ad × AV)}{s:Ag}{σ:_L.St}{H P:Hp}{α:Aa Ad}{env:qE}{D:Ends}(he:PE X e (tD X fa))(I:Inv X pins σ H s)(r:Rel X.K H P α S)
  (re:qV X.K P α σ env) (af:qX X P α ((fa env S).toS env k) D) :
  Ao (Aq X.prog X.w) X.A (eval e X.env) (λu s1=>GotS X pins σ env P α u s1 k D) X.xe s:=by
 have af1:qH X P α ((fa env S).bind λd S=>.ok d S) λd S=>qX X P α (k d S) D:=by
  have:=x6 af;cases q:fa env S <;> rw[q] at this <;> exact this
 exact thn (zJ he I r re af1) λu s1 ⟨v,H1,P1,α1,d,S1,G,q⟩=>⟨v,H1,P1,α1,d,S1,G,qX.base G.same G.pre q⟩
noncomputable def xY (f:DE):DS:=λenv S=>(f env S).toS env λ_ S1=>.nx env S1
theorem YM (he:PE X e (tD X fa))(hs:Nu e none pos.line X.env=pure false:=by rfl):PS X (.Expr e pos) (tDS X (xY fa)):=by
 intro pins s σ H D I h;obtain⟨P,α,env,S,r,re,af⟩:=h;exact wpAny_Expr_any (thn (pV he I r re af) λv s1 ⟨x,H1,P1,α1,d,S1,G,q⟩=>⟨σ,H1,G.inv,q σ H1 P1 α1 G.rel G.env (qF.refl _) (AG _)⟩) I.quiet hs
noncomputable def zA (f:DE):DS:=λenv S=>(f env S).toS env λd S1=>.rt d S1
theorem G6 (he:PE X e (tD X fa)):PS X (.Return (Ab e) pos) (tDS X (zA fa)):=by
 intro pins s σ H D I h;obtain⟨P,α,env,S,r,re,af⟩:=h;exact wpAny_Return_some (thn (pV he I r re af) λv s1 ⟨x,H1,P1,α1,d,S1,G,q⟩=>⟨x,σ,H1,G.inv,G.val,q x H1 P1 α1 G.rel (qF.refl _) (AG _) G.rep⟩)
noncomputable def sIf (t:DT)(f g:DS):DS:=λenv S=>(t env S).toS env λb S1=>if b then f env S1 else g env S1
theorem MN {as bs:Aa CF}(hc:PT X c (tDT X ta))(ha:PSs X as (tDS X f))(hb:PSs X bs (tDS X g)):PS X (.If c as bs pos) (tDS X (sIf ta f g)):=by
 intro pins s σ H D I h;obtain⟨P,α,env,S,r,re,af⟩:=h;have af1:qH X P α ((ta env S).bind λd S=>.ok d S) λb S=>qX X P α (if b then f env S else g env S) D:=by
  have:=x6 af;cases q:ta env S <;> rw[q] at this <;> exact this
 refine wpAny_If (thn (nQ (λQ' q=>hc pins s σ H Q' I q) r re af1) λk s1 ⟨H1,P1,α1,S1,I1,r1,re1,e1,e2,af2⟩=>?_);cases k with
 |true=>exact ha pins s1 σ H1 D I1 ⟨P1,α1,env,S1,r1,re1,qX.base e1 e2 af2⟩
 |false=>exact hb pins s1 σ H1 D I1 ⟨P1,α1,env,S1,r1,re1,qX.base e1 e2 af2⟩
abbrev DG:=D->qE->Sto->Res qE
abbrev DGs:=Aa D->qE->Sto->Res qE
def OkE (X:Cx)(P:Hp)(α : Aa Ad)(Q:_L.St->Hp->Prop)(env':qE)(S':Sto):Prop:=∀ σ' H' P' α',Rel X.K H' P' α' S'->qV X.K P' α' σ' env'->qF P P'->α<+:α'->Q σ' H'
def tDG (X:Cx)(g:DG):TG:=λv σ H Q=>∃ P α env S d,Rel X.K H P α S/\qV X.K P α σ env/\Rep X.K P α d v/\qH X P α (g d env S) (OkE X P α Q)
def lU (X:Cx)(g:DGs):TGs:=λvs σ H Q=>∃ P α env S ds,Rel X.K H P α S/\qV X.K P α σ env/\qD X.K P α ds vs/\qH X P α (g ds env S) (OkE X P α Q)
theorem qV.set {K:Ai}{P:Hp}{α:Aa Ad}{σ:_L.St}{env:qE}{d:D}{v:V}(re:qV K P α σ env)(i:Ah)(rp:Rep K P α d v):qV K P α (σ.set i (Ab v)) (env.set i (Ab d)):=by
 refine⟨by simp[re.1],λj d' e=>?_⟩
 by_cases hj:i=j
 .subst hj
  by_cases hi:i<env.length
  .rw[CJ hi] at e
   cases e;exact⟨v,by rw[CJ (by rw[<- re.1];exact hi)],rp⟩
  .rw[Ia (by simp;omega)] at e;cases e
 .rw[By hj] at e ⊢
  exact re.2 j d' e
noncomputable def gNm (i:Ah):DG:=λd env S=>.ok (env.set i (Ab d)) S
theorem YH {i:Ah}{x:Ar}(hN:X.N.Nodup)(hi:X.N[i]? = Ab x:=by rfl)(hx:Loc X.env.scope x:=by first|exact Sv rfl|exact Rf rfl)(hf:X.fn x=true\/X.env.scope.names.lookup x=Ab .local:=by first|exact .inl rfl|exact .inr rfl|assumption):PG X (.Name x pos) (tDG X (gNm i)):=by
 intro pins s σ H v u Q I rv h;obtain⟨P,α,env,S,d,r,re,rp,af⟩:=h;exact U3 hN hi hx hf pins s σ H v u Q I rv (af _ H P α r (re.set i rp) (qF.refl _) (AG _))
noncomputable def jI:DGs:=λds env S=>match ds with
 |[]=>.ok env S
 |_=>.bad
noncomputable def xO (g:DG)(gs:DGs):DGs:=λds env S=>match ds with
 |d::r=>(g d env S).bind λenv1 S1=>gs r env1 S1
 |[]=>.bad
theorem YI:PGs X [] (lU X jI):=by
 intro pins s σ H vs us Q I rv h;obtain⟨P,α,env,S,ds,r,re,rp,af⟩:=h;cases ds with
 |nil=>exact U4 pins s σ H vs us Q I rv ⟨rp.nil_inv,af σ H P α r re (qF.refl _) (AG _)⟩
 |cons d ds=>exact An af
theorem QM {es:Aa AH}{g:DG}{gs:DGs}(h1:PG X e (tDG X g))(h2:PGs X es (lU X gs))(hs:(Dy (e::es) X.env).map (·.2)=assign e X.env::(Dy es X.env).map (·.2):=by rfl):PGs X (e::es) (lU X (xO g gs)):=by
 intro pins s σ H vs us Q I rv h;obtain⟨P,α,env,S,ds,r,re,rp,af⟩:=h;cases ds with
 |nil=>exact An af
 |cons d ds =>
  obtain⟨w,ws,rfl,p1,p2⟩:=rp.cons_inv;refine X0 h1 h2 hs pins s σ H _ us Q I rv ⟨w,ws,rfl,P,α,env,S,d,r,re,p1,?_⟩;have af':qH X P α ((g d env S).bind λenv1 S1=>gs ds env1 S1) (OkE X P α Q):=af;cases q:g d env S with
  |bad=>rw[q] at af';exact af'
  |ex c x S'=>rw[q] at af';exact af'
  |ok env1 S1 =>
   rw[q] at af';intro σ' H' P' α' r' re' e1 e2;refine⟨P',α',env1,S1,ds,r',re',qD.mono e1 e2 _ _ p2,qH.base' e1 e2 (λenv' S' ok σ2 H2 P2 α2 r2 re2 e3 e4=>ok σ2 H2 P2 α2 r2 re2 (e1.trans e3) (e2.trans e4)) af'⟩
noncomputable def gTp (n:Ah)(gs:DGs):DG:=λd env S=>match d with
 |.tup xs=>if xs.length=n then gs xs env S else .bad
 |_=>.bad
set_option tactic.hygienic true in
theorem KN {es:Aa AH}{k:Ah}{gs:DGs}{n:Ah}(hc:X.calm=true)(h:PGs X es (lU X gs))(hn:(Dy es X.env).length=n:=by rfl)(hst:(Dy es X.env).findIdx? (·.1)=none:=by rfl):PG X (.Tuple es k pos) (tDG X (gTp n gs)):=by
 intro pins s σ H v u Q I rv hw;obtain⟨P,α,env,S,d,r,re,rp,af⟩:=hw;cases d with
 |tup xs =>
  simp only[Rep] at rp;obtain⟨a,vs,rfl,q,t⟩:=rp;simp only[gTp] at af
  split at af
  .rename_i hl
   exact BS hc h hn hst pins s σ H _ u Q I rv ⟨a,vs,rfl,xD r.sub q,by rw[<- t.length];exact hl,P,α,env,S,xs,r,re,t,af⟩
  .exact An af
 |_=>exact An af
abbrev G3:=D->D->D->Sto->Res IV
def OkU (X:Cx)(P:Hp)(α : Aa Ad)(Q:Hp->Prop)(_:IV)(S':Sto):Prop:=∀ H' P' α',Rel X.K H' P' α' S'->qF P P'->α<+:α'->Q H'
def tV (X:Cx)(g:G3):JK:=λo i v H Q=>∃ P α S a b d,Rel X.K H P α S/\Rep X.K P α a o/\Rep X.K P α b i/\Rep X.K P α d v/\qH X P α (g a b d S) (OkU X P α Q)
noncomputable def gSb (fo fi:DE)(g:G3):DG:=λd env S=>(fo env S).bind λo S1=>(fi env S1).bind λi S2=>(g o i d S2).bind λ_ S3=>.ok env S3
theorem KM {o i:AH}{fo fi:DE}{g:G3}(ho:PE X o (tD X fo))(hi:PE X i (tD X fi))(hs:tY X (tV X g))
  (ha:∀ v,assign (.Subscript o i pos) X.env v=(do
   let ov <- holding [v] (eval o X.env)
   let iv <- holding [v,ov] (eval i X.env)
   Ki pos
   holding [v,ov,iv] (Tf ov iv v)
   release [v,ov,iv] []):=by intro _;rfl):PG X (.Subscript o i pos) (tDG X (gSb fo fi g)):=by
 intro pins s σ H v u Q I rv h;obtain⟨P,α,env,S,d,r,re,rp,af⟩:=h;rw[ha];refine Af (Cp (thn (zJ ho I r re af) λov s1 ⟨x,H1,P1,α1,d1,S1,G1,af1⟩=>?_));refine Af (Cp (thn (zJ hi G1.inv G1.rel G1.env (P:=P1) (α:=α1) (Ok:=OkE X P1 α1 Q) (qH.base' G1.same G1.pre (λenv' S' ok σ2 H2 P2 α2 r2 re2 e3 e4=>ok σ2 H2 P2 α2 r2 re2 (G1.same.trans e3) (G1.pre.trans e4)) af1)) λiv s2 ⟨y,H2,P2,α2,d2,S2,G2,af2⟩=>?_));refine Af (Gz (Af (Cp (thn (hs pins s2 σ H2 x y v ov iv u (λH3=>Q σ H3) G2.inv G1.val G2.val rv ⟨P2,α2,S2,d1,d2,d,G2.rel,Rep.mono G2.same G2.pre _ _ G1.rep,G2.rep,Rep.mono (G1.same.trans G2.same) (G1.pre.trans G2.pre) _ _ rp,?_⟩) λ_ s3 ⟨H3,I3,q3⟩=>?_))))
 .cases q:g d1 d2 d S2 with
  |bad=>rw[q] at af2;exact af2
  |ex c x S'=>rw[q] at af2;exact λu s' z=>af2 u s' (z.base G2.same G2.pre)
  |ok w S3 =>
   rw[q] at af2;exact λH' P' α' r' e1 e2=>af2 σ H' P' α' r' (G2.env.mono e1 e2) (G2.same.trans e1) (G2.pre.trans e2)
 .exact wpAny_release ⟨σ,H3,I3,q3⟩
noncomputable def zF (f:DE)(g:DG):DS:=λenv S=>(f env S).toS env λd S1=>(g d env S1).toS env λenv' S2=>.nx env' S2
theorem cJ {g:DG}{d:D}{env:qE}{P:Hp}{α:Aa Ad}{D':Ends}(h:qX X P α ((g d env S).toS env λenv' S2=>.nx env' S2) D'):qH X P α (g d env S) (OkE X P α D'.nx):=by
 cases q:g d env S with
 |bad=>rw[q] at h;exact h
 |ex c x S'=>rw[q] at h;exact h
 |ok env1 S1=>rw[q] at h;exact h
theorem KR {tg:AH}{g:DG}(he:PE X e (tD X fa))(hg:PG X tg (tDG X g))(hs:Gy [tg] e pos.line X.env=pure false:=by rfl)(hw:Gx [tg] e X.env=pure none:=by rfl)
  (h1:(Dy [tg] X.env).map (·.2)=[assign tg X.env]:=by rfl):PS X (.Assign [tg] e pos) (tDS X (zF fa g)):=by
 intro pins s σ H D I h;obtain⟨P,α,env,S,r,re,af⟩:=h;refine wpAny_Assign_stores (thn (pV he I r re af) λv s1 ⟨x,H1,P1,α1,d,S1,G,q⟩=>?_) hs hw;rw[h1];exact thn (hg pins s1 σ H1 x v _ G.inv G.val ⟨P1,α1,env,S1,d,G.rel,G.env,G.rep,cJ q⟩) λ_ s2 q=>q
theorem G7 {i:Ah}{x:Ar}{pos':CB}(hN:X.N.Nodup)(he:PE X e (tD X fa))(hi:X.N[i]? = Ab x:=by rfl)(hx:Loc X.env.scope x:=by first|exact Sv rfl|exact Rf rfl)(hs:Nu e (Ab (.Name x pos')) pos.line X.env=pure false:=by rfl)
  (hf:X.fn x=true\/X.env.scope.names.lookup x=Ab .local:=by first|exact .inl rfl|exact .inr rfl|assumption):PS X (.Assign [.Name x pos'] e pos) (tDS X (zF fa (gNm i))):=by
 intro pins s σ H D I h;obtain⟨P,α,env,S,r,re,af⟩:=h;refine wpAny_Assign_Name (thn (pV he I r re af) λv s1 ⟨y,H1,P1,α1,d,S1,G,q⟩=>?_) hs;exact yF G.inv hN hi hx G.val (λs2 I2=>⟨_,H1,I2,q _ H1 P1 α1 G.rel (G.env.set i G.rep) (qF.refl _) (AG _)⟩) hf
noncomputable def iF (i j:Ah)(env:qE)(S1:Sto):Aa D->Out
 |[x,y]=>.nx ((env.set i (Ab x)).set j (Ab y)) S1
 |_=>.bad
noncomputable def fX (i j:Ah)(f:DA):DS:=λenv S=>(f env S).toS env λds S1=>iF i j env S1 ds
theorem KZ {i j:Ah}{x y:Ar}{f:DA}{px py pt:CB} {kt k2 pt2} (hc:X.calm=true) (hN:X.N.Nodup) (ha:PA X [a,b] (tDA X f)) (hi:X.N[i]? = Ab x:=by rfl) (hj:X.N[j]? = Ab y:=by rfl) (hij:i≠j:=by decide)
  (hx:X.env.scope.names.lookup x=Ab .local:=by rfl) (hy:X.env.scope.names.lookup y=Ab .local:=by rfl)
  (hw:Gx [.Tuple [.Name x px,.Name y py] kt pt] (.Tuple [a,b] k2 pt2) X.env=pure (Ab [x,y]):=by rfl)
  (hs:Gy [.Tuple [.Name x px,.Name y py] kt pt] (.Tuple [a,b] k2 pt2) pos.line X.env=pure false:=by rfl) :
  PS X (.Assign [.Tuple [.Name x px,.Name y py] kt pt] (.Tuple [a,b] k2 pt2) pos) (tDS X (fX i j f)):=psW (BX hc hN hi hj hij hx hy ha hw hs) λD σ H ⟨P,α,env,S,r,re,af⟩=>by
 refine⟨P,α,env,S,r,re,?_⟩;have af1:=x6 af;cases q:f env S with
 |bad=>rw[q] at af1;exact af1
 |ex c x S'=>rw[q] at af1;exact af1
 |ok ds S1 =>
  rw[q] at af1;intro vs H' P' α' r' e1 e2 rp;have af2:qX X P α (iF i j env S1 ds) D:=af1;cases ds with
  |nil=>exact An af2
  |cons d ds=>cases ds with
   |nil=>exact An af2
   |cons d' ds=>cases ds with
    |cons _ _=>exact An af2
    |nil =>
     obtain⟨w,ws,rfl,p1,t⟩:=rp.cons_inv;obtain⟨w',ws',rfl,p2,t⟩:=t.cons_inv;rw[t.nil_inv];exact⟨w,w',rfl,af2 _ _ P' α' r' (((re.mono e1 e2).set i p1).set j p2) e1 e2⟩
end
structure ItD (K:Ai)(J:It)(P:Hp)(α : Aa Ad)(ds:Aa D):Prop where
 go:∀ i H P1 α1 S,i<ds.length->Rel K H P1 α1 S->qF P P1->α<+:α1->J.go i H
 yld:∀ i H x H' P1 α1 S,i<ds.length->Rel K H P1 α1 S->qF P P1->α<+:α1->J.yld i H x H'->∃ P2 d,ds[i]? = Ab d/\Rel K H' P2 α1 S/\qF P1 P2/\Rep K P2 α1 d x
 stop:∀ i H P1 α1 S,ds.length<=i->Rel K H P1 α1 S->qF P P1->α<+:α1->J.stop i H
abbrev DI:=qE->Sto->Res (Aa D)
def OkI (X:Cx)(P:Hp)(α : Aa Ad)(R:It->Hp->Prop)(ds:Aa D)(S':Sto):Prop:=∀ J H' P' α',Rel X.K H' P' α' S'->qF P P'->α<+:α'->ItD X.K J P' α' ds->R J H'
inductive tDI (X:Cx)(f:DI)(σ : _L.St)(H:Hp)(R:It->Hp->Prop):Prop
 |mk (P:Hp) (α : Aa Ad) (env:qE) (S:Sto) (r:Rel X.K H P α S) (re:qV X.K P α σ env) (af:qH X P α (f env S) (OkI X P α R)):tDI X f σ H R
noncomputable def vI {β:Type}(o:Ak β)(S:Sto):Res β:=match o with
 |some b=>.ok b S
 |none=>.bad
theorem yU {X:Cx}{β:Type}{o:Ak β}{P:Hp}{α:Aa Ad}{Ok:β->Sto->Prop}(h:qH X P α (vI o S) Ok):∃ b,o=Ab b/\Ok b S:=by
 cases o with
 |none=>exact An h
 |some b=>exact⟨b,rfl,h⟩
theorem xH {X:Cx}{β:Type}{c:Prop}[ER c]{r:Res β}{P:Hp}{α : Aa Ad}{Ok:β->Sto->Prop}(h:qH X P α (if c then r else .bad) Ok):c/\qH X P α r Ok:=by
 by_cases z:c
 .rw[AA z] at h;exact⟨z,h⟩
 .rw[AB z] at h;exact An h
theorem BB {X:Cx}{β:Type}{ds:Aa D}{g:D->Res β}{P:Hp}{α:Aa Ad}{Ok:β->Sto->Prop}(h:qH X P α (match ds with|[d]=>g d|_=>.bad) Ok):∃ d,ds=[d]/\qH X P α (g d) Ok:=by
 cases ds with
 |nil=>exact An h
 |cons d ds =>
  cases ds with
  |nil=>exact⟨d,rfl,h⟩
  |cons _ _=>exact An h
theorem fR {β:Type}{i:Ah}{f:Aa D->Ak β}{g:Aa (Key × D)->Ak β}{b:β}(h:(match S[i]? with|some (.lst xs)=>f xs|some (.dct kvs)=>g kvs|_=>none)=Ab b):(∃ xs,S[i]? = Ab (.lst xs)/\f xs=Ab b)\/∃ kvs,S[i]? = Ab (.dct kvs)/\g kvs=Ab b:=by
 cases e:S[i]? with
 |none=>rw[e] at h;exact nn h
 |some m =>
  rw[e] at h;cases m with
  |lst xs=>exact .inl ⟨xs,rfl,h⟩
  |dct kvs=>exact .inr ⟨kvs,rfl,h⟩
  |_=>exact nn h
theorem PD {β:Type}{i:Ah}{f:Aa D->Ak β}{b:β}(h:(match S[i]? with|some (.lst xs)=>f xs|_=>none)=Ab b):∃ xs,S[i]? = Ab (.lst xs)/\f xs=Ab b:=by
 cases e:S[i]? with
 |none=>rw[e] at h;exact nn h
 |some m =>
  rw[e] at h;cases m with
  |lst xs=>exact⟨xs,rfl,h⟩
  |_=>exact nn h
inductive ItV (d:D)(xs:Aa D):Prop
 |tup (e:d=.tup xs)
 |lst (e:d=.lst xs)
noncomputable def vY {β:Type}(S:Sto)(n:Ah)(f:Aa D->Res β) : Res β:=match S[n]? with
 |some (.lst xs)=>f xs
 |_=>.bad
theorem vG {X:Cx}{β:Type}{n:Ah}{f:Aa D->Res β}{P:Hp}{α:Aa Ad}{Ok:β->Sto->Prop}(h:qH X P α (vY S n f) Ok):∃ xs,S[n]? = Ab (.lst xs)/\qH X P α (f xs) Ok:=by
 unfold vY at h;cases e:S[n]? with
 |none=>rw[e] at h;exact An h
 |some m =>
  rw[e] at h;cases m with
  |lst xs=>exact⟨xs,rfl,h⟩
  |_=>exact An h
noncomputable def w9:D->Ak (Aa D)
 |.tup xs=>Ab xs
 |.lst xs=>Ab xs
 |_=>none
theorem itV {d:D}{xs:Aa D}(h:w9 d=Ab xs):ItV d xs:=by
 cases d with
 |tup ys=>exact .tup (congrArg D.tup (Bg h))
 |lst ys=>exact .lst (congrArg D.lst (Bg h))
 |_=>exact nn h
noncomputable def uN (f:DE):DI:=λenv S=>(f env S).bind λd S1=>vI (w9 d) S1
section
variable {X:Cx}{K:Ai}{tg e:AH}{fa:DE}{pos:CB}
theorem ZC {P:Hp}{α:Aa Ad}{a:Ad}{ds:Aa D}(q:SqL K P a vs)(t:qD K P α ds vs):ItD K (Itl K a) P α ds where
 go:=λi H P1 α1 S hi r e _=>⟨vs,vs[i]'(by rw[<- t.length];exact hi),(e.trans r.sub).seq q,by simp⟩
 yld:=λi H x H' P1 α1 S hi r e e2 y=>by
  obtain⟨rfl,y⟩:=y;have hx:=y vs ((e.trans r.sub).seq q);obtain⟨v,h1,h2⟩:=t.get (As hi);rw[hx] at h1;cases h1;exact⟨P1,_,As hi,r,qF.refl _,Rep.mono e e2 _ _ h2⟩
 stop:=λi H P1 α1 S hi r e _=>⟨vs,(e.trans r.sub).seq q,by rw[<- t.length];exact hi⟩
theorem V8 {P:Hp}{α:Aa Ad}{a:Ad}{ds:Aa D}(q:SqT K P a vs)(t:qD K P α ds vs):ItD K (Itt K a) P α ds where
 go:=λi H P1 α1 S hi r e _=>⟨vs,vs[i]'(by rw[<- t.length];exact hi),wH (e.trans r.sub) q,by simp⟩
 yld:=λi H x H' P1 α1 S hi r e e2 y=>by
  obtain⟨rfl,y⟩:=y;have hx:=y vs (wH (e.trans r.sub) q);obtain⟨v,h1,h2⟩:=t.get (As hi);rw[hx] at h1;cases h1;exact⟨P1,_,As hi,r,qF.refl _,Rep.mono e e2 _ _ h2⟩
 stop:=λi H P1 α1 S hi r e _=>⟨vs,wH (e.trans r.sub) q,by rw[<- t.length];exact hi⟩
theorem lA {pins:Aa (Ad × AV)}{σ:_L.St}{H P:Hp}{α:Aa Ad}{s:Ag}{v:V}{d:D}{ds:Aa D}(I:Inv X pins σ H s)(r:Rel X.K H P α S)(rv:qJ v vv)(rp:Rep X.K P α d v)(hd:w9 d=Ab ds)
  (q:OkI X P α R ds S):Ao (Aq X.prog X.w) X.A (IP vv) (PIE X pins σ tg R) X.xe s:=by
 cases d with
 |tup xs =>
  cases hd;simp only[Rep] at rp;obtain⟨a,vs,rfl,sq,t⟩:=rp;cases rv;obtain⟨its,rv,p,hz⟩:=I.tuple (xD r.sub sq);refine EF (show s.heap.IsTuple a its.toArray from p) ?_
  refine⟨s.heap.objs.size,[s.heap.objs.size],_,_,H,rfl,I.kept (t':=s.toks) λb o e=>Aj _ e,c9 a _,⟨_,AC _ rfl,rfl,rfl⟩,λb hb=>?_,q _ _ P α r (qF.refl _) (AG _) (V8 sq t)⟩;have e:b=s.heap.objs.size:=by simpa using hb
  subst e;exact I.fpOk (Ay _) (I.hok.fresh (Ay _))
 |lst xs =>
  cases hd;simp only[Rep] at rp;obtain⟨a,vs,rfl,sq,t⟩:=rp;cases rv;obtain⟨its,rv,p,hz⟩:=I.list ((xA r.sub sq).l);refine Ew p.isList ?_;refine⟨s.heap.objs.size,[s.heap.objs.size],_,_,H,rfl,I.kept (t':=s.toks) λb o e=>Aj _ e,t9 a _,⟨_,AC _ rfl,rfl,rfl⟩,λb hb=>?_,q _ _ P α r (qF.refl _) (AG _) (ZC sq.l t)⟩;have e:b=s.heap.objs.size:=by simpa using hb
  subst e;exact I.fpOk (Ay _) (I.hok.fresh (Ay _))
 |_=>cases hd
theorem OkI.base {P P1:Hp}{α α1:Aa Ad}{ds:Aa D}(e:qF P P1)(h:α<+:α1)(k:OkI X P α R ds S):OkI X P1 α1 R ds S:=λJ H' P' α' r q1 q2 q3=>k J H' P' α' r (e.trans q1) (h.trans q2) q3
theorem KO (ha:PE X e (tD X fa)):PI X tg e (tDI X (uN fa)):=by
 intro pins s σ H R I h;obtain⟨P,α,env,S,r,re,af⟩:=h;refine thn (zJ ha I r re af) λvv s1 ⟨v,H1,P1,α1,d,S1,G1,af1⟩=>?_;obtain⟨ds,e1,q⟩:=yU af1;exact lA G1.inv G1.rel G1.val G1.rep e1 (q.base G1.same G1.pre)
noncomputable def xR (lo:Am)(n:Ah):Aa D:=(Bt n).map λ(i:Ah)=>D.int (lo+(i:Am))
theorem jR (lo:Am)(n:Ah):(xR lo n).length=n:=by simp[xR]
theorem mQ {P:Hp}{α:Aa Ad}{lo:Am}{n:Ah}:ItD K (Itr lo n) P α (xR lo n) where
 go:=λi H P1 α1 S hi r e _=>by rw[jR] at hi;exact hi
 yld:=λi H x H' P1 α1 S hi r e e2 y=>by
  obtain⟨rfl,rfl⟩:=y;rw[jR] at hi;exact⟨P1,.int (lo+i),by simp[xR,hi],r,qF.refl _,by simp only[Rep]⟩
 stop:=λi H P1 α1 S hi r e _=>by rw[jR] at hi;exact hi
noncomputable def kW (ds:Aa D):Ak (Aa D):=match ds with
 |[.int j]=>if -(2 ^ 62)<=j/\j<2 ^ 62 then Ab (xR 0 j.toNat) else none
 |[.int i,.int j]=>if -(2 ^ 62)<=i/\i<2 ^ 62 /\ -(2 ^ 62)<=j/\j<2 ^ 62 then Ab (xR i (j-i).toNat) else none
 |_=>none
noncomputable def kK (f:DA):DI:=λenv S=>(f env S).bind λds S1=>vI (kW ds) S1
noncomputable def asI:D->Ak Am
 |.int i=>Ab i
 |_=>none
theorem gX {d:D}{i:Am}(h:asI d=Ab i):d=.int i:=by
 cases d with
 |int k=>exact congrArg D.int (Bg h)
 |_=>exact nn h
inductive RngV:Aa D->Aa D->Prop
 |one (j:Am) (h : -(2 ^ 62)<=j/\j<2 ^ 62):RngV [.int j] (xR 0 j.toNat)
 |two (i j:Am) (h : -(2 ^ 62)<=i/\i<2 ^ 62 /\ -(2 ^ 62)<=j/\j<2 ^ 62):RngV [.int i,.int j] (xR i (j-i).toNat)
theorem NJ (d:D):kW [d]=(asI d).bind λj=>if -(2 ^ 62)<=j/\j<2 ^ 62 then Ab (xR 0 j.toNat) else none:=by cases d <;> rfl
theorem NK (d d':D):kW [d,d']=(asI d).bind λi=>(asI d').bind λj=>if -(2 ^ 62)<=i/\i<2 ^ 62 /\ -(2 ^ 62)<=j/\j<2 ^ 62 then Ab (xR i (j-i).toNat) else none:=by
 cases d with
 |int i=>cases d' <;> rfl
 |_=>rfl
theorem UP {ds its:Aa D}(h:kW ds=Ab its):RngV ds its:=by
 cases ds with
 |nil=>exact nn h
 |cons d ds =>
  cases ds with
  |nil =>
   obtain⟨j,e,h⟩:=Dj.mp ((NJ d).symm.trans h);obtain⟨c,rfl⟩:=jK h;rw[gX e];exact .one j c
  |cons d' ds =>
   cases ds with
   |nil =>
    obtain⟨i,e,h⟩:=Dj.mp ((NK d d').symm.trans h);obtain⟨j,e',h⟩:=Dj.mp h;obtain⟨c,rfl⟩:=jK h;rw[gX e,gX e'];exact .two i j c
   |cons _ _ =>
    have h0:∀ d'' t,kW (d::d'::d''::t)=none:=λd'' t=>by cases d <;> first|rfl|(cases d' <;> rfl)
    exact nn ((h0 _ _).symm.trans h)
theorem fU {P:Hp}{α:Aa Ad}{i:Am}{ds:Aa D}(r:qD K P α (.int i::ds) vs):∃ ws,vs=.int i::ws/\qD K P α ds ws:=by
 obtain⟨w,ws,rfl,p,t⟩:=r.cons_inv;exact⟨ws,congrArg (· :: ws) (by simpa only [Rep] using p),t⟩
theorem PI.weak {iter:AH}{t t':TI}(h:PI X tg iter t)(w:∀ σ H R,t' σ H R->t σ H R):PI X tg iter t':=λpins s σ H R I q=>h pins s σ H R I (w σ H R q)
end
section
variable {X:Cx}{tg a b:AH}{f:DA}{p pos:CB}
theorem QN {e:AH}{es:Aa AH}(hg:Gl X "range")(hm:X.mg "range" = none)(ha:PA X (e::es) (tDA X f))(hs:A5 (e::es) X.env=(false,eval e X.env)::A5 es X.env:=by rfl)(hpl:(Dh pos (A5 es X.env)).any (·.1)=false:=by rfl) :
  PI X tg (.Call (.Name "range" p) (e::es) [] pos) (tDI X (kK f)):=by
 intro pins s σ H R I h;obtain⟨P,α,env,S,r,re,af⟩:=h;refine Call_ (yK I hg hm boot_range (EC (thn (xM ha I r re af pos) λus s1 ⟨vs,H1,P1,α1,ds,S1,I1,rv,r1,re1,rp,e1,e2,af1⟩=>?_) hs hpl));obtain⟨its,hi,q⟩:=yU af1;cases UP hi with
 |one j c =>
  obtain⟨ws,rfl,t1⟩:=fU rp;cases t1.nil_inv;obtain⟨u,rfl,t,rfl⟩:=gP rv;refine call_range_1 (lM I1 om om c.1 c.2 ?_);have z:=q (Itr 0 j.toNat) H1 P1 α1 r1 e1 e2 mQ;rw[Int.sub_zero];exact z
 |two i j c =>
  obtain⟨ws,rfl,t1⟩:=fU rp;obtain⟨ws2,rfl,t2⟩:=fU t1;cases t2.nil_inv;obtain⟨u,u',rfl,⟨t,rfl⟩,t',rfl⟩:=tW rv;exact call_range_2 (lM I1 c.1 c.2.1 c.2.2.1 c.2.2.2 (q (Itr i (j-i).toNat) H1 P1 α1 r1 e1 e2 mQ))
noncomputable def vW (g:DG)(f:DS):Aa D->qE->Sto->Out
 |[],env,S=>.nx env S
 |d::ds,env,S=>(g d env S).toS env λenv1 S1=>match f env1 S1 with
  |.nx env2 S2=>vW g f ds env2 S2
  |.ct env2 S2=>vW g f ds env2 S2
  |.bk env2 S2=>.nx env2 S2
  |o=>o
noncomputable def jU (fi:DI)(g:DG)(f:DS):DS:=λenv S=>(fi env S).toS env λds S1=>vW g f ds env S1
inductive LoopW (X:Cx)(P1:Hp)(α1:Aa Ad)(g:DG)(f:DS)(ds:Aa D)(D:Ends)(i m:Ah)(σ : _L.St)(H:Hp):Prop
 |mk (hi:i<=ds.length) (hm:m=ds.length-i) (P2:Hp) (α2:Aa Ad) (env2:qE) (S2:Sto) (r:Rel X.K H P2 α2 S2) (re:qV X.K P2 α2 σ env2) (e1:qF P1 P2) (e2:α1<+:α2) (af:qX X P2 α2 (vW g f (ds.drop i) env2 S2) D):LoopW X P1 α1 g f ds D i m σ H
theorem KU {iter:AH}{fi:DI}{g:DG}{f:DS}(hp:IC (Aq X.prog X.w) X.A X.env X.xe)(hc:X.calm=true)(hi:PI X tg iter (tDI X fi))(hg:PG X tg (tDG X g))(hb:PSs X body (tDS X f))
  (hs:∀ x,CH iter X.env x=pure x:=by intro _;rfl):PS X (.For tg iter body [] pos) (tDS X (jU fi g f)):=psW (BW hp hc hi hg hb hs) λD σ H ⟨P,α,env,S,r,re,af⟩=>by
 refine⟨P,α,env,S,r,re,?_⟩;have af1:=x6 af;cases q:fi env S with
 |bad=>rw[q] at af1;exact af1
 |ex c x S'=>rw[q] at af1;exact af1
 |ok ds S1 =>
  rw[q] at af1;have af2:qX X P α (vW g f ds env S1) D:=af1;intro J H1 P1 α1 r1 e1 e2 it;refine⟨LoopW X P1 α1 g f ds D,
   ⟨ds.length,Dn _,rfl,P1,α1,env,S1,r1,re.mono e1 e2,qF.refl _,AG _,qX.base e1 e2 af2⟩,?_⟩
  rintro i m σ2 H2 ⟨hi,rfl,P2,α2,env2,S2,r2,re2,e3,e4,af3⟩;by_cases hlt:i<ds.length
  .refine .inr ⟨it.go i H2 P2 α2 S2 hlt r2 e3 e4,LoopW X P1 α1 g f ds D (i+1) (ds.length-(i+1)),λσ' H' w=>⟨_,?_,w⟩,λx H3 y=>?_⟩
   .omega
   .obtain⟨P3,d,hd,r3,e5,rp⟩:=it.yld i H2 x H3 P2 α2 S2 hlt r2 e3 e4 y
    have hdr:ds.drop i=d::ds.drop (i+1):=by
     rw[En hlt];rw[As hlt] at hd;rw[Bg hd]
    rw[hdr] at af3;have af4:=x6 (qX.base e5 (AG _) af3);refine⟨P3,α2,env2,S2,d,r3,re2.mono e5 (AG _),rp,?_⟩;cases q2:g d env2 S2 with
    |bad=>rw[q2] at af4;exact af4
    |ex c x S'=>rw[q2] at af4;exact af4
    |ok env3 S3 =>
     rw[q2] at af4;intro σ4 H4 P4 α4 r4 re4 e6 e7;refine⟨P4,α4,env3,S3,r4,re4,?_⟩;have af5:=qX.base e6 e7 af4;cases q3:f env3 S3 with
     |bad=>simp only[q3] at af5;exact af5
     |ex c x env4 S4=>simp only[q3] at af5;exact af5
     |rt d4 S4=>simp only[q3] at af5;exact af5
     |bk env4 S4=>simp only[q3] at af5;exact af5
     |nx env4 S4 =>
      simp only[q3] at af5;exact λσ5 H5 P5 α5 r5 re5 e8 e9=>⟨hlt,rfl,P5,α5,env4,S4,r5,re5,((e3.trans e5).trans e6).trans e8,(e4.trans e7).trans e9,qX.base e8 e9 af5⟩
     |ct env4 S4 =>
      simp only[q3] at af5;exact λσ5 H5 P5 α5 r5 re5 e8 e9=>⟨hlt,rfl,P5,α5,env4,S4,r5,re5,((e3.trans e5).trans e6).trans e8,(e4.trans e7).trans e9,qX.base e8 e9 af5⟩
  .have hdr:ds.drop i=[]:=Mx om
   rw[hdr] at af3;exact .inl ⟨it.stop i H2 P2 α2 S2 om r2 e3 e4,af3 σ2 H2 P2 α2 r2 re2 (qF.refl _) (AG _)⟩
end
abbrev DF:=Aa D->Sto->Res D
section
variable {X:Cx}{x:Ar}{p pos:CB}{e:AH}{es:Aa AH}{F:DF}{fa:DA}
noncomputable def qR (F:DF)(fa:DA):DE:=λenv S=>(fa env S).bind λds S1=>F ds S1
theorem mG {pins:Aa (Ad × AV)}{s1:Ag}{σ:_L.St}{H1 P P1:Hp}{α α1:Aa Ad}{ds:Aa D}(hc:wN X u F)(I1:Inv X pins σ H1 s1)(r1:Rel X.K H1 P1 α1 S1)(rv:qK vs us)
  (rp:qD X.K P1 α1 ds vs) (e1:qF P P1) (e2:α<+:α1) (af:qH X P α (F ds S1) (OkV X P α Q)):Ao (Aq X.prog X.w) X.A (call u us) (EP X pins σ Q) X.xe s1:=hc pins σ H1 s1 P1 α1 S1 vs us ds Q I1 r1 rv rp (qP.base e1 e2 af)
theorem Q9 {id:Bp}(hc:wN X (.builtin id) F)(hg:Gl X x)(hm:X.mg x=none)(hv:Dt x=Ab (.builtin id))(ha:PA X (e::es) (tDA X fa))(hn:x ≠ "__name__":=by decide)(hdb:(x == ("__debug__" : Ar))=false:=by decide)
  (he:A5 (e::es) X.env=(false,eval e X.env)::A5 es X.env:=by rfl) (hpl:(Dh pos (A5 es X.env)).any (·.1)=false:=by rfl):PE X (.Call (.Name x p) (e::es) [] pos) (tD X (qR F fa)):=by
 intro pins s σ H Q I h;obtain⟨P,α,env,S,r,re,af⟩:=h;refine Dl (yK I hg hm hv ?_ hn hdb);exact Fo (thn (xM ha I r re af pos) λus s1 ⟨vs,H1,P1,α1,ds,S1,I1,rv,r1,re1,rp,e1,e2,af1⟩=>mG hc I1 r1 rv rp e1 e2 af1) he hpl
theorem cZ {T:Bp}(hc:wN X (.type T) F)(hg:Gl X x)(hm:X.mg x=none)(hv:Dt x=Ab (.type T))(ha:PA X (e::es) (tDA X fa))(hn:x ≠ "__name__":=by decide)(hdb:(x == ("__debug__" : Ar))=false:=by decide)
  (he:A5 (e::es) X.env=(false,eval e X.env)::A5 es X.env:=by rfl) (hpl:(Dh pos (A5 es X.env)).any (·.1)=false:=by rfl):PE X (.Call (.Name x p) (e::es) [] pos) (tD X (qR F fa)):=by
 intro pins s σ H Q I h;obtain⟨P,α,env,S,r,re,af⟩:=h;refine Dl (yK I hg hm hv ?_ hn hdb);exact EC (thn (xM ha I r re af pos) λus s1 ⟨vs,H1,P1,α1,ds,S1,I1,rv,r1,re1,rp,e1,e2,af1⟩=>mG hc I1 r1 rv rp e1 e2 af1) he hpl
end
theorem z9.there {P:Az}{w:AL}{H:Hp}{h:A8}{a:Ad}{o:HO}(x:z9 P w H h a o):∃ ob,h.get? a=Ab ob:=by
 cases o with
 |lst xs=>obtain⟨_,_,_,_,e⟩:=x;exact⟨_,e⟩
 |tup xs=>obtain⟨_,_,_,ob,e,_⟩:=x;exact⟨_,e⟩
 |dK kvs=>obtain⟨_,_,_,_,o,_,_,e,_⟩:=x;exact⟨_,e⟩
 |dT kvs=>obtain⟨_,_,_,_,o,_,_,e,_⟩:=x;exact⟨_,e⟩
 |set S n=>obtain⟨o,_,_,_,e,_⟩:=x;exact⟨_,e⟩
 |ins C dx fs=>obtain⟨_,_,_,e,_⟩:=x;exact⟨_,e⟩
 |own y=>obtain⟨_,e⟩:=x;exact⟨_,e⟩
 |xd fs=>obtain⟨_,⟨_,_,_,e,_⟩,_⟩:=x;exact⟨_,e⟩
 |rng lo hi=>obtain⟨_,_,_,e⟩:=x;exact⟨_,e⟩
 |frz ob u=>obtain⟨e,_⟩:=x;exact⟨_,e⟩
 |tbl ps=>exact⟨_,show h.get? a=Ab _ from x⟩
 |met f y=>exact⟨_,show h.get? a=Ab _ from x⟩
 |ext φ => obtain⟨_,e,_⟩:=x;exact e
section
variable {X:Cx}{pins:Aa (Ad × AV)}{σ : _L.St}{H:Hp}{s:Ag}{B h':A8}
abbrev Fn1 (X:Cx):Prop:=X.ex=[]/\X.stack=X.env::X.outer/\X.env.frame=Ab X.env.locals
theorem Fn1.mem (F:Fn1 X){b:Ad}:b∈frs X.stack↔b=X.env.locals\/b∈X.fs:=by
 rw[F.2.1];unfold frs;rw[E4,F.2.2];exact AD
theorem Old.there (I:Inv X pins σ H s)(F:Fn1 X){b:Ad}(o:Old X pins H b):∃ ob,s.heap.get? b=Ab ob:=by
 rcases o with⟨o,e⟩|e|⟨p,hp,rfl⟩|⟨x,e⟩
 .exact I.base.there b o e (by rw[F.1];simp)
 .cases q:H b with
  |none=>exact absurd q e
  |some u=>exact z9.there (I.hok b u q)
 .exact⟨_,(I.pin p hp).1⟩
 .obtain⟨v,ob,ho,_⟩:=I.cell x b e
  exact⟨ob,ho⟩
theorem Inv.fly (I:Inv X pins σ H s)(F:Fn1 X)(cv:Cv X pins H B s.heap)(st:B.StaysIn h')(up:s.heap.UpToSlots h'):Inv X pins σ H { s with heap:=h' } /\ Cv X pins H B h':=by
 have kp:∀ b o,s.heap.get? b=Ab o->Old X pins H b->b ∉ frs X.stack->h'.get? b=Ab o:=λb o e q n=>st b o (cv b o e q n);have neL:∀ b o,X.s₀.heap.get? b=Ab o->b≠X.env.locals:=λb o e=>AS (Au (Ax e) I.ok.above);have nofr:∀ b o,X.s₀.heap.get? b=Ab o->b ∉ X.fs->b ∉ frs X.stack:=λb o e n z=>(F.mem.mp z).elim (neL b o e) n;have nx:∀ b,b ∉ X.ex:=λb=>by rw[F.1];simp
 have frU:∀ b,b∈frs X.stack->∀ o,s.heap.get? b=Ab o->∃ sl,h'.get? b=Ab { o with slots:=sl }:=λb hb o e=>by
  obtain⟨_,o',e',nf⟩:=I.stack.mem hb;rw[e] at e';cases e';exact up b o e nf
 have cellK:∀ x c,X.env.cells.lookup x=Ab c->∀ v,s.heap.IsCell c v->h'.IsCell c v:=λx c e v ⟨o,ho,hd⟩=>by
  obtain⟨sl,q⟩:=up c o ho λvs z=>by rw[hd] at z;cases z
  exact⟨_,q,hd⟩
 refine⟨⟨I.ok,I.os,I.bare,⟨λb o e n hb hx=>?_,λb o e n hb hx=>?_,I.base.free,λb o e hx=>?_,I.base.tups,I.base.frzs,I.base.tbls⟩,?_,λx c e=>?_,I.free,I.freeC,λp hp=>?_,λa o e=>?_,I.len⟩,λb o e q n=>?_⟩
 .exact kp b o (I.base.keep b o e n hb hx) (.inl ⟨o,e⟩) (nofr b o e hb)
 .obtain⟨sl,e1⟩:=I.base.slot b o e n hb hx
  obtain⟨sl',e2⟩:=frU b (F.mem.mpr (.inr hb)) _ e1;exact⟨sl',e2⟩
 .obtain⟨o',e1⟩:=I.base.there b o e hx
  by_cases hb:b∈frs X.stack
  .obtain⟨sl,e2⟩:=frU b hb _ e1
   exact⟨_,e2⟩
  .exact⟨o',kp b o' e1 (.inl ⟨o,e⟩) hb⟩
 .obtain⟨m,hn,hl⟩:=I.loc
  refine⟨m,up.ns hn,λi x v e1 e2 e3=>?_⟩;obtain⟨u,r,l⟩:=hl i x v e1 e2 e3;refine⟨u,r,?_⟩;rcases l with l|⟨k,c,e,z⟩
  .exact .inl l
  .exact .inr ⟨k,c,e,cellK x c e _ z⟩
 .obtain⟨v,z⟩:=I.cell x c e
  exact⟨v,cellK x c e v z⟩
 .obtain⟨e,n,ne,nf,d⟩:=I.pin p hp
  exact⟨kp p.1 p.2 e (.inr (.inr (.inl ⟨p,hp,rfl⟩))) λz=>(F.mem.mp z).elim ne nf,n,ne,nf,d⟩
 .refine(I.hok a o e).stay (λb u hb q=>?_) (λ_ q=>q) λ_ _ q=>q
  have hn:H b≠none:=by
   rcases hb with rfl|hb
   .rw[e];intro z;cases z
   .rw[hb];intro z;cases z
  exact kp b u q (.inr (.inl hn)) λz=>hn (I.stkFree b z)
 .obtain⟨o1,e1⟩:=Old.there I F q
  have e2:=cv b o1 e1 q n;have e3:=st b o1 e2;rw[e] at e3;cases e3;exact e2
theorem i9 {c:Ac}{e:Ad}{g:A8}(I:Inv X pins σ H s)(hm:Of g s.heap e c args)(hf:g.FunFrames X.base X.stack)(hk:∀ b o,s.heap.get? b=Ab o->Old X pins H b->g.get? b=Ab o) :
  (IB g (frs X.stack)).StaysIn g/\g.FunFrames (IB g (frs X.stack)) X.stack/\Cv X pins H (IB g (frs X.stack)) s.heap:=
 ⟨λb o q=>OT _ q,PySem.W.funFrames_hide hf λenv he a ha=>EE.mpr ⟨env,he,ha⟩,λb o e q n=>O0 _ (hk b o e q) n⟩
theorem aY {M:Gg}{A:AJ}{E:Ac->Ag->Prop}{c:Ac}{e:Ad}{Q:IV->Ag->Prop}(I:Inv X pins σ H s)(F:Fn1 X)(hA:A.frames=Ab X.stack)(f:FlyX X pins H c e s.heap)
  (hQ:∀ h' B a0,IQ B X.outer e c a0 h'->Inv X pins σ H { s with heap:=h' } -> Cv X pins H B h'->Q () { s with heap:=h' }) : Ao M A (leaving X.env (.ref e)) Q E s:=by
 cases f with
 |new g args hm hf hk =>
  obtain⟨k1,k2,k3⟩:=i9 I hm hf hk;rw[F.2.1] at hA;refine wpAny_leaves_madeW hA F.2.2 k1 (by rw[<- F.2.1];exact k2) hm λh' t x1 x2 x3 x4=>?_
  obtain⟨I1,cv1⟩:=Inv.fly I F k3 x1.1 x4;exact hQ h' _ _ x1 I1 cv1
 |fly B a0 fl cv =>
  rw[F.2.1] at hA;refine wpAny_leaves_onW hA F.2.2 (by rw[<- F.2.1];exact fl) λh' x1 x2=>?_
  obtain⟨I1,cv1⟩:=Inv.fly I F cv x1.1 x2;exact hQ h' _ _ x1 I1 cv1
end
def CXd (P:Az)(w:AL):CXT:=λouter H s E u s' =>
 ∃ e c H' B a0,u=.ref e/\s'.os=s.os/\HY s'.gens/\Un (frs outer) [] H H' s.heap s'.heap/\HOk P w H' s'.heap/\IQ B outer e c a0 s'.heap /\
  (∀ b o,s'.heap.get? b=Ab o->((∃ o,s.heap.get? b=Ab o)\/H' b≠none)->b ∉ frs outer->B.get? b=Ab o)/\E c none H'
section
variable {X:Cx}{pins:Aa (Ad × AV)}{σ : _L.St}{H:Hp}{s s':Ag}
theorem GI {E:XK}(I:Inv X pins σ H s)(F:Fn1 X)(h:CXd X.prog X.w X.stack H s E u s'):∃ e c H',u=.ref e/\Inv X pins σ H' s'/\FlyX X pins H' c e s'.heap/\E c none H':=by
 obtain⟨e,c,H',B,a0,rfl,os,bare,un,hok,fl,cov,q⟩:=h;have I':Inv X pins σ H' s':=Inv.call' I os un hok bare (ch:=[]) λb z=>absurd z (by simp)
 refine⟨e,c,H',rfl,I',.fly B a0 fl λb o eb old n=>cov b o eb ?_ n,q⟩;rcases old with⟨o,z⟩|z|⟨p,hp,rfl⟩|⟨x,z⟩
 .exact .inl (I.base.there b o z (by rw[F.1];simp))
 .exact .inr z
 .exact .inl ⟨_,(I.pin p hp).1⟩
 .obtain⟨v,ob,ho,_⟩:=I.cell x b z
  exact .inl ⟨ob,ho⟩
end
structure RoomC (cm:Ap)(k:Ah)(A:AJ):Prop where
 hd:cm=true->A.handled=none
 dp:A.depth+3*k+5<Jc
 un:A.units+16*k+200<CZ
 gd:A.guards=Ab []
theorem RoomC.mono {cm:Ap}{j k:Ah}{A:AJ}(r:RoomC cm k A)(h:j<=k:=by decide):RoomC cm j A:=⟨r.hd,by have:=r.dp;omega,by have:=r.un;omega,r.gd⟩
theorem RoomC.deeper {cm:Ap}{k:Ah}{A:AJ}(r:RoomC cm (k+1) A)(env:E0):RoomC cm k (A.deeper env):=
 ⟨r.hd,by have:=r.dp;show A.depth+1+3*k+5<_;omega,by have:=r.un;show A.units+3+16*k+200<_;omega,r.gd⟩
theorem RoomC.depth {cm:Ap}{k:Ah}{A:AJ}(r:RoomC cm k A):A.depth<Jc:=by have:=r.dp;omega
theorem RoomC.units {cm:Ap}{k:Ah}{A:AJ}(r:RoomC cm k A):A.units+64<CZ:=by have:=r.un;omega
theorem RoomC.of {k:Ah}{A:AJ}(r:Room k A):RoomC true k A:=⟨λ_=>r.hd,r.dp,r.un,r.gd⟩
theorem RoomC.any {cm:Ap}{k:Ah}{A:AJ}(r:RoomC cm k A):RoomC false k A:=⟨(λz=>nomatch z),r.dp,r.un,r.gd⟩
theorem RoomC.mark {cm:Ap}{k:Ah}{A:AJ}(r:RoomC cm k A)(h:Ak Ac):RoomC false k (A.mark h):=⟨(λz=>nomatch z),r.dp,r.un,r.gd⟩
abbrev Cx.re (X:Cx)(A:AJ)(cm:Ap)(E:Ac->Ag->Prop):Cx:={ X with A:=A,calm:=cm,xe:=E }
theorem Inv.re {X:Cx}{pins:Aa (Ad × AV)}{σ:_L.St}{H:Hp}{s:Ag}(I:Inv X pins σ H s)(A:AJ)(cm:Ap)(E:Ac->Ag->Prop)(hf:A.frames=Ab X.stack)(hh:cm=true->A.handled=none):Inv (Cx.re X A cm E) pins σ H s:=
 ⟨⟨I.ok.mod,I.ok.kind,I.ok.glob,I.ok.blt,I.ok.above,I.ok.inj,I.ok.has,I.ok.cab,hh,hf,I.ok.stk,I.ok.exf,I.ok.bs,I.ok.bsz,I.ok.noex,I.ok.exfs,I.ok.funs,I.ok.frf⟩,I.os,I.bare,I.base,I.loc,I.cell,I.free,I.freeC,I.pin,I.hok,I.len⟩
theorem Inv.unre {X:Cx}{pins:Aa (Ad × AV)}{σ:_L.St}{H:Hp}{s:Ag}{A:AJ}{cm:Ap}{E:Ac->Ag->Prop}(I:Inv (Cx.re X A cm E) pins σ H s)(hf:X.A.frames=Ab X.stack)(hh:X.calm=true->X.A.handled=none):Inv X pins σ H s:=
 ⟨⟨I.ok.mod,I.ok.kind,I.ok.glob,I.ok.blt,I.ok.above,I.ok.inj,I.ok.has,I.ok.cab,hh,hf,I.ok.stk,I.ok.exf,I.ok.bs,I.ok.bsz,I.ok.noex,I.ok.exfs,I.ok.funs,I.ok.frf⟩,I.os,I.bare,I.base,I.loc,I.cell,I.free,I.freeC,I.pin,I.hok,I.len⟩
structure FnX (P:Az)(w:AL)(K:Ai)(mg:Ar->Ak Ac)(base:A8)(cm:Ap)(k:Ah)(f:Ad)(fd:CV)(ps:Aa Ar)(sp:Sp):Prop where
 len:∀ vs H Q E,sp vs H Q E->vs.length=ps.length
 run:∀ (A:AJ) (outer:Aa E0) (s:Ag) (H:Hp) (args:Args) (us:Aa Ac) (vs:Aa V) (Q:VK) (E:XK),RoomC cm k A->Env0 P w K mg base A outer s H->HZ s fd args (ps.zip us)->qK vs us->sp vs H Q E ->
  El (Aq P w) A (.call (.ref f) args) (CR (CXd P w) outer P w H s Q E) s
theorem FnX.ok {P:Az}{w:AL}{K:Ai}{mg:Ar->Ak Ac}{base:A8}{k:Ah}{f:Ad}{fd:CV}{ps:Aa Ar}(F:FnX P w K mg base true k f fd ps sp):FnOk P w K mg base (CXd P w) k f fd ps sp:=
 ⟨F.len,λA outer s H args us vs Q E hr=>F.run A outer s H args us vs Q E (.of hr)⟩
theorem FnX.any {P:Az}{w:AL}{K:Ai}{mg:Ar->Ak Ac}{base:A8}{cm:Ap}{k:Ah}{f:Ad}{fd:CV}{ps:Aa Ar}(F:FnX P w K mg base false k f fd ps sp):FnX P w K mg base cm k f fd ps sp:=
 ⟨F.len,λA outer s H args us vs Q E hr=>F.run A outer s H args us vs Q E hr.any⟩
theorem FnX.imp {P:Az}{w:AL}{K:Ai}{mg:Ar->Ak Ac}{base:A8}{cm:Ap}{k:Ah}{f:Ad}{fd:CV}{ps:Aa Ar}{sp':Sp}(F:FnX P w K mg base cm k f fd ps sp)
  (h:∀ vs H Q E,sp' vs H Q E->sp vs H Q E):FnX P w K mg base cm k f fd ps sp':=
 ⟨λvs H Q E q=>F.len vs H Q E (h _ _ _ _ q),λA outer s H args us vs Q E hr he hb hv hs=>F.run A outer s H args us vs Q E hr he hb hv (h _ _ _ _ hs)⟩
noncomputable def cxC (cm:Ap)(P:Az)(w:AL)(K:Ai)(mg:Ar->Ak Ac)(base:A8)(N:Aa Ar)(qual:Ar)(scope:Cj)(f:Ad)(cd:Ac)(A:AJ)(outer:Aa E0)(s:Ag)(H:Hp)(E:XK):Cx where
 prog:=P
 w:=w
 K:=K
 mg:=mg
 base:=base
 A:=A.deeper (Dp qual scope s.heap.objs.size f cd)
 N:=N
 s₀:=s
 H₀:=H
 env:=Dp qual scope s.heap.objs.size f cd
 outer:=outer
 stack:=Dp qual scope s.heap.objs.size f cd::outer
 ex:=[]
 calm:=cm
 fn:=λ_=>true
 pn:=[]
 xe:=λe s'=>Ao (Aq P w) (A.deeper (Dp qual scope s.heap.objs.size f cd)) (leaving (Dp qual scope s.heap.objs.size f cd) e) (λ_ s''=>CXd P w outer H s E e s'') (λe' s''=>CXd P w outer H s E e' s'') s'
section
variable {P:Az}{w:AL}{K:Ai}{mg:Ar->Ak Ac}{base:A8}{cm:Ap}{N:Aa Ar}{qual:Ar}{scope:Cj}{f:Ad}{cd:Ac}{A:AJ}{outer:Aa E0}{s:Ag}{H:Hp}{E:XK}
theorem Q6:IC (Aq P w) (A.deeper (Dp qual scope s.heap.objs.size f cd)) (Dp qual scope s.heap.objs.size f cd) (cxC cm P w K mg base N qual scope f cd A outer s H E).xe:=PassesOwn.leaving (Q₁:=λe s''=>CXd P w outer H s E e s'')
abbrev xeL (P:Az)(w:AL)(A:AJ)(env:E0)(outer:Aa E0)(H:Hp)(s:Ag)(E:XK):Ac->Ag->Prop:=λe s'=>Ao (Aq P w) (A.deeper env) (leaving env e) (λ_ s''=>CXd P w outer H s E e s'') (λe' s''=>CXd P w outer H s E e' s'') s'
theorem nM {X:Cx}{P0:Hp}{α:Aa Ad}{c:Ac}{x:D}{s':Ag}(hA:X.A=A.deeper X.env)(k:XOk X P0 α c x S u s')
  (q:∀ H' P' α',Rel X.K H' P' α' S->qF P0 P'->α<+:α'->E c none H'):xeL X.prog X.w A X.env X.outer X.H₀ X.s₀ E u s':=by
 obtain⟨e,pins,σ,H1,P1,α1,rfl,I,r,e1,e2,F,fl⟩:=k;unfold xeL;rw[<- hA];refine aY I F I.ok.frames fl λh' B a0 x1 I1 cv=>?_;refine⟨e,c,H1,B,a0,rfl,I1.os,I1.bare,by have z:=I1.base;rw[F.1] at z;exact z,I1.hok,x1,λb o eb hb n=>cv b o eb ?_ λz=>?_,q H1 P1 α1 r e1 e2⟩
 .rcases hb with z|z
  .exact .inl z
  .exact .inr (.inl z)
 .rcases (Fn1.mem F).mp z with z|z
  .subst z
   rcases hb with⟨o',e'⟩|z
   .exact absurd (Ax e') (HT.mpr I1.ok.above)
   .exact z I1.free
  .exact n z
theorem eK {ps:Aa Ar}{s1:Ag}(S:FnScope N ps scope)(hd:cm=true->A.handled=none)(e0:Env0 P w K mg base A outer s H)(hl:vs.length=ps.length)(r:qK vs us)
  (x:InCallC s s.heap.objs.size (O8 (Dp qual scope s.heap.objs.size f cd).kindOf (ps.zip us) λ_=>none) (Em (s.heap.objs.size+1) scope.names []) (O9 (Dp qual scope s.heap.objs.size f cd).kindOf (ps.zip us) λ_=>none) s1) :
  Inv (cxC cm P w K mg base N qual scope f cd A outer s H E) [] (_L.x5 N vs) H s1:=by
 have I:=mP (CX:=CXd P w) (E:=E) (A:={ A with handled:=none }) S rfl ⟨e0.frames,e0.mod,e0.bs,e0.bsz,e0.funs,e0.frf,e0.hok,e0.bare⟩ hl r x
 have J:=Inv.re I (A.deeper (Dp qual scope s.heap.objs.size f cd)) cm (cxC cm P w K mg base N qual scope f cd A outer s H E).xe (Iw e0.frames) hd;exact J
end
theorem aG {P:Az}{w:AL}{K:Ai}{mg:Ar->Ak Ac}{base:A8}{cm:Ap}{k:Ah}{f:Ad}{qual:Ar}{params:ID}{scope:Cj}{oc:Ac}{an:Ak Ad}{osl:Av (Ak Ac)}{x:Ar}{kV doc pm cdv ct:Ac}{N ps:Aa Ar}
  {A:AJ} {outer:Aa E0} {s:Ag} {H:Hp} {args:Args} {us:Aa Ac} {vs:Aa V} {Q:VK} {E:XK} (lk:K.lookup f=Ab ⟨oc,od,.func (Du x qual params body scope .none kV doc pm an cdv ct),osl⟩) (hcd:Gp K cdv qual=true) (S:FnScope N ps scope) (hl:vs.length=ps.length) (hr:RoomC cm (k+1) A)
  (e0:Env0 P w K mg base A outer s H) (hb:HZ s (Du x qual params body scope .none kV doc pm an cdv ct) args (ps.zip us)) (r:qK vs us)
  (hbody:∃ t,PSs (cxC cm P w K mg base N qual scope f cdv A outer s H E) body t/\t { nx:=λ_ H'=>Q .non H',rt:=Q } (_L.x5 N vs) H) :
  El (Aq P w) A (.call (.ref f) args) (CR (CXd P w) outer P w H s Q E) s:=by
 have KX:K.In s.heap:=e0.mod.kin.keeps λb o e=>(e0.bs b o e).1;have lim:s.heap.NoLimit:=e0.mod.nolimit.keeps λb o e=>(e0.bs b o e).1;have hkind:∀ y∈ps.zip us,scope.names.lookup y.1=Ab .local \/ (scope.names.lookup y.1=Ab .cell/\((Em (s.heap.objs.size+1) scope.names []).lookup y.1).isSome=true):=λ⟨n,v⟩ hy=>by
  rcases S.par n (Hl hy).1 with q|q
  .exact .inl q
  .exact .inr ⟨q,Fy _ _ _ (.inl q)⟩
 refine Nr hr.depth (KX _ _ lk) rfl S.co S.gen rfl (OU KX hcd) (hb _ _ _ _ ?_);refine Jr S.kind hkind λenv he s1 x=>?_;subst he;refine⟨lim.keeps x.toInCall.keep,codeAny_func ?_⟩;obtain⟨t,ht,hq⟩:=hbody;have I:Inv (cxC cm P w K mg base N qual scope f cdv A outer s H E) [] (_L.x5 N vs) H s1:=eK S hr.hd e0 hl r x;refine Dq (ht [] s1 (_L.x5 N vs) H _ I hq) (λfl s' hs=>?_) λe s' hs=>hs;have fin:∀ {σ' : _L.St} {H':Hp} {v:V} {u:Ac},Inv (cxC cm P w K mg base N qual scope f cdv A outer s H E) [] σ' H' s'->qJ v u->Q v H'->CE outer P w H s Q u s':=
  λ{σ' H' v u} J rv q=>⟨v,H',J.os,J.bare,J.base,J.hok,rv,q⟩
 cases fl with
 |ret u =>
  obtain⟨v,σ',H',J,rv,q⟩:=hs;exact fin J rv q
 |next =>
  obtain⟨σ',H',J,q⟩:=hs;exact fin (v:=V.non) (u:=Bj) J rfl q
 |brk =>
  obtain⟨_,_,_,q⟩:=hs;exact An q
 |cont =>
  obtain⟨_,_,_,q⟩:=hs;exact An q
def j6 (K:Ai)(x:Ar)(cdv:Ac):Prop:=∀ c T,Bq K x=Ab (c,T)->cdv=.ref c
theorem GJ {P:Az}{w:AL}{K:Ai}{mg:Ar->Ak Ac}{base:A8}{cm:Ap}{k:Ah}{f:Ad}{x qual:Ar}{st:CF}{fd:CV}{N ps:Aa Ar}(F:Fun K x qual st f fd)(S:FnScope N ps (qG st))
  (len:∀ vs H Q E,sp vs H Q E->vs.length=ps.length)
  (hbody:∀ (cdv:Ac) (A:AJ) (outer:Aa E0) (s:Ag) (H:Hp) (vs:Aa V) (Q:VK) (E:XK),fd.code=cdv/\Mod K mg base->RoomC cm k (A.deeper (Dp qual (qG st) s.heap.objs.size f cdv))->sp vs H Q E ->
   ∃ t,PSs (cxC cm P w K mg base N qual (qG st) f cdv A outer s H E) (zC st) t/\t { nx:=λ_ H'=>Q .non H',rt:=Q } (_L.x5 N vs) H) :
  FnX P w K mg base cm (k+1) f fd ps sp:=by
 obtain⟨oc,od,kV,doc,pm,an,cdv,ct,osl,rfl,lk,hcd⟩:=F.ex;exact⟨len,λA outer s H args us vs Q E hr e0 hb r hsp=>aG lk hcd S (len _ _ _ _ hsp) hr e0 hb r (hbody cdv A outer s H vs Q E ⟨rfl,e0.mod⟩ (hr.deeper _) hsp)⟩
noncomputable def y7 (n:Ah)(ds:Aa D):qE:=ds.map Ab++EB (n-ds.length) none
noncomputable def DN:Out->Res D
 |.rt d S=>.ok d S
 |.nx _ S=>.ok .non S
 |.ex c x _ S=>.ex c x S
 |_=>.bad
noncomputable def qY (n:Ah)(g:DS):DF:=λds S=>DN (g (y7 n ds) S)
def spR (K:Ai)(P:Hp)(α : Aa Ad)(R:Res D)(Q:VK)(E:XK):Prop:=match R with
 |.ok d S'=>∀ v H' P' α',Rel K H' P' α' S'->qF P P'->α<+:α'->Rep K P' α' d v->Q v H'
 |.ex c _ S'=>∀ H' P' α',Rel K H' P' α' S'->qF P P'->α<+:α'->E c none H'
 |.bad=>CA
def spD (K:Ai)(n:Ah)(F:DF):Sp:=λvs H Q E=>vs.length=n/\∃ P α ds S,Rel K H P α S/\qD K P α ds vs/\spR K P α (F ds S) Q E
theorem h9 {K:Ai}{P:Hp}{α:Aa Ad}{N:Aa Ar}{ds:Aa D}(r:qD K P α ds vs):qV K P α (_L.x5 N vs) (y7 N.length ds):=by
 refine⟨by simp[y7,_L.x5,r.length],λi d e=>?_⟩
 unfold y7 at e;unfold _L.x5;by_cases hi:i<ds.length
 .rw[AO (by simpa using hi),Br] at e
  rw[AO (by rw[AR,<- r.length];exact hi),Br]
  cases q:ds[i]? with
  |none=>rw[q] at e;cases e
  |some d' =>
   rw[q] at e;cases e;obtain⟨v,h1,h2⟩:=r.get q;exact⟨v,by rw[h1];rfl,h2⟩
 .rw[Bb (by simpa using hi),Hy] at e
  split at e <;> cases e
section
variable {P:Az}{w:AL}{K:Ai}{mg:Ar->Ak Ac}{base:A8}{cm:Ap}
theorem n8 {qual:Ar}{scope:Cj}{f:Ad}{cdv:Ac}{A:AJ}{outer:Aa E0}{s:Ag}{H P':Hp}{E:XK}{N:Aa Ar}{g:DS}{α:Aa Ad}{ds:Aa D}{S':Sto}(hb:PSs (cxC cm P w K mg base N qual scope f cdv A outer s H E) body (tDS (cxC cm P w K mg base N qual scope f cdv A outer s H E) g))
  (r:Rel K H P' α S') (rp:qD K P' α ds vs) (af:spR K P' α (qY N.length g ds S') Q E):∃ t,PSs (cxC cm P w K mg base N qual scope f cdv A outer s H E) body t/\t { nx:=λ_ H'=>Q .non H',rt:=Q } (_L.x5 N vs) H:=by
 refine⟨_,hb,P',α,y7 N.length ds,S',r,h9 rp,?_⟩;unfold qY at af;cases q:g (y7 N.length ds) S' with
 |rt d S1=>rw[q] at af;exact λv H' P1 α1 r1 e1 e2 p1=>af v H' P1 α1 r1 e1 e2 p1
 |nx env S1=>rw[q] at af;exact λσ' H' P1 α1 r1 re1 e1 e2=>af .non H' P1 α1 r1 e1 e2 (by simp only[Rep])
 |bk env S1=>rw[q] at af;exact An af
 |ct env S1=>rw[q] at af;exact An af
 |ex c x env S1=>rw[q] at af;exact λu s' z=>nM (A:=A) rfl z λH' P1 α1 r1 e1 e2=>af H' P1 α1 r1 e1 e2
 |bad=>rw[q] at af;exact An af
theorem fnX {x qual:Ar}{st:CF}{f:Ad}{fd:CV}{N ps:Aa Ar}{k:Ah}{g:DS}(F:Fun K x qual st f fd)(S:FnScope N ps (qG st))
  (hbody:∀ (cdv:Ac) (A:AJ) (outer:Aa E0) (s:Ag) (H:Hp) (E:XK),fd.code=cdv/\Mod K mg base->RoomC cm k (A.deeper (Dp qual (qG st) s.heap.objs.size f cdv)) ->
   PSs (cxC cm P w K mg base N qual (qG st) f cdv A outer s H E) (zC st) (tDS (cxC cm P w K mg base N qual (qG st) f cdv A outer s H E) g)) :
  FnX P w K mg base cm (k+1) f fd ps (spD K ps.length (qY N.length g)):=by
 refine GJ F S (λvs H Q E h=>h.1) λcdv A outer s H vs Q E hc hr h=>?_;obtain⟨hl,P',α,ds,S',r,rp,af⟩:=h;exact n8 (hbody cdv A outer s H E hc hr) r rp af
end
section
variable {X:Cx}{cm:Ap}{k:Ah}{f:Ad}{fd:CV}{ps:Aa Ar}{F:DF}{x:Ar}{p pos:CB}{e:AH}{es:Aa AH}{fa:DA}{n:Ah}
noncomputable def qU (n:Ah)(F:DF)(fa:DA):DE:=λenv S=>(fa env S).bind λds S1=>if ds.length=n then F ds S1 else .bad
def EX (X:Cx)(P:Hp)(α : Aa Ad)(R:Res D):XK:=λc _ H'=>match R with
 |.ex c' _ S'=>c=c'/\∃ P' α',Rel X.K H' P' α' S'/\qF P P'/\α<+:α'
 |_=>CA
theorem lS {P:Hp}{α:Aa Ad}{R:Res D}(af:qP X P α R Q):spR X.K P α R Q (EX X P α R):=by
 cases R with
 |ok d S'=>exact af
 |ex c x S'=>exact λH' P' α' r' e1 e2=>⟨rfl,P',α',r',e1,e2⟩
 |bad=>exact af
theorem p5 {pins:Aa (Ad × AV)}{σ:_L.St}{H:Hp}{s:Ag}{P:Hp}{α:Aa Ad}{R:Res D}(hF:(∃ c x S',R=.ex c x S')->Fn1 X)(I:Inv X pins σ H s)(af:qP X P α R Q)
  (h:El (Aq X.prog X.w) X.A (.call u ⟨us,[]⟩) (CR (CXd X.prog X.w) X.stack X.prog X.w H s Q (EX X P α R)) s):Ao (Aq X.prog X.w) X.A (call u us) (EP X pins σ Q) X.xe s:=by
 refine IW (EL h λr s' hq=>?_);cases r with
 |error u =>
  have hq:CXd X.prog X.w X.stack H s (EX X P α R) u s':=hq;cases R with
  |ok d S'=>obtain⟨_,_,_,_,_,_,_,_,_,_,_,_,q⟩:=hq;exact An q
  |bad=>exact An af
  |ex c' x' S' =>
   have hG:=hF ⟨_,_,_,rfl⟩;obtain⟨a,c,H',rfl,I',fl,rfl,P',α',r',e1,e2⟩:=GI I hG hq;exact af _ _ ⟨a,pins,σ,H',P',α',rfl,I',r',e1,e2,hG,fl⟩
 |ok fl =>
  cases fl with
  |ret u=>exact I.after hq
  |next=>exact An hq
  |brk=>exact An hq
  |cont=>exact An hq
theorem r6 {pins:Aa (Ad × AV)}{σ:_L.St}{H:Hp}{s:Ag}{P:Hp}{α:Aa Ad}{ds:Aa D}(G:FnX X.prog X.w X.K X.mg X.base cm k f fd ps (spD X.K n F))(hr:RoomC cm k X.A)(hb:wM X.K fd ps [])(hF:Fn1 X)
  (I:Inv X pins σ H s) (r:Rel X.K H P α S) (rv:qK vs us) (rp:qD X.K P α ds vs) (hn:ds.length=n) (af:qP X P α (F ds S) Q):Ao (Aq X.prog X.w) X.A (call (.ref f) us) (EP X pins σ Q) X.xe s:=by
 have hsp:spD X.K n F vs H Q (EX X P α (F ds S)):=⟨by rw[<- rp.length];exact hn,P,α,ds,S,r,rp,lS af⟩
 have hl:us.length=ps.length:=by rw[<- rv.length];exact G.len _ _ _ _ hsp
 have hb':=hb s us I.kIn (by rw[Di];exact hl)
 rw[Di] at hb';exact p5 (λ_=>hF) I af (G.run X.A X.stack s H ⟨us,[]⟩ us vs Q _ hr I.env0 hb' rv hsp)
theorem kL {env:qE}{S:Sto}{P:Hp}{α:Aa Ad}{ds:Aa D}{Ok:D->Sto->Prop}(h:qH X P α (if ds.length=n then F ds S1 else .bad) Ok):ds.length=n/\qH X P α (F ds S1) Ok:=by
 by_cases hn:ds.length=n
 .rw[AA hn] at h;exact⟨hn,h⟩
 .rw[AB hn] at h;exact An h
theorem Y9 (G:FnX X.prog X.w X.K X.mg X.base cm k f fd ps (spD X.K n F))(hr:RoomC cm k X.A)(hF:Fn1 X)(hg:Gl X x)(hm:X.mg x=Ab (.ref f))(hk:CD X.K (.ref f)=true)(hb:wM X.K fd ps [])
  (ha:PA X (e::es) (tDA X fa)) (hdb:(x == ("__debug__" : Ar))=false:=by decide) (he:A5 (e::es) X.env=(false,eval e X.env)::A5 es X.env:=by rfl) (hpl:(Dh pos (A5 es X.env)).any (·.1)=false:=by rfl) :
  PE X (.Call (.Name x p) (e::es) [] pos) (tD X (qU n F fa)):=by
 intro pins s σ H Q I h;obtain⟨P,α,env,S,r,re,af⟩:=h;refine Dl (yE I hg hm ?_ hdb);refine Hw (h₀:=X.base) I.ok.mod.kin hk (thn (xM ha I r re af pos) λus s1 ⟨vs,H1,P1,α1,ds,S1,I1,rv,r1,re1,rp,e1,e2,af1⟩=>⟨I1.kIn,?_⟩) he hpl;obtain⟨hn,af2⟩:=kL (env:=env) (S:=S) af1;exact r6 G hr hb hF I1 r1 rv rp hn (qP.base e1 e2 af2)
end
noncomputable abbrev n6:Aa Ac:=[.type "ValueError",.type "Exception",.type "BaseException",.type "object"]
noncomputable def MZ:Ac->Ap
 |.str _ _=>true
 |_=>false
noncomputable def uT (K:Ai)(N:Ad):Ap:=(match Ib N K with
 |some o=>match o.data with
  |.dict es _=>es.toList.all λe=>MZ e.key
  |_=>false
 |none=>false)&&decide (Co K N "__init__" = Ab none)
theorem xX {K:Ai}{N:Ad}(h:uT K N=true):Sn K N=true/\Co K N "__init__" = Ab none:=by
 unfold uT at h;rw[AF,AY] at h;refine⟨?_,h.2⟩;have h1:=h.1;unfold Sn;cases e:Ib N K with
 |none=>rw[e] at h1;cases h1
 |some o =>
  rw[e] at h1;obtain⟨oc,od,dt,sl⟩:=o;cases dt with
  |dict es ep =>
   simp only at h1 ⊢;rw[Array.all_toList] at h1;refine Eq.trans (congrArg (λf=>Array.all es f) (funext λe=>?_)) h1;cases e.key <;> rfl
  |_=>cases h1
noncomputable def tR (K:Ai)(C:Ad)(f:Ac->Qi->Av (Ak Ac)->Ap):Ap:=match Ib C K with
 |some o=>(match o.data with|.cls cd=>f o.cls cd o.slots|_=>false)
 |none=>false
theorem lI {K:Ai}{f:Ac->Qi->Av (Ak Ac)->Ap}(h:tR K C f=true):∃ oc od cd sl,Ib C K=Ab ⟨oc,od,.cls cd,sl⟩/\f oc cd sl=true:=by
 unfold tR at h;cases e:Ib C K with
 |none=>rw[e] at h;exact E6 h
 |some o =>
  rw[e] at h;obtain⟨oc,od,dt,sl⟩:=o;cases dt with
  |cls cd=>exact⟨oc,od,cd,sl,rfl,h⟩
  |_=>exact E6 h
noncomputable def p8 (K:Ai)(C A:Ad):Ap:=tR K C λoc cd sl=>tR K A λ_ ca _=>decide (oc=.type "type")&&(decide (cd.mro=.ref C::.ref A::n6)&&(!cd.hasDel&&(uT K cd.ns&&(uT K ca.ns&&(decide (sl.toList.length=6)&&decide (sl.toList[4]? = Ab (Ab (.builtin "ValueError.__new__"))))))))
inductive ExcO (h:A8)(C:Ad):Prop
 |mk (nm q:Ar) (N:Ad) (bs bm:Aa Ac) (hdct:Ap) (sn:Aa Ar) (sub:Aa Ac) (ab:Ap) (col:Ak Ap) (dd:Ak Ad) (k0 k1 k2 k3 k5:Ak Ac) (mN:Ar->Ak Ac) (hC:h.get? C=Ab (excClassObj nm q C N bs bm hdct sn sub ab col dd k0 k1 k2 k3 k5 "ValueError.__new__")) (hN:h.Ns N mN) (hni:mN "__init__" = none) (T:OwnTail h n6 bm):ExcO h C
theorem fS {β:Type}{l:Aa β}{n:Ah}(h:l.length=n+1):∃ a t,l=a::t/\t.length=n:=by
 cases l with
 |nil=>exact Nat.noConfusion h
 |cons a t=>exact⟨a,t,rfl,Nat.succ.inj h⟩
theorem six {β:Type}{l:Aa β}(h:l.length=6):∃ a b c d e f,l=[a,b,c,d,e,f]:=by
 obtain⟨a,t,e1,h⟩:=fS h;obtain⟨b,t2,e2,h⟩:=fS h;obtain⟨c,t3,e3,h⟩:=fS h;obtain⟨d,t4,e4,h⟩:=fS h;obtain⟨e,t5,e5,h⟩:=fS h;obtain⟨f,t6,e6,h⟩:=fS h;exact⟨a,b,c,d,e,f,by rw[e1,e2,e3,e4,e5,e6,H9.mp h]⟩
theorem PY {cd:Qi}{tl:Aa Ac}{k0 k1 k2 k3 k4 k5:Ak Ac}{n:Bp}(hm:cd.mro=.ref C::tl)(hd:cd.hasDel=false)(hs:sl.toList=[k0,k1,k2,k3,k4,k5])(hn:sl.toList[4]? = Ab (Ab (.builtin n))) :
  (⟨.type "type",od,.cls cd,sl⟩:AV)=excClassObj cd.name cd.qualname C cd.ns cd.bases tl cd.hasDict cd.slotNames cd.subclasses cd.abstract cd.collection od k0 k1 k2 k3 k5 n:=by
 rw[hs] at hn;cases hn;cases cd;cases sl;cases hm;cases hd;cases hs;rfl
theorem YT {K:Ai}{h:A8}{A:Ad}{cd:Qi}(KI:K.In h)(e:Ib C K=Ab ⟨.type "type",od,.cls cd,sl⟩)(h2:cd.mro=.ref C::.ref A::n6)(h3:cd.hasDel=false)(h4:uT K cd.ns=true)(h6:sl.toList.length=6)(h7:sl.toList[4]? = Ab (Ab (.builtin "ValueError.__new__")))(T:OwnTail h n6 (.ref A::n6)):ExcO h C:=by
 obtain⟨k0,k1,k2,k3,x,k5,es⟩:=six h6;exact⟨_,_,_,_,_,_,_,_,_,_,_,k0,k1,k2,k3,k5,_,(KI _ _ e).trans (congrArg Ab (PY h2 h3 es h7)),.of_isNs (OY KI (xX h4).1),Lc KI (xX h4).1 (xX h4).2,T⟩
theorem YU {K:Ai}{h:A8}{A:Ad}(KI:K.In h)(z:p8 K C A=true):ExcO h C:=by
 obtain⟨oc,od,cd,sl,e,z⟩:=lI z;obtain⟨qc,qd,ca,ql,e2,z⟩:=lI z;have a1:=CI.mp z;have a2:=CI.mp a1.2;have a3:=CI.mp a2.2;have a4:=CI.mp a3.2;have a5:=CI.mp a4.2;have a6:=CI.mp a5.2;rw[AZ a1.1] at e;exact YT KI e (AZ a2.1) (HL _▸a3.1) a4.1 (AZ a6.1) (AZ a6.2) (.own (KI _ _ e2) (.of_isNs (OY KI (xX a5.1).1)) (Lc KI (xX a5.1).1 (xX a5.1).2) .base)
section
variable {X:Cx}{pos:CB}{fa:DA}
noncomputable def uU (c:Ac)(fa:DA):DS:=λenv S=>(fa env S).toS env λds S1=>if ds.length<=lim then .ex c .non env S1 else .bad
inductive GotAS (X:Cx)(pins:Aa (Ad × AV))(σ : _L.St)(env:qE)(P:Hp)(α : Aa Ad)(us:Aa Ac)(s1:Ag)(k:Aa D->Sto->Out)(E:Ends):Prop
 |mk (vs:Aa V) (H1 P1:Hp) (α1:Aa Ad) (ds:Aa D) (S1:Sto) (I:Inv X pins σ H1 s1) (rv:qK vs us) (r:Rel X.K H1 P1 α1 S1) (re:qV X.K P1 α1 σ env) (rp:qD X.K P1 α1 ds vs) (e1:qF P P1) (e2:α<+:α1) (q:qX X P1 α1 (k ds S1) E):GotAS X pins σ env P α us s1 k E
theorem Y6 {es:Aa AH}{k:Aa D->Sto->Out}{pins:Aa (Ad × AV)}{s:Ag}{σ:_L.St}{H P:Hp}{α:Aa Ad}{env:qE}{D:Ends}(he:PA X es (tDA X fa))(I:Inv X pins σ H s)(r:Rel X.K H P α S)
  (re:qV X.K P α σ env) (af:qX X P α ((fa env S).toS env k) D) (pos:CB) :
  Ao (Aq X.prog X.w) X.A (spliced (Dh pos (A5 es X.env))) (λus s1=>GotAS X pins σ env P α us s1 k D) X.xe s:=by
 have af1:qH X P α ((fa env S).bind λd S=>.ok d S) λd S=>qX X P α (k d S) D:=by
  have:=x6 af;cases q:fa env S <;> rw[q] at this <;> exact this
 exact thn (xM he I r re af1 pos) λu s1 ⟨vs,H1,P1,α1,ds,S1,I1,rv,r1,re1,rp,e1,e2,q⟩=>⟨vs,H1,P1,α1,ds,S1,I1,rv,r1,re1,rp,e1,e2,qX.base e1 e2 q⟩
theorem QR {x:Ar}{Ae:Ad}{e₀:AH}{qM:Aa AH}{np cpos:CB}(hc:X.calm=true)(hF:Fn1 X)(hg:Gl X x)(hm:X.mg x=Ab (.ref C))(hx:p8 X.K C Ae=true)(ha:PA X (e₀::qM) (tDA X fa))
  (hdb:(x == ("__debug__" : Ar))=false:=by decide) (he:A5 (e₀::qM) X.env=(false,eval e₀ X.env)::A5 qM X.env:=by rfl) (hpl:(Dh cpos (A5 qM X.env)).any (·.1)=false:=by rfl) :
  PS X (.Raise (Ab (.Call (.Name x np) (e₀::qM) [] cpos)) none pos) (tDS X (uU (.ref C) fa)):=by
 intro pins s σ H D I h;obtain⟨P,α,env,S,r,re,af⟩:=h;obtain⟨nm,qn,N,bs,tl,hdct,sn,sub,ab,col,dd,k0,k1,k2,k3,k5,mN,hC,hN,hni,T⟩:=YU I.mod.kin hx;refine wpAny_Raise_call_subT (C:=C) (nm:=nm) (q:=qn) (N:=N) (bs:=bs) (bm:=tl) (hdct:=hdct) (sn:=sn) (sub:=sub) (ab:=ab) (col:=col) (dd:=dd) (k0:=k0) (k1:=k1) (k2:=k2) (k3:=k3) (k5:=k5)
  Jv (mN:=mN) (T.hasType Jv.hasBase) (I.ok.hd hc) (by rw[he];show (false||(Dh cpos (A5 qM X.env)).any (·.1))=false;rw[hpl];rfl) hni (yE I hg hm ⟨rfl,?_⟩ hdb)
 have run:=Y6 ha I r re af cpos;rw[he] at run ⊢;refine Ot (thn run λus s2 ⟨vs,H1,P1,α1,ds,S1,I1,rv,r1,re1,rp,e1,e2,q⟩=>?_);have hl:us.length=ds.length:=by rw[rp.length,rv.length]
 by_cases hz:ds.length<=lim
 .rw[AA hz] at q
  refine⟨rfl,by rw[hl,<- zI];exact hz,I1.bk _ _ hC,hN.keeps I1.bk,T.keeps I1.bk,λh' e hm=>q _ _ ⟨e,pins,σ,H1,P1,α1,rfl,I1.kept (t':=s2.toks) hm.keeps,r1,qF.refl _,AG _,hF,.new s2.heap us hm I1.stack λb o eb old=>?_⟩⟩
  obtain⟨o1,q1⟩:=Old.there I1 hF old;have q2:=hm.keeps b o1 q1;rw[eb] at q2;cases q2;exact q1
 .rw[AB hz] at q;exact An q
end
section
variable {X:Cx}{pins:Aa (Ad × AV)}{σ : _L.St}{H:Hp}{s:Ag}
theorem eS {M:Gg}{A:AJ}{E:Ac->Ag->Prop}{base h:A8}{env:E0}{outer:Aa E0}{L e:Ad}{cls:Ac}{Q:IV->Ag->Prop}
  (hfr:A.frames=Ab (env::outer)) (hf:env.frame=Ab L) (hkb:base.StaysIn h) (hl:h.FunFrames base (env::outer)) (hx:Of h s.heap e cls args)
  (hQ:∀ h' a0,Us base (env::outer) e cls a0 L h'->s.heap.UpToSlots h'->Q () { s with heap:=h' }) : Ao M A (Kj (.ref e) env) Q E s:=by
 obtain⟨t,he,htn,ht⟩:=hx.there;have fresh:∀ b,h.get? b=none->base.get? b=none:=λb hb=>by
  cases hq:base.get? b with
  |none=>rfl
  |some o'=>have z:=hkb b o' hq;rw[hb] at z;cases z
 unfold Kj;simp only[hf];refine Af (Dc he rfl (x:=.none) rfl ?_);rw[AB (by decide)]
 refine wpAny_entryW hfr (hl.of_keeps λb o hb _=>⟨o,hx.keeps b o hb,rfl⟩) hf he (λb o hb=>hx.keeps b o (hkb b o hb)) (fresh e hx.new) rfl (by simp) (a0:=.ref t) rfl λh' hN=>?_
 obtain⟨n1,n2,n3,n4⟩:=hN;exact hQ h' (.ref t) ⟨n1,fresh e hx.new,n2,n3⟩ n4
theorem ZM {M:Gg}{A:AJ}{E:Ac->Ag->Prop}{c:Ac}{e:Ad}{Q:IV->Ag->Prop}(I:Inv X pins σ H s)(F:Fn1 X)(hA:A.frames=Ab X.stack)(f:FlyX X pins H c e s.heap)
  (hQ:∀ h' B a0,IQ B X.stack e c a0 h'->Inv X pins σ H { s with heap:=h' } -> Cv X pins H B h'->Q () { s with heap:=h' }) :
  Ao M A (Kj (.ref e) X.env) (λ_ s₂=>Ao M A (Qj (.ref e) none) Q E s₂) E s:=by
 have land:∀ (B:A8) (a0:Ac) (h1:A8),Cv X pins H B s.heap->Us B X.stack e c a0 X.env.locals h1->s.heap.UpToSlots h1->Ao M A (Qj (.ref e) none) Q E { s with heap:=h1 }:=λB a0 h1 cv hh up=>by
  refine wpAny_landsW (s:={ s with heap:=h1 }) hh λh2 f2 u2=>?_
  obtain⟨I2,cv2⟩:=Inv.fly I F cv f2.1 (up.trans u2);exact hQ h2 B a0 f2 I2 cv2
 cases f with
 |new g args hm hf hk =>
  obtain⟨k1,k2,k3⟩:=i9 I hm hf hk;rw[F.2.1] at hA;exact eS hA F.2.2 k1 (by rw[<- F.2.1];exact k2) hm λh' a0 x1 x2=>land _ a0 h' k3 (F.2.1▸x1) x2
 |fly B a0 fl cv =>
  rw[F.2.1] at hA;exact wpAny_looks_onW hA F.2.2 (by rw[<- F.2.1];exact fl) λh' x1 x2=>land B a0 h' cv (by rw[F.2.1];exact x1) x2
theorem dY {B:A8}{c a0:Ac}{e:Ad}(I:Inv X pins σ H s)(F:Fn1 X)(fl:IQ B X.stack e c a0 s.heap)(cv:Cv X pins H B s.heap):¬ Old X pins H e/\e ∉ frs X.stack/\∃ ob,s.heap.get? e=Ab ob/\ob.cls=c:=by
 obtain⟨oe,vs,he,hc,hd,_⟩:=fl.first
 have nf:e ∉ frs X.stack:=λz=>by
  obtain⟨_,o,ho,hn⟩:=I.stack.mem z;rw[he] at ho;cases ho;exact hn vs hd
 refine⟨λz=>?_,nf,oe,he,hc⟩;have q:=cv e oe he z nf;rw[fl.2.1] at q;cases q
theorem Inv.track {e:Ad}{c:Ac}{ob:AV}(I:Inv X pins σ H s)(F:Fn1 X)(no:¬ Old X pins H e)(nf:e ∉ frs X.stack)(he:s.heap.get? e=Ab ob)(hc:ob.cls=c):Inv X pins σ (upd H e (nW e c)) s:=by
 have hn:H e=none:=by
  cases q:H e with
  |none=>rfl
  |some u=>exact absurd (.inr (.inl (by rw[q];intro z;cases z))) no
 have nL:e≠X.env.locals:=λz=>nf (F.mem.mpr (.inl z));have n0:∀ b o,X.s₀.heap.get? b=Ab o->b≠e:=λb o q z=>no (.inl ⟨o,z▸q⟩);refine⟨I.ok,I.os,I.bare,⟨I.base.keep,I.base.slot,λb o q n hx=>?_,I.base.there,λb xs q=>?_,λb o xs q=>?_,λb ps q=>?_⟩,I.loc,I.cell,?_,λx k q=>?_,λp hp=>?_,λb u q=>?_,I.len⟩
 .rw[qI (n0 b o q)];exact I.base.free b o q n hx
 .have z:=I.base.tups b xs q
  rw[qI (qO z hn)];exact z
 .have z:=I.base.frzs b o xs q
  rw[qI (qO z hn)];exact z
 .obtain⟨m,z⟩:=I.base.tbls b ps q
  exact⟨m,by rw[qI (qO z hn)];exact z⟩
 .rw[qI (Dw nL)];exact I.free
 .have z:k≠e:=λz=>no (.inr (.inr (.inr ⟨x,z▸q⟩)))
  rw[qI z];exact I.freeC x k q
 .obtain⟨a1,a2,a3,a4,a5⟩:=I.pin p hp
  have z:p.1≠e:=λz=>no (.inr (.inr (.inl ⟨p,hp,z⟩)));exact⟨a1,by rw[qI z];exact a2,a3,a4,a5⟩
 .by_cases hb:b=e
  .subst hb
   rw[qT] at q;cases q;refine⟨⟨ob,he,hc⟩,⟨ob,he⟩,λh1 h2 ⟨o,q1,q2⟩ k=>⟨o,k o q1,q2⟩⟩
  .rw[qI hb] at q
   exact(I.hok b u q).stay (λ_ _ _ z=>z) (λk z=>by rw[qI (qO z hn)];exact z) λk xs z=>by rw[qI (qO z hn)];exact z
theorem Inv.gone {i t':Ah}{n:Ar}{h':A8}(I:Inv X pins σ H s)(hN:X.N.Nodup)(hi:X.N[i]? = Ab n){m:Ar->Ak Ac}{v:Ak Ac}(hl:∀ (j:Ah) (y:Ar) (w:V),X.N[j]? = Ab y->σ[j]? = Ab (Ab w)->Vis X.env.scope y->∃ u,qJ w u/\JJ X.env s.heap m y u)(hv:h'.Ns X.env.locals λy=>if y=n then v else m y)(sb:DL X.env.locals s.heap h') :
  Inv X pins (σ.set i none) H { s with heap:=h',toks:=t' }:=by
 have neL:∀ b o,X.s₀.heap.get? b=Ab o->b≠X.env.locals:=λb o e=>AS (Au (Ax e) I.ok.above);have kp:∀ b o,b≠X.env.locals->s.heap.get? b=Ab o->h'.get? b=Ab o:=λb o n e=>(sb.2 b n).trans e;refine⟨I.ok,I.os,I.bare,⟨λb o e n hb hx=>kp b o (neL b o e) (I.base.keep b o e n hb hx),λb o e n hb hx=>?_,I.base.free,λb o e hx=>?_,I.base.tups,I.base.frzs,I.base.tbls⟩,⟨_,hv,λj y w e1 e2 e3=>?_⟩,λx c e=>?_,I.free,I.freeC,λp hp=>?_,λb u q=>?_,by simpa using I.len⟩
 .obtain⟨sl,q⟩:=I.base.slot b o e n hb hx
  exact⟨sl,kp b _ (neL b o e) q⟩
 .obtain⟨o',q⟩:=I.base.there b o e hx
  exact⟨o',kp b o' (neL b o e) q⟩
 .have hj:i≠j:=λz=>by
   subst z;by_cases hs:i<σ.length
   .rw[CJ hs] at e2;cases e2
   .rw[Ia (by simp;omega)] at e2;cases e2
  rw[By hj] at e2;obtain⟨u,r,l⟩:=hl j y w e1 e2 e3;refine⟨u,r,?_⟩;rcases l with⟨k,z⟩|⟨k,c,z,zc⟩
  .refine .inl ⟨k,?_⟩
   have:y≠n:=λz=>hj (pL hN hi (z▸e1));simp[this,z]
  .exact .inr ⟨k,c,z,zc.sameBut sb (I.cne y c z)⟩
 .obtain⟨w,z⟩:=I.cell x c e
  exact⟨w,z.sameBut sb (I.cne x c e)⟩
 .obtain⟨e,n,ne,nf,d⟩:=I.pin p hp
  exact⟨kp p.1 p.2 ne e,n,ne,nf,d⟩
 .refine(I.hok b u q).stay (λc w hc z=>kp c w ?_ z) (λ_ z=>z) λ_ _ z=>z
  rintro rfl;rcases hc with rfl|hc
  .rw[I.free] at q;cases q
  .rw[I.free] at hc;cases hc
theorem dZ {A:AJ}{E:Ac->Ag->Prop}{i:Ah}{n:Ar}{pos:CB}{Q:IV->Ag->Prop}(I:Inv X pins σ H s)(hN:X.N.Nodup)(hi:X.N[i]? = Ab n)(hlo:X.env.scope.names.lookup n=Ab .local)
  (h:∀ s',Inv X pins (σ.set i none) H s'->Q () s'):Ao M A (do OP X.env n .none;unbindBehindTheSuite X.env n pos) Q E s:=by
 obtain⟨m,hm,hl⟩:=id I.loc;exact wpAny_nameGoes_keeps hlo hm (by rw[I.ok.kind];rfl) λh' v hv sb=>h _ (Inv.gone I hN hi hl hv sb)
end
abbrev Cx.tryIn (X:Cx)(E:Ac->Ag->Prop)(pn:Aa (Ad × AV)):Cx:={ X with xe:=E,pn:=pn }
abbrev Cx.suite (X:Cx)(e:Ad):Cx:=Cx.re X (X.A.mark (Ab (.ref e))) false λ_ _=>CA
noncomputable def pN (N i:Ah)(cs:Aa Ac)(f g:DS):DS:=λenv S=>match f env S with
 |.ex c x env1 S1=>if cs.contains c then (match g ((EB N none).set i (Ab (.exn c))) S1 with
   |.rt d S2=>.rt d S2
   |.nx env2 S2=>.nx (env2.set i none) S2
   |_=>.bad) else .bad
 |o=>o
section
variable {X:Cx}{pins:Aa (Ad × AV)}{σ : _L.St}{H:Hp}{s:Ag}
theorem Inv.inTry (I:Inv X pins σ H s)(E:Ac->Ag->Prop):Inv (Cx.tryIn X E (X.pn++pins)) [] σ H s:=
 ⟨⟨I.ok.mod,I.ok.kind,I.ok.glob,I.ok.blt,I.ok.above,I.ok.inj,I.ok.has,I.ok.cab,I.ok.hd,I.ok.frames,I.ok.stk,I.ok.exf,I.ok.bs,I.ok.bsz,I.ok.noex,I.ok.exfs,I.ok.funs,I.ok.frf⟩,I.os,I.bare,I.base,I.loc,I.cell,I.free,I.freeC,λp hp=>I.pin p (by simpa using hp),I.hok,I.len⟩
theorem Inv.outTry {E:Ac->Ag->Prop}(I:Inv (Cx.tryIn X E (X.pn++pins)) more σ H s):Inv X pins σ H s:=
 ⟨⟨I.ok.mod,I.ok.kind,I.ok.glob,I.ok.blt,I.ok.above,I.ok.inj,I.ok.has,I.ok.cab,I.ok.hd,I.ok.frames,I.ok.stk,I.ok.exf,I.ok.bs,I.ok.bsz,I.ok.noex,I.ok.exfs,I.ok.funs,I.ok.frf⟩,I.os,I.bare,I.base,I.loc,I.cell,I.free,I.freeC,λp hp=>I.pin p (AT _ hp),I.hok,I.len⟩
theorem SP.outTry {E:Ac->Ag->Prop}{D:Ends}{f:Flow}{s':Ag}(h:SP (Cx.tryIn X E (X.pn++pins)) [] D f s'):SP X pins D f s':=by
 cases f with
 |next=>obtain⟨σ',H',I,q⟩:=h;exact⟨σ',H',Inv.outTry I,q⟩
 |brk=>obtain⟨σ',H',I,q⟩:=h;exact⟨σ',H',Inv.outTry I,q⟩
 |cont=>obtain⟨σ',H',I,q⟩:=h;exact⟨σ',H',Inv.outTry I,q⟩
 |ret u=>obtain⟨v,σ',H',I,r,q⟩:=h;exact⟨v,σ',H',Inv.outTry I,r,q⟩
theorem FlyX.outTry {E:Ac->Ag->Prop}{c:Ac}{e:Ad}{h:A8}(f:FlyX (Cx.tryIn X E (X.pn++pins)) more H c e h):FlyX X pins H c e h:=by
 have old:∀ b,Old X pins H b->Old (Cx.tryIn X E (X.pn++pins)) more H b:=λb o=>by
  rcases o with o|o|⟨p,hp,z⟩|o
  .exact .inl o
  .exact .inr (.inl o)
  .exact .inr (.inr (.inl ⟨p,AT _ hp,z⟩))
  .exact .inr (.inr (.inr o))
 cases f with
 |new g args hm hf hk=>exact .new g args hm hf λb o e q=>hk b o e (old b q)
 |fly B a0 fl cv=>exact .fly B a0 fl λb o e q n=>cv b o e (old b q) n
theorem o6 {K:Ai}{P:Hp}{α:Aa Ad}{n:Ah}(h:σ.length=n):qV K P α σ (EB n none):=by
 refine⟨by simp[h],λi d e=>?_⟩
 rw[Hy] at e
 split at e <;> cases e
theorem qV.unset {K:Ai}{P:Hp}{α:Aa Ad}{env:qE}(re:qV K P α σ env)(i:Ah):qV K P α (σ.set i none) (env.set i none):=by
 refine⟨by simp[re.1],λj d e=>?_⟩
 by_cases hj:i=j
 .subst hj
  by_cases hi:i<env.length
  .rw[CJ hi] at e;cases e
  .rw[Ia (by simp;omega)] at e;cases e
 .rw[By hj] at e ⊢
  exact re.2 j d e
end
section
variable {X:Cx}{pos:CB}{f g:DS}
theorem GN {pins:Aa (Ad × AV)}{D:Ends}{c:Ac}{e C0:Ad}{s':Ag}{σ:_L.St}{H P:Hp}{α:Aa Ad}{x n:Ar}{i:Ah}{b₀:CF}{suite:Aa CF}{hpos:CB}
  (F:Fn1 X) (hg:Gl X x) (hm:X.mg x=Ab (.ref C0)) (hcs:∀ c∈cs,Fd X.K c (.ref C0)=Ab true) (hN:X.N.Nodup) (hi:X.N[i]? = Ab n) (hlo:X.env.scope.names.lookup n=Ab .local)
  (hs:∀ e,PSs (Cx.suite X e) (b₀::suite) (tDS (Cx.suite X e) g)) (hc:cs.contains c=true) (I:Inv X pins σ H s') (r:Rel X.K H P α S1) (fl:FlyX X pins H c e s'.heap)
  (af:qX X P α (match g ((EB X.N.length none).set i (Ab (.exn c))) S1 with|.rt d S2=>.rt d S2|.nx env2 S2=>.nx (env2.set i none) S2|_=>.bad) D) (hdb:(x == ("__debug__" : Ar))=false) :
  Ao (Aq X.prog X.w) X.A (Kj (.ref e) X.env) (λ_ s₂=>Ao (Aq X.prog X.w) X.A (Qj (.ref e) none) (λ_ s₃ =>
   Ao (Aq X.prog X.w) X.A (handleBy (.ref e) X.env [.ExceptHandler (Ab (.Name x np)) (Ab n) (b₀::suite) hpos]) (SP X pins D) X.xe s₃) X.xe s₂) X.xe s':=by
 have hcs':Fd X.K c (.ref C0)=Ab true:=hcs c (by simpa using hc)
 have Z:∀ {σ : _L.St} {H:Hp} {s:Ag},Inv X pins σ H s->Inv (Cx.suite X e) pins σ H s:=λI=>Inv.re I _ false _ I.ok.frames λz=>nomatch z;refine ZM I F I.ok.frames fl λh5 B a0 f5 I5 cv5=>?_;refine wpAny_handleBy_cons (codeAny_handlers_test (A:=X.A.mark (Ab (.ref e))) (yE (X:=Cx.suite X e) (Z I5) hg hm ?_ hdb)) (by intro q;cases q)
 obtain⟨no5,nf5,ob5,he5,hc5⟩:=dY I5 F f5 cv5;refine(PySem.W.exm_one I5.kIn (by subst hc5;exact(Vb he5).andThen .now) hcs').at ?_
 refine codeAny_handlers_suite_as ?_;refine lands_againW (s:={ s' with heap:=h5 }) f5 λh6 f6 u6=>?_
 obtain⟨I6,cv6⟩:=Inv.fly I5 F cv5 f6.1 u6;obtain⟨no6,nf6,ob6,he6,hc6⟩:=dY I6 F f6 cv6;have J6:Inv X pins σ (upd H e (nW e c)) { s' with heap:=h6 }:=Inv.track I6 F no6 nf6 he6 hc6
 have hn:H e=none:=by
  cases q:H e with
  |none=>rfl
  |some u=>exact absurd (.inr (.inl (by rw[q];intro z;cases z))) no6
 obtain⟨r1,sP⟩:=r.pure (o:=nW e c) hn;refine yF (X:=Cx.suite X e) (v:=.ref e) (Z J6) hN hi (.inl hlo) rfl (λs7 I7=>?_) (.inr hlo);have re7:qV X.K (upd P e (nW e c)) α (σ.set i (Ab (.ref e))) ((EB X.N.length none).set i (Ab (.exn c))):=(o6 I.len).set i (by simp only[Rep];exact⟨e,rfl,qT⟩)
 refine Dq (hs e pins s7 _ _ { nx:=λσ' H'=>D.nx (σ'.set i none) H',rt:=D.rt } I7 ⟨_,α,_,S1,r1,re7,?_⟩) (λfl s8 q=>?_) λ_ _ z=>An z
 .cases q:g ((EB X.N.length none).set i (Ab (.exn c))) S1 with
  |rt d S2=>rw[q] at af;exact λv H' P' α' r' e1 e2 rp=>af v H' P' α' r' (sP.trans e1) e2 rp
  |nx env2 S2=>rw[q] at af;exact λσ' H' P' α' r' re' e1 e2=>af _ H' P' α' r' (qV.unset re' i) (sP.trans e1) e2
  |bk env2 S2=>rw[q] at af;exact An af
  |ct env2 S2=>rw[q] at af;exact An af
  |ex c' x' env2 S2=>rw[q] at af;exact An af
  |bad=>rw[q] at af;exact An af
 .cases fl with
  |next =>
   obtain⟨σ',H',I8,q⟩:=q;exact dZ (Inv.unre I8 I.ok.frames I.ok.hd) hN hi hlo λs9 I9=>⟨_,H',I9,q⟩
  |brk =>
   obtain⟨_,_,_,q⟩:=q;exact An q
  |cont =>
   obtain⟨_,_,_,q⟩:=q;exact An q
  |ret u =>
   obtain⟨v,σ',H',I8,rv,q⟩:=q;exact dZ (Inv.unre I8 I.ok.frames I.ok.hd) hN hi hlo λs9 I9=>⟨v,_,H',I9,rv,q⟩
set_option tactic.hygienic true in
theorem G8 {x n:Ar}{C0:Ad}{i:Ah}{b₀:CF}{suite:Aa CF}{np hpos:CB}(F:Fn1 X)(hb:∀ E pn,IC (Aq X.prog X.w) X.A X.env E->PSs (Cx.tryIn X E pn) body (tDS (Cx.tryIn X E pn) f))
  (hs:∀ e,PSs (Cx.suite X e) (b₀::suite) (tDS (Cx.suite X e) g)) (hg:Gl X x) (hm:X.mg x=Ab (.ref C0)) (hcs:∀ c∈cs,Fd X.K c (.ref C0)=Ab true) (hN:X.N.Nodup) (hi:X.N[i]? = Ab n:=by rfl) (hlo:X.env.scope.names.lookup n=Ab .local:=by rfl)
  (hdb:(x == ("__debug__" : Ar))=false:=by decide):PS X (.Try body [.ExceptHandler (Ab (.Name x np)) (Ab n) (b₀::suite) hpos] [] [] pos) (tDS X (pN X.N.length i cs f g)):=by
 intro pins s σ H D I h;obtain⟨P,α,env,S,r,re,af⟩:=h;refine wpAny_Try_except ?_;refine Dq (hb _ (X.pn++pins) (PassesOwn.looking (K:=λe s₂=>Ao (Aq X.prog X.w) X.A (Qj e none) (λ_ s₃=>Ao (Aq X.prog X.w) X.A (handleBy e X.env [.ExceptHandler (Ab (.Name x np)) (Ab n) (b₀::suite) hpos]) (SP X pins D) X.xe s₃) X.xe s₂) (E₁:=X.xe))
  [] s σ H D (Inv.inTry I _) ⟨P,α,env,S,r,re,?_⟩) (λfl s1 q=>?_) λ_ _ z=>z
 .unfold pN at af
  cases q:f env S with
  |rt d S2=>rw[q] at af;exact af
  |nx env2 S2=>rw[q] at af;exact af
  |bk env2 S2=>rw[q] at af;exact af
  |ct env2 S2=>rw[q] at af;exact af
  |bad=>rw[q] at af;exact af
  |ex c x' env2 S2 =>
   rw[q] at af;dsimp only at af;intro u s' k;obtain⟨e,pins',σ',H',P',α',rfl,I',r',e1,e2,F',fl⟩:=k
   split at af
   .rename_i hc
    exact GN F hg hm hcs hN hi hlo hs hc (Inv.outTry I') r' (FlyX.outTry fl) (qX.base e1 e2 af) hdb
   .exact An af
 .have q':=SP.outTry q
  cases fl with
  |next=>exact Hk q'
  |brk=>exact q'
  |cont=>exact q'
  |ret u=>exact q'
end
end _D
namespace _D
open PySem PySem.Spec PyProof.Rows _L PySem.W
variable {R:OQ->Ag->Prop}
structure ExnK (K:Ai)(C:Ad):Prop where
 ga:findIn K (.ref C) "__getattribute__" = Ab (Ab (.builtin "BaseException.__getattribute__"))
 hk:findIn K (.ref C) "__getattr__" = Ab none
 cl:findIn K (.ref C) "__class__" = Ab (Ab (.builtin "object.__class__"))
 sp:specialIn K (.builtin "object.__class__") "__get__" = Ab (Ab (.builtin "getset_descriptor.__get__"))
 tk:takesIn K (.builtin "object.__class__")=Ab true
 mo:mroIn K C (.type "object")=Ab true
 mb:mroIn K C (.type "BaseException")=Ab true
 isC:(clsIn K C).isSome=true
section
variable {prog:Az}{w:AL}{A:AJ}{E:Ac->Ag->Prop}{s:Ag}{K:Ai}{x C:Ad}
abbrev yG (x C:Ad)(h:A8):Prop:=∃ ob,h.get? x=Ab ob/\ob.cls=.ref C
theorem yG.type {M:Gg}{h:A8}(I:yG x C h):Looks M h (Sw (.ref x)) (.ref C):=by
 obtain⟨ob,e,c⟩:=I;rw[<- c];exact(Looks.ld e).andThen .now
theorem QY {M:Gg}{h:A8}(X:K.In h)(Z:ExnK K C):Looks M h (Ua (.ref x) (.ref C) "__class__") (.bind (.builtin "getset_descriptor.__get__") (.builtin "object.__class__")):=by
 have l1:=Pk (M:=M) X Z.cl;have l2:Looks M h (Tw (Ab (.builtin "object.__class__"))) (Ab (.builtin "getset_descriptor.__get__")):=looks_specialIn X Z.sp;have l3:=looks_takesIn (M:=M) X Z.tk;have l4:Looks M h (Pl (Ab (.builtin "object.__class__")) (Ab (.builtin "getset_descriptor.__get__"))) (Ab (.builtin "getset_descriptor.__get__",.builtin "object.__class__")):=l3.andThen .now;exact l1.andThen (l2.andThen (l4.andThen (Looks.tag .now)))
theorem YV {tp:Ac}(X:K.In s.heap)(Z:ExnK K C)(I:yG x C s.heap)(h:R (.ok (.ret (.ref C))) s) :
  El (Aq prog w) A (.call (.builtin "getset_descriptor.__get__") ⟨[.builtin "object.__class__",.ref x,tp],[]⟩) R s:=by
 have LT:=yG.type (M:=Aq prog w) I;have LM:=looks_mroIn (M:=Aq prog w) X Z.mo;cases s;refine Gs KF.slot_gs.plain KF.entry_gs (KF.slot_gs.check _ _ _ _ _ _ _ _ KF.type_class (KF.args_gs _ _ _) ?_);unfold EU.«getset_descriptor.__get__» Pm;rw[dga_obj];refine Af (Al ?_);unfold OE Mn My isInstance;simp only[KF.owner_class]
 repeat lk
 refine⟨Jn _ (by decide +kernel),Ex KF.entry_class ?_⟩
 unfold EU.«object.__class__» shownTypeOf
 repeat lk
 exact h
theorem GF {tk:Pv}(X:K.In s.heap)(Z:ExnK K C)(I:yG x C s.heap)(h:R (.ok (.ret (.ref C))) s) :
  El (Aq prog w) A (.call (.builtin "BaseException.__getattribute__") ⟨[.ref x,.str "__class__" tk],[]⟩) R s:=by
 have LT:=yG.type (M:=Aq prog w) I;have LM:=looks_mroIn (M:=Aq prog w) X Z.mb;have LF:=QY (M:=Aq prog w) (x:=x) X Z;have hk:builtinKind "BaseException.__getattribute__" = Ab .slot:=by decide +kernel
 have hsp:splitId "BaseException.__getattribute__" = Ab ("BaseException","__getattribute__"):=by decide +kernel
 have chk:∀ (A:AJ) (Q:IV->Ag->Prop) (E:Ac->Ag->Prop),Q () s->Ao (Aq prog w) A (Lr "BaseException.__getattribute__" ⟨[.ref x,.str "__class__" tk],[]⟩) Q E s:=by
  intro A Q E hq;have ha:=PySem.F.args_bexc_ga (.ref x) (.str "__class__" tk);simp only[Lr,hk,hsp];unfold isInstance;refine Af (Af (LT.here (LM.here ?_)))
  repeat (any_goals (first|assumption|wp_step))
 refine Gs Md.ga.plain PySem.F.entry_bexc_ga (chk _ _ _ ?_);cases s;unfold EU.«object.__getattribute__»;refine Af (Jw (show slotArgs "__getattribute__" 1 ⟨[.ref x,.str "__class__" tk],[]⟩=pure (.ref x,[.str "__class__" tk]) from by kernel_rfl) ?_)
 refine Af (Al (Af (LT.at (Af (LF.at ?_)))));show Ao _ _ (Kk _ _ _ _) _ _ _;unfold Kk;dsimp only;exact Af (Cp (IW (YV X Z I (Al h))))
theorem aE {Q:Ak Ac->Ag->Prop}(X:K.In s.heap)(Z:ExnK K C)(I:yG x C s.heap)(h:Q (Ab (.ref C)) { s with toks:=s.toks+1 }) : Ao (Aq prog w) A (getAttr? (.ref x) "__class__") Q E s:=by
 have LT:=yG.type (M:=Aq prog w) I;have L1:=Pk (M:=Aq prog w) X Z.ga;have lk2:=Pk (M:=Aq prog w) X Z.hk;unfold getAttr? getAttrBy? getAttrBy;cases s;refine Af (wpAny_mkText (Af (Gb (Cp (Af (LT.at (Af (L1.at ?_))))))));dsimp only;have hx2:(Ti "BaseException.__getattribute__" == Ti "object.__getattribute__")=false:=by decide +kernel
 rw[hx2,Og,AB ED];unfold getAttrByItsOwn hookBefore;rw[AA (show onTheHeap (.ref C)=true from rfl)]
 refine Af (lk2.at (Af (Gb (Cp ?_))));unfold callGetattribute;rw[Jb,AB ED];unfold boundAndCalled;refine Af (Jw (Md.ga.bind (.ref x)) ?_);refine IW (GF X Z I ?_);show Ao _ _ (handedOut (.ref C)) _ _ _;exact Al (Al h)
set_option tactic.hygienic true in
theorem lD (Z:ExnK K C):KitX K (.ref x) (.ref C) (yG x C) where
 ty:=λ_ _ _ I=>I.type
 it:=λM h X _=>by
  have z:=Z.isC;unfold clsIn at z
  split at z
  .rename_i ho
   intro A' Q' E' s' k q;unfold isType loadHead;exact Af (wpAny_loadPart (k _ _ (X _ _ ho)) (Al q))
  .cases z
 ne:=λh tp dd its n sl X htp=>by
  have z:=Z.isC;unfold clsIn at z
  split at z
  .rename_i ho
   cases hq:(Ba C == Ba tp) with
   |false=>rfl
   |true =>
    obtain rfl:C=tp:=Value.ref.inj (Ls.mp hq);have y:=(X _ _ ho).symm.trans htp;cases y
  .cases z
 ca:=λX I k=>aE X Z I k
end
end _D
namespace _D
open PySem PySem.Spec PyProof.Rows _L
variable {o:AV}{cells:Aa (Ar × Ad)}{α α1:Aa Ad}{ds:Aa D}{C:Ad}{s:Ag}{K:Ai}{H P P1:Hp}{S S1:Sto}
theorem uF {α:Type}{t:Gf α}{Q Q':α->Ag->Prop}{M:Gg}{A:AJ}{E:Ac->Ag->Prop}(h:Ao M A t Q (λ_ _=>CA) s)(hQ:∀ a s,Q a s->Q' a s):Ao M A t Q' E s:=Dq h hQ λ_ _ x=>x.elim
noncomputable def uV (ifs:Aa AH)(env:E0):Gf Ap:=forIn ifs true λc r=>if r=true then do let ok <- PySem.isTrue c env (eval c env);pure (IG ok) else pure (IG r)
def PTs (X:Cx)(ifs:Aa AH)(t:DT):Prop:=
 ∀ (pins:Aa (Ad × AV)) (s:Ag) (σ : _L.St) (H:Hp) (Q:Ap->Hp->Prop),Inv X pins σ H s->tDT X t σ H Q->Ao (Aq X.prog X.w) X.A (uV ifs X.env) (TP X pins σ Q) X.xe s
noncomputable def wF:DT:=λ_ S=>.ok true S
section
variable {X:Cx}
theorem YQ:PTs X [] wF:=λpins s σ H Q I ⟨P,α,env,S,r,re,af⟩=>by
 unfold uV;rw[Jd];exact Al ⟨H,I,af H P α r (qF.refl _) (AG _)⟩
theorem BM {e:AH}{f:DE}{pins:Aa (Ad × AV)}{σ:_L.St}{env:qE}{d:D}(he:PE X e (tD X f))(I:Inv X pins σ H s)(r:Rel X.K H P α S)(re:qV X.K P α σ env)(q:f env S=.ok d S1) :
  Ao (Aq X.prog X.w) X.A (eval e X.env) (λu s1=>∃ v H1 P1 α1,Got X pins σ env P α u s1 v H1 P1 α1 d S1) X.xe s:=by
 refine thn (zJ (g:=λd S=>Res.ok d S) (Ok:=λd' S'=>d'=d/\S'=S1) he I r re (by rw[q];exact⟨rfl,rfl⟩)) λu s1 ⟨v,H1,P1,α1,d',S',G,h1,h2⟩=>?_
 have e1:d'=d:=h1;have e2:S'=S1:=h2;subst e1;subst e2;exact⟨v,H1,P1,α1,G⟩
theorem NC {ifs:Aa AH}{t:DT}{pins:Aa (Ad × AV)}{σ:_L.St}{env:qE}{b:Ap}(he:PTs X ifs t)(I:Inv X pins σ H s)(r:Rel X.K H P α S)(re:qV X.K P α σ env)(q:t env S=.ok b S1) :
  Ao (Aq X.prog X.w) X.A (uV ifs X.env) (λb' s1=>b'=b/\∃ H1 P1 α1,Inv X pins σ H1 s1/\Rel X.K H1 P1 α1 S1/\qV X.K P1 α1 σ env/\qF P P1/\α<+:α1) X.xe s:=by
 refine thn (he pins s σ H (λb' H1=>b'=b/\∃ P1 α1,Rel X.K H1 P1 α1 S1/\qV X.K P1 α1 σ env/\qF P P1/\α<+:α1) I ⟨P,α,env,S,r,re,?_⟩) λb' s1 ⟨H1,I1,e,P1,α1,q1,q2,q3,q4⟩=>⟨e,H1,P1,α1,I1,q1,q2,q3,q4⟩;rw[q];exact λH' P' α' r' e1 e2=>⟨rfl,P',α',r',re.mono e1 e2,e1,e2⟩
theorem DP {tg:AH}{g:DG}{pins:Aa (Ad × AV)}{σ:_L.St}{env env1:qE}{d:D}{v:V}{u:Ac}(hg:PG X tg (tDG X g))(I:Inv X pins σ H s)(r:Rel X.K H P α S)(re:qV X.K P α σ env)(rv:qJ v u)
  (rp:Rep X.K P α d v) (q:g d env S=.ok env1 S1) :
  Ao (Aq X.prog X.w) X.A (assign tg X.env u) (λ_ s1=>∃ σ1 H1 P1 α1,Inv X pins σ1 H1 s1/\Rel X.K H1 P1 α1 S1/\qV X.K P1 α1 σ1 env1/\qF P P1/\α<+:α1) X.xe s:=by
 refine thn (hg pins s σ H v u (λσ1 H1=>∃ P1 α1,Rel X.K H1 P1 α1 S1/\qV X.K P1 α1 σ1 env1/\qF P P1/\α<+:α1) I rv ⟨P,α,env,S,d,r,re,rp,?_⟩) λ_ s1 ⟨σ1,H1,I1,P1,α1,q1,q2,q3,q4⟩=>⟨σ1,H1,P1,α1,I1,q1,q2,q3,q4⟩;rw[q];exact λσ' H' P' α' r' re' e1 e2=>⟨P',α',r',re',e1,e2⟩
def k9 (K:Ai)(P:Hp)(α : Aa Ad)(ds:Aa D)(o:AV):Prop:=∃ (its:Aa Ac) (n:Ah) (vs:Aa V),o={ cls:=.type "list",data:=.seq its.toArray n } /\ qK vs its/\qD K P α ds vs/\ds.length<=lim
theorem k9.mono (e:qF P P1)(h:α<+:α1)(a:k9 K P α ds o):k9 K P1 α1 ds o:=by
 obtain⟨its,n,vs,q1,q2,q3,q4⟩:=a;exact⟨its,n,vs,q1,q2,qD.mono e h _ _ q3,q4⟩
theorem k9.cell (a:k9 K P α ds o):∀ v,o.data≠.cell v:=by
 obtain⟨its,n,vs,rfl,_⟩:=a;intro v z;cases z
theorem Inv.pin1 {pins:Aa (Ad × AV)}{σ:_L.St}{a:Ad}(I:Inv X pins σ H s)(f:zO X pins H a)(e:s.heap.get? a=Ab o)(d:∀ v,o.data≠.cell v):Inv X (pins++[(a,o)]) σ H s:=
 I.pins_of λp hp=>(AX.mp hp).elim (λz=>I.pin p (A3 _ z)) λz=>by
  have e':p=(a,o):=by simpa using z
  subst e';exact⟨e,f.1,f.2.1,f.2.2.1,d⟩
theorem Inv.pinned1 {pins:Aa (Ad × AV)}{σ:_L.St}{a:Ad}(I:Inv X (pins++[(a,o)]) σ H s):s.heap.get? a=Ab o/\H a=none:=by
 have:=I.pin (a,o) (A3 _ (A3 _ (by simp)))
 exact⟨this.1,this.2.1⟩
end
structure Acc where
 m:Ap
 O:Ai->Hp->Aa Ad->Aa D->AV->Prop
 mono:∀ {K:Ai} {P P1:Hp} {α α1:Aa Ad} {ds:Aa D} {o:AV},qF P P1->α<+:α1->O K P α ds o->O K P1 α1 ds o
 cell:∀ {K:Ai} {P:Hp} {α : Aa Ad} {ds:Aa D} {o:AV},O K P α ds o->∀ v,o.data≠.cell v
@[reducible] def accL:Acc:=⟨false,k9,k9.mono,k9.cell⟩
noncomputable def zX (m:Ap)(elt:AH)(gens:Aa Bm)(scope:Cj)(pos:CB):AH:=match m with
 |false=>.ListComp elt gens scope pos
 |true=>.SetComp elt gens scope pos
structure TurnSt (B:Acc)(Y:Cx)(pins:Aa (Ad × AV))(P1:Hp)(α1:Aa Ad)(fp:Aa Ad)(acc:Ad)(env:qE)(S:Sto)(ds:Aa D)(s:Ag)(σ : _L.St)(H P:Hp)(α : Aa Ad)(o:AV):Prop where
 inv:Inv Y pins σ H s
 rel:Rel Y.K H P α S
 env:qV Y.K P α σ env
 same:qF P1 P
 pre:α1<+:α
 fpn:∀ b∈fp,H b=none
 acn:H acc=none
 at':s.heap.get? acc=Ab o
 acc:B.O Y.K P α ds o
noncomputable def xK (cells:Aa (Ar × Ad)):Aa (Ar × Es)->Aa (Ar × Ad)->Aa (Ar × Ad)
 |[],cs=>cs
 |(n,k)::r,cs=>xK cells r (if k == .free then (n,(cells.lookup n).getD 0)::cs else cs)
theorem jZ {env:E0}{scope:Cj}(h:∀ y∈scope.names,y.2=.free->∃ c,env.cells.lookup y.1=Ab c):Lu scope env=pure (xK env.cells scope.names []):=by
 have go:∀ (l:Aa (Ar × Es)) (cs:Aa (Ar × Ad)),(∀ y∈l,y.2=.free->∃ c,env.cells.lookup y.1=Ab c) ->
   (forIn l cs λx cs=>match x with|(name,kind)=>if (kind == Dr)=true then do let a <- cellOf env name;pure (IG ((name,a)::cs)) else pure (IG cs):Gf (Aa (Ar × Ad)))=pure (xK env.cells l cs):=by
  intro l
  induction l with
  |nil=>intro cs _;rfl
  |cons y r ih =>
   intro cs hl;obtain⟨n,k⟩:=y;rw[Mz];by_cases hk:k=.free
   .subst hk
    obtain⟨c,hc⟩:=hl (n,.free) Cf rfl;have hc':env.cells.lookup n=Ab c:=hc;have e:cellOf env n=pure c:=by unfold cellOf;rw[hc']
    simp only[Do,Cc,e,pure_bind];rw[ih _ λz hz=>hl z (Bc _ hz)];simp only[xK,Do,Cc,hc',Ic]
   .have hb:(k == Dr)=false:=by simpa using hk
    simp only[hb,AI,Ci,pure_bind];rw[ih _ λz hz=>hl z (Bc _ hz)];simp only[xK,hb,AI,Ci]
 unfold Lu;have:=go scope.names [] h;simp only[bind_pure];exact this
theorem uA {x:Ar}{c:Ad}:∀ (l:Aa (Ar × Es)) (cs:Aa (Ar × Ad)),(xK cells l cs).lookup x=Ab c->cs.lookup x=Ab c\/((x,Dr)∈l/\c=(cells.lookup x).getD 0)
 |[],cs,h=>.inl h
 |(n,k)::r,cs,h=>by
  rcases uA r _ h with h|⟨h1,h2⟩
  .by_cases hk:k=.free
   .subst hk
    simp only[Do,Cc,Fh] at h;cases hb:x == n with
    |true =>
     rw[hb] at h;have e:x=n:=by simpa using hb
     subst e;exact .inr ⟨Cf,(Bg h).symm⟩
    |false=>rw[hb] at h;exact .inl h
   .have hb:(k == Dr)=false:=by simpa using hk
    simp only[hb,AI,Ci] at h;exact .inl h
  .exact .inr ⟨Bc _ h1,h2⟩
theorem vQ {x:Ar}:∀ (l:Aa (Ar × Es)) (cs:Aa (Ar × Ad)),((x,Dr)∈l\/∃ c,cs.lookup x=Ab c)->∃ c,(xK cells l cs).lookup x=Ab c
 |[],cs,h=>by
  rcases h with h|h
  .cases h
  .exact h
 |(n,k)::r,cs,h=>by
  refine vQ r _ ?_;rcases h with h|⟨c,h⟩
  .rcases AD.mp h with e|h
   .cases e
    exact .inr ⟨(cells.lookup x).getD 0,by simp only[Do,Cc,Fh]⟩
   .exact .inl h
  .by_cases hk:k=.free
   .subst hk
    simp only[Do,Cc,Fh];cases hb:x == n with
    |true=>exact .inr ⟨_,rfl⟩
    |false=>exact .inr ⟨c,h⟩
   .have hb:(k == Dr)=false:=by simpa using hk
    simp only[hb,AI,Ci];exact .inr ⟨c,h⟩
structure CompSc (scX:Cj)(NX:Aa Ar)(scope:Cj)(N':Aa Ar)(cap:Aa (Ak Ah)):Prop where
 kind:scope.kind=.function
 names:∀ y∈scope.names,y.2=.local -> scope.names.lookup y.1=Ab .local
 cel:∀ y∈scope.names,y.2=.cell->scope.names.lookup y.1=Ab .cell
 free:∀ y∈scope.names,y.2=.free->scX.names.lookup y.1=Ab .cell\/scX.names.lookup y.1=Ab .free
 fr2:∀ y∈scope.names,y.2=.free->scope.names.lookup y.1=Ab .free
 len:cap.length=N'.length
 caps:((cap.zip N').all λp=>match p.1 with|none=>true|some i=>NX[i]? == Ab p.2&&scope.names.lookup p.2 == Ab .free)=true
 nd:N'.Nodup
noncomputable def y8 (cap:Aa (Ak Ah))(σ : _L.St):_L.St:=cap.map λo=>match o with
 |none=>none
 |some i=>(σ[i]?).join
noncomputable def zW (cap:Aa (Ak Ah))(env:qE):qE:=cap.map λo=>match o with
 |none=>none
 |some i=>(env[i]?).join
theorem iZ {σ:_L.St}{env:qE}(re:qV K P α σ env)(cap:Aa (Ak Ah)):qV K P α (y8 cap σ) (zW cap env):=by
 refine⟨by simp[y8,zW],λj d e=>?_⟩
 unfold zW at e;unfold y8;rw[Br] at e ⊢;cases q:cap[j]? with
 |none=>rw[q] at e;cases e
 |some o =>
  rw[q] at e;cases o with
  |none=>cases e
  |some i =>
   have e':(env[i]?).join=Ab d:=by simpa using e
   cases z:env[i]? with
   |none=>rw[z] at e';cases e'
   |some w =>
    rw[z] at e';have e'':w=Ab d:=e';subst e'';obtain⟨v,h1,h2⟩:=re.2 i d z;exact⟨v,by simp[h1],h2⟩
noncomputable def qQ (X:Cx)(N':Aa Ar)(scope:Cj)(cl:Aa (Ar × Ad))(C:Ad)(ex:Aa Ad)(s₀:Ag)(H₀:Hp):Cx:=
 { X with N:=N',s₀:=s₀,H₀:=H₀,env:=compEnvC scope cl C X.env,outer:=X.stack,stack:=X.stack,ex:=ex,fn:=λx=>decide (scope.names.lookup x=Ab .cell),pn:=[],xe:=λ_ _=>CA }
theorem vH {scope:Cj}{env:E0}:∀ {names:Aa (Ar × Es)} {x:Ar} {k:Es},
  (names.map λ(n,k)=>if (k == Dr&&env.scope.kind == .function&&env.kindOf n == Ab .cell) then (n,Ie) else (n,k)).lookup x=Ab k ->
  names.lookup x=Ab k\/(k=.cell/\names.lookup x=Ab .free)
 |[],_,_,h=>by simp at h
 |(n,k0)::r,x,k,h=>by
  rw[Bu,Fh] at h;rw[Fh];dsimp only at h;cases hb:(k0 == Dr&&env.scope.kind == .function&&env.kindOf n == Ab .cell) with
  |true =>
   rw[hb] at h;simp only[Cc] at h;cases hx:x == n with
   |true =>
    rw[hx] at h;have e:Ie=k:=Bg h;have hk:k0=.free:=by
     have:=(AF _ _).mp hb;have:=(AF _ _).mp this.1;simpa using this.1
    subst hk;exact .inr ⟨e.symm,rfl⟩
   |false=>rw[hx] at h;exact vH (scope:=scope) h
  |false =>
   rw[hb] at h;simp only[AI,Ci] at h;cases hx:x == n with
   |true=>rw[hx] at h;exact .inl h
   |false=>rw[hx] at h;exact vH (scope:=scope) h
section
variable {X:Cx}{scope:Cj}{N':Aa Ar}{cap:Aa (Ak Ah)}{pins:Aa (Ad × AV)}{σ : _L.St}{H2:Hp}{s2:Ag}{fp:Aa Ad}
theorem j9 (S:CompSc X.env.scope X.N scope N' cap){x:Ar}{k:Es}(h:(relabel scope X.env).names.lookup x=Ab k):scope.names.lookup x=Ab k\/(k=.cell/\scope.names.lookup x=Ab .free):=vH (scope:=scope) h
theorem cR (S:CompSc X.env.scope X.N scope N' cap)(ok:X.Ok){x:Ar}{c:Ad}(h:(xK X.env.cells scope.names []).lookup x=Ab c):X.env.cells.lookup x=Ab c/\(x,Dr)∈scope.names:=by
 rcases uA _ _ h with h|⟨hm,hc⟩
 .cases h
 .have:=S.free _ hm rfl
  obtain⟨c',hc'⟩:=ok.has x this;rw[hc',Ic] at hc;rw[hc',hc];exact⟨rfl,hm⟩
noncomputable def ZX (scope:Cj)(C:Ad):Aa (Ar × Ad):=Em (C+1) scope.names []
noncomputable def j8 (X:Cx)(scope:Cj)(C:Ad):Aa (Ar × Ad):=Em (C+1) scope.names (xK X.env.cells scope.names [])
theorem wJ:∀ (names:Aa (Ar × Es)) (lo:Ah) (acc:Aa (Ar × Ad)),Em lo names acc=Em lo names [] ++ acc
 |[],_,_=>rfl
 |(n,k)::r,lo,acc=>by
  unfold Em
  split
  .rw[wJ r _ ((n,lo)::acc),wJ r _ [(n,lo)],Be];rfl
  .exact wJ r lo acc
set_option tactic.hygienic true in
theorem kE:∀ (names:Aa (Ar × Es)) (lo:Ah) {n:Ar} {c:Ad},(n,c)∈Em lo names [] -> (n,Ie)∈names
 |[],_,_,_,h=>by cases h
 |(n0,k)::r,lo,n,c,h=>by
  unfold Em at h
  split at h
  .rename_i hk
   rw[wJ] at h;rcases AX.mp h with h|h
   .exact Bc _ (kE r _ h)
   .have e:(n,c)=(n0,lo):=by simpa using h
    cases e;have:k=Ie:=by simpa using hk
    rw[this];exact Cf
  .exact Bc _ (kE r _ h)
theorem zU (S:CompSc X.env.scope X.N scope N' cap)(ok:X.Ok){C:Ad}{x:Ar}{c:Ad}(h:(j8 X scope C).lookup x=Ab c):((x,c)∈ZX scope C/\scope.names.lookup x=Ab .cell)\/(X.env.cells.lookup x=Ab c/\(x,Dr)∈scope.names):=by
 unfold j8 at h;rw[wJ,OZ] at h;cases q:(Em (C+1) scope.names []).lookup x with
 |some c' =>
  rw[q] at h;cases h;have m:=CN q;exact .inl ⟨m,S.cel _ (kE _ _ m) rfl⟩
 |none =>
  rw[q] at h;exact .inr (cR S ok h)
theorem nJ (S:CompSc X.env.scope X.N scope N' cap)(ok:X.Ok){C:Ad}{x:Ar}(h:scope.names.lookup x=Ab .cell\/scope.names.lookup x=Ab .free):∃ c,(j8 X scope C).lookup x=Ab c:=by
 unfold j8;rw[wJ,OZ];rcases h with h|h
 .have:=Fy scope.names (C+1) [] (x:=x) (.inl h)
  obtain⟨c,hc⟩:=Fb.mp this;exact⟨c,by rw[hc];rfl⟩
 .obtain⟨c',hc'⟩:=vQ (cells:=X.env.cells) scope.names [] (.inl (CN h))
  rw[hc'];cases (Em (C+1) scope.names []).lookup x with
  |none=>exact⟨c',rfl⟩
  |some c=>exact⟨c,rfl⟩
theorem Y5 (S:CompSc X.env.scope X.N scope N' cap)(I2:Inv X pins σ H2 s2)(hf:∀ b∈fp,zO X pins H2 b)(hlt:∀ b∈fp,b<s2.heap.objs.size)(hC:s2.heap.objs.size<=C){h1:A8}(co:CellsOk h1 (C+1) (ZX scope C)) :
  (qQ X N' scope (j8 X scope C) C fp s2 H2).Ok where
 mod:=I2.ok.mod
 kind:=S.kind
 glob:=I2.ok.glob
 blt:=I2.ok.blt
 above:=hC
 inj:=λx y c h1 h2=>by
  rcases zU S I2.ok h1 with⟨m1,_⟩|⟨m1,_⟩ <;> rcases zU S I2.ok h2 with⟨m2,_⟩|⟨m2,_⟩
  .exact PySem.name_of_addr co.apart m1 m2
  .obtain⟨v,ob,hob,_⟩:=I2.cell y c m2
   exact absurd (Au (Ax hob) hC) (HT.mpr (Ch (co.empty x c m1).2))
  .obtain⟨v,ob,hob,_⟩:=I2.cell x c m1
   exact absurd (Au (Ax hob) hC) (HT.mpr (Ch (co.empty y c m2).2))
  .exact I2.ok.inj x y c m1 m2
 has:=λx hx=>by
  have hx':(relabel scope X.env).names.lookup x=Ab .cell\/(relabel scope X.env).names.lookup x=Ab .free:=hx;refine nJ S I2.ok ?_;rcases hx' with h|h
  .rcases j9 S h with h|⟨_,h⟩
   .exact .inl h
   .exact .inr h
  .rcases j9 S h with h|⟨z,_⟩
   .exact .inr h
   .cases z
 cab:=λx c h h2=>by
  have hx:scope.names.lookup x=Ab .cell:=AZ h;rcases zU S I2.ok h2 with⟨m,_⟩|⟨_,m⟩
  .exact Ca hC (Ch (co.empty x c m).2)
  .have:=S.fr2 _ m rfl
   have this':scope.names.lookup x=Ab .free:=this;rw[hx] at this';cases this'
 hd:=I2.ok.hd
 frames:=I2.ok.frames
 stk:=.inl rfl
 exf:=λb hb=>⟨AS (Au (hlt b hb) hC),λx c h=>by
  rcases zU S I2.ok h with⟨m,_⟩|⟨m,_⟩
  .exact Dw (AS (E1 (Au (hlt b hb) hC) (co.empty x c m).2))
  .exact(hf b hb).2.2.2.2.1 x c m⟩
 bs:=I2.bs
 bsz:=Ca I2.ok.bsz I2.sz
 noex:=λb o e hb=>by
  obtain⟨_,_,_,h,_⟩:=hf b hb;rcases h with h|h
  .exact I2.ok.noex b o e h
  .exact absurd (Au (Ax e) (Ca I2.ok.bsz h)) (CU _)
 exfs:=λb hb hb2=>by
  obtain⟨_,h1,h2,_⟩:=hf b hb;rcases AD.mp (I2.stkSub b hb2) with z|z
  .exact h1 z
  .exact h2 z
 funs:=I2.stack
 frf:=I2.stkFree
theorem Q5 {s4:Ag}{m:Ar->Ak Ac}(S:CompSc X.env.scope X.N scope N' cap)(I2:Inv X pins σ H2 s2)(hf:∀ b∈fp,zO X pins H2 b)(hlt:∀ b∈fp,b<s2.heap.objs.size)(hC:s2.heap.objs.size<=C)
  (hn:s4.heap.Ns C m) (os:s4.os=s2.os) (gens:s4.gens=s2.gens) (keep:∀ b o,s2.heap.get? b=Ab o->s4.heap.get? b=Ab o) (co:CellsOk s4.heap (C+1) (ZX scope C)) :
  Inv (qQ X N' scope (j8 X scope C) C fp s2 H2) [] (y8 cap σ) H2 s4 where
 ok:=Y5 S I2 hf hlt hC co
 os:=os
 bare:=gens▸I2.bare
 base:=Un.kept keep
 loc:=by
  refine⟨m,hn,λj x v h1 h2 h3=>?_⟩;have h1':N'[j]? = Ab x:=h1;unfold y8 at h2;rw[Br] at h2;cases q:cap[j]? with
  |none=>rw[q] at h2;cases h2
  |some o =>
   rw[q] at h2;cases o with
   |none=>cases h2
   |some i =>
    have e':(σ[i]?).join=Ab v:=by simpa using h2
    have hσ:σ[i]? = Ab (Ab v):=by
     cases z:σ[i]? with
     |none=>rw[z] at e';cases e'
     |some w=>rw[z] at e';have:w=Ab v:=e';rw[this]
    have hz:(Ab i,x)∈cap.zip N':=by
     refine Gh.mpr ⟨j,?_⟩;rw[Kl];exact⟨q,h1'⟩
    have hc:=Bh.mp S.caps _ hz;simp only[AF,Ls] at hc;obtain⟨hN,hfr⟩:=hc;have hk:=S.free _ (CN hfr) rfl;obtain⟨mo,hmo,hl⟩:=I2.loc;have vis:Vis X.env.scope x:=by
     rcases hk with k|k
     .exact .inr (.inl k)
     .exact .inr (.inr k)
    obtain⟨u,ru,lk⟩:=hl i x v hN hσ vis;refine⟨u,ru,?_⟩;rcases lk with⟨kl,_⟩|⟨_,c,hcl,hcell⟩
    .have kl':X.env.scope.names.lookup x=Ab .local:=kl
     rcases hk with k|k
     .have k':X.env.scope.names.lookup x=Ab .cell:=k
      rw[kl'] at k';cases k'
     .have k':X.env.scope.names.lookup x=Ab .free:=k
      rw[kl'] at k';cases k'
    .obtain⟨c',hc'⟩:=nJ S I2.ok (C:=C) (.inr hfr)
     have e2:X.env.cells.lookup x=Ab c':=by
      rcases zU S I2.ok hc' with⟨_,z⟩|⟨z,_⟩
      .rw[hfr] at z;cases z
      .exact z
     rw[hcl] at e2;cases e2;refine .inr ⟨?_,c,hc',?_⟩
     .have h3':Vis (relabel scope X.env) x:=h3
      rcases h3' with h|h|h
      .rcases j9 S h with h|⟨z,_⟩
       .rw[hfr] at h;cases h
       .cases z
      .exact .inl h
      .exact .inr h
     .obtain⟨ob,hob,hd⟩:=hcell
      exact⟨ob,keep c ob hob,hd⟩
 cell:=λx c h=>by
  rcases zU S I2.ok h with⟨m,_⟩|⟨m,_⟩
  .exact⟨none,(co.empty x c m).1⟩
  .obtain⟨v,ob,hob,hd⟩:=I2.cell x c m
   exact⟨v,ob,keep c ob hob,hd⟩
 free:=I2.hok.fresh hC
 freeC:=λx c h=>by
  rcases zU S I2.ok h with⟨m,_⟩|⟨m,_⟩
  .exact I2.hok.fresh (Ca hC (Ch (co.empty x c m).2))
  .exact I2.freeC x c m
 pin:=λp hp=>absurd (show p∈([]:Aa (Ad × AV)) from hp) (by simp)
 hok:=I2.hok.kept keep
 len:=by
  show (y8 cap σ).length=N'.length;simp[y8,S.len]
end
theorem aK {P:Az}{w:AL}{h:A8}{a:Ad}{o:HO}(x:HOk P w H h)(hn:H a=none)(new:z9 P w (upd H a o) h a o):HOk P w (upd H a o) h:=λb u e=>by
 by_cases hb:b=a
 .subst hb;rw[qT] at e;cases e;exact new
 .rw[qI hb] at e
  exact(x b u e).stay (λc v _ q=>q) (λc q=>by rw[qI (qO q hn)];exact q) λc xs q=>by rw[qI (qO q hn)];exact q
theorem mO {P:Az}{w:AL}{h h':A8}(x:HOk P w H h)(hn:H C=none)(k:∀ b o,b≠C->h.get? b=Ab o->h'.get? b=Ab o):HOk P w H h':=λb u e =>
 (x b u e).stay (λc v hc q=>k c v (by
  rintro rfl;rcases hc with z|z
  .subst z;rw[hn] at e;cases e
  .rw[hn] at z;cases z) q) (λ_ q=>q) λ_ _ q=>q
section
variable {X:Cx}{elt tg iter:AH}{ifs:Aa AH}{scope:Cj}{pos:CB}{N':Aa Ar}{cap:Aa (Ak Ah)}{fi:DI}{g:DG}{t:DT}{fe:DE}
def g9 (X:Cx)(pins:Aa (Ad × AV))(σ : _L.St)(P1:Hp)(α1:Aa Ad)(ds:Aa D)(SF:Sto)(acc C:Ad)(s:Ag):Prop:=
 ∃ (H' P':Hp) (α' : Aa Ad) (vs:Aa V),Inv X pins σ (upd H' acc (.lst vs)) s/\Rel X.K H' P' α' SF/\H' acc=none/\qF P1 P'/\α1<+:α'/\qD X.K P' α' ds vs/\H' C=none
theorem Q4 {Y:Cx}{pins:Aa (Ad × AV)}{σ σ':_L.St}{H2:Hp}{s2 s':Ag}{fp:Aa Ad}{acc:Ad}{H' P':Hp}{α':Aa Ad}{envF:qE}{SF:Sto}{cl:Aa (Ar × Ad)}(I2:Inv X pins σ H2 s2)
  (hf:∀ b∈fp,zO X pins H2 b) (hY:Y=qQ X N' scope cl C fp s2 H2) (hC:s2.heap.objs.size<=C) (hA:s2.heap.objs.size<=acc) (hne:acc≠C) (st:TurnSt accL Y [] P1 α1 fp acc envF SF ds s' σ' H' P' α' o)
  {h':A8} (sb:DL C s'.heap h'):g9 X pins σ P1 α1 ds SF acc C { s' with heap:=h' }:=by
 subst hY;obtain⟨its,n,vs,rfl,rv,rp,hz⟩:=st.acc;have kC:∀ b o,b≠C->s'.heap.get? b=Ab o->h'.get? b=Ab o:=λb o hb e=>(sb.2 b hb).trans e;have nC:∀ b o,s2.heap.get? b=Ab o->b≠C:=λb o e=>AS (Au (Ax e) hC);have nA:∀ b o,s2.heap.get? b=Ab o->b≠acc:=λb o e=>AS (Au (Ax e) hA);have base:Un (frs X.stack) fp H2 H' s2.heap s'.heap:=st.inv.base;have nt:∀ b u,H' b=Ab u->b≠acc:=λb u e=>qO e st.acn;have un:Un (frs X.stack) fp H2 (upd H' acc (.lst vs)) s2.heap h':=by
  refine⟨λb ob q hn hb hx=>kC b ob (nC b ob q) (base.keep b ob q hn hb hx),λb ob q hn hb hx=>?_,λb ob q hn hx=>?_,λb ob q hx=>?_,λb xs q=>?_,λb ob u q=>?_,λb ps q=>?_⟩
  .obtain⟨sl,e⟩:=base.slot b ob q hn hb hx
   exact⟨sl,kC b _ (nC b ob q) e⟩
  .rw[qI (nA b ob q)];exact base.free b ob q hn hx
  .obtain⟨o',e⟩:=base.there b ob q hx
   exact⟨o',kC b o' (nC b ob q) e⟩
  .have:=base.tups b xs q;rw[qI (nt _ _ this)];exact this
  .have:=base.frzs b ob u q;rw[qI (nt _ _ this)];exact this
  .obtain⟨more,e⟩:=base.tbls b ps q
   exact⟨more,by rw[qI (nt _ _ e)];exact e⟩
 have hok':HOk X.prog X.w H' h':=mO st.inv.hok st.inv.free kC;have hat:h'.get? acc=Ab { cls:=.type "list",data:=.seq its.toArray n }:=kC acc _ hne st.at';have hok:HOk X.prog X.w (upd H' acc (.lst vs)) h':=aK hok' st.acn ⟨by rw[<- rp.length,<- zI];exact hz,its,n,rv,hat⟩
 refine⟨H',P',α',vs,?_,st.rel,st.acn,st.same,st.pre,rp,st.inv.free⟩;exact I2.call' (s':={ s' with heap:=h' }) (ch:=fp) (st.inv.os) un hok st.inv.bare λb hb=>by
  obtain⟨_,h1,h2,h3,h4,h5⟩:=hf b hb;exact⟨h3,h1,h4,h5⟩
theorem dR (S:CompSc X.env.scope X.N scope N' cap)(ok:X.Ok):Lu scope X.env=pure (xK X.env.cells scope.names []):=jZ λy hy hk=>ok.has y.1 (S.free y hy hk)
theorem YS {pins:Aa (Ad × AV)}{σ:_L.St}{SF:Sto}{acc:Ad}{Q:VK}(c:g9 X pins σ P1 α1 ds SF acc C s)(ok:OkV X P1 α1 Q (.lst ds) SF):EP X pins σ Q (.ref acc) s:=by
 obtain⟨H',P',α',vs,I,r,hn,e1,e2,rp,_⟩:=c;exact⟨.ref acc,_,I,rfl,wG r hn rp λv H2 P2 α2 r2 q1 q2 q3=>ok v H2 P2 α2 r2 (e1.trans q1) (e2.trans q2) q3⟩
end
end _D
section
namespace _D
open PySem PySem.Spec PyProof.Rows _L PySem.SeqAt
noncomputable def b01 (b:Ap):Am:=if b then 1 else 0
mutual
noncomputable def eqD:D->D->Ap
 |.non,.non=>true
 |.bl a,.bl b=>a == b
 |.bl a,.int b=>b01 a == b
 |.int a,.bl b=>a == b01 b
 |.int a,.int b=>a == b
 |.str a,.str b=>a == b
 |.tup xs,.tup ys=>xJ xs ys
 |.lst xs,.lst ys=>xJ xs ys
 |_,_=>false
noncomputable def xJ:Aa D->Aa D->Ap
 |[],[]=>true
 |x::xs,y::ys=>eqD x y&&xJ xs ys
 |_,_=>false
end
noncomputable def pl:Ah->D->Ap
 |_,.non=>true
 |_,.bl _=>true
 |_,.int _=>true
 |_,.str _=>true
 |n+1,.tup xs=>xs.all (pl n)
 |n+1,.lst xs=>xs.all (pl n)
 |_,_=>false
theorem aA (x y:D)(xs ys:Aa D):xJ (x::xs) (y::ys)=(eqD x y&&xJ xs ys):=rfl
theorem v3:∀ (xs ys:Aa D),xJ xs ys=((Bt (min xs.length ys.length)).all (λj=>eqD (xs.getD j .non) (ys.getD j .non))&&xs.length == ys.length)
 |[],[]=>rfl
 |[],y::ys=>rfl
 |x::xs,[]=>rfl
 |x::xs,y::ys=>by
  have ih:=v3 xs ys;rw[aA,ih,Bk,Bk,Nat.succ_min_succ,HU,Km,IR,Bool.and_assoc];have e:(xs.length+1 == ys.length+1)=(xs.length == ys.length):=by simp
  rw[e];rfl
theorem QX {xs ys:Aa D}(h:xs.length≠ys.length):xJ xs ys=false:=by
 rw[v3];simp[h]
theorem fC (xs ys:Aa D):eqD (.tup xs) (.tup ys)=xJ xs ys:=rfl
theorem fB (xs ys:Aa D):eqD (.lst xs) (.lst ys)=xJ xs ys:=rfl
section
variable {X:Cx}{pins:Aa (Ad × AV)}{σ : _L.St}{H P:Hp}{α : Aa Ad}{S:Sto}{s:Ag}
inductive Kd (X:Cx)(P:Hp)(α : Aa Ad)(s:Ag):D->Ac->Prop where
 |non:Kd X P α s .non .none
 |bl (b:Ap):Kd X P α s (.bl b) (.bool b)
 |int (i:Am) (t:Pv):Kd X P α s (.int i) (.int i t)
 |str (x:Ar) (t:Pv):Kd X P α s (.str x) (.str x t)
 |tup (a:Ad) (xs:Aa D) (its:Aa Ac) (vs:Aa V) (rp:qD X.K P α xs vs) (rv:qK vs its) (h:s.heap.IsTuple a its.toArray) (q:SqT X.K P a vs):Kd X P α s (.tup xs) (.ref a)
 |lst (a:Ad) (xs:Aa D) (its:Aa Ac) (vs:Aa V) (rp:qD X.K P α xs vs) (rv:qK vs its) (h:s.heap.IsList a its.toArray) (q:SqX X.K P a vs):Kd X P α s (.lst xs) (.ref a)
theorem vU (I:Inv X pins σ H s)(r:Rel X.K H P α S){n:Ah}{d:D}{v:V}{u:Ac}(h:pl n d=true)(p:Rep X.K P α d v)(rv:qJ v u):Kd X P α s d u:=by
 cases d with
 |non=>simp only[Rep] at p;subst p;cases rv;exact .non
 |bl b=>simp only[Rep] at p;subst p;cases rv;exact .bl b
 |int i=>simp only[Rep] at p;subst p;obtain⟨t,rfl⟩:=rv;exact .int i t
 |str x=>simp only[Rep] at p;subst p;obtain⟨t,rfl⟩:=rv;exact .str x t
 |tup xs =>
  simp only[Rep] at p;obtain⟨a,vs,rfl,q,t⟩:=p;cases rv;obtain⟨its,r1,p1,_⟩:=I.tuple (xD r.sub q);exact .tup a xs its vs t r1 p1 q
 |lst xs =>
  simp only[Rep] at p;obtain⟨a,vs,rfl,q,t⟩:=p;cases rv;obtain⟨its,r1,p1,_⟩:=I.list ((xA r.sub q).l);exact .lst a xs its vs t r1 p1.isList q
 |_=>cases n <;> exact E6 h
theorem vB {ds:Aa D}{vs:Aa V}{its:Aa Ac}(rp:qD X.K P α ds vs)(rv:qK vs its){j:Ah}(h:j<its.toArray.size):∃ v,Rep X.K P α (ds.getD j .non) v/\qJ v its.toArray[j]/\ds.getD j .non∈ds:=by
 have l1:=rp.length;have l2:=rv.length;have hj:j<its.length:=by simpa using h
 have hd:j<ds.length:=by lia
 obtain⟨v,e1,p⟩:=rp.get (As hd);obtain⟨u,e2,q⟩:=rv.get e1;have e3:its.toArray[j]=u:=by
  have:its[j]? = Ab its[j]:=As hj;rw[this] at e2;simpa using Bg e2
 have e4:ds.getD j .non=ds[j]:=by simp[He,hd]
 rw[e3,e4];exact⟨v,p,q,Lv hd⟩
theorem vZ {n:Ah}{ds:Aa D}(h:ds.all (pl n)=true){d:D}(hd:d∈ds):pl n d=true:=Bh.mp h d hd
theorem V6 {h:A8}{a:Ad}{xs ys:Av Ac}(h1:h.IsTuple a xs)(h2:h.IsTuple a ys):xs=ys:=by
 obtain⟨o,e,_,n,d⟩:=h1;obtain⟨o',e',_,n',d'⟩:=h2;cases e.symm.trans e';cases d.symm.trans d';rfl
theorem V4 {h:A8}{a:Ad}{xs ys:Av Ac}(h1:h.IsList a xs)(h2:h.IsList a ys):xs=ys:=by
 obtain⟨o,e,_,n,d⟩:=h1;obtain⟨o',e',_,n',d'⟩:=h2;cases e.symm.trans e';cases d.symm.trans d';rfl
theorem GQ {h:A8}{a:Ad}{xs ys:Av Ac}(h1:h.IsTuple a xs)(h2:h.IsList a ys):CA:=by
 obtain⟨o,e,c,_⟩:=h1;obtain⟨o',e',c',_⟩:=h2;cases e.symm.trans e';exact absurd (c.symm.trans c') (by decide)
inductive Seqs (X:Cx)(P:Hp)(α : Aa Ad)(xs ys:Aa D)(its its2:Aa Ac):Prop
 |mk (vs ws:Aa V) (rp:qD X.K P α xs vs) (rv:qK vs its) (rp2:qD X.K P α ys ws) (rv2:qK ws its2):Seqs X P α xs ys its its2
theorem Seqs.len1 {xs ys:Aa D}{its its2:Aa Ac}(q:Seqs X P α xs ys its its2):xs.length=its.length:=by
 obtain⟨vs,ws,rp,rv,_,_⟩:=q;exact rp.length.trans rv.length
theorem Seqs.len2 {xs ys:Aa D}{its its2:Aa Ac}(q:Seqs X P α xs ys its its2):ys.length=its2.length:=by
 obtain⟨vs,ws,_,_,rp,rv⟩:=q;exact rp.length.trans rv.length
inductive SameR (X:Cx)(P:Hp)(α : Aa Ad):D->D->Prop
 |eq {d d':D} (h:eqD d d'=true):SameR X P α d d'
 |tt (xs ys:Aa D) (its:Aa Ac) (q:Seqs X P α xs ys its its):SameR X P α (.tup xs) (.tup ys)
 |ll (xs ys:Aa D) (its:Aa Ac) (q:Seqs X P α xs ys its its):SameR X P α (.lst xs) (.lst ys)
theorem r8 {d d':D}{u:Ac}(k1:Kd X P α s d u)(k2:Kd X P α s d' u):SameR X P α d d':=by
 cases k1 with
 |non=>cases k2;exact .eq rfl
 |bl b=>cases k2;exact .eq (Do _)
 |int i t=>cases k2;exact .eq (Do _)
 |str x t=>cases k2;exact .eq (Do _)
 |tup a xs its vs rp rv h q =>
  cases k2 with
  |tup _ ys its2 ws rp2 rv2 h2 q2 =>
   cases V6 h h2;exact .tt xs ys its ⟨vs,ws,rp,rv,rp2,rv2⟩
  |lst _ ys its2 ws rp2 rv2 h2 q2=>exact(GQ h h2).elim
 |lst a xs its vs rp rv h q =>
  cases k2 with
  |lst _ ys its2 ws rp2 rv2 h2 q2 =>
   cases V4 h h2;exact .ll xs ys its ⟨vs,ws,rp,rv,rp2,rv2⟩
  |tup _ ys its2 ws rp2 rv2 h2 q2=>exact(GQ h2 h).elim
theorem mK (I:Inv X pins σ H s)(r:Rel X.K H P α S){m:Ah}(ih:∀ (d d':D) (u:Ac),pl m d=true->pl m d'=true->Kd X P α s d u->Kd X P α s d' u->eqD d d'=true){xs ys:Aa D}{its:Aa Ac}(h1:xs.all (pl m)=true)(h2:ys.all (pl m)=true)(q:Seqs X P α xs ys its its):xJ xs ys=true:=by
 obtain⟨vs,ws,rp,rv,rp2,rv2⟩:=q;have l1:=rp.length.trans rv.length;have l2:=rp2.length.trans rv2.length;rw[v3,l1,l2,Po,AF];refine⟨Bh.mpr λj hj=>?_,BEq.rfl⟩;have hj:j<its.toArray.size:=Cw.mp hj;obtain⟨w1,y1,z1,m1⟩:=vB rp rv hj;obtain⟨w2,y2,z2,m2⟩:=vB rp2 rv2 hj;exact ih _ _ _ (vZ h1 m1) (vZ h2 m2) (vU I r (vZ h1 m1) y1 z1) (vU I r (vZ h2 m2) y2 z2)
theorem dW (I:Inv X pins σ H s)(r:Rel X.K H P α S):∀ (n:Ah) (d d':D) (u:Ac),pl n d=true->pl n d'=true->Kd X P α s d u->Kd X P α s d' u->eqD d d'=true:=by
 intro n
 induction n with
 |zero =>
  intro d d' u h1 h2 k1 k2;cases r8 k1 k2 with
  |eq h=>exact h
  |tt=>exact E6 h1
  |ll=>exact E6 h1
 |succ m ih =>
  intro d d' u h1 h2 k1 k2;cases r8 k1 k2 with
  |eq h=>exact h
  |tt xs ys its q=>exact(fC xs ys).trans (mK I r ih h1 h2 q)
  |ll xs ys its q=>exact(fB xs ys).trans (mK I r ih h1 h2 q)
structure E3 (A:AJ)(s:Ag)(u u':Ac)(b:Ap):Prop where
 eq:EqAt A s u u' b
 rc:RcAt A s u u' b
 ne:RcNeAt A s u u' (!b)
inductive EqR (X:Cx)(P:Hp)(α : Aa Ad)(A:AJ)(s:Ag):D->D->Ac->Ac->Prop
 |of {d d':D} {u u':Ac} (b:Ap) (e:eqD d d'=b) (h:E3 A s u u' b):EqR X P α A s d d' u u'
 |tt (a b:Ad) (xs ys:Aa D) (its its2:Aa Ac) (ha:s.heap.IsTuple a its.toArray) (hb:s.heap.IsTuple b its2.toArray) (q:Seqs X P α xs ys its its2):EqR X P α A s (.tup xs) (.tup ys) (.ref a) (.ref b)
 |ll (a b:Ad) (xs ys:Aa D) (its its2:Aa Ac) (ha:s.heap.IsList a its.toArray) (hb:s.heap.IsList b its2.toArray) (q:Seqs X P α xs ys its its2):EqR X P α A s (.lst xs) (.lst ys) (.ref a) (.ref b)
theorem W3 {A:AJ}{d d':D}{u u':Ac}(hu:A.units<CZ)(k1:Kd X P α s d u)(k2:Kd X P α s d' u'):EqR X P α A s d d' u u':=by
 cases k1 with
 |non  =>
  cases k2 with
  |non  => exact .of _ rfl ⟨Tj _,RcAt.none_none,RcNeAt.none_none⟩
  |bl b=>exact .of _ rfl ⟨EqAt.none_bool b,RcAt.none_bool b,RcNeAt.none_bool b⟩
  |int b tb=>exact .of _ rfl ⟨EqAt.none_int b tb,RcAt.none_int b tb,RcNeAt.none_int b tb⟩
  |str b tb=>exact .of _ rfl ⟨EqAt.none_str b tb,RcAt.none_str b tb,RcNeAt.none_str b tb⟩
  |tup b ys its2 ws rp2 rv2 hb qb=>exact .of _ rfl ⟨EqAt.none_tuple hb hu,RcAt.none_tuple hb hu,RcNeAt.none_tuple hb hu⟩
  |lst b ys its2 ws rp2 rv2 hb qb=>exact .of _ rfl ⟨EqAt.none_list hb hu,RcAt.none_list hb hu,RcNeAt.none_list hb hu⟩
 |bl a =>
  cases k2 with
  |non  => exact .of _ rfl ⟨EqAt.bool_none a,RcAt.bool_none a,RcNeAt.bool_none a⟩
  |bl b=>exact .of _ rfl ⟨EqAt.bool_bool a b,RcAt.bool_bool a b,RcNeAt.bool_bool a b⟩
  |int b tb=>exact .of _ rfl ⟨EqAt.bool_int a b tb,RcAt.bool_int a b tb,RcNeAt.bool_int a b tb⟩
  |str b tb=>exact .of _ rfl ⟨EqAt.bool_str a b tb,RcAt.bool_str a b tb,RcNeAt.bool_str a b tb⟩
  |tup b ys its2 ws rp2 rv2 hb qb=>exact .of _ rfl ⟨EqAt.bool_tuple a hb hu,RcAt.bool_tuple a hb hu,RcNeAt.bool_tuple a hb hu⟩
  |lst b ys its2 ws rp2 rv2 hb qb=>exact .of _ rfl ⟨EqAt.bool_list a hb hu,RcAt.bool_list a hb hu,RcNeAt.bool_list a hb hu⟩
 |int a ta =>
  cases k2 with
  |non  => exact .of _ rfl ⟨EqAt.int_none a ta,RcAt.int_none a ta,RcNeAt.int_none a ta⟩
  |bl b=>exact .of _ rfl ⟨EqAt.int_bool a ta b,RcAt.int_bool a ta b,RcNeAt.int_bool a ta b⟩
  |int b tb=>exact .of _ rfl ⟨EqAt.int_int a ta b tb,RcAt.int_int a ta b tb,RcNeAt.int_int a ta b tb⟩
  |str b tb=>exact .of _ rfl ⟨EqAt.int_str a ta b tb,RcAt.int_str a ta b tb,RcNeAt.int_str a ta b tb⟩
  |tup b ys its2 ws rp2 rv2 hb qb=>exact .of _ rfl ⟨EqAt.int_tuple a ta hb hu,RcAt.int_tuple a ta hb hu,RcNeAt.int_tuple a ta hb hu⟩
  |lst b ys its2 ws rp2 rv2 hb qb=>exact .of _ rfl ⟨EqAt.int_list a ta hb hu,RcAt.int_list a ta hb hu,RcNeAt.int_list a ta hb hu⟩
 |str a ta =>
  cases k2 with
  |non  => exact .of _ rfl ⟨EqAt.str_none a ta,RcAt.str_none a ta,RcNeAt.str_none a ta⟩
  |bl b=>exact .of _ rfl ⟨EqAt.str_bool a ta b,RcAt.str_bool a ta b,RcNeAt.str_bool a ta b⟩
  |int b tb=>exact .of _ rfl ⟨EqAt.str_int a ta b tb,RcAt.str_int a ta b tb,RcNeAt.str_int a ta b tb⟩
  |str b tb=>exact .of _ rfl ⟨EqAt.str_str a ta b tb,RcAt.str_str a ta b tb,RcNeAt.str_str a ta b tb⟩
  |tup b ys its2 ws rp2 rv2 hb qb=>exact .of _ rfl ⟨EqAt.str_tuple a ta hb hu,RcAt.str_tuple a ta hb hu,RcNeAt.str_tuple a ta hb hu⟩
  |lst b ys its2 ws rp2 rv2 hb qb=>exact .of _ rfl ⟨EqAt.str_list a ta hb hu,RcAt.str_list a ta hb hu,RcNeAt.str_list a ta hb hu⟩
 |tup a xs its vs rp rv ha qa =>
  cases k2 with
  |non  => exact .of _ rfl ⟨EqAt.tuple_none ha hu,RcAt.tuple_none ha hu,RcNeAt.tuple_none ha hu⟩
  |bl b=>exact .of _ rfl ⟨EqAt.tuple_bool b ha hu,RcAt.tuple_bool b ha hu,RcNeAt.tuple_bool b ha hu⟩
  |int b tb=>exact .of _ rfl ⟨EqAt.tuple_int b tb ha hu,RcAt.tuple_int b tb ha hu,RcNeAt.tuple_int b tb ha hu⟩
  |str b tb=>exact .of _ rfl ⟨EqAt.tuple_str b tb ha hu,RcAt.tuple_str b tb ha hu,RcNeAt.tuple_str b tb ha hu⟩
  |tup b ys its2 ws rp2 rv2 hb qb=>exact .tt a b xs ys its its2 ha hb ⟨vs,ws,rp,rv,rp2,rv2⟩
  |lst b ys its2 ws rp2 rv2 hb qb=>exact .of _ rfl ⟨EqAt.tuple_list ha hb hu,RcAt.tuple_list ha hb hu,RcNeAt.tuple_list ha hb hu⟩
 |lst a xs its vs rp rv ha qa =>
  cases k2 with
  |non  => exact .of _ rfl ⟨EqAt.list_none ha hu,RcAt.list_none ha hu,RcNeAt.list_none ha hu⟩
  |bl b=>exact .of _ rfl ⟨EqAt.list_bool b ha hu,RcAt.list_bool b ha hu,RcNeAt.list_bool b ha hu⟩
  |int b tb=>exact .of _ rfl ⟨EqAt.list_int b tb ha hu,RcAt.list_int b tb ha hu,RcNeAt.list_int b tb ha hu⟩
  |str b tb=>exact .of _ rfl ⟨EqAt.list_str b tb ha hu,RcAt.list_str b tb ha hu,RcNeAt.list_str b tb ha hu⟩
  |tup b ys its2 ws rp2 rv2 hb qb=>exact .of _ rfl ⟨EqAt.list_tuple ha hb hu,RcAt.list_tuple ha hb hu,RcNeAt.list_tuple ha hb hu⟩
  |lst b ys its2 ws rp2 rv2 hb qb=>exact .ll a b xs ys its its2 ha hb ⟨vs,ws,rp,rv,rp2,rv2⟩
theorem E3.cast {A:AJ}{u u':Ac}{b c:Ap}(e:c=b)(h:E3 A s u u' b):E3 A s u u' c:=e▸h
theorem MS {A:AJ}{a b:Ad}{xs ys:Aa D}{its its2:Aa Ac}(hu:A.units<CZ)(ha:s.heap.IsTuple a its.toArray)(hb:s.heap.IsTuple b its2.toArray)(l1:xs.length=its.length)(l2:ys.length=its2.length)
  (sub:∀ j (h1:j<its.toArray.size) (h2:j<its2.toArray.size),EqAt A.in1 s its.toArray[j] its2.toArray[j] (eqD (xs.getD j .non) (ys.getD j .non))) (same:a=b->xJ xs ys=true):E3 A s (.ref a) (.ref b) (xJ xs ys):=by
 have e:xJ xs ys=((Bt (min its.toArray.size its2.toArray.size)).all (λj=>eqD (xs.getD j .non) (ys.getD j .non))&&its.toArray.size == its2.toArray.size):=by rw[v3,l1,l2];rfl
 have R1:=RcAt.tuples ha hb hu sub;have R2:=RcNeAt.tuples ha hb hu sub;rw[<- e] at R1 R2;refine⟨?_,R1,R2⟩;by_cases hab:a=b
 .rw[same hab,hab]
  exact Tj _
 .exact Ub hab R1
theorem MR {A:AJ}{a b:Ad}{xs ys:Aa D}{its its2:Aa Ac}(hu:A.units<CZ)(ha:s.heap.IsList a its.toArray)(hb:s.heap.IsList b its2.toArray)(l1:xs.length=its.length)(l2:ys.length=its2.length)
  (sub:∀ j (h1:j<its.toArray.size) (h2:j<its2.toArray.size),EqAt A.in1 s its.toArray[j] its2.toArray[j] (eqD (xs.getD j .non) (ys.getD j .non))) (same:a=b->xJ xs ys=true):E3 A s (.ref a) (.ref b) (xJ xs ys):=by
 have R:RcAt A s (.ref a) (.ref b) (xJ xs ys)/\RcNeAt A s (.ref a) (.ref b) (!xJ xs ys):=by
  by_cases hl:its.length=its2.length
  .have e:xJ xs ys=(Bt its.toArray.size).all (λj=>eqD (xs.getD j .non) (ys.getD j .non)):=by rw[v3,l1,l2,<- hl,Po,BEq.rfl,Tk];rfl
   rw[e];exact⟨RcAt.lists ha hb hl hu sub,RcNeAt.lists ha hb hl hu sub⟩
  .rw[QX (by rw[l1,l2];exact hl)]
   have hn:(its.toArray.size != its2.toArray.size)=true:=bne_iff_ne.mpr hl;exact⟨RcAt.lists_lengths ha hb hn hu,RcNeAt.lists_lengths ha hb hn hu⟩
 refine⟨?_,R.1,R.2⟩;by_cases hab:a=b
 .rw[same hab,hab]
  exact Tj _
 .exact Ub hab R.1
theorem a9 (I:Inv X pins σ H s)(r:Rel X.K H P α S):∀ (n:Ah) (A:AJ) (d d':D) (u u':Ac),A.units+n<CZ->pl n d=true->pl n d'=true->Kd X P α s d u->Kd X P α s d' u'->E3 A s u u' (eqD d d'):=by
 intro n
 induction n with
 |zero =>
  intro A d d' u u' hu h1 h2 k1 k2;cases W3 hu k1 k2 with
  |of b e h=>exact h.cast e
  |tt=>exact E6 h1
  |ll=>exact E6 h1
 |succ m ih =>
  intro A d d' u u' hu h1 h2 k1 k2;have hu0:A.units<CZ:=Hx (Eo _ _) hu;have hu1:A.in1.units+m<CZ:=by show A.units+1+m<CZ;lia
  have sub:∀ {xs ys:Aa D} {its its2:Aa Ac},xs.all (pl m)=true->ys.all (pl m)=true->Seqs X P α xs ys its its2 ->
    ∀ j (h1:j<its.toArray.size) (h2:j<its2.toArray.size),EqAt A.in1 s its.toArray[j] its2.toArray[j] (eqD (xs.getD j .non) (ys.getD j .non)):=λ{xs ys its its2} a1 a2 ⟨vs,ws,b1,b2,c1,c2⟩ j g1 g2=>by
   obtain⟨w1,y1,z1,m1⟩:=vB b1 b2 g1;obtain⟨w2,y2,z2,m2⟩:=vB c1 c2 g2;exact(ih A.in1 _ _ _ _ hu1 (vZ a1 m1) (vZ a2 m2) (vU I r (vZ a1 m1) y1 z1) (vU I r (vZ a2 m2) y2 z2)).eq
  cases W3 hu0 k1 k2 with
  |of b e h=>exact h.cast e
  |tt a b xs ys its its2 ha hb q=>exact(MS hu0 ha hb q.len1 q.len2 (sub h1 h2 q) λe=>by subst e;exact(fC xs ys).symm.trans (dW I r (m+1) _ _ _ h1 h2 k1 k2)).cast (fC xs ys)
  |ll a b xs ys its its2 ha hb q=>exact(MR hu0 ha hb q.len1 q.len2 (sub h1 h2 q) λe=>by subst e;exact(fB xs ys).symm.trans (dW I r (m+1) _ _ _ h1 h2 k1 k2)).cast (fB xs ys)
noncomputable def yJ:Ah:=30
noncomputable def gEq:G2:=λa b S=>if pl yJ a&&pl yJ b then .ok (.bl (eqD a b)) S else .bad
noncomputable def gNe:G2:=λa b S=>if pl yJ a&&pl yJ b then .ok (.bl (!eqD a b)) S else .bad
set_option tactic.hygienic true in
theorem TY (hu:X.A.units+64<CZ):OpD X (Cb .Eq) gEq:=by
 intro pins σ H s P α S v u vv uu a b Q I r rv ru pa pb af;unfold gEq at af
 split at af
 .rename_i h
  rw[AF] at h;exact(a9 I r yJ X.A a b vv uu (by unfold yJ;lia) h.1 h.2 (vU I r h.1 pa rv) (vU I r h.2 pb ru)).rc _ _ _ _ ⟨.bl _,H,I,rfl,xr af r (by simp only[Rep])⟩
 .exact An af
set_option tactic.hygienic true in
theorem N4 (hu:X.A.units+64<CZ):OpD X (Cb .NotEq) gNe:=by
 intro pins σ H s P α S v u vv uu a b Q I r rv ru pa pb af;unfold gNe at af
 split at af
 .rename_i h
  rw[AF] at h;exact(a9 I r yJ X.A a b vv uu (by unfold yJ;lia) h.1 h.2 (vU I r h.1 pa rv) (vU I r h.2 pb ru)).ne _ _ _ _ ⟨.bl _,H,I,rfl,xr af r (by simp only[Rep])⟩
 .exact An af
end
end _D
end
namespace _D
open PySem PySem.Spec PyProof.Rows _L
variable {pins:Aa (Ad × AV)}{kvs:Aa (Key × D)}{its us:Aa Ac}{xs ds:Aa D}{vs:Aa V}{s:Ag}{d:D}{v:V}{Q:VK}{σ:_L.St}
section
variable {X:Cx}
noncomputable def i2 (C:Am->Am->Ap)(f:Am->Am->D):G2:=λa b S=>match a,b with
 |.int i,.int j=>if C i j then .ok (f i j) S else .bad
 |_,_=>.bad
theorem tQ {C:Am->Am->Ap}{f:Am->Am->D}{a b:D}{S:Sto}{P:Hp}{α:Aa Ad}{Ok:D->Sto->Prop}(h:qH X P α (i2 C f a b S) Ok):∃ i j,a=.int i/\b=.int j/\C i j=true/\Ok (f i j) S:=by
 cases a with
 |int i =>
  cases b with
  |int j =>
   obtain⟨hc,h⟩:=xH (X:=X) h;exact⟨i,j,rfl,rfl,hc,h⟩
  |_=>exact An h
 |_=>exact An h
theorem zM {P:Hp}{α:Aa Ad}{i:Am}(r:Rep X.K P α (.int i) v):v=.int i:=by simpa only [Rep] using r
theorem kT {f:Ac->Ac->Gf Ac}{C':Am->Am->Prop}{v:Am->Am->V}{C:Am->Am->Ap}{d:Am->Am->D}(h:OpR X f (rI C' v))(hC:∀ i j,C i j=true->C' i j)(hv:∀ P α i j,Rep X.K P α (d i j) (v i j)):OpD X f (i2 C d):=
 OpD.of h λH P α S x y a b Q r p1 p2 af=>by
  obtain⟨i,j,rfl,rfl,hc,ok⟩:=tQ af;exact⟨i,j,zM p1,zM p2,hC i j hc,xr ok r (hv P α i j)⟩
theorem kS {f:Ac->Ac->Gf Ac}{v:Am->Am->V}{d:Am->Am->D}(h:OpR X f (rI0 v))(hv:∀ P α i j,Rep X.K P α (d i j) (v i j)):OpD X f (i2 (λ_ _=>true) d):=
 OpD.of h λH P α S x y a b Q r p1 p2 af=>by
  obtain⟨i,j,rfl,rfl,_,ok⟩:=tQ af;exact⟨i,j,zM p1,zM p2,xr ok r (hv P α i j)⟩
noncomputable def xN:G2:=i2 (λ_ _=>true) λi j=>.int (i-j)
theorem B7:OpD X (Cs .Sub) xN:=kS BK λP α i j=>by simp only[Rep]
noncomputable def nB (i j:Am):Ap:=decide (-(2 ^ 64)<i/\i<2 ^ 64)||decide (-(2 ^ 64)<j/\j<2 ^ 64)
theorem VU:OpD X (Cs .Mult) (i2 nB λi j=>.int (i*j)):=kT BH (λi j h=>by
 unfold nB at h;rw[IH] at h;rcases h with h|h
 .exact .inl (AZ h)
 .exact .inr (AZ h)) λP α i j=>by simp only[Rep]
noncomputable def JR (i j:Am):Ap:=decide (0<j/\j<1073741824)
noncomputable def pB:G2:=i2 JR λi j=>.int (i/j)
theorem B0:OpD X (Cs .FloorDiv) pB:=kT VY (λi j h=>(AZ h:0<j/\j<1073741824)) λP α i j=>by simp only[Rep]
noncomputable def jG:G2:=i2 (λ_ j=>decide (0<j)) λi j=>.int (i % j)
theorem B4:OpD X (Cs .Mod) jG:=kT BG (λi j h=>AZ h) λP α i j=>by simp only[Rep]
noncomputable def oY (i j:Am):Ap:=decide (0<=j/\j<=1000000/\i.natAbs<2 ^ 64)
noncomputable def v8:G2:=i2 oY λi j=>.int (i ^ j.toNat)
theorem B5:OpD X (Cs .Pow) v8:=kT BI (λi j h=>(AZ h:0<=j/\j<=1000000/\i.natAbs<2 ^ 64)) λP α i j=>by simp only[Rep]
noncomputable def gLt:G2:=i2 (λ_ _=>true) λi j=>.bl (decide (i<j))
noncomputable def gLe:G2:=i2 (λ_ _=>true) λi j=>.bl (decide (i<=j))
noncomputable def gGt:G2:=i2 (λ_ _=>true) λi j=>.bl (decide (j<i))
noncomputable def gGe:G2:=i2 (λ_ _=>true) λi j=>.bl (decide (j<=i))
theorem N3:OpD X (Cb .Lt) gLt:=kS N8 λP α i j=>by simp only[Rep]
theorem N2:OpD X (Cb .LtE) gLe:=kS N7 λP α i j=>by simp only[Rep]
theorem N0:OpD X (Cb .Gt) gGt:=kS N6 λP α i j=>by simp only[Rep]
theorem TZ:OpD X (Cb .GtE) gGe:=kS N5 λP α i j=>by simp only[Rep]
noncomputable def fG:D->Sto->Res D:=λa S=>match a with
 |.int i=>.ok (.int (-i)) S
 |_=>.bad
theorem FX:UnD X (Qw .USub) fG:=by
 intro pins σ H s P α S v vv a Q I r rv p af;cases a with
 |int i=>exact FY pins s σ H v vv Q I rv ⟨i,zM p,xr af r (by simp only[Rep])⟩
 |_=>exact An af
noncomputable def gIs:G2:=λa b S=>match b with
 |.non=>match a with
  |.non=>.ok (.bl true) S
  |_=>.ok (.bl false) S
 |_=>.bad
theorem VQ {P:Hp}{α:Aa Ad}(r:Rep X.K P α d v):decide (v=.non)=(match d with|.non=>true|_=>false):=by
 cases d <;> simp only[Rep] at r
 case non=>subst r;rfl
 case bl=>subst r;rfl
 case int=>subst r;rfl
 case str=>subst r;rfl
 case ty=>subst r;rfl
 case clo=>obtain⟨rfl,_⟩:=r;rfl
 case obj=>obtain⟨rfl,_⟩:=r;rfl
 case tup=>obtain⟨a,vs,rfl,_⟩:=r;rfl
 case lst=>obtain⟨a,vs,rfl,_⟩:=r;rfl
 case dct0=>obtain⟨a,rfl,_⟩:=r;rfl
 case loc=>obtain⟨a,rfl,_⟩:=r;rfl
 case exn=>obtain⟨a,rfl,_⟩:=r;rfl
 case fd=>obtain⟨a,o,vs,rfl,_⟩:=r;rfl
theorem N1:OpD X (Cb .Is) gIs:=OpD.of BF λH P α S x y a b Q r p1 p2 af=>by
 cases b with
 |non =>
  simp only[Rep] at p2;refine⟨p2,?_⟩;rw[VQ p1];cases a <;> exact xr af r (by simp only[Rep])
 |_=>exact An af
noncomputable def zS:G2:=λa b S=>match a,b with
 |.int i,.int j=>.ok (.int (i+j)) S
 |.str x,.str y=>if x.length+y.length<=lim then .ok (.str (x++y)) S else .bad
 |.tup xs,.tup ys=>if xs.length+ys.length<=lim then .ok (.tup (xs++ys)) S else .bad
 |.lst xs,.lst ys=>if xs.length+ys.length<=lim then .ok (.lst (xs++ys)) S else .bad
 |_,_=>.bad
theorem uX {H P:Hp}{α:Aa Ad}{S:Sto}(I:Inv X pins σ H s)(r:Rel X.K H P α S)(p:Rep X.K P α (.tup xs) v) :
  ∃ a vs its,v=.ref a/\SqT X.K P a vs/\qD X.K P α xs vs/\qK vs its/\Pw s.heap a its.toArray/\xs.length=its.length/\xs.length<=lim:=by
 simp only[Rep] at p;obtain⟨a,vs,rfl,q,t⟩:=p;obtain⟨its,rv,p1,z⟩:=I.tuple (xD r.sub q);exact⟨a,vs,its,rfl,q,t,rv,p1,by rw[t.length,rv.length],by rw[t.length,zI];exact z⟩
theorem vE {H P:Hp}{α:Aa Ad}{S:Sto}(I:Inv X pins σ H s)(r:Rel X.K H P α S)(p:Rep X.K P α (.lst xs) v) :
  ∃ a vs its n,v=.ref a/\SqX X.K P a vs/\qD X.K P α xs vs/\qK vs its/\s.heap.get? a=Ab { cls:=.type "list",data:=.seq its.toArray n } /\ xs.length=its.length/\xs.length<=lim:=by
 simp only[Rep] at p;obtain⟨a,vs,rfl,q,t⟩:=p;have:∃ its n,qK vs its/\s.heap.get? a=Ab { cls:=.type "list",data:=.seq its.toArray n } /\ vs.length<=sizeLine:=by
  rcases q with q|⟨its,n,e,z,rv⟩
  .obtain⟨z,its,n,rv,e⟩:=(sX r.sub q).ok I.hok
   exact⟨its,n,rv,e,z⟩
  .exact⟨its,n,rv,I.kIn _ _ e,z⟩
 obtain⟨its,n,rv,e,z⟩:=this;exact⟨a,vs,its,n,rfl,q,t,rv,e,by rw[t.length,rv.length],by rw[t.length,zI];exact z⟩
theorem ZE {H P:Hp}{α:Aa Ad}{S:Sto}(I:Inv X pins σ H s)(r:Rel X.K H P α S)(t:qD X.K P α xs vs)(rv:qK vs its)(hz:xs.length<=lim)
  (ok:OkV X P α Q (.tup xs) S):EP X pins σ Q (.ref s.heap.objs.size) { s with heap:=s.heap.push { cls:=.type "tuple",data:=.seq its.toArray } }:=by
 refine⟨.ref s.heap.objs.size,_,I.laid (t':=s.toks) (o:=.tup vs) (λb ob q=>Aj _ q) (Ay _) ⟨by rw[<- t.length,<- zI];exact hz,its,rv,Tg _ _⟩,rfl,pM r (I.hok.fresh (Ay _)) t ok⟩
theorem lE {H P:Hp}{α:Aa Ad}{S:Sto}(I:Inv X pins σ H s)(r:Rel X.K H P α S)(t:qD X.K P α xs vs)(rv:qK vs its)(hz:xs.length<=lim)
  (ok:OkV X P α Q (.lst xs) S):EP X pins σ Q (.ref s.heap.objs.size) { s with heap:=s.heap.push { cls:=.type "list",data:=.seq its.toArray } }:=by
 refine⟨.ref s.heap.objs.size,_,I.laid (t':=s.toks) (o:=.lst vs) (λb ob q=>Aj _ q) (Ay _) ⟨by rw[<- t.length,<- zI];exact hz,its,0,rv,AC _ rfl⟩,rfl,wG r (I.hok.fresh (Ay _)) t ok⟩
theorem JN {H P:Hp}{α:Aa Ad}{S:Sto}{ys:Aa D}{u:V}{vv uu:Ac}(I:Inv X pins σ H s)(r:Rel X.K H P α S)(rv:qJ v vv)(ru:qJ u uu)(pa:Rep X.K P α (.tup xs) v)(pb:Rep X.K P α (.tup ys) u)(hl:xs.length+ys.length<=lim)(af:OkV X P α Q (.tup (xs++ys)) S) :
  Ao (Aq X.prog X.w) X.A (Cs .Add vv uu) (EP X pins σ Q) X.xe s:=by
 obtain⟨a,vs,its,rfl,q1,t1,rv1,h1,l1,_⟩:=uX I r pa;obtain⟨b,ws,its2,rfl,q2,t2,rv2,h2,l2,_⟩:=uX I r pb;cases rv;cases ru;by_cases hx:its=[]
 .obtain⟨⟨cls,dd,data,sl⟩,ho,hc,n,hd⟩:=id h1
  obtain⟨⟨cls2,dd2,data2,sl2⟩,ho2,hc2,n2,hd2⟩:=id h2;simp only at hc hd hc2 hd2;subst hc hd hc2 hd2;have hxs:xs=[]:=H9.mp (by rw[l1,hx];rfl)
  subst hxs;exact Pi ⟨_,ho,rfl⟩ ⟨_,ho2,rfl⟩ Lp OA HS Hz (Hu _ _) (tuple_addW0 a b its.toArray its2.toArray n n2 dd dd2 sl sl2 (by simp[hx]))
   ⟨ho,ho2,⟨.ref b,H,I,rfl,xr af r pb⟩⟩
 .refine _H.cat_tup h1 h2 hx (λz=>⟨.ref a,H,I,rfl,xr af r ?_⟩) (λz=>?_) (by rw[<- l1,<- l2,<- zI];exact hl)
  .have hys:ys=[]:=H9.mp (by rw[l2,z];rfl)
   rw[hys,Di];exact pa
  .exact ZE I r (t1.append t2) (rv1.append rv2) (by rw[Bs];exact hl) af
theorem JM {H P:Hp}{α:Aa Ad}{S:Sto}{ys:Aa D}{u:V}{vv uu:Ac}(I:Inv X pins σ H s)(r:Rel X.K H P α S)(rv:qJ v vv)(ru:qJ u uu)(pa:Rep X.K P α (.lst xs) v)(pb:Rep X.K P α (.lst ys) u)(hl:xs.length+ys.length<=lim)(af:OkV X P α Q (.lst (xs++ys)) S) :
  Ao (Aq X.prog X.w) X.A (Cs .Add vv uu) (EP X pins σ Q) X.xe s:=by
 obtain⟨a,vs,its,n,rfl,q1,t1,rv1,h1,l1,_⟩:=vE I r pa;obtain⟨b,ws,its2,n2,rfl,q2,t2,rv2,h2,l2,_⟩:=vE I r pb;cases rv;cases ru;refine Rg h1 h2 ?_ (by rw[AK,AK,<- l1,<- l2,<- zI];exact hl)
 rw[OF];exact lE I r (t1.append t2) (rv1.append rv2) (by rw[Bs];exact hl) af
inductive AddV (a b:D)(S:Sto):Prop
 |bad (e:zS a b S=.bad)
 |int (i j:Am) (ea:a=.int i) (eb:b=.int j)
 |str (x y:Ar) (ea:a=.str x) (eb:b=.str y)
 |tup (x y:Aa D) (ea:a=.tup x) (eb:b=.tup y)
 |lst (x y:Aa D) (ea:a=.lst x) (eb:b=.lst y)
theorem LQ (a b:D)(S:Sto):AddV a b S:=by
 cases a with
 |int i=>cases b with
  |int j=>exact .int i j rfl rfl
  |_=>exact .bad rfl
 |str i=>cases b with
  |str j=>exact .str i j rfl rfl
  |_=>exact .bad rfl
 |tup i=>cases b with
  |tup j=>exact .tup i j rfl rfl
  |_=>exact .bad rfl
 |lst i=>cases b with
  |lst j=>exact .lst i j rfl rfl
  |_=>exact .bad rfl
 |_=>exact .bad rfl
theorem PZ:OpD X (Cs .Add) zS:=by
 intro pins σ H s P α S v u vv uu a b Q I r rv ru pa pb af;cases LQ a b S with
 |bad e=>rw[e] at af;exact An af
 |int i j ea eb =>
  subst ea eb;exact BE pins s σ H v u vv uu Q I rv ru ⟨i,j,zM pa,zM pb,xr af r (by simp only[Rep])⟩
 |str x y ea eb =>
  subst ea eb;obtain⟨hl,af⟩:=xH (X:=X) af;simp only[Rep] at pa pb;exact eY pins s σ H v u vv uu Q I rv ru ⟨x,y,pa,pb,by rw[<- zI];exact hl,xr af r (by simp only[Rep])⟩
 |tup xs ys ea eb =>
  subst ea eb;obtain⟨hl,af⟩:=xH (X:=X) af;exact JN I r rv ru pa pb hl af
 |lst xs ys ea eb =>
  subst ea eb;obtain⟨hl,af⟩:=xH (X:=X) af;exact JM I r rv ru pa pb hl af
noncomputable def gIx:G2:=λa b S=>match b with
 |.int k=>match a with
  |.tup xs=>vI (atI xs k) S
  |.lst xs=>vI (atI xs k) S
  |.loc i=>match S[i]? with
   |some (.lst xs)=>vI (atI xs k) S
   |_=>.bad
  |_=>.bad
 |_=>.bad
theorem bX {P:Hp}{α:Aa Ad}{k:Am}(rp:qD X.K P α ds vs)(h:atI ds k=Ab d):∃ v,atI vs k=Ab v/\Rep X.K P α d v:=by
 unfold atI at h ⊢;rw[<- rp.length];cases q:ixN ds.length k with
 |none=>rw[q] at h;cases h
 |some j =>
  rw[q] at h;obtain⟨v,h1,h2⟩:=rp.get (show ds[j]? = Ab d from h)
  exact⟨v,h1,h2⟩
theorem DB:IxD X gIx:=by
 intro value slice pins σ H s P α S v u vv uu a b Q I r rv ru pa pb af hs;cases b with
 |int k =>
  have hk:=zM pb;cases a with
  |tup xs =>
   obtain⟨d,e,ok⟩:=yU (X:=X) af;simp only[Rep] at pa;obtain⟨p,vs,rfl,q,t⟩:=pa;obtain⟨w,e1,rw'⟩:=bX t e;exact GS value slice pins s σ H _ u vv uu Q I rv ru ⟨p,vs,k,w,rfl,hk,xD r.sub q,e1,xr ok r rw'⟩ hs
  |lst xs =>
   obtain⟨d,e,ok⟩:=yU (X:=X) af;simp only[Rep] at pa;obtain⟨p,vs,rfl,q,t⟩:=pa;obtain⟨w,e1,rw'⟩:=bX t e;exact sH value slice pins s σ H _ u vv uu Q I rv ru ⟨p,vs,k,w,rfl,hk,(xA r.sub q).l,e1,xr ok r rw'⟩ hs
  |loc i =>
   obtain⟨xs,hS,af⟩:=vG (X:=X) (f:=λxs=>vI (atI xs k) S) af;obtain⟨d,e,ok⟩:=yU (X:=X) af;simp only[Rep] at pa;obtain⟨p,rfl,q⟩:=pa;obtain⟨vs,z,t⟩:=r.at' i p _ q hS;obtain⟨w,e1,rw'⟩:=bX t e;exact sH value slice pins s σ H _ u vv uu Q I rv ru ⟨p,vs,k,w,rfl,hk,.of z,e1,xr ok r rw'⟩ hs
  |_=>exact An af
 |_=>exact An af
noncomputable def pD:G3:=λo i d S=>match o,i with
 |.loc n,.int k=>match S[n]? with
  |some (.lst xs)=>match ixN xs.length k with
   |some j=>.ok () (S.set n (.lst (xs.set j d)))
   |none=>.bad
  |_=>.bad
 |_,_=>.bad
theorem NP:tY X (tV X pD):=by
 intro pins s σ H o i v ov iv u Q I ro ri rv h;obtain⟨P,α,S,a,b,d,r,pa,pb,pd,af⟩:=h;cases a with
 |loc n =>
  cases b with
  |int k =>
   obtain⟨xs,hS,af⟩:=vG (X:=X) (f:=λxs=>match ixN xs.length k with|some j=>.ok () (S.set n (.lst (xs.set j d)))|none=>.bad) af
   cases hj:ixN xs.length k with
   |none=>rw[hj] at af;exact An af
   |some j =>
    rw[hj] at af;simp only[Rep] at pa;obtain⟨p,rfl,q⟩:=pa;obtain⟨vs,z,t⟩:=r.at' n p _ q hS;refine XM pins s σ H _ i v ov iv u Q I ro ri rv ⟨p,vs,k,j,rfl,zM pb,z,by rw[<- t.length];exact hj,?_⟩
    refine af _ P α (r.put (m':=.lst (xs.set j d)) q hS (by intro z;cases z) ⟨vs.set j v,qT,t.set pd j⟩) (qF.refl _) (AG _)
  |_=>exact An af
 |_=>exact An af
noncomputable def P9:D->Sto->Ak Ah
 |.tup xs,_=>Ab xs.length
 |.lst xs,_=>Ab xs.length
 |.str x,_=>if x.length<=lim then Ab x.length else none
 |.dct0,_=>Ab 0
 |.loc i,S=>match S[i]? with
  |some (.lst xs)=>Ab xs.length
  |_=>none
 |_,_=>none
noncomputable def nZ:DF:=λds S=>match ds with
 |[d]=>match P9 d S with
  |some n=>.ok (.int n) S
  |none=>.bad
 |_=>.bad
end
section
variable {X:Cx}
theorem jT {P:Hp}{α:Aa Ad}(rp:qD X.K P α [d] vs)(rv:qK vs us):∃ v u,vs=[v]/\us=[u]/\Rep X.K P α d v/\qJ v u:=by
 obtain⟨v,ws,rfl,p,t⟩:=rp.cons_inv;have:=t.nil_inv;subst this;obtain⟨u,rfl,q⟩:=gP rv;exact⟨v,u,rfl,rfl,p,q⟩
theorem gM {P:Hp}{α:Aa Ad}{e:D}(rp:qD X.K P α [d,e] vs)(rv:qK vs us):∃ v w u x,vs=[v,w]/\us=[u,x]/\Rep X.K P α d v/\Rep X.K P α e w/\qJ v u/\qJ w x:=by
 obtain⟨v,ws,rfl,p,t⟩:=rp.cons_inv;obtain⟨w,ws,rfl,p',t⟩:=t.cons_inv;have:=t.nil_inv;subst this;obtain⟨u,x,rfl,q,q'⟩:=tW rv;exact⟨v,w,u,x,rfl,rfl,p,p',q,q'⟩
noncomputable def eP (d:D)(S:Sto):Ak Ah:=match d with
 |.dct0=>none
 |_=>P9 d S
theorem PB {H P:Hp}{α:Aa Ad}{S:Sto}{n:Ah}(r:Rel X.K H P α S)(p:Rep X.K P α d v)(hn:eP d S=Ab n):JI X.K v H n:=by
 cases d with
 |str x =>
  cases (show v=.str x from p)
  obtain⟨hl,rfl⟩:=jK hn;exact⟨by rw[<- zI];exact hl,rfl⟩
 |tup xs =>
  simp only[Rep] at p;obtain⟨a,ws,rfl,sq,t⟩:=p;cases hn;exact .inr ⟨ws,xD r.sub sq,t.length⟩
 |lst xs =>
  simp only[Rep] at p;obtain⟨a,ws,rfl,sq,t⟩:=p;cases hn;exact .inl ⟨ws,(xA r.sub sq).l,t.length⟩
 |loc i =>
  simp only[Rep] at p;obtain⟨a,rfl,e⟩:=p;obtain⟨xs,hS,hn⟩:=PD (f:=λxs=>Ab xs.length) hn;cases hn;obtain⟨ws,z,t⟩:=r.at' i a _ e hS;exact .inl ⟨ws,.of z,t.length⟩
 |_=>exact nn hn
inductive LenD1 (ds:Aa D)(S:Sto)(r:Res D):Prop
 |bad (e:r=.bad)
 |of (d:D) (n:Ah) (ed:ds=[d]) (hn:eP d S=Ab n) (e:r=.ok (.int n) S)
theorem T9 (ds:Aa D)(S:Sto):LenD1 ds S (match ds with|[.dct0]=>.bad|_=>nZ ds S):=by
 cases ds with
 |nil=>exact .bad rfl
 |cons d ds =>
  cases ds with
  |cons _ _=>cases d <;> exact .bad rfl
  |nil =>
   have z:(match [d] with|[D.dct0]=>Res.bad|_=>nZ [d] S)=(match eP d S with|some n=>Res.ok (D.int n) S|none=>.bad):=by cases d <;> rfl
   rw[z];cases hn:eP d S with
   |none=>exact .bad rfl
   |some n=>exact .of d n rfl hn rfl
theorem JU (hD:HX):wN X (.builtin "len") (λds S=>match ds with|[.dct0]=>.bad|_=>nZ ds S):=by
 intro pins σ H s P α S vs us ds Q I r rv rp af;have af1:qH X P α (match ds with|[D.dct0]=>Res.bad|_=>nZ ds S) (OkV X P α Q):=af
 clear af;cases T9 ds S with
 |bad e=>rw[e] at af1;exact An af1
 |of d n ed hn e =>
  rw[e] at af1;subst ed;obtain⟨v,u,rfl,rfl,p,q⟩:=jT rp rv;exact Q0 pins s σ H _ _ Q I rv ⟨v,n,rfl,PB r p hn,xr af1 r (by simp only[Rep])⟩
noncomputable def tyD:D->Sto->Ak Bp
 |.non,_=>Ab "NoneType"
 |.bl _,_=>Ab "bool"
 |.int _,_=>Ab "int"
 |.str _,_=>Ab "str"
 |.tup _,_=>Ab "tuple"
 |.lst _,_=>Ab "list"
 |.dct0,_=>Ab "dict"
 |.loc i,S=>match S[i]? with
  |some (.lst _)=>Ab "list"
  |some (.dct _)=>Ab "dict"
  |_=>none
 |_,_=>none
noncomputable def xE (a b:Bp):Ap:=a == b||(a == "bool" && b == "int")
noncomputable def vF (b:Bp):Ap:=b == "int" || b == "bool" || b == "tuple" || b == "list" || b == "str" || b == "dict"
noncomputable def GX (a b:Bp):Ak Ap:=if (Eu a == Eu b)=true then Ab true else if PySem.W.kitMeta b=true then (fastBuiltinMro a).map (·.contains (.type b)) else none
noncomputable def tyL:Aa Bp:=["NoneType","bool","int","str","tuple","list","dict"]
noncomputable def okL:Aa Bp:=["int","bool","tuple","list","str","dict"]
theorem VA:(tyL.all λa=>okL.all λb=>decide (GX a b=Ab (xE a b)))=true:=by decide +kernel
theorem BA {b:Bp}(hb:vF b=true):b∈okL:=by simpa [vF,okL,or_assoc] using hb
theorem fM {K:Ai}{a b:Bp}(ha:a∈tyL)(hb:vF b=true):Go K (.type a) (.type b)=Ab (xE a b):=
 AZ (p:=GX a b=Ab (xE a b)) (Bh.mp (Bh.mp VA a ha) b (BA hb))
noncomputable def zV:DF:=λds S=>match ds with
 |[d,.ty b]=>if vF b then match tyD d S with
   |some a=>.ok (.bl (xE a b)) S
   |none=>.bad
  else .bad
 |_=>.bad
inductive TyV (X:Cx)(H:Hp)(v:V)(a:Bp):Prop
 |of (t:TyOf X.K H v (.type a))
 |tup (p:Ad) (vs:Aa V) (e:v=.ref p) (q:SqT X.K H p vs) (ea:a = "tuple")
 |lst (p:Ad) (vs:Aa V) (e:v=.ref p) (q:SqL X.K H p vs) (ea:a = "list")
theorem lV {S:Sto}{a:Bp}(h:tyD d S=Ab a):a∈tyL:=by
 cases d with
 |non=>cases h;exact .head _
 |bl b=>cases h;exact .tail _ (.head _)
 |int i=>cases h;exact .tail _ (.tail _ (.head _))
 |str x=>cases h;exact .tail _ (.tail _ (.tail _ (.head _)))
 |tup xs=>cases h;exact .tail _ (.tail _ (.tail _ (.tail _ (.head _))))
 |lst xs=>cases h;exact .tail _ (.tail _ (.tail _ (.tail _ (.tail _ (.head _)))))
 |dct0=>cases h;exact .tail _ (.tail _ (.tail _ (.tail _ (.tail _ (.tail _ (.head _))))))
 |loc i =>
  rcases fR (f:=λ_=>Ab "list") (g:=λ_=>Ab "dict") h with⟨_,_,h⟩|⟨_,_,h⟩
  .cases h;exact .tail _ (.tail _ (.tail _ (.tail _ (.tail _ (.head _)))))
  .cases h;exact .tail _ (.tail _ (.tail _ (.tail _ (.tail _ (.tail _ (.head _))))))
 |_=>exact nn h
theorem WR {H P:Hp}{α:Aa Ad}{S:Sto}{a:Bp}(r:Rel X.K H P α S)(p:Rep X.K P α d v)(h:tyD d S=Ab a):TyV X H v a:=by
 cases d with
 |non=>cases h;cases (show v=.non from p);exact .of .non
 |bl b=>cases h;cases (show v=.bl b from p);exact .of (.bl b)
 |int i=>cases h;cases (show v=.int i from p);exact .of (.int i)
 |str x=>cases h;cases (show v=.str x from p);exact .of (.str x)
 |tup xs =>
  cases h;simp only[Rep] at p;obtain⟨a,vs,e,q,t⟩:=p;exact .tup a vs e (xD r.sub q) rfl
 |lst xs =>
  cases h;simp only[Rep] at p;obtain⟨a,vs,e,q,t⟩:=p;exact .lst a vs e (xA r.sub q).l rfl
 |dct0 =>
  cases h;simp only[Rep] at p;obtain⟨a,rfl,q⟩:=p;exact .of (.dK (r.sub _ _ q))
 |loc i =>
  simp only[Rep] at p;obtain⟨a,rfl,q⟩:=p;rcases fR (f:=λ_=>Ab "list") (g:=λ_=>Ab "dict") h with⟨xs,hS,h⟩|⟨kvs,hS,h⟩
  .cases h
   obtain⟨vs,z,t⟩:=r.at' i a _ q hS;exact .of (.lst z)
  .cases h
   obtain⟨vs,z,t⟩:=r.at' i a _ q hS;exact .of (.dK z)
 |_=>exact nn h
inductive IsiV (ds:Aa D)(S:Sto):Prop
 |bad (e:zV ds S=.bad)
 |of (d:D) (b a:Bp) (ed:ds=[d,.ty b]) (hb:vF b=true) (ha:tyD d S=Ab a) (e:zV ds S=.ok (.bl (xE a b)) S)
theorem D8 (ds:Aa D)(S:Sto):IsiV ds S:=by
 cases ds with
 |nil=>exact .bad rfl
 |cons d ds =>
  cases ds with
  |nil=>exact .bad rfl
  |cons e ds =>
   cases ds with
   |cons _ _=>cases e <;> exact .bad rfl
   |nil =>
    cases e with
    |ty b =>
     have z:zV [d,.ty b] S=if vF b then (match tyD d S with|some a=>.ok (.bl (xE a b)) S|none=>.bad) else .bad:=rfl
     by_cases hb:vF b=true
     .rw[AA hb] at z
      cases ha:tyD d S with
      |none=>rw[ha] at z;exact .bad z
      |some a=>rw[ha] at z;exact .of d b a rfl hb ha z
     .rw[AB hb] at z
      exact .bad z
    |_=>exact .bad rfl
theorem cN:wN X (.builtin "isinstance") zV:=by
 intro pins σ H s P α S vs us ds Q I r rv rp af;cases D8 ds S with
 |bad e=>rw[e] at af;exact An af
 |of d b a ed hb ha e =>
  subst ed;rw[e] at af;obtain⟨v,w,u,x,rfl,rfl,p,p',q,q'⟩:=gM rp rv;simp only[Rep] at p';subst p';cases (show x=Eu b from q')
  have kit:=fM (K:=X.K) (lV ha) hb;have fin:∀ tk,EP X pins σ Q (.bool (xE a b)) { s with toks:=tk }:=λtk=>⟨.bl _,H,I.tok tk,rfl,xr af r (by simp only[Rep])⟩
  cases WR r p ha with
  |of ht=>exact aP I q ht kit fin
  |tup p' ws e sq ea =>
   subst e ea;cases (show u=Ba p' from q)
   obtain⟨its,rv',⟨o,h1,h2,_⟩,_⟩:=I.tuple sq;exact Ct Hv I.kIn ⟨o,h1,h2⟩ kit (λz=>nomatch z) fin
  |lst p' ws e sq ea =>
   subst e ea;cases (show u=Ba p' from q)
   obtain⟨its,rv',⟨o,_,h1,h2,_⟩,_⟩:=I.list sq;exact Ct ES I.kIn ⟨o,h1,h2⟩ kit (λz=>nomatch z) fin
noncomputable def zP:Aa D->Ak (Aa Ap)
 |[]=>Ab []
 |.bl b::r=>(zP r).map (b::·)
 |_=>none
theorem wO {P:Hp}{α:Aa Ad}:∀ {ds:Aa D} {bs:Aa Ap} {vs:Aa V} {us:Aa Ac},zP ds=Ab bs->qD X.K P α ds vs->qK vs us->us=bs.map Dk
 |[],bs,vs,us,h,rp,rv=>by
  cases h;have:=rp.nil_inv;subst this;cases rv;rfl
 |d::ds,bs,vs,us,h,rp,rv=>by
  cases d with
  |bl b =>
   obtain⟨bs',q,rfl⟩:=Bw.mp (show (zP ds).map (b::·)=Ab bs from h)
   obtain⟨w,ws,rfl,p,t⟩:=rp.cons_inv;simp only[Rep] at p;subst p;cases rv with
   |cons q1 q2 =>
    cases (show _=Dk b from q1)
    rw[wO q t q2];rfl
  |_=>exact nn h
noncomputable def fD (any:Ap):DF:=λds S=>match ds with
 |[d]=>match (w9 d).bind zP with
  |some bs=>.ok (.bl (if any then bs.any id else bs.all id)) S
  |none=>.bad
 |_=>.bad
theorem mW (bs:Aa Ap):((Bt bs.length).all λi=>bs.getD i false)=bs.all id:=by
 induction bs with
 |nil=>rfl
 |cons b bs ih =>
  rw[Bk,HU,Km,IR,Km,<- ih];rfl
theorem mX (bs:Aa Ap):((Bt bs.length).any λi=>bs.getD i false)=bs.any id:=by
 induction bs with
 |nil=>rfl
 |cons b bs ih =>
  rw[Bk,HU,Ga,List.any_map,Ga,<- ih];rfl
theorem aQ {H:Hp}{o:AV}{h':A8}{tk:Ah}(I:Inv X pins σ H s)(k:∀ b ob,b ∉ [s.heap.objs.size]->(s.heap.push o).get? b=Ab ob->h'.get? b=Ab ob):Inv X pins σ H { s with heap:=h',toks:=tk }:=
 I.kept λb u e=>k b u (by simp;exact AS (Ax e)) (Aj _ e)
theorem u0 {bs:Aa Ap}(hi:its=bs.map Dk){A:AJ}:TruthOf X.prog X.w A (λi v=>its.toArray[i]? = Ab v) (λi=>bs.getD i false):=λi v s' Q' E' hv hQ=>by
 subst hi;have hv':(bs.map Dk)[i]? = Ab v:=by simpa using hv
 rw[Br] at hv';cases e:bs[i]? with
 |none=>rw[e] at hv';exact nn hv'
 |some b =>
  rw[e] at hv';cases Bg hv';have:bs.getD i false=b:=by simp[He,e]
  have hQ':Q' (bs.getD i false) s':=hQ;rw[this] at hQ';exact Py hQ'
theorem YW {any:Ap}{S:Sto}{P:Hp}{α:Aa Ad}{Ok:D->Sto->Prop}(h:qH X P α (fD any ds S) Ok):∃ d xs bs,ds=[d]/\ItV d xs/\zP xs=Ab bs/\Ok (.bl (if any then bs.any id else bs.all id)) S:=by
 obtain⟨d,rfl,h1⟩:=BB (X:=X) (β:=D) (g:=λd=>match (w9 d).bind zP with|some bs=>.ok (D.bl (if any then bs.any id else bs.all id)) S|none=>.bad) h
 cases hb:(w9 d).bind zP with
 |none=>rw[hb] at h1;exact An h1
 |some bs =>
  rw[hb] at h1;obtain⟨xs,hx,hbs⟩:=Dj.mp hb;exact⟨d,xs,bs,rfl,itV hx,hbs,h1⟩
theorem JS (any:Ap)(hc:X.calm=true):wN X (.builtin (if any then "any" else "all")) (fD any):=by
 intro pins σ H s P α S vs us ds Q I r rv rp af;obtain⟨d,xs,bs,ed,hd,hbs,ok⟩:=YW af;clear af;subst ed;obtain⟨v,u,rfl,rfl,p,q⟩:=jT rp rv;clear rp;have fin:∀ {o:AV} (h':A8) (tk:Ah),(∀ b ob,b ∉ [s.heap.objs.size]->(s.heap.push o).get? b=Ab ob->h'.get? b=Ab ob)->EP X pins σ Q (.bool (if any then bs.any id else bs.all id)) { s with heap:=h',toks:=tk }:=
  λ{o} h' tk k=>⟨.bl _,H,aQ I k,rfl,xr ok r (by simp only[Rep])⟩
 clear rv ok;have hh:X.A.in1.handled=none:=I.ok.hd hc;cases hd with
 |tup ed =>
  subst ed;obtain⟨a,ws,its,rfl,sq,t,rvi,ht,hl,_⟩:=uX I r p;cases (show u=Ba a from q)
  have hi:=wO hbs t rvi;have hlen:its.toArray.size=bs.length:=by rw[hi];simp
  have hne:a≠s.heap.objs.size:=by obtain⟨o,e,_⟩:=ht;exact AS (Ax e)
  have W:=Uj (prog:=X.prog) (w:=X.w) hh s.heap.objs.size a hne its.toArray;have hT:∀ o,(s.heap.push o).IsTuple a its.toArray:=λo=>by obtain⟨o,e,c⟩:=ht;exact⟨o,Aj _ e,c⟩
  have ht':s.heap.IsTuple a its.toArray:=ht;cases any with
  |false =>
   refine call_all_walk (EF ht' ⟨s.heap.objs.size,_,_,_,_,_,_,rfl,W,⟨⟨_,AC _ rfl,rfl,rfl⟩,hT _⟩,u0 hi,λh' tk k=>?_⟩);rw[hlen,mW];exact fin h' tk k
  |true =>
   refine call_any_walk (EF ht' ⟨s.heap.objs.size,_,_,_,_,_,_,rfl,W,⟨⟨_,AC _ rfl,rfl,rfl⟩,hT _⟩,u0 hi,λh' tk k=>?_⟩);rw[hlen,mX];exact fin h' tk k
 |lst ed =>
  subst ed;obtain⟨a,ws,its,n,rfl,sq,t,rvi,ht,hl,_⟩:=vE I r p;cases (show u=Ba a from q)
  have hL:s.heap.IsList a its.toArray:=⟨_,ht,rfl,n,rfl⟩;have hi:=wO hbs t rvi;have hlen:its.toArray.size=bs.length:=by rw[hi];simp
  have hne:a≠s.heap.objs.size:=AS (Ax ht);have W:=Ut (prog:=X.prog) (w:=X.w) hh s.heap.objs.size a hne its.toArray;have hL':∀ o,(s.heap.push o).IsList a its.toArray:=λo=>⟨_,Aj _ ht,rfl,n,rfl⟩;cases any with
  |false =>
   refine call_all_walk (Ew hL ⟨s.heap.objs.size,_,_,_,_,_,_,rfl,W,⟨⟨_,AC _ rfl,rfl,rfl⟩,hL' _⟩,u0 hi,λh' tk k=>?_⟩);rw[hlen,mW];exact fin h' tk k
  |true =>
   refine call_any_walk (Ew hL ⟨s.heap.objs.size,_,_,_,_,_,_,rfl,W,⟨⟨_,AC _ rfl,rfl,rfl⟩,hL' _⟩,u0 hi,λh' tk k=>?_⟩);rw[hlen,mX];exact fin h' tk k
noncomputable def eG:DF:=λds S=>match ds with
 |[.int i]=>.ok (.int i) S
 |[.bl b]=>.ok (.int (b01 b)) S
 |_=>.bad
inductive IntV (ds:Aa D)(S:Sto):Prop
 |bad (e:eG ds S=.bad)
 |int (i:Am) (e:ds=[.int i])
 |bl (b:Ap) (e:ds=[.bl b])
theorem D5 (ds:Aa D)(S:Sto):IntV ds S:=by
 cases ds with
 |nil=>exact .bad rfl
 |cons d ds =>
  cases ds with
  |cons _ _=>cases d <;> exact .bad rfl
  |nil =>
   cases d with
   |int i=>exact .int i rfl
   |bl b=>exact .bl b rfl
   |_=>exact .bad rfl
theorem JT:wN X (.type "int") eG:=by
 intro pins σ H s P α S vs us ds Q I r rv rp af;cases D5 ds S with
 |bad e=>rw[e] at af;exact An af
 |int i e =>
  subst e;obtain⟨v,u,rfl,rfl,p,q⟩:=jT rp rv;exact mH pins s σ H _ _ Q I rv (.inl ⟨_,by rw[zM p],xr af r (by simp only[Rep])⟩)
 |bl b e =>
  subst e;obtain⟨v,u,rfl,rfl,p,q⟩:=jT rp rv;simp only[Rep] at p;subst p;exact mH pins s σ H _ _ Q I rv (.inr ⟨_,rfl,xr af r (by simp only[Rep];rfl)⟩)
end
section
variable {X:Cx}
structure ClsK (K:Ai)(cl:Aa Ad):Prop where
 ex:∀ C∈cl,ExnK K C
 one:∀ C∈cl,∀ B∈cl,Go K (.ref C) (.ref B)=Ab (C == B)
 ve:∀ C∈cl,Go K (.ref C) (.type "ValueError")=Ab true
noncomputable def zH (cl:Aa Ad):DF:=λds S=>match ds with
 |[.exn (.ref C),.obj B]=>if cl.contains C&&cl.contains B then .ok (.bl (C == B)) S else .bad
 |[.exn (.ref C),.ty b]=>if cl.contains C&&(b == "ValueError") then .ok (.bl true) S else .bad
 |_=>zV ds S
theorem aD {H P:Hp}{α:Aa Ad}{S:Sto}{C:Ad}{u:Ac}(I:Inv X pins σ H s)(r:Rel X.K H P α S)(p:Rep X.K P α (.exn (.ref C)) v)(q:qJ v u):∃ a,u=.ref a/\yG a C s.heap:=by
 simp only[Rep] at p;obtain⟨a,rfl,z⟩:=p;obtain⟨y,_⟩:=I.hok a _ (r.sub _ _ z);exact⟨a,q,y⟩
inductive IsiE (cl:Aa Ad)(ds:Aa D)(S:Sto):Prop
 |bad (e:zH cl ds S=.bad)
 |old (e:zH cl ds S=zV ds S)
 |obj (C B:Ad) (ed:ds=[.exn (.ref C),.obj B]) (h1:C∈cl) (h2:B∈cl) (e:zH cl ds S=.ok (.bl (C == B)) S)
 |ve (C:Ad) (ed:ds=[.exn (.ref C),.ty "ValueError"]) (h1:C∈cl) (e:zH cl ds S=.ok (.bl true) S)
theorem T1 (cl:Aa Ad)(C:Ad)(d:D)(S:Sto):IsiE cl [.exn (.ref C),d] S:=by
 cases d with
 |obj B =>
  have z:zH cl [.exn (.ref C),.obj B] S=if (cl.contains C&&cl.contains B)=true then .ok (.bl (C == B)) S else .bad:=rfl
  by_cases h:(cl.contains C&&cl.contains B)=true
  .rw[AA h] at z
   have h':=CI.mp h;exact .obj C B rfl (De.mp h'.1) (De.mp h'.2) z
  .rw[AB h] at z
   exact .bad z
 |ty b =>
  have z:zH cl [.exn (.ref C),.ty b] S=if (cl.contains C&&(b == "ValueError"))=true then .ok (.bl true) S else .bad:=rfl
  by_cases h:(cl.contains C&&(b == "ValueError"))=true
  .rw[AA h] at z
   have h':=CI.mp h;cases (Ls.mp h'.2);exact .ve C rfl (De.mp h'.1) z
  .rw[AB h] at z
   exact .bad z
 |_=>exact .old rfl
theorem D7 (cl:Aa Ad)(ds:Aa D)(S:Sto):IsiE cl ds S:=by
 cases ds with
 |nil=>exact .old rfl
 |cons a ds =>
  cases a with
  |exn c =>
   cases c with
   |ref C =>
    cases ds with
    |nil=>exact .old rfl
    |cons b ds =>
     cases ds with
     |nil=>exact T1 cl C b S
     |cons _ _=>cases b <;> exact .old rfl
   |_=>exact .old rfl
  |_=>exact .old rfl
theorem WZ {cl:Aa Ad}(hK:ClsK X.K cl):wN X (.builtin "isinstance") (zH cl):=by
 intro pins σ H s P α S vs us ds Q I r rv rp af;cases D7 cl ds S with
 |bad e=>rw[e] at af;exact An af
 |old e=>rw[e] at af;exact cN pins σ H s P α S vs us ds Q I r rv rp af
 |obj C B ed h1 h2 e =>
  rw[e] at af;subst ed;obtain⟨v,w,u,x,rfl,rfl,p,p',q,q'⟩:=gM rp rv;simp only[Rep] at p';obtain⟨rfl,_⟩:=p';cases (show x=Ba B from q')
  obtain⟨a,rfl,ha⟩:=aD I r p q;exact Ct (lD (hK.ex C h1)) I.kIn ha (hK.one C h1 B h2) (λz=>nomatch z) λtk=>⟨.bl _,H,I.tok tk,rfl,xr af r (by simp only[Rep])⟩
 |ve C ed h1 e =>
  rw[e] at af;subst ed;obtain⟨v,w,u,x,rfl,rfl,p,p',q,q'⟩:=gM rp rv;simp only[Rep] at p';subst p';cases (show x=Eu "ValueError" from q')
  obtain⟨a,rfl,ha⟩:=aD I r p q;exact Ct (lD (hK.ex C h1)) I.kIn ha (hK.ve C h1) (λz=>nomatch z) λtk=>⟨.bl _,H,I.tok tk,rfl,xr af r (by simp only[Rep])⟩
def MtD (X:Cx)(id:Bp)(g:D->Aa D->Sto->Res D):Prop:=
 ∀ (pins:Aa (Ad × AV)) (σ : _L.St) (H:Hp) (s:Ag) (P:Hp) (α : Aa Ad) (S:Sto) (v:V) (vv:Ac) (vs:Aa V) (us:Aa Ac) (a:D) (ds:Aa D) (Q:VK),Inv X pins σ H s->Rel X.K H P α S->qJ v vv->Rep X.K P α a v->qK vs us->qD X.K P α ds vs->qP X P α (g a ds S) Q ->
  Ao (Aq X.prog X.w) X.A (call (.builtin id) (vv::us)) (EP X pins σ Q) X.xe s
noncomputable def dBm (T:Bp)(g:D->Aa D->Sto->Res D)(fo:DE)(fa:DA):DE:=λenv S=>(fo env S).bind λa S1=>if (tyD a S1 == Ab T)=true then (fa env S1).bind λds S2=>g a ds S2 else .bad
theorem oI {H P:Hp}{α:Aa Ad}{S:Sto}{a:D}{T:Bp}(r:Rel X.K H P α S)(p:Rep X.K P α a v)(h:tyD a S=Ab T)(hT:T = "list" \/ T = "dict" \/ T = "int" \/ T = "str"):tyV X.K T v H:=by
 cases a with
 |int i=>cases h;simp only[Rep] at p;subst p;rfl
 |str x=>cases h;simp only[Rep] at p;subst p;rfl
 |lst xs =>
  cases h;simp only[Rep] at p;obtain⟨b,vs,rfl,q,t⟩:=p;exact .inl ⟨rfl,vs,(xA r.sub q).l⟩
 |dct0 =>
  cases h;simp only[Rep] at p;obtain⟨b,rfl,q⟩:=p;exact .inr (.inr (.inl ⟨rfl,.inl ⟨[],r.sub _ _ q⟩⟩))
 |loc i =>
  simp only[Rep] at p;obtain⟨b,rfl,q⟩:=p;rcases fR (f:=λ_=>Ab "list") (g:=λ_=>Ab "dict") h with⟨xs,hS,h⟩|⟨kvs,hS,h⟩
  .cases h
   obtain⟨vs,z,t⟩:=r.at' i b _ q hS;exact .inl ⟨rfl,vs,SqL.of z⟩
  .cases h
   obtain⟨vs,z,t⟩:=r.at' i b _ q hS;exact .inr (.inr (.inl ⟨rfl,.inl ⟨vs,z⟩⟩))
 |non=>cases h;exact absurd hT (by decide)
 |bl b=>cases h;exact absurd hT (by decide)
 |tup xs=>cases h;exact absurd hT (by decide)
 |_=>exact nn h
variable {o e:AH}{es:Aa AH}{fo:DE}{fa:DA}{name:Ar}{apos cpos:CB}{T id:Bp}{g:D->Aa D->Sto->Res D}
theorem cW {P:Hp}{α:Aa Ad}{a:D}{S:Sto}{β:Type}{k:Res β}{Ok:β->Sto->Prop}(h:qH X P α (if (tyD a S == Ab T)=true then k else .bad) Ok):tyD a S=Ab T/\qH X P α k Ok:=by
 by_cases z:(tyD a S == Ab T)=true
 .rw[AA z] at h;exact⟨Ls.mp z,h⟩
 .rw[AB z] at h;exact An h
theorem MG (pa:OG T)(slot:Slot T name id)(hty:Sw (.builtin id)=pure (.type "method_descriptor"))(hT:T = "list" \/ T = "dict" \/ T = "int" \/ T = "str")(hm:MtD X id g)(ho:PE X o (tD X fo))(ha:PA X (e::es) (tDA X fa))
  (hbase:Kn o name X.env (eval o X.env)=eval o X.env:=by rfl)
  (hfew:((Dh cpos (A5 (e::es) X.env)).all (λx=>!x.1)&&(backToKw cpos (keywordEach [] X.env)).all (λx=>x.1.isSome)
   && decide ((e::es).length+([]:Aa Tl).length+(if ([] : Aa Tl).isEmpty then 0 else 1)<30))=true:=by rfl)
  (hline:(apos.endLine == cpos.line)=true:=by rfl) (hs:A5 (e::es) X.env=(false,eval e X.env)::A5 es X.env:=by rfl) (hplain:(Dh cpos (A5 es X.env)).any (·.1)=false:=by rfl) :
  PE X (.Call (.Attribute o name apos) (e::es) [] cpos) (tD X (dBm T g fo fa)):=by
 intro pins s σ H Q I h;obtain⟨P,α,env,S,r,re,af⟩:=h;refine wpAny_Call_method_late hbase hfew hline rfl (thn (zJ ho I r re af) λvv s1 ⟨v,H1,P1,α1,d,S1,G1,af1⟩=>?_);obtain⟨ht,af2⟩:=cW af1;obtain⟨h1,h2⟩:=oH G1.inv G1.val (oI G1.rel G1.rep ht hT);refine⟨T,id,pa,slot,hty,h1,h2,?_⟩;have hA:=xM ha G1.inv G1.rel G1.env (P:=P1) (α:=α1) (Ok:=OkV X P1 α1 Q) (qP.base G1.same G1.pre (r:=(fa env S1).bind λds S2=>g d ds S2) af2) cpos;rw[hs] at hA ⊢;refine Na (by show (false||(Dh cpos (A5 es X.env)).any (·.1))=false;rw[hplain] <;> rfl) (Ot ?_)
 exact thn hA λus s2 ⟨vs,H2,P2,α2,ds,S2,I2,rv,r2,re2,rp2,e1,e2,af3⟩=>hm pins σ H2 s2 P2 α2 S2 v vv vs us d ds Q I2 r2 G1.val (Rep.mono e1 e2 _ _ G1.rep) rv rp2 (qP.base e1 e2 af3)
noncomputable def nO (T:Bp)(g:D->Aa D->Sto->Res D)(fo:DE):DE:=λenv S=>(fo env S).bind λa S1=>if (tyD a S1 == Ab T)=true then g a [] S1 else .bad
theorem K5 (pa:OG T)(slot:Slot T name id)(hty:Sw (.builtin id)=pure (.type "method_descriptor"))(hT:T = "list" \/ T = "dict" \/ T = "int" \/ T = "str")(hm:MtD X id g)(ho:PE X o (tD X fo))
  (hbase:Kn o name X.env (eval o X.env)=eval o X.env:=by rfl) (hline:(apos.endLine == cpos.line)=true:=by rfl):PE X (.Call (.Attribute o name apos) [] [] cpos) (tD X (nO T g fo)):=by
 intro pins s σ H Q I h;obtain⟨P,α,env,S,r,re,af⟩:=h;refine wpAny_Call_method0_late hbase hline (thn (zJ ho I r re af) λvv s1 ⟨v,H1,P1,α1,d,S1,G1,af1⟩=>?_);obtain⟨ht,af2⟩:=cW af1;obtain⟨h1,h2⟩:=oH G1.inv G1.val (oI G1.rel G1.rep ht hT);exact⟨T,id,pa,slot,hty,h1,h2,Na rfl (PySem.evalArgs_none (hm pins σ H1 s1 P1 α1 S1 v vv [] [] d [] Q G1.inv G1.rel G1.val G1.rep .nil .nil (qP.base G1.same G1.pre af2)))⟩
noncomputable def wK:D->Aa D->Sto->Res D:=λa ds S=>match a,ds with
 |.loc i,[d]=>match S[i]? with
  |some (.lst xs)=>if xs.length<lim then .ok .non (S.set i (.lst (xs++[d]))) else .bad
  |_=>.bad
 |_,_=>.bad
inductive ApV (a:D)(ds:Aa D)(S:Sto):Prop
 |bad (e:wK a ds S=.bad)
 |of (i:Ah) (d:D) (xs:Aa D) (ea:a=.loc i) (ed:ds=[d]) (hS:S[i]? = Ab (.lst xs)) (hl:xs.length<lim) (e:wK a ds S=.ok .non (S.set i (.lst (xs++[d]))))
theorem apV (a:D)(ds:Aa D)(S:Sto):ApV a ds S:=by
 cases a with
 |loc i =>
  cases ds with
  |nil=>exact .bad rfl
  |cons d ds =>
   cases ds with
   |cons _ _=>exact .bad rfl
   |nil =>
    have z:wK (.loc i) [d] S=(match S[i]? with|some (.lst xs)=>(if xs.length<lim then .ok .non (S.set i (.lst (xs++[d]))) else .bad)|_=>.bad):=rfl
    cases hS:S[i]? with
    |none=>rw[hS] at z;exact .bad z
    |some m =>
     rw[hS] at z;cases m with
     |lst xs =>
      by_cases hl:xs.length<lim
      .exact .of i d xs rfl rfl hS hl (z.trans (AA hl))
      .exact .bad (z.trans (AB hl))
     |_=>exact .bad z
 |_=>exact .bad rfl
theorem i7:MtD X "list.append" wK:=by
 intro pins σ H s P α S v vv vs us a ds Q I r rv p rvs rps af;cases apV a ds S with
 |bad e=>rw[e] at af;exact An af
 |of i d xs ea ed hS hl e =>
  rw[e] at af;subst ea ed;obtain⟨w,u,rfl,rfl,p',q'⟩:=jT rps rvs;simp only[Rep] at p;obtain⟨b,rfl,q⟩:=p;obtain⟨ws,z,t⟩:=r.at' i b _ q hS;refine i8 pins s σ H (.ref b) [w] vv [u] Q I rv (.cons q' .nil) ⟨b,ws,w,rfl,rfl,z,by rw[<- t.length,<- zI];exact hl,?_⟩
  exact xr af (r.put (m':=.lst (xs++[d])) q hS (by intro z;cases z) ⟨ws++[w],qT,t.append (.cons p' .nil)⟩) (by simp only[Rep])
noncomputable def tP:D->Aa D->Sto->Res D:=λa ds S=>match a,ds with
 |.int n,[]=>.ok (.int (Fi n)) S
 |_,_=>.bad
theorem VL:MtD X "int.bit_length" tP:=by
 intro pins σ H s P α S v vv vs us a ds Q I r rv p rvs rps af;unfold tP at af
 split at af
 .simp only[Rep] at p
  subst p;obtain⟨t,rfl⟩:=rv;cases rps.nil_inv;cases rvs;exact call_int_bit_length ⟨.int _,H,I.tok _,⟨_,rfl⟩,xr af r (by simp only[Rep])⟩
 .exact An af
end
noncomputable def jM:D->Ak Key
 |.int i=>Ab (.inl i)
 |.str x=>Ab (.inr x)
 |_=>none
noncomputable def w5 (kvs:Aa (Key × D))(k:Key):Ak D:=(kvs.find? λkv=>decide (kv.1=k)).map (·.2)
noncomputable def uE (kvs:Aa (Key × D))(k:Key)(v:D):Aa (Key × D):=
 if (kvs.any λkv=>decide (kv.1=k))=true then kvs.map (λkv=>if kv.1=k then (kv.1,v) else kv) else kvs++[(k,v)]
section
variable {K:Ai}{P:Hp}{α : Aa Ad}
theorem VD {vs:Aa (Key × V)}(r:KVs K P α kvs vs):kvs.length=vs.length:=Paired.length r
theorem fN {k:Key}:∀ {kvs:Aa (Key × D)} {vs:Aa (Key × V)},KVs K P α kvs vs->(∀ d,w5 kvs k=Ab d->∃ v,w6 vs k=Ab v/\Rep K P α d v)/\(w5 kvs k=none->w6 vs k=none)
 |_,_,.nil=>⟨λd h=>by simp[w5] at h,λ_=>rfl⟩
 |(k1,d1)::kvs,(k2,v2)::vs,.cons z t=>by
  obtain⟨e,r⟩:=z;dsimp only at e r;subst e;obtain⟨h1,h2⟩:=fN (k:=k) t;unfold w5 w6 at *;by_cases hk:k1=k
  .subst hk
   constructor
   .intro d h
    simp at h;subst h;exact⟨v2,by simp,r⟩
   .intro h
    simp at h
  .constructor
   .intro d h
    rw[Nb (by simpa using hk)] at h ⊢
    exact h1 d h
   .intro h
    rw[Nb (by simpa using hk)] at h ⊢
    exact h2 h
theorem VB {k:Key}{vs:Aa (Key × V)}(h:KVs K P α kvs vs):(kvs.any λkv=>decide (kv.1=k))=(vs.any λkv=>decide (kv.1=k)):=by
 induction h with
 |nil=>rfl
 |cons z t ih=>rw[Ga,Ga,ih,z.1]
theorem VE {k:Key}(q:Rep K P α d v){kvs:Aa (Key × D)}{vs:Aa (Key × V)}(h:KVs K P α kvs vs):KVs K P α (kvs.map λkv=>if kv.1=k then (kv.1,d) else kv) (vs.map λkv=>if kv.1=k then (kv.1,v) else kv):=by
 induction h with
 |nil=>exact .nil
 |cons z t ih =>
  rw[Bu,Bu];refine .cons ?_ ih;rw[<- z.1]
  split
  .exact⟨rfl,q⟩
  .exact z
theorem VC {k:Key}(q:Rep K P α d v){kvs:Aa (Key × D)}{vs:Aa (Key × V)}(h:KVs K P α kvs vs):KVs K P α (kvs++[(k,d)]) (vs++[(k,v)]):=by
 induction h with
 |nil=>exact .cons ⟨rfl,q⟩ .nil
 |cons z t ih=>exact .cons z ih
theorem VF {k:Key}(q:Rep K P α d v){kvs:Aa (Key × D)}{vs:Aa (Key × V)}(r:KVs K P α kvs vs):KVs K P α (uE kvs k d) (wW vs k v):=by
 unfold uE wW;rw[VB r]
 split
 .exact VE q r
 .exact VC q r
theorem lC {k:Key}(h:jM d=Ab k)(r:Rep K P α d v):v=kV k:=by
 cases d with
 |int i=>cases h;simp only[Rep] at r;exact r
 |str x=>cases h;simp only[Rep] at r;exact r
 |_=>cases h
end
section
variable {X:Cx}{o i e:AH}{pos:CB}{fo fi:DE}
noncomputable def rZ:DE:=λ_ S=>.ok (.loc S.length) (S++[.dct []])
theorem K8:PE X (.Dict [] [] pos) (tD X rZ):=by
 refine peW lJ λσ H Q ⟨P,α,env,S,r,re,af⟩ p hp=>?_;have hpre:α<+:α++[p]:=Fp _ _;have r1:=r.new (o:=.dK []) (m:=.dct []) hp ⟨[],qT,.nil⟩;refine af _ _ _ _ r1 (qF.refl _) hpre ?_;simp only[Rep];exact⟨p,rfl,by rw[<- r.len];simp⟩
noncomputable def tJ:DE:=λ_ S=>.ok .dct0 S
theorem YB:PE X (.Dict [] [] pos) (tD X tJ):=by
 refine peW lJ λσ H Q ⟨P,α,env,S,r,re,af⟩ p hp=>?_;obtain⟨r1,e1⟩:=r.pure (o:=.dK []) hp;refine af _ _ _ α r1 e1 (AG _) ?_;simp only[Rep];exact⟨p,rfl,qT⟩
noncomputable def wA:G3:=λo i d S=>match o with
 |.loc n=>match S[n]? with
  |some (.dct kvs)=>match jM i with
   |some k=>if kvs.length<lim then .ok () (S.set n (.dct (uE kvs k d))) else .bad
   |none=>.bad
  |_=>pD o i d S
 |_=>pD o i d S
inductive Set2V (a b d:D)(S:Sto):Prop
 |bad (e:wA a b d S=.bad)
 |old (e:wA a b d S=pD a b d S)
 |of (n:Ah) (kvs:Aa (Key × D)) (k:Key) (ea:a=.loc n) (hS:S[n]? = Ab (.dct kvs)) (hk:jM b=Ab k) (hl:kvs.length<lim) (e:wA a b d S=.ok () (S.set n (.dct (uE kvs k d))))
theorem NO (a b d:D)(S:Sto):Set2V a b d S:=by
 cases a with
 |loc n =>
  have z:wA (.loc n) b d S=(match S[n]? with|some (.dct kvs)=>(match jM b with|some k=>(if kvs.length<lim then .ok () (S.set n (.dct (uE kvs k d))) else .bad)|none=>.bad)|_=>pD (.loc n) b d S):=rfl
  cases hS:S[n]? with
  |none=>rw[hS] at z;exact .old z
  |some m =>
   rw[hS] at z;cases m with
   |dct kvs =>
    cases hk:jM b with
    |none=>rw[hk] at z;exact .bad z
    |some k =>
     rw[hk] at z;by_cases hl:kvs.length<lim
     .exact .of n kvs k rfl hS hk hl (z.trans (AA hl))
     .exact .bad (z.trans (AB hl))
   |_=>exact .old z
 |_=>exact .old rfl
theorem FP (hu:X.A.units+1<CZ):tY X (tV X wA):=by
 intro pins s σ H o i v ov iv u Q I ro ri rv h;obtain⟨P,α,S,a,b,d,r,pa,pb,pd,af⟩:=h;cases NO a b d S with
 |bad e=>rw[e] at af;exact An af
 |old e =>
  rw[e] at af;exact NP pins s σ H o i v ov iv u Q I ro ri rv ⟨P,α,S,a,b,d,r,pa,pb,pd,af⟩
 |of n kvs k ea hS hk hl e =>
  rw[e] at af;subst ea;simp only[Rep] at pa;obtain⟨p,rfl,q⟩:=pa;obtain⟨vs,z,t⟩:=r.at' n p _ q hS;cases lC hk pb;cases (show ov=Ba p from ro)
  refine cV hu I (bU.k (v:=v) z (by rw[<- VD t,<- zI];exact hl)) ri rv λs' I'=>⟨_,I',?_⟩
  exact af _ P α (r.put (m':=.dct (uE kvs k d)) q hS (by intro z;cases z) ⟨_,qT,VF pd t⟩) (qF.refl _) (AG _)
noncomputable def RC:D->Aa D->Sto->Res D:=λa ds S=>match a,ds with
 |.loc n,[i,x]=>match S[n]? with
  |some (.dct kvs)=>match jM i with
   |some k=>.ok ((w5 kvs k).getD x) S
   |none=>.bad
  |_=>.bad
 |_,_=>.bad
noncomputable def b0:D->Aa D->Sto->Res D:=λa ds S=>match a,ds with
 |.lst xs,[.bl k]=>match zP xs with
  |some bs=>.ok (.int (bs.countP (· == k):Ah)) S
  |none=>.bad
 |_,_=>.bad
noncomputable def fJ (k:Ap):Aa Ap->Ak Ah
 |[]=>none
 |b::r=>if b=k then Ab 0 else (fJ k r).map (· + 1)
noncomputable def b7:D->Aa D->Sto->Res D:=λa ds S=>match a,ds with
 |.lst xs,[.bl k]=>match (zP xs).bind (fJ k) with
  |some j=>.ok (.int j) S
  |none=>.bad
 |_,_=>.bad
theorem nV (k:Ap){bs:Aa Ap}{y:Ac}(hy:y∈(bs.map Dk).toArray):Uf y (.bool k) (Nc k y):=by
 have hy':y∈bs.map Dk:=by rwa [List.mem_toArray] at hy
 obtain⟨b,_,rfl⟩:=AW.mp hy';exact λprog w A E s Q h=>Sx b k prog w E Q h
theorem d7 (k:Ap)(bs:Aa Ap):(bs.map Dk).countP (Nc k)=bs.countP (· == k):=by
 rw[List.countP_map];rfl
theorem cG {β:Type}{r:Res β}{P:Hp}{α:Aa Ad}{Ok:β->Sto->Prop}(e:r=.bad)(h:qH X P α r Ok):CA:=by
 rw[e] at h;exact h
inductive BlV (a:D)(ds:Aa D):Prop
 |no (h:∀ (g:Aa D->Ap->Res D),(match a,ds with|.lst xs,[.bl k]=>g xs k|_,_=>.bad)=.bad)
 |of (xs:Aa D) (k:Ap) (ea:a=.lst xs) (ed:ds=[.bl k])
theorem blV (a:D)(ds:Aa D):BlV a ds:=by
 cases a with
 |lst xs =>
  cases ds with
  |nil=>exact .no λ_=>rfl
  |cons d ds =>
   cases ds with
   |cons _ _=>cases d <;> exact .no λ_=>rfl
   |nil =>
    cases d with
    |bl k=>exact .of xs k rfl rfl
    |_=>exact .no λ_=>rfl
 |_=>exact .no λ_=>rfl
theorem ZP:MtD X "list.count" b0:=by
 intro pins σ H s P α S v vv vs us a ds Q I r rv p rvs rps af;cases blV a ds with
 |no h=>exact(cG (X:=X) (r:=b0 a ds S) (h _) af).elim
 |of xs k ea ed =>
  subst ea ed;have af:qH X P α (match zP xs with|some bs=>Res.ok (D.int (bs.countP (· == k):Ah)) S|none=>.bad) (OkV X P α Q):=af
  cases hb:zP xs with
  |none=>rw[hb] at af;exact An af
  |some bs =>
   rw[hb] at af;obtain⟨vx,ux,rfl,rfl,px,qx⟩:=jT rps rvs;simp only[Rep] at px;subst px;cases (show ux=Dk k from qx)
   obtain⟨b,ws,its,n,rfl,sq,t,rvi,ht,hl,_⟩:=vE I r p;cases (show vv=Ba b from rv)
   have hi:=wO hb t rvi;subst hi;refine Lq HA ⟨_,ht,rfl⟩ PySem.F.entry_list_count (PySem.F.args_list_count_2 _ _) (PySem.SeqAt.list_countAt b (bs.map Dk).toArray n none #[] (.bool k) (Nc k)) ⟨ht,λy hy=>(nV k hy).at _ _,?_⟩;refine⟨.int _,H,I.tok _,⟨_,rfl⟩,?_⟩;rw[show (bs.map Dk).toArray.toList=bs.map Dk from rfl,d7]
   exact xr af r (by simp only[Rep])
theorem sC {k:Ap}:∀ {bs:Aa Ap} {j:Ah},fJ k bs=Ab j->∃ h:j<bs.length,bs[j]=k/\∀ m (hm:m<bs.length),m<j->bs[m]≠k
 |[],j,h=>by cases h
 |b::r,j,h=>by
  unfold fJ at h;by_cases hb:b=k
  .rw[AA hb] at h
   cases h;exact⟨by simp,by simpa using hb,λm hm z=>absurd z (Nat.not_lt_zero _)⟩
  .rw[AB hb] at h
   obtain⟨i,hi,rfl⟩:=Bw.mp h;obtain⟨h1,h2,h3⟩:=sC hi;refine⟨by simp;lia,by simpa using h2,λm hm hl=>?_⟩
   cases m with
   |zero=>simpa using hb
   |succ m=>simpa using h3 m (by simp at hm;lia) li
theorem ZQ:MtD X "list.index" b7:=by
 intro pins σ H s P α S v vv vs us a ds Q I r rv p rvs rps af;cases blV a ds with
 |no h=>exact(cG (X:=X) (r:=b7 a ds S) (h _) af).elim
 |of xs k ea ed =>
  subst ea ed;have af:qH X P α (match (zP xs).bind (fJ k) with|some j=>Res.ok (D.int j) S|none=>.bad) (OkV X P α Q):=af
  cases hj:(zP xs).bind (fJ k) with
  |none=>rw[hj] at af;exact An af
  |some j =>
   rw[hj] at af;obtain⟨bs,hb,hi⟩:=Dj.mp hj;obtain⟨vx,ux,rfl,rfl,px,qx⟩:=jT rps rvs;simp only[Rep] at px;subst px;cases (show ux=Dk k from qx)
   obtain⟨b,ws,its,n,rfl,sq,t,rvi,ht,hl,hz⟩:=vE I r p;cases (show vv=Ba b from rv)
   have hi':=wO hb t rvi;subst hi';obtain⟨h1,h2,h3⟩:=sC hi;have hlen:bs.length<=sizeLine:=by
    have e1:=t.length;have e2:=rvi.length;rw[AR] at e2;rw[zI] at hz
    lia
   refine Lq HB ⟨_,ht,rfl⟩ PySem.F.entry_list_index (PySem.F.args_list_index_2 _ _) (Tn b (bs.map Dk).toArray n (.bool k) (Nc k) (λy hy=>nV k hy) j (by simpa using h1) ?_ ?_ ?_) ⟨ht,?_⟩
   .rw[Dm] at hlen;lia
   .simp[Nc,h2]
   .intro m hm hl'
    have hm':m<bs.length:=by simpa using hm
    have:=h3 m hm' hl';simp[Nc,this]
   .exact⟨.int _,H,I.tok _,⟨_,rfl⟩,xr af r (by simp only[Rep])⟩
end
noncomputable def jB (S:Sto):Sto:=S.map λ_=>.dead
noncomputable def XY:D->Ap
 |.non=>true
 |.bl _=>true
 |.int _=>true
 |.str _=>true
 |_=>false
noncomputable def mapO {β γ:Type}(f:β->Ak γ) : Aa β -> Ak (Aa γ)
 |[]=>Ab []
 |b::r=>match f b,mapO f r with
  |some c,Ab cs=>Ab (c::cs)
  |_,_=>none
noncomputable def wX:Ah->Sto->D->Ak D
 |n+1,S,.tup xs=>(mapO (wX n S) xs).map .tup
 |n+1,S,.lst xs=>(mapO (wX n S) xs).map .lst
 |n+1,S,.loc i=>match S[i]? with
  |some (.lst xs)=>(mapO (wX n S) xs).map .lst
  |_=>none
 |_,_,.non=>Ab .non
 |_,_,.bl b=>Ab (.bl b)
 |_,_,.int i=>Ab (.int i)
 |_,_,.str x=>Ab (.str x)
 |_,_,.ty n=>Ab (.ty n)
 |_,_,.obj a=>Ab (.obj a)
 |_,_,.dct0=>Ab .dct0
 |_,_,.exn c=>Ab (.exn c)
 |_,_,_=>none
noncomputable def yD (H P:Hp)(α : Aa Ad):Hp:=λb=>if (P b).isSome then P b else if b∈α then H b else none
section
variable {K:Ai}{H P:Hp}{α : Aa Ad}{S:Sto}
theorem v7 (H P:Hp)(α : Aa Ad):qF P (yD H P α):=λb o e=>by
 unfold yD;rw[e];rfl
theorem Z2 (r:Rel K H P α S):qF (yD H P α) H:=λb o e=>by
 unfold yD at e
 split at e
 .exact r.sub b o e
 .split at e
  .exact e
  .cases e
theorem fE {a:Ad}(h:P a=none)(ha:a∈α):yD H P α a=H a:=by
 unfold yD;rw[h];simp[ha]
theorem Rel.frz (r:Rel K H P α S):Rel K H (yD H P α) α (jB S) where
 tb:=r.tb.keep (λ_ _ q _=>q) λb u q _ p n=>⟨by unfold yD;rw[p];simp[n],n⟩
 sub:=Z2 r
 len:=by rw[r.len];simp[jB]
 nd:=r.nd
 sep:=λi a o h1 h2 h3=>by
  unfold jB at h2;rw[Br] at h2;cases q:S[i]? with
  |none=>rw[q] at h2;cases h2
  |some m=>rw[q] at h2;cases h2;exact absurd rfl h3
 at':=λi a o h1 h2=>by
  unfold jB at h2;rw[Br] at h2;cases q:S[i]? with
  |none=>rw[q] at h2;cases h2
  |some m=>rw[q] at h2;cases h2;trivial
 own:=r.own
theorem Rel.unfrz {H' P1:Hp}{α1:Aa Ad}{S1:Sto}(r:Rel K H P α S)(r1:Rel K H' P1 α1 S1)(e:qF (yD H P α) P1):Rel K H' P α S:=by
 have mem:∀ i a,α[i]? = Ab a->a∈α:=λi a h=>AM h;have kp:∀ (i:Ah) (a:Ad) (o:MO) (u:HO),α[i]? = Ab a->S[i]? = Ab o->o≠MO.dead->H a=Ab u->H' a=Ab u:=λi a o u h1 h2 h3 h4 =>
  r1.sub a u (e a u (by rw[fE (r.sep i a o h1 h2 h3) (mem i a h1)];exact h4))
 refine⟨λx hx c T h=>let ⟨ps,e,_,_,ok,cd⟩:=r1.tb x hx c T h;let ⟨_,_,pn,an,_,_⟩:=r.tb x hx c T h;⟨ps,e,pn,an,ok,cd⟩,(v7 H P α).trans (e.trans r1.sub),r.len,r.nd,r.sep,λi a o h1 h2=>?_,λi a h1=>?_⟩
 .have m:=r.at' i a o h1 h2
  cases o with
  |dead=>trivial
  |lst ds=>obtain⟨vs,q,t⟩:=m;exact⟨vs,kp i a _ _ h1 h2 (by intro z;cases z) q,t⟩
  |dct kvs=>obtain⟨vs,q,t⟩:=m;exact⟨vs,kp i a _ _ h1 h2 (by intro z;cases z) q,t⟩
  |ins C fs=>obtain⟨dx,vs,q,t⟩:=m;exact⟨dx,vs,kp i a _ _ h1 h2 (by intro z;cases z) q,t⟩
 .have h:=r.own i a h1
  cases q:H a with
  |none=>exact absurd q h
  |some u =>
   have z:∃ u',yD H P α a=Ab u':=by
    cases q2:P a with
    |none=>exact⟨u,by rw[fE q2 (mem i a h1)];exact q⟩
    |some u'=>exact⟨u',v7 H P α a u' q2⟩
   obtain⟨u',z⟩:=z;rw[r1.sub a u' (e a u' z)];intro w;cases w
set_option tactic.hygienic true in
theorem qD.mapO {f:D->Ak D}{P':Hp}(h:∀ d t v,f d=Ab t->Rep K P α d v->Rep K P' α t v):∀ {ds ts:Aa D} {vs:Aa V},_D.mapO f ds=Ab ts->qD K P α ds vs->qD K P' α ts vs
 |[],ts,vs,e,r=>by cases e;rw[r.nil_inv];exact .nil
 |d::ds,ts,vs,e,r=>by
  obtain⟨w,ws,rfl,r1,r2⟩:=r.cons_inv;unfold _D.mapO at e
  split at e
  .rename_i c cs h1 h2
   cases e;exact .cons (h d c w h1 r1) (qD.mapO h h2 r2)
  .cases e
theorem UO (r:Rel K H P α S):∀ (n:Ah) (d t:D) (v:V),wX n S d=Ab t->Rep K P α d v->Rep K (yD H P α) α t v:=by
 have mono:∀ (d:D) (v:V),Rep K P α d v->Rep K (yD H P α) α d v:=λd v=>Rep.mono (v7 H P α) (AG _) d v;intro n
 induction n with
 |zero =>
  intro d t v h p;cases d <;> first|(cases h;exact mono _ _ p)|exact nn h
 |succ n ih =>
  intro d t v h p;cases d with
  |tup xs =>
   obtain⟨ts,h1,rfl⟩:=Bw.mp h;simp only[Rep] at p ⊢;obtain⟨a,vs,rfl,q,t⟩:=p;exact⟨a,vs,rfl,wH (v7 H P α) q,qD.mapO (λd t v=>ih d t v) h1 t⟩
  |lst xs =>
   obtain⟨ts,h1,rfl⟩:=Bw.mp h;simp only[Rep] at p ⊢;obtain⟨a,vs,rfl,q,t⟩:=p;exact⟨a,vs,rfl,xA (v7 H P α) q,qD.mapO (λd t v=>ih d t v) h1 t⟩
  |loc i =>
   have h:(match S[i]? with|some (.lst xs)=>(_D.mapO (wX n S) xs).map D.lst|_=>none)=Ab t:=h
   cases hS:S[i]? with
   |none=>rw[hS] at h;exact nn h
   |some m =>
    rw[hS] at h;cases m with
    |lst xs =>
     obtain⟨ts,h1,rfl⟩:=Bw.mp h;simp only[Rep] at p ⊢;obtain⟨a,rfl,q⟩:=p;obtain⟨vs,z,t⟩:=r.at' i a _ q hS;refine⟨a,vs,rfl,.inl (.inl ?_),qD.mapO (λd t v=>ih d t v) h1 t⟩;rw[fE (r.sep i a _ q hS (by intro z;cases z)) (AM q)]
     exact z
    |_=>exact nn h
  |fd ks ds=>exact nn h
  |clo a vs ds=>exact nn h
  |_=>cases h;exact mono _ _ p
theorem oW {P':Hp}{α':Aa Ad}(h:XY d=true)(p:Rep K P α d v):Rep K P' α' d v:=by
 cases d with
 |non=>simpa only [Rep] using p
 |bl b=>simpa only [Rep] using p
 |int i=>simpa only [Rep] using p
 |str x=>simpa only [Rep] using p
 |_=>cases h
end
noncomputable def nR:Ah:=20
noncomputable def eQ (r:Res D)(S:Sto):Res D:=match r with
 |.ok d _=>if XY d then .ok d S else .bad
 |_=>.bad
theorem eR {X:Cx}{H P:Hp}{α:Aa Ad}{S:Sto}{r:Res D}(rl:Rel X.K H P α S)(af:qP X P α (eQ r S) Q):qP X (yD H P α) α r Q:=by
 cases r with
 |ok d S' =>
  obtain⟨ha,af⟩:=xH (X:=X) af;exact λv H' P' α' r' e1 e2 rp=>af v H' P α (rl.unfrz r' e1) (qF.refl _) (AG _) (oW ha rp)
 |ex c x S'=>exact An af
 |bad=>exact An af
section
variable {X:Cx}
noncomputable def vV (F:DF):DF:=λds S=>match mapO (wX nR S) ds with
 |some ts=>eQ (F ts (jB S)) S
 |none=>.bad
variable {cm:Ap}{k:Ah}{f:Ad}{fd:CV}{ps:Aa Ar}{F:DF}{x:Ar}{p pos:CB}{e:AH}{es:Aa AH}{fa:DA}{n:Ah}
set_option tactic.hygienic true in
theorem QD (G:FnX X.prog X.w X.K X.mg X.base cm k f fd ps (spD X.K n F))(hr:RoomC cm k X.A)(hF:Fn1 X)(hg:Gl X x)(hm:X.mg x=Ab (.ref f))(hk:CD X.K (.ref f)=true)(hb:wM X.K fd ps [])
  (ha:PA X (e::es) (tDA X fa)) (hdb:(x == ("__debug__" : Ar))=false:=by decide) (he:A5 (e::es) X.env=(false,eval e X.env)::A5 es X.env:=by rfl) (hpl:(Dh pos (A5 es X.env)).any (·.1)=false:=by rfl) :
  PE X (.Call (.Name x p) (e::es) [] pos) (tD X (qU n (vV F) fa)):=by
 intro pins s σ H Q I h;obtain⟨P,α,env,S,r,re,af⟩:=h;refine Dl (yE I hg hm ?_ hdb);refine Hw (h₀:=X.base) I.ok.mod.kin hk (thn (xM ha I r re af pos) λus s1 ⟨vs,H1,P1,α1,ds,S1,I1,rv,r1,re1,rp,e1,e2,af1⟩=>⟨I1.kIn,?_⟩) he hpl;obtain⟨hn,af2⟩:=kL (env:=env) (S:=S) af1;have af3:=qP.base e1 e2 af2;unfold vV at af3
 split at af3
 .rename_i ts ht
  have rp':=qD.mapO (λd t v=>UO r1 nR d t v) ht rp;have hl:ts.length=n:=by rw[rp'.length,<- rp.length];exact hn
  exact r6 G hr hb hF I1 r1.frz rv rp' hl (eR r1 af3)
 .exact An af3
end
noncomputable def yO (t:DT)(f:DS):Ah->qE->Sto->Out
 |0,_,_=>.bad
 |n+1,env,S=>(t env S).toS env λb S1=>if b then (match f env S1 with
   |.nx env2 S2=>yO t f n env2 S2
   |.ct env2 S2=>yO t f n env2 S2
   |.bk env2 S2=>.nx env2 S2
   |o=>o) else .nx env S1
theorem cK:∃ n:Ah,n=2 ^ 60:=⟨_,rfl⟩
def big:Ah:=Lw cK
theorem JQ:big=2 ^ 60:=Ig cK
def bO (t:DT)(f:DS):DS:=λenv S=>yO t f big env S
section
variable {X:Cx}{pos:CB}
inductive WhI (X:Cx)(P:Hp)(α : Aa Ad)(t:DT)(f:DS)(D:Ends)(m:Ah)(σ : _L.St)(H:Hp):Prop
 |mk (P2:Hp) (α2:Aa Ad) (env2:qE) (S2:Sto) (r:Rel X.K H P2 α2 S2) (re:qV X.K P2 α2 σ env2) (e1:qF P P2) (e2:α<+:α2) (af:qX X P2 α2 (yO t f m env2 S2) D):WhI X P α t f D m σ H
theorem QU {c:AH}{body:Aa CF}{t:DT}{f:DS}(hp:IC (Aq X.prog X.w) X.A X.env X.xe)(hc:PT X c (tDT X t))(hb:PSs X body (tDS X f)):PS X (.While c body [] pos) (tDS X (bO t f)):=
 psW (X3 hp hc hb) λD σ H ⟨P,α,env,S,r,re,af⟩=>by
  refine⟨WhI X P α t f D,⟨big,P,α,env,S,r,re,qF.refl _,AG _,af⟩,?_⟩;rintro m σ2 H2 ⟨P2,α2,env2,S2,r2,re2,e1,e2,af2⟩;cases m with
  |zero=>exact An af2
  |succ m =>
   have af3:=x6 af2;refine⟨P2,α2,env2,S2,r2,re2,?_⟩;cases q:t env2 S2 with
   |bad=>rw[q] at af3;exact af3
   |ex c x S'=>rw[q] at af3;exact af3
   |ok b S3 =>
    rw[q] at af3;intro H3 P3 α3 r3 e3 e4;have af4:qX X P3 α3 (if b then (match f env2 S3 with|.nx env2 S2=>yO t f m env2 S2|.ct env2 S2=>yO t f m env2 S2|.bk env2 S2=>.nx env2 S2|o=>o) else .nx env2 S3) D:=qX.base e3 e4 af3
    cases b with
    |false=>exact af4 σ2 H3 P3 α3 r3 (re2.mono e3 e4) (qF.refl _) (AG _)
    |true =>
     simp only[Cc] at af4 ⊢;refine⟨WhI X P α t f D m,λσ' H' w=>⟨m,Ep _,w⟩,P3,α3,env2,S3,r3,re2.mono e3 e4,?_⟩;cases q2:f env2 S3 with
     |bad=>rw[q2] at af4;exact af4
     |ex c x env4 S4=>rw[q2] at af4;exact af4
     |rt d4 S4=>rw[q2] at af4;exact af4
     |bk env4 S4=>rw[q2] at af4;exact af4
     |nx env4 S4 =>
      rw[q2] at af4;exact λσ5 H5 P5 α5 r5 re5 e8 e9=>⟨P5,α5,env4,S4,r5,re5,(e1.trans e3).trans e8,(e2.trans e4).trans e9,qX.base e8 e9 af4⟩
     |ct env4 S4 =>
      rw[q2] at af4;exact λσ5 H5 P5 α5 r5 re5 e8 e9=>⟨P5,α5,env4,S4,r5,re5,(e1.trans e3).trans e8,(e2.trans e4).trans e9,qX.base e8 e9 af4⟩
end
section
variable {X:Cx}{a b c e:AH}{pos:CB}{fa fe:DE}
def S9 (X:Cx)(g:G2):TIp:=λx y H Q=>∃ P α S a b,Rel X.K H P α S/\Rep X.K P α a x/\Rep X.K P α b y/\qP X P α (g a b S) Q
def IpD (X:Cx)(op:HR)(g:G2):Prop:=PIp X op (S9 X g)
noncomputable def yP (i:Ah)(g:G2)(fe:DE):DS:=λenv S=>match env[i]? with
 |some (Ab x)=>(fe env S).toS env λy S1=>(g x y S1).toS env λz S2=>.nx (env.set i (Ab z)) S2
 |_=>.bad
set_option tactic.hygienic true in
theorem KS {i:Ah}{x:Ar}{op:HR}{g:G2}{pos':CB}(hN:X.N.Nodup)(he:PE X e (tD X fe))(ho:IpD X op g)(hi:X.N[i]? = Ab x:=by rfl)(hx:Loc X.env.scope x:=by first|exact Sv rfl|exact Rf rfl)
  (hf:X.fn x=true\/X.env.scope.names.lookup x=Ab .local:=by first|exact .inl rfl|exact .inr rfl|assumption):PS X (.AugAssign (.Name x pos') op e pos) (tDS X (yP i g fe)):=
 psW (BV hN hi hx he ho hf) λD σ H ⟨P,α,env,S,r,re,af⟩=>by
  unfold yP at af
  split at af
  .rename_i d hd
   obtain⟨v,hv,pv⟩:=re.2 i d hd;refine⟨v,hv,P,α,env,S,r,re,?_⟩;have af1:=x6 af;cases q:fe env S with
   |bad=>rw[q] at af1;exact af1
   |ex c x S'=>rw[q] at af1;exact af1
   |ok y S1 =>
    rw[q] at af1;intro u H1 P1 α1 r1 e1 e2 rp;refine⟨P1,α1,S1,d,y,r1,Rep.mono e1 e2 _ _ pv,rp,?_⟩;have af2:=x6 (qX.base e1 e2 af1);cases q2:g d y S1 with
    |bad=>rw[q2] at af2;exact af2
    |ex c x S'=>rw[q2] at af2;exact af2
    |ok z S2 =>
     rw[q2] at af2;exact λw H2 P2 α2 r2 e3 e4 rp2=>af2 _ H2 P2 α2 r2 (((re.mono e1 e2).mono e3 e4).set i rp2) e3 e4
  .exact An af
noncomputable def pZ:G2:=i2 (λ_ _=>true) λi j=>.int (i+j)
theorem V2:IpD X .Add pZ:=by
 intro pins s σ H x y v u Q I rx ry h;obtain⟨P,α,S,a,b,r,pa,pb,af⟩:=h;obtain⟨i,j,rfl,rfl,_,ok⟩:=tQ af;exact GO pins s σ H x y v u Q I rx ry ⟨i,j,zM pa,zM pb,xr ok r (by simp only[Rep])⟩
theorem V3:IpD X .Sub xN:=by
 intro pins s σ H x y v u Q I rx ry h;obtain⟨P,α,S,a,b,r,pa,pb,af⟩:=h;obtain⟨i,j,rfl,rfl,_,ok⟩:=tQ af;exact GP pins s σ H x y v u Q I rx ry ⟨i,j,zM pa,zM pb,xr ok r (by simp only[Rep])⟩
noncomputable def l7:G2:=i2 oY λi j=>.int (i*2 ^ j.toNat)
theorem B6:OpD X (Cs .LShift) l7:=kT BJ (λi j h=>(AZ h:0<=j/\j<=1000000/\i.natAbs<2 ^ 64)) λP α i j=>by simp only[Rep]
noncomputable def yX (xs:Aa D)(lo hi:Ak Am):Aa D:=(xs.drop (_H.sIx xs.length 0 lo)).take (_H.sIx xs.length xs.length hi-_H.sIx xs.length 0 lo)
abbrev DO:=qE->Sto->Res (Ak Am)
def OkO (X:Cx)(P:Hp)(α : Aa Ad)(Q:Ak Am->Hp->Prop)(o:Ak Am)(S':Sto):Prop:=∀ H' P' α',Rel X.K H' P' α' S'->qF P P'->α<+:α'->Q o H'
def tDO (X:Cx)(f:DO):TO:=λσ H Q=>∃ P α env S,Rel X.K H P α S/\qV X.K P α σ env/\qH X P α (f env S) (OkO X P α Q)
noncomputable def yY (f:DE):DO:=λenv S=>(f env S).bind λd S1=>match d with
 |.int i=>.ok (Ab i) S1
 |_=>.bad
theorem YK (he:PE X e (tD X fe)):PO X (Ab e) (tDO X (yY fe)):=by
 intro pins s σ H Q I h;obtain⟨P,α,env,S,r,re,af⟩:=h;refine U7 (te:=tD X fe) he pins s σ H Q I ⟨P,α,env,S,r,re,?_⟩;have af':qH X P α ((fe env S).bind λd S1=>match d with|.int i=>.ok (Ab i) S1|_=>.bad) (OkO X P α Q):=af
 cases q:fe env S with
 |bad=>rw[q] at af';exact af'
 |ex c x S'=>rw[q] at af';exact af'
 |ok d S1 =>
  rw[q] at af';intro v H1 P1 α1 r1 e1 e2 rp;cases d with
  |int i=>exact⟨i,zM rp,af' H1 P1 α1 r1 e1 e2⟩
  |_=>exact An af'
theorem qD.cut {K:Ai}{P:Hp}{α:Aa Ad}(r:qD K P α ds vs)(lo hi:Ak Am):qD K P α (yX ds lo hi) (kG vs lo hi):=by
 unfold yX kG;rw[r.length];exact(r.drop _).take _
noncomputable def gSl (d:D)(lo hi:Ak Am)(S:Sto):Res D:=match d with
 |.lst xs=>.ok (.lst (yX xs lo hi)) S
 |.loc i=>match S[i]? with
  |some (.lst xs)=>.ok (.lst (yX xs lo hi)) S
  |_=>.bad
 |.tup xs=>.ok (.tup (yX xs lo hi)) S
 |_=>.bad
noncomputable def dSl (fe:DE)(fl fh:DO):DE:=λenv S=>(fe env S).bind λd S1=>(fl env S1).bind λlo S2=>(fh env S2).bind λhi S3=>gSl d lo hi S3
end
end _D
namespace _D
open PySem PySem.Spec PyProof.Rows _L _H
section
variable {prog:Az}{w:AL}{A:AJ}{E:Ac->Ag->Prop}{s:Ag}
theorem k8 {t sl:Ad}{items:Av Ac}{vl vu:Ac}{lo hi:Ak Am}{Q:Ac->Ag->Prop}(ht:Pw s.heap t items)(hs:s.heap.IsSliceOf sl vl vu .none)(pl:Js vl lo)(pu:Js vu hi)
  (hw:sIx items.size 0 lo=0/\sIx items.size items.size hi=items.size) (h:Q (.ref t) s):Ao (Aq prog w) A (H0 (.ref t) (.ref sl)) Q E s:=by
 obtain⟨ob,hob,hcb,_⟩:=id hs;have hTs:s.TypeIs (.ref sl) "slice":=⟨ob,hob,hcb⟩;unfold H0
 try with_reducible refine Cp ?_
 first|refine Af (Al ?_)|skip
 refine Af (Qe ht.typeIs (by decide) ?_)
 refine Af (CQ (name:=Fk "__getitem__") ht.typeIs CO
  (CP CO ht.typeIs OB ?_ (OV _ _)))
 show Ao _ _ (Ju (.ref t) >>= _) _ _ s;refine Af (tupleItemsOf_ ht ?_);refine Af (H8 hTs ?_);rw[AA (by decide)]
 refine Af (vJ hs pl pu ?_);show Ao _ _ (if (((sIx items.size 0 lo:Ah):Am) == 0&&(1:Am) == 1&&(sIx items.size items.size hi-sIx items.size 0 lo) == items.size)=true then _ else _) _ _ s
 rw[hw.1,hw.2,AA (by simp)]
 unfold Sy;refine Af (Af (H8 ht.typeIs (Al ?_)));rw[AA (by decide)]
 exact Af (Ef (Al ⟨_,rfl,Al h⟩))
end
section
variable {X:Cx}{e:AH}{fe:DE}{pos p2:CB}
def DU (X:Cx):V->Ak Am->Ak Am->Hp->VK->Prop:=λx lo hi H Q=>∃ P α S d,Rel X.K H P α S/\Rep X.K P α d x/\qP X P α (gSl d lo hi S) Q
theorem DY:SlR X (DU X):=by
 intro pins s σ H x v vl vu lo hi sl Q I rx hs pl pu h;obtain⟨P,α,S,d,r,p,af⟩:=h;cases d with
 |lst xs =>
  simp only[Rep] at p;obtain⟨a,vs,rfl,q,t⟩:=p;exact rD pins s σ H _ v vl vu lo hi sl Q I rx hs pl pu ⟨a,vs,rfl,(xA r.sub q).l,λb hb=>wG r hb (qD.cut t lo hi) af⟩
 |loc i =>
  obtain⟨xs,hS,af⟩:=vG (X:=X) (f:=λxs=>Res.ok (D.lst (yX xs lo hi)) S) af;simp only[Rep] at p;obtain⟨a,rfl,q⟩:=p;obtain⟨vs,z,t⟩:=r.at' i a _ q hS;exact rD pins s σ H _ v vl vu lo hi sl Q I rx hs pl pu ⟨a,vs,rfl,SqL.of z,λb hb=>wG r hb (qD.cut t lo hi) af⟩
 |tup xs =>
  have p0:=p;simp only[Rep] at p;obtain⟨a,vs,rfl,q,t⟩:=p;by_cases hw:sIx vs.length 0 lo=0/\sIx vs.length vs.length hi=vs.length
  .cases rx
   obtain⟨its,rv,ht,hz⟩:=I.tuple (xD r.sub q);have hlen:its.toArray.size=vs.length:=by rw[AK];exact rv.length.symm
   refine⟨"tuple",_,CO.lookup,ht.typeIs,k8 ht hs pl pu (by rw[hlen];exact hw) ⟨.ref a,H,I,rfl,xr af r ?_⟩⟩
   have e:yX xs lo hi=xs:=by
    unfold yX;rw[t.length,hw.1,hw.2,<- t.length];simp
   rw[e];exact p0
  .exact FQ pins s σ H _ v vl vu lo hi sl Q I rx hs pl pu ⟨a,vs,rfl,xD r.sub q,hw,λb hb=>pM r hb (qD.cut t lo hi) af⟩
 |_=>exact An af
theorem QL {lo hi:Ak AH}{fl fh:DO}(he:PE X e (tD X fe))(hl:PO X lo (tDO X fl))(hu:PO X hi (tDO X fh)):PE X (.Subscript e (.Slice lo hi none p2) pos) (tD X (dSl fe fl fh)):=
 peW (ZZ DY he hl hu) λσ H Q ⟨P,α,env,S,r,re,af⟩=>by
  refine⟨P,α,env,S,r,re,?_⟩;have af':qH X P α ((fe env S).bind λd S1=>(fl env S1).bind λlo S2=>(fh env S2).bind λhi S3=>gSl d lo hi S3) (OkV X P α Q):=af;cases q:fe env S with
  |bad=>rw[q] at af';exact af'
  |ex c x S'=>rw[q] at af';exact af'
  |ok d S1 =>
   rw[q] at af';intro v H1 P1 α1 r1 e1 e2 rp;refine⟨P1,α1,env,S1,r1,re.mono e1 e2,?_⟩;have af2:qH X P1 α1 ((fl env S1).bind λlo S2=>(fh env S2).bind λhi S3=>gSl d lo hi S3) (OkV X P1 α1 Q):=qP.base e1 e2 af';cases q2:fl env S1 with
   |bad=>rw[q2] at af2;exact af2
   |ex c x S'=>rw[q2] at af2;exact af2
   |ok l S2 =>
    rw[q2] at af2;intro H2 P2 α2 r2 e3 e4;refine⟨P2,α2,env,S2,r2,(re.mono e1 e2).mono e3 e4,?_⟩;have af3:qH X P2 α2 ((fh env S2).bind λhi S3=>gSl d l hi S3) (OkV X P2 α2 Q):=qP.base e3 e4 af2;cases q3:fh env S2 with
    |bad=>rw[q3] at af3;exact af3
    |ex c x S'=>rw[q3] at af3;exact af3
    |ok u S3 =>
     rw[q3] at af3;intro H3 P3 α3 r3 e5 e6;exact⟨P3,α3,S3,d,r3,Rep.mono (e3.trans e5) (e4.trans e6) _ _ rp,qP.base e5 e6 af3⟩
noncomputable def uB (d:D)(S:Sto):Res D:=match d with
 |.int i=>if i.natAbs.log2<1920 then .ok (.str (toString i)) S else .bad
 |.str x=>if x.length<=lim then .ok (.str x) S else .bad
 |_=>.bad
set_option tactic.hygienic true in
theorem K9 (he:PE X e (tD X fe)):PE X (.FormattedValue e (-1) none pos) (tD X (d1 uB fe)):=by
 intro pins s σ H Q I h;obtain⟨P,α,env,S,r,re,af⟩:=h;refine FormattedValue_plain (thn (zJ he I r re af) λvv s1 ⟨v,H1,P1,α1,d,S1,G1,af1⟩=>?_);have p:=G1.rep;have rv:=G1.val;have af2:=qP.base G1.same G1.pre af1;cases d with
 |int i =>
  simp only[uB] at af2
  split at af2
  .rename_i hd
   simp only[Rep] at p;subst p;obtain⟨t,rfl⟩:=rv;exact formatField_int_small hd ⟨.str _,H1,G1.inv.tok _,⟨_,rfl⟩,xr af2 G1.rel (by simp only[Rep])⟩
  .exact An af2
 |str x =>
  simp only[uB] at af2
  split at af2
  .rename_i hd
   simp only[Rep] at p;subst p;obtain⟨t,rfl⟩:=rv;exact formatField_str (λt' tk=>⟨.str _,H1,G1.inv.tok _,⟨_,rfl⟩,xr af2 G1.rel (by simp only[Rep])⟩) (by rw[<- zI];exact hd)
  .exact An af2
 |_=>exact An af2
noncomputable def jL (out:Ar):Aa DE->qE->Sto->Res D
 |[],_,S=>if out.length<=lim then .ok (.str out) S else .bad
 |p::ps,env,S=>(p env S).bind λd S1=>match d with
  |.str y=>if (out++y).length<=lim then jL (out++y) ps env S1 else .bad
  |_=>.bad
def PJ (X:Cx)(es:Aa AH)(fs:Aa DE):Prop:=
 ∀ (out:Ar) (pins:Aa (Ad × AV)) (s:Ag) (σ : _L.St) (H P:Hp) (α : Aa Ad) (env:qE) (S:Sto) (Q:VK),Inv X pins σ H s->Rel X.K H P α S->qV X.K P α σ env->qP X P α (jL out fs env S) Q ->
  Ao (Aq X.prog X.w) X.A (joinParts out (evalEach es X.env)) (EP X pins σ Q) X.xe s
theorem BU:PJ X [] []:=by
 intro out pins s σ H P α env S Q I r re af;obtain⟨hl,af⟩:=xH (X:=X) af;exact joinParts_nil ⟨.str _,H,I.tok _,⟨_,rfl⟩,xr af r (by simp only[Rep])⟩ (by rw[<- zI];exact hl)
theorem U5 {es:Aa AH}{fs:Aa DE}(he:PE X e (tD X fe))(hr:PJ X es fs):PJ X (e::es) (fe::fs):=by
 intro out pins s σ H P α env S Q I r re af;have af:qH X P α ((fe env S).bind λd S1=>match d with|.str y=>if (out++y).length<=lim then jL (out++y) fs env S1 else .bad|_=>.bad) (OkV X P α Q):=af
 refine joinParts_cons (thn (zJ he I r re af) λvv s1 ⟨v,H1,P1,α1,d,S1,G1,af1⟩=>?_);cases d with
 |str y =>
  have p:=G1.rep;simp only[Rep] at p;subst p;obtain⟨t,rfl⟩:=G1.val;obtain⟨hl,af1⟩:=xH (X:=X) af1;exact⟨by rw[<- zI];exact hl,hr (out++y) pins s1 σ H1 P1 α1 env S1 Q G1.inv G1.rel G1.env (qP.base G1.same G1.pre af1)⟩
 |_=>exact An af1
noncomputable def tK (fs:Aa DE):DE:=λenv S=>jL Hb fs env S
theorem YD {v₁ v₂:AH}{qM:Aa AH}{fs:Aa DE}(h:PJ X (v₁::v₂::qM) fs):PE X (.JoinedStr (v₁::v₂::qM) pos) (tD X (tK fs)):=by
 intro pins s σ H Q I hq;obtain⟨P,α,env,S,r,re,af⟩:=hq;exact JoinedStr_many (h Hb pins s σ H P α env S Q I r re af)
end
end _D
namespace _D
open PySem PySem.Spec PyProof.Rows _L
variable {h':A8}{α:Aa Ad}{N:Aa Ar}{body:Aa CF}{ds dsF:Aa D}{vs:Aa V}{Q:Ac->Ag->Prop}{C:Ad}{Qa Qd:Ag->Prop}{m:Ah}{o':Ak (Ah × MO)}{tp:Ap}{xs ys:Av Ac}{id:Bp}{R:OQ->Ag->Prop}{S SF:Sto}{env envF:qE}
def zG (tp:Ap)(h:A8)(it l:Ad)(k:Ah):Prop:=if tp then h.IsTupleIter it l k else h.IsListIter it l k
def xB (tp:Ap)(h:A8)(l:Ad)(xs:Av Ac):Prop:=if tp then h.IsTuple l xs else h.IsList l xs
theorem zG.keep {h:A8}{it l:Ad}{k:Ah}(x:zG tp h it l k)(q:∀ o,h.get? it=Ab o->h'.get? it=Ab o):zG tp h' it l k:=by
 cases tp <;> (obtain⟨o,e,r⟩:=x;exact⟨o,q o e,r⟩)
theorem xB.keep {h:A8}{l:Ad}(x:xB tp h l xs)(q:∀ o,h.get? l=Ab o->h'.get? l=Ab o):xB tp h' l xs:=by
 cases tp <;> (obtain⟨o,e,r⟩:=x;exact⟨o,q o e,r⟩)
theorem zG.there {h:A8}{it l:Ad}{k:Ah}(x:zG tp h it l k):∃ o,h.get? it=Ab o/\∀ v,o.data≠.cell v:=by
 cases tp <;> (obtain⟨o,e,_,d⟩:=x;exact⟨o,e,λv z=>by rw[d] at z;cases z⟩)
section
variable {prog:Az}{w:AL}{A:AJ}{E:Ac->Ag->Prop}{s:Ag}
theorem ZT {it t:Ad}{i:Ah}{items:Av Ac}{x:Ac}(hit:s.heap.IsTupleIter it t i)(ht:s.heap.IsTuple t items)(hx:items[i]? = Ab x)
  (hQ:∀ h',h'.IsTupleIter it t (i+1)->DL it s.heap h'->Q x { s with heap:=h' }) : Ao (Aq prog w) A (Cd (.ref it)) Q E s:=by
 obtain⟨o,e,c,d⟩:=id hit;obtain⟨u,eu,_,m,du⟩:=ht;unfold Cd;refine Af (CQ (name:=Fk "__next__") hit.typeIs EI (CP EI hit.typeIs Je ?_ (IX _)));show Ao _ _ (field (.ref it) 0 >>= _) _ _ s;refine Af (Dc e d (x:=.ref t) rfl ?_);show Ao _ _ (if (Ba t == Bj)=true then _ else _) _ _ s;rw[AB (show ¬ ((Ba t == Bj)=true) from ED)]
 show Ao _ _ (field (.ref it) 1 >>= _) _ _ s;refine Af (Dc e d (x:=.int i 0) rfl ?_);show Ao _ _ (To (.ref t) >>= _) _ _ s;refine Af (Ec eu du ?_);simp only[Ee,hx];refine Af (HF e d (by simp) (Al ⟨x,rfl,Al (hQ _ ⟨_,Dd _ e (Obj.isFreed_of_fields (Pa d _)),(Obj.cls_mapFields ..).trans c,?_⟩ (Eg ..))⟩))
 rw[Pa d];simp[Eb]
theorem lG {it t:Ad}{i:Ah}{items:Av Ac}{Q:Ac->Ag->Prop}(hh:A.handled=none)(hit:s.heap.IsTupleIter it t i)(ht:s.heap.IsTuple t items)(hx:items[i]? = none)
  (hE:∀ h' e,Uk it s.heap h'->(∃ o,h'.get? e=Ab o/\o.cls=.type "StopIteration")->E (.ref e) { s with heap:=h' }) : Ao (Aq prog w) A (Cd (.ref it)) Q E s:=by
 obtain⟨o,e,c,d⟩:=id hit;obtain⟨u,eu,_,m,du⟩:=ht;unfold Cd;refine Af (CQ (name:=Fk "__next__") hit.typeIs EI (CP EI hit.typeIs Je ?_ (IX _)));show Ao _ _ (field (.ref it) 0 >>= _) _ _ s;refine Af (Dc e d (x:=.ref t) rfl ?_);show Ao _ _ (if (Ba t == Bj)=true then _ else _) _ _ s;rw[AB (show ¬ ((Ba t == Bj)=true) from ED)]
 show Ao _ _ (field (.ref it) 1 >>= _) _ _ s;refine Af (Dc e d (x:=.int i 0) rfl ?_);show Ao _ _ (To (.ref t) >>= _) _ _ s;refine Af (Ec eu du ?_);simp only[Ee,hx];refine Af (Ef (Af (HF e d (by simp) ?_)))
 show Ao _ _ (newExc (.type "StopIteration") [] >>= _) _ _ _;refine Af ?_;simp only[newExc,newTuple];refine Af (CG ?_ (by size_fits))
 refine Af (m:=Jf _ _) (Jw (a:=Bj) (by first|rfl|(simp only[Jf];rfl)) (CG ?_ (by size_fits)))
 simp only[raiseNew];refine Af (wpAny_handled ?_)
 first|rw[show A.in1.handled=none from hh]|rw[hh]
 exact Af (Al (wpAny_throw (hE _ _ (((Eg ..).extBut.push _).push _) ⟨_,AC _ rfl,rfl⟩)))
theorem pJ {it l:Ad}{k:Ah}{x:Ac}(hit:zG tp s.heap it l k)(hl:xB tp s.heap l xs)(hx:xs[k]? = Ab x)
  (hQ:∀ h',zG tp h' it l (k+1)->DL it s.heap h'->Q x { s with heap:=h' }) : Ao (Aq prog w) A (Cd (.ref it)) Q E s:=by
 cases tp with
 |false=>exact wpAny_nextOf_list_item hit hl hx hQ
 |true=>exact ZT hit hl hx hQ
theorem kR {it l:Ad}{k:Ah}{Q:Ac->Ag->Prop}(hh:A.handled=none)(hit:zG tp s.heap it l k)(hl:xB tp s.heap l xs)(hx:xs[k]? = none)
  (hE:∀ h' e,Uk it s.heap h'->(∃ o,h'.get? e=Ab o/\o.cls=.type "StopIteration")->E (.ref e) { s with heap:=h' }) : Ao (Aq prog w) A (Cd (.ref it)) Q E s:=by
 cases tp with
 |false=>exact wpAny_nextOf_list_end hh hit hl hx hE
 |true=>exact lG hh hit hl hx hE
structure ZA (z I O i j:Ad):Prop where
 Iz:I≠z
 Oz:O≠z
 iz:i≠z
 jz:j≠z
 IO:I≠O
 Ii:I≠i
 Ij:I≠j
 Oi:O≠i
 Oj:O≠j
 ij:i≠j
structure Off (z O i j a:Ad):Prop where
 z:a≠z
 O:a≠O
 i:a≠i
 j:a≠j
abbrev oU (z O i j:Ad)(h h':A8):Prop:=∀ c o,c≠z->c≠O->c≠i->c≠j->h.get? c=Ab o->h'.get? c=Ab o
theorem XU {tq:Ap}{z I O i j a b:Ad}{k:Ah}{x y p q:Ac}(D:ZA z I O i j)(Da:Off z O i j a)(Db:Off z O i j b)
  (hz:Jg s.heap z I O .none) (hI:Ft s.heap I (.ref i) (.ref j)) (hO:Ft s.heap O p q) (h1:zG tp s.heap i a k) (h2:zG tq s.heap j b k) (ha:xB tp s.heap a xs) (hb:xB tq s.heap b ys) (hx:xs[k]? = Ab x) (hy:ys[k]? = Ab y)
  (hQ:∀ h',Jg h' z I O (Eb s.heap.objs.size)->Ft h' O x y->zG tp h' i a (k+1)->zG tq h' j b (k+1)->Ft h' s.heap.objs.size x y->h'.objs.size=s.heap.objs.size+1->oU z O i j s.heap h'->Q (.ref s.heap.objs.size) { s with heap:=h' }) :
  Ao (Aq prog w) A (EU.«zip.__next__» ⟨[.ref z],[]⟩) (λfin s'=>∃ v,fin=.done (.ret v)/\Q v s') E s:=by
 show Ao _ _ (field (.ref z) 2 >>= _) _ _ _;refine Af (Dc hz rfl (x:=.bool false) rfl ?_);show Ao _ _ (field (.ref z) 3 >>= _) _ _ _;refine Af (Dc hz rfl (x:=.ref I) rfl (Af (Ec hI rfl ?_)));show Ao _ _ (Dx (.ref z) >>= _) _ _ _;refine Af ?_;unfold Dx;refine Af (Dc hz rfl (x:=.none) rfl (Al ?_));simp only[Cc];refine Af (Ef (Af (Dc hz rfl (x:=.ref O) rfl (Af (EG hz (by simp) λg1 z1 s1=>?_)))))
 replace z1:Jg g1 z I O .ellipsis:=z1
 refine Af ?_;simp only[Lx,Rz,Mz,Jd];refine Af (Af (Ko ?_));show Ao _ _ (Cd (.ref i) >>= _) _ _ _;refine Af (pJ (h1.keep λo e=>s1.extBut _ _ D.iz e) (ha.keep λo e=>s1.extBut _ _ Da.z e) hx λg2 i2 s2=>Al ?_);have O2:Ft g2 O p q:=s2.extBut _ _ D.Oi (s1.extBut _ _ D.Oz hO);refine Af (Ec O2 rfl (Af (Ix O2 λg3 O3 s3=>Af (Rh (Al ?_)))))
 replace O3:Ft g3 O x q:=O3
 refine Af (Af (Ko ?_));show Ao _ _ (Cd (.ref j) >>= _) _ _ _;refine Af (pJ (h2.keep λo e=>s3.extBut _ _ D.Oj.symm (s2.extBut _ _ D.ij.symm (s1.extBut _ _ D.jz e))) (hb.keep λo e=>s3.extBut _ _ Db.O (s2.extBut _ _ Db.i (s1.extBut _ _ Db.z e))) hy λg4 j4 s4=>Al ?_);have O4:Ft g4 O x q:=s4.extBut _ _ D.Oj O3;refine Af (Ec O4 rfl (Af (Ix O4 λg5 O5 s5=>Af (Rh (Al (Al ?_))))))
 replace O5:Ft g5 O x y:=O5
 refine Af (Ec O5 rfl (Af (wpAny_newTuple ?_)));have sz:g5.objs.size=s.heap.objs.size:=by rw[s5.1,s4.1,s3.1,s2.1,s1.1]
 have z5:Jg g5 z I O .ellipsis:=s5.extBut _ _ D.Oz.symm (s4.extBut _ _ D.jz.symm (s3.extBut _ _ D.Oz.symm (s2.extBut _ _ D.iz.symm z1)));have k5:oU z O i j s.heap g5:=λc o c1 c2 c3 c4 e=>s5.extBut _ _ c2 (s4.extBut _ _ c4 (s3.extBut _ _ c2 (s2.extBut _ _ c3 (s1.extBut _ _ c1 e))));have i5:zG tp g5 i a (k+1):=i2.keep λo e=>s5.extBut _ _ D.Oi.symm (s4.extBut _ _ D.ij (s3.extBut _ _ D.Oi.symm e));have j5:zG tq g5 j b (k+1):=j4.keep λo e=>s5.extBut _ _ D.Oj.symm e;have zl:z<g5.objs.size:=Ax z5;show Ao _ _ (Hn (.ref z) (.ref g5.objs.size) >>= _) _ _ _;refine Af ?_;unfold Hn;have z6:Jg (g5.push { cls:=.type "tuple",data:=.seq #[x,y] }) z I O .ellipsis:=Aj _ z5;refine Af (EG z6 (by simp) λg7 z7 s7=>?_)
 replace z7:Jg g7 z I O (Eb g5.objs.size):=z7
 refine EG z7 (by simp) λg8 z8 s8=>?_
 replace z8:Jg g8 z I O (Eb g5.objs.size):=z8
 have up:∀ c o,c≠z->g5.get? c=Ab o->g8.get? c=Ab o:=λc o c1 e=>s8.extBut _ _ c1 (s7.extBut _ _ c1 (Aj _ e));have T8:Ft g8 g5.objs.size x y:=s8.extBut _ _ (Ej zl) (s7.extBut _ _ (Ej zl) (AC _ rfl));have sz8:g8.objs.size=g5.objs.size+1:=by rw[s8.1,s7.1,Cn]
 rw[sz] at z8 T8 sz8;refine Al ⟨_,rfl,?_⟩;show Q (.ref g5.objs.size) _;rw[sz];exact hQ g8 z8 (up _ _ D.Oz O5) (i5.keep λo e=>up _ o D.iz e) (j5.keep λo e=>up _ o D.jz e) T8 sz8 λc o c1 c2 c3 c4 e=>up c o c1 (k5 c o c1 c2 c3 c4 e)
end
section
variable {prog:Az}{w:AL}{A:AJ}{E:Ac->Ag->Prop}{s:Ag}
theorem XX {tq:Ap}{z I O i j a b:Ad}{k:Ah}{p q:Ac}{Q:Fin->Ag->Prop}(hh:A.handled=none)(D:ZA z I O i j)(Da:Off z O i j a)(Db:Off z O i j b)
  (hz:Jg s.heap z I O .none) (hI:Ft s.heap I (.ref i) (.ref j)) (hO:Ft s.heap O p q) (h1:zG tp s.heap i a k) (h2:zG tq s.heap j b k) (ha:xB tp s.heap a xs) (hb:xB tq s.heap b ys) (hend:xs[k]? = none\/ys[k]? = none)
  (hE:∀ h' e,oU z O i j s.heap h'->(∃ o,h'.get? e=Ab o/\o.cls=.type "StopIteration")->E (.ref e) { s with heap:=h' }) : Ao (Aq prog w) A (EU.«zip.__next__» ⟨[.ref z],[]⟩) Q E s:=by
 show Ao _ _ (field (.ref z) 2 >>= _) _ _ _;refine Af (Dc hz rfl (x:=.bool false) rfl ?_);show Ao _ _ (field (.ref z) 3 >>= _) _ _ _;refine Af (Dc hz rfl (x:=.ref I) rfl (Af (Ec hI rfl ?_)));show Ao _ _ (Dx (.ref z) >>= _) _ _ _;refine Af ?_;unfold Dx;refine Af (Dc hz rfl (x:=.none) rfl (Al ?_));simp only[Cc];refine Af (Ef (Af (Dc hz rfl (x:=.ref O) rfl (Af (EG hz (by simp) λg1 z1 s1=>?_)))))
 replace z1:Jg g1 z I O .ellipsis:=z1
 refine Af ?_;simp only[Lx,Rz,Mz,Jd];refine Af (Af (Ko ?_));show Ao _ _ (Cd (.ref i) >>= _) _ _ _;have it1:zG tp g1 i a k:=h1.keep λo e=>s1.extBut _ _ D.iz e;have sq1:xB tp g1 a xs:=ha.keep λo e=>s1.extBut _ _ Da.z e;cases hx:xs[k]? with
 |none =>
  refine Af (kR hh it1 sq1 hx λg2 e x2 he=>?_);obtain⟨oe,h3,h4⟩:=he;have z2:Jg g2 z I O .ellipsis:=x2 _ _ D.iz.symm z1;have ne:e≠z:=λy=>by subst y;rw[z2] at h3;cases h3;simp at h4
  exact EG z2 (by simp) λg3 _ s3=>hE g3 e (λc o c1 _ c3 _ y=>s3.extBut _ _ c1 (x2 _ _ c3 (s1.extBut _ _ c1 y))) ⟨oe,s3.extBut _ _ ne h3,h4⟩
 |some x =>
  have hy:ys[k]? = none:=by
   rcases hend with y|y
   .rw[hx] at y;cases y
   .exact y
  refine Af (pJ it1 sq1 hx λg2 i2 s2=>Al ?_);have O2:Ft g2 O p q:=s2.extBut _ _ D.Oi (s1.extBut _ _ D.Oz hO);refine Af (Ec O2 rfl (Af (Ix O2 λg3 O3 s3=>Af (Rh (Al ?_)))));refine Af (Af (Ko ?_));show Ao _ _ (Cd (.ref j) >>= _) _ _ _;refine Af (kR hh (h2.keep λo e=>s3.extBut _ _ D.Oj.symm (s2.extBut _ _ D.ij.symm (s1.extBut _ _ D.jz e))) (hb.keep λo e=>s3.extBut _ _ Db.O (s2.extBut _ _ Db.i (s1.extBut _ _ Db.z e))) hy λg4 e x4 he=>?_);obtain⟨oe,h3,h4⟩:=he;have z4:Jg g4 z I O .ellipsis:=x4 _ _ D.jz.symm (s3.extBut _ _ D.Oz.symm (s2.extBut _ _ D.iz.symm z1));have ne:e≠z:=λy=>by subst y;rw[z4] at h3;cases h3;simp at h4
  exact EG z4 (by simp) λg5 _ s5=>hE g5 e (λc o c1 c2 c3 c4 y=>s5.extBut _ _ c1 (x4 _ _ c4 (s3.extBut _ _ c2 (s2.extBut _ _ c3 (s1.extBut _ _ c1 y))))) ⟨oe,s5.extBut _ _ ne h3,h4⟩
noncomputable abbrev bB (tp:Ap)(l:Ad):AV:={ cls:=.type (if tp then "tuple_iterator" else "list_iterator"),data:=.fields #[.ref l,.int 0 0] }
noncomputable abbrev zh1 (tp:Ap)(h:A8)(a:Ad):A8:=h.push (bB tp a)
noncomputable abbrev zh2 (tp tq:Ap)(h:A8)(a b:Ad):A8:=(zh1 tp h a).push (bB tq b)
noncomputable abbrev zh3 (tp tq:Ap)(h:A8)(a b:Ad):A8:=(zh2 tp tq h a b).push { cls:=.type "tuple",data:=.seq #[.ref h.objs.size,.ref (zh1 tp h a).objs.size] }
noncomputable abbrev zh4 (tp tq:Ap)(h:A8)(a b:Ad):A8:=(zh3 tp tq h a b).push { cls:=.type "tuple",data:=.seq #[.none,.none] }
noncomputable abbrev zh5 (tp tq:Ap)(h:A8)(a b:Ad):A8:=(zh4 tp tq h a b).push { cls:=.type "zip",data:=.fields #[.none,.bool false,.bool false,.ref (zh2 tp tq h a b).objs.size,.ref (zh3 tp tq h a b).objs.size] }
set_option maxHeartbeats 4000000 in
theorem JD (tp:Ap)(a b:Ad)(xs ys:Av Ac) :
  Meets (EU.«zip.__new__» ⟨[.type "zip",.ref a,.ref b],[]⟩) (λ_ R s=>xB tp s.heap a xs/\xB tp s.heap b ys/\R (.ok (.ret (.ref (zh4 tp tp s.heap a b).objs.size))) { s with heap:=zh5 tp tp s.heap a b }):=
 .of_wp λprog w A R s h=>by
  obtain⟨hp,g,d,tk,os⟩:=s;obtain⟨q1,q2,h⟩:=h;have hsub:=sub_zip;have e2:∀ ob:AV,xB tp (hp.push ob) b ys:=λob=>q2.keep λo e=>Aj _ e;cases tp
  .have l1:Ul (Nv ⟨hp,g,d,tk,os⟩) a xs:=q1
   have l2:Ul (Nv ⟨hp.push { cls:=.type "list_iterator",data:=.fields #[.ref a,.int 0 0] },g,d,tk,os⟩) b ys:=e2 _
   wp_walk using Ew l1,Ew l2
   exact⟨_,rfl,h⟩
  .have l1:Uc (Nv ⟨hp,g,d,tk,os⟩) a xs:=q1
   have l2:Uc (Nv ⟨hp.push { cls:=.type "tuple_iterator",data:=.fields #[.ref a,.int 0 0] },g,d,tk,os⟩) b ys:=e2 _
   wp_walk using EF l1,EF l2
   exact⟨_,rfl,h⟩
theorem bE {h:A8}{it l:Ad}(e:h.get? it=Ab (bB tp l)):zG tp h it l 0:=by
 cases tp
 .exact⟨_,e,rfl,rfl⟩
 .exact⟨_,e,rfl,rfl⟩
theorem Q2 {a b:Ad}(ha:xB tp s.heap a xs)(hb:xB tp s.heap b ys)
  (h:∀ h',Jg h' (s.heap.objs.size+4) (s.heap.objs.size+2) (s.heap.objs.size+3) .none->Ft h' (s.heap.objs.size+2) (.ref s.heap.objs.size) (.ref (s.heap.objs.size+1)) ->
   Ft h' (s.heap.objs.size+3) .none .none->zG tp h' s.heap.objs.size a 0->zG tp h' (s.heap.objs.size+1) b 0->h'.objs.size=s.heap.objs.size+5->(∀ c o,s.heap.get? c=Ab o->h'.get? c=Ab o)->Q (.ref (s.heap.objs.size+4)) { s with heap:=h' }) :
  Ao (Aq prog w) A (call (.type "zip") [.ref a,.ref b]) Q E s:=by
 refine callType_new F.called_zip (by decide) (F.typeCall_zip_2 _ _) (F.newCall_zip_2 _ _) (λobj=>F.args_object_init_3 obj _ _) F.entry_zip_new (JD tp a b xs ys) ⟨ha,hb,?_⟩
 have y1:(zh1 tp s.heap a).objs.size=s.heap.objs.size+1:=Cn ..;have y2:(zh2 tp tp s.heap a b).objs.size=s.heap.objs.size+2:=by rw[Cn,y1]
 have y3:(zh3 tp tp s.heap a b).objs.size=s.heap.objs.size+3:=by rw[Cn,y2]
 have y4:(zh4 tp tp s.heap a b).objs.size=s.heap.objs.size+4:=by rw[Cn,y3]
 have y5:(zh5 tp tp s.heap a b).objs.size=s.heap.objs.size+5:=by rw[Cn,y4]
 have g5:(zh5 tp tp s.heap a b).get? (zh4 tp tp s.heap a b).objs.size=Ab _:=AC _ rfl;have g4:(zh5 tp tp s.heap a b).get? (zh3 tp tp s.heap a b).objs.size=Ab _:=Aj _ (AC _ rfl);have g3:(zh5 tp tp s.heap a b).get? (zh2 tp tp s.heap a b).objs.size=Ab _:=Aj _ (Aj _ (AC _ rfl));have g2:(zh5 tp tp s.heap a b).get? (zh1 tp s.heap a).objs.size=Ab (bB tp b):=Aj _ (Aj _ (Aj _ (AC _ rfl)));have g1:(zh5 tp tp s.heap a b).get? s.heap.objs.size=Ab (bB tp a):=Aj _ (Aj _ (Aj _ (Aj _ (AC _ rfl))));have kp:∀ c o,s.heap.get? c=Ab o->(zh5 tp tp s.heap a b).get? c=Ab o:=λc o e=>Aj _ (Aj _ (Aj _ (Aj _ (Aj _ e))));show _/\_;rw[y2,y3,y4] at g5;rw[y1,y2] at g3;rw[y3] at g4;rw[y1] at g2;rw[y4];exact⟨⟨_,g5,rfl⟩,h _ g5 g3 g4 (bE g1) (bE g2) y5 kp⟩
end
def Sq (tp:Ap)(K:Ai)(H:Hp)(a:Ad)(xs:Aa V):Prop:=if tp then SqT K H a xs else SqL K H a xs
section
variable {X:Cx}{pins:Aa (Ad × AV)}{σ : _L.St}{H:Hp}{s:Ag}
theorem Sq.at {a:Ad}{xs:Aa V}(I:Inv X pins σ H s)(q:Sq tp X.K H a xs):∃ its,qK xs its/\xB tp s.heap a its.toArray:=by
 cases tp with
 |true =>
  obtain⟨its,rv,p,_⟩:=I.tuple q;exact⟨its,rv,p⟩
 |false =>
  obtain⟨its,rv,p,_⟩:=I.list q;exact⟨its,rv,p.isList⟩
theorem Sq.inj {a:Ad}{xs ys:Aa V}(I:Inv X pins σ H s)(q:Sq tp X.K H a xs)(q':Sq tp X.K H a ys):xs=ys:=by
 cases tp with
 |true=>exact I.tuple_inj q q'
 |false=>exact I.list_inj q q'
theorem Sq.off {a b:Ad}{xs:Aa V}(I:Inv X pins σ H s)(q:Sq tp X.K H a xs)(f:zO X pins H b):a≠b:=by
 have key:H a≠none\/∃ o,X.K.lookup a=Ab o:=by
  cases tp with
  |true =>
   rcases q with (q|⟨o,q⟩)|⟨o,_,_,q,_⟩
   .exact .inl (by rw[q];intro z;cases z)
   .exact .inl (by rw[q];intro z;cases z)
   .exact .inr ⟨_,q⟩
  |false =>
   rcases q with (q|⟨o,q⟩)|⟨o,_,_,q,_⟩
   .exact .inl (by rw[q];intro z;cases z)
   .exact .inl (by rw[q];intro z;cases z)
   .exact .inr ⟨_,q⟩
 rintro rfl;rcases key with k|⟨o,k⟩
 .exact k f.1
 .have e:=I.mod.kin a o k
  rcases f.2.2.2.1 with z|z
  .exact I.ok.noex a o e z
  .exact absurd (Ax (I.ok.bs a o e).1) (HT.mpr z)
theorem Inv.turnLay {fp:Aa Ad}{T:Ad}{xs:Aa V}{its:Aa Ac}(I:Inv X pins σ H s)(hf:∀ b∈fp,zO X pins H b)(k:∀ b o,b ∉ fp->s.heap.get? b=Ab o->h'.get? b=Ab o)(th:∀ b∈fp,∃ o,h'.get? b=Ab o)
  (hT:s.heap.objs.size<=T) (rv:qK xs its) (hx:Pw h' T its.toArray) (hz:xs.length<=sizeLine):Inv X pins σ (upd H T (.tup xs)) { s with heap:=h' }:=by
 have hn:H T=none:=I.hok.fresh hT;have ne:∀ b o,s.heap.get? b=Ab o->b≠T:=λb o e=>AS (Au (Ax e) hT);refine I.step (g':=s.gens) (d':=s.drawn) (t':=s.toks) (ch:=fp) (λb hb=>⟨(hf b hb).2.2.2.1,(hf b hb).2.1,(hf b hb).2.2.2.2.1,(hf b hb).2.2.2.2.2⟩) (λb o _ _ hc e _=>k b o hc e) (λb o _ _ hc e _=>⟨o.slots,k b o hc e⟩)
  (λb o _ e n=>by rw[qI (ne b o e)];exact n) (λb o hc e=>⟨o,k b o hc e⟩) (λb ys e=>by rw[qI (qO e hn)];exact e) (λb o u e=>by rw[qI (qO e hn)];exact e)
  (λb ps e=>⟨#[],by rw[qI (qO e hn),e];simp⟩) (λm hm=>?_) (λb u e=>?_) I.bare
 .obtain⟨o,es,ep,ho,r⟩:=hm
  exact⟨o,es,ep,k _ o (λz=>(hf _ z).2.1 rfl) ho,r⟩
 .by_cases hb:b=T
  .subst hb
   rw[qT] at e;cases e;exact⟨hz,its,rv,hx⟩
  .rw[qI hb] at e
   refine(I.hok b u e).stay (λc v hc q=>k c v (λz=>?_) q) (λc q=>by rw[qI (qO q hn)];exact q) λc ys q=>by rw[qI (qO q hn)];exact q
   have hcn:=(hf c z).1;rcases hc with rfl|hc
   .rw[hcn] at e;cases e
   .rw[hcn] at hc;cases hc
theorem Inv.turnL {fp:Aa Ad}(I:Inv X pins σ H s)(hf:∀ b∈fp,zO X pins H b)(k:∀ b o,b ∉ fp->s.heap.get? b=Ab o->h'.get? b=Ab o):Inv X pins σ H { s with heap:=h' }:=by
 refine I.step (g':=s.gens) (d':=s.drawn) (t':=s.toks) (ch:=fp) (λb hb=>⟨(hf b hb).2.2.2.1,(hf b hb).2.1,(hf b hb).2.2.2.2.1,(hf b hb).2.2.2.2.2⟩) (λb o _ _ hc e _=>k b o hc e) (λb o _ _ hc e _=>⟨o.slots,k b o hc e⟩)
  (λb o _ e n=>n) (λb o hc e=>⟨o,k b o hc e⟩) (λb ys e=>e) (λb o u e=>e) (λb ps e=>⟨#[],by rw[e];simp⟩) (λm hm=>?_) (λb u e=>?_) I.bare
 .obtain⟨o,es,ep,ho,r⟩:=hm
  exact⟨o,es,ep,k _ o (λz=>(hf _ z).2.1 rfl) ho,r⟩
 .refine(I.hok b u e).stay (λc v hc q=>k c v (λz=>?_) q) (λc q=>q) λc ys q=>q
  have hcn:=(hf c z).1;rcases hc with rfl|hc
  .rw[hcn] at e;cases e
  .rw[hcn] at hc;cases hc
end
noncomputable def Itz (tp:Ap)(K:Ai)(a b:Ad):It:=
  ⟨λi H=>∃ xs ys x y,Sq tp K H a xs/\Sq tp K H b ys/\xs[i]? = Ab x/\ys[i]? = Ab y,
   λi H v H'=>∃ T x y,v=.ref T/\H T=none/\H'=upd H T (.tup [x,y])/\(∀ xs,Sq tp K H a xs->xs[i]? = Ab x)/\∀ ys,Sq tp K H b ys->ys[i]? = Ab y,
   λi H=>∃ xs ys,Sq tp K H a xs/\Sq tp K H b ys/\(xs.length<=i\/ys.length<=i)⟩
def rS (tp:Ap)(z I O i j a b:Ad)(k:Ah)(h:A8):Prop:=∃ p q,Jg h z I O .none/\Ft h I (.ref i) (.ref j)/\Ft h O p q/\zG tp h i a k/\zG tp h j b k
theorem g0 {z I O i j a b:Ad}{k:Ah}{h:A8}(st:rS tp z I O i j a b k h):∀ c∈[z,I,O,i,j],∃ o,h.get? c=Ab o/\∀ v,o.data≠.cell v:=λc hc=>by
 obtain⟨p,q,s1,s2,s3,s4,s5⟩:=st;simp only[AD,Cu,EO] at hc;rcases hc with rfl|rfl|rfl|rfl|rfl
 .exact⟨_,s1,λv y=>by cases y⟩
 .exact⟨_,s2,λv y=>by cases y⟩
 .exact⟨_,s3,λv y=>by cases y⟩
 .exact s4.there
 .exact s5.there
theorem WC {c z I O i j:Ad}(h:c ∉ [z,I,O,i,j]):c≠z/\c≠O/\c≠i/\c≠j:=by
 simp only[AD,Cu,EO,Sz] at h;exact⟨h.1,h.2.2.1,h.2.2.2.1,h.2.2.2.2⟩
theorem XS {P:Az}{w:AL}{K:Ai}{elts:Aa AH}{x1:Ah}{tpos:CB}{z I O i j a b:Ad}(D:ZA z I O i j):Turn P w K (.Tuple elts x1 tpos) (Itz tp K a b) [z,I,O,i,j] z (rS tp z I O i j a b) where
 mem:=.head _
 obj:=λk h st=>g0 st
 keep:=λk h h' st kp=>by
  obtain⟨p,q,s1,s2,s3,s4,s5⟩:=st;exact⟨p,q,kp z (.head _) _ s1,kp I (.tail _ (.head _)) _ s2,kp O (.tail _ (.tail _ (.head _))) _ s3,s4.keep λo e=>kp i (.tail _ (.tail _ (.tail _ (.head _)))) o e,s5.keep λo e=>kp j (.tail _ (.tail _ (.tail _ (.tail _ (.head _))))) o e⟩
 item:=by
  intro X hP hw hK hc k pins s σ H E Iv hf st hg;subst hP hw hK;obtain⟨p,q,s1,s2,s3,s4,s5⟩:=st;obtain⟨xs,ys,x,y,qa,qb,hx,hy⟩:=hg;obtain⟨ia,ra,ha⟩:=qa.at Iv;obtain⟨ib,rb,hb⟩:=qb.at Iv;obtain⟨u,hu,ru⟩:=ra.get hx;obtain⟨u',hu',ru'⟩:=rb.get hy;have off:∀ {c:Ad} {zs:Aa V},Sq tp X.K H c zs->Off z O i j c:=λ{c zs} qc=>⟨qc.off Iv (hf z (.head _)),qc.off Iv (hf O (.tail _ (.tail _ (.head _)))),qc.off Iv (hf i (.tail _ (.tail _ (.tail _ (.head _))))),qc.off Iv (hf j (.tail _ (.tail _ (.tail _ (.tail _ (.head _))))))⟩;have hT:s.TypeIs (.ref z) "zip":=⟨_,s1,rfl⟩;unfold IN;refine Af (Gb (CQ (name:=Fk "__next__") hT II (CP II hT Ri
   (XU D (off qa) (off qb) s1 s2 s3 s4 s5 ha hb (by simpa using hu) (by simpa using hu') λh' a1 a2 a3 a4 a5 a6 a7=>Al ?_) (Qk _))))
  refine⟨_,rfl,wpAny_letOwnedTupleGo_zip (s:={ s with heap:=h' }) a1 λh2 b1 b2=>?_⟩
  have up:∀ c o,c≠z->h'.get? c=Ab o->h2.get? c=Ab o:=λc o n e=>(b2.2 c n).trans e;have zl:z<s.heap.objs.size:=Ax s1;have T2:Ft h2 s.heap.objs.size u u':=up _ _ (Ej zl) a5;have st2:rS tp z I O i j a b (k+1) h2:=⟨u,u',b1,up _ _ D.Iz (a7 I _ D.Iz D.IO D.Ii D.Ij s2),up _ _ D.Oz a2,a3.keep λo e=>up _ o D.iz e,a4.keep λo e=>up _ o D.jz e⟩;refine⟨.ref s.heap.objs.size,upd H s.heap.objs.size (.tup [x,y]),?_,rfl,⟨_,x,y,rfl,Iv.hok.fresh (Ay _),rfl,λzs qz=>by rw[qz.inj Iv qa];exact hx,λzs qz=>by rw[qz.inj Iv qb];exact hy⟩,st2,λc hc=>?_⟩
  .show _L.Inv X pins σ (upd H s.heap.objs.size (.tup [x,y])) { s with heap:=h2 }
   refine Inv.turnLay (fp:=[z,I,O,i,j]) (its:=[u,u']) Iv hf (λc o hc e=>?_) (λc hc=>?_) (Ay _) (.cons ru (.cons ru' .nil)) ⟨_,T2,rfl,_,rfl⟩ (by show 2<=sizeLine;decide)
   .have hc:=WC hc
    exact up c o hc.1 (a7 c o hc.1 hc.2.1 hc.2.2.1 hc.2.2.2 e)
   .obtain⟨o,e,_⟩:=g0 st2 c hc
    exact⟨o,e⟩
  .have hn:=(hf c hc).1
   rw[qI ?_]
   .exact hn
   .rintro rfl
    obtain⟨o,e,_⟩:=g0 ⟨p,q,s1,s2,s3,s4,s5⟩ _ hc;exact absurd (Ax e) (CU _)
 done:=by
  intro X hP hw hK hc k pins s σ H E Iv hf st hg;subst hP hw hK;obtain⟨p,q,s1,s2,s3,s4,s5⟩:=st;obtain⟨xs,ys,qa,qb,hend⟩:=hg;obtain⟨ia,ra,ha⟩:=qa.at Iv;obtain⟨ib,rb,hb⟩:=qb.at Iv;have off:∀ {c:Ad} {zs:Aa V},Sq tp X.K H c zs->Off z O i j c:=λ{c zs} qc=>⟨qc.off Iv (hf z (.head _)),qc.off Iv (hf O (.tail _ (.tail _ (.head _)))),qc.off Iv (hf i (.tail _ (.tail _ (.tail _ (.head _))))),qc.off Iv (hf j (.tail _ (.tail _ (.tail _ (.tail _ (.head _))))))⟩;have hT:s.TypeIs (.ref z) "zip":=⟨_,s1,rfl⟩;have l1:=ra.length;have l2:=rb.length;unfold IN;refine Af (Gb (CQ (name:=Fk "__next__") hT II (CP II hT Ri
   (XX (Iv.ok.hd hc) D (off qa) (off qb) s1 s2 s3 s4 s5 ha hb ?_ λh' e kp he=>?_) (Qk _))))
  .rcases hend with y|y
   .exact .inl (by simp;lia)
   .exact .inr (by simp;lia)
  .obtain⟨o,ho,hcl⟩:=he
   refine Af (Ly (T:="StopIteration") (b:=true) ⟨o,ho,hcl⟩ isSubtype_stop (Al ⟨rfl,Inv.turnL (fp:=[z,I,O,i,j]) Iv hf λc o hc e=>?_⟩));have hc:=WC hc;exact kp c o hc.1 hc.2.1 hc.2.2.1 hc.2.2.2 e
 self:=λ_ _ _ _ _ st h=>by
  obtain⟨p,q,s1,_⟩:=st;exact Rj s1 h
noncomputable def vL (xs ys:Aa D):Aa D:=List.zipWith (λx y=>D.tup [x,y]) xs ys
noncomputable def MA (ds:Aa D):Ak (Aa D):=match ds with
 |[.tup xs,.tup ys]=>Ab (vL xs ys)
 |[.lst xs,.lst ys]=>Ab (vL xs ys)
 |_=>none
noncomputable def eA (f:DA):DI:=λenv S=>(f env S).bind λds S1=>vI (MA ds) S1
theorem XT {xs ys:Aa D}{i:Ah}:(vL xs ys)[i]? = match xs[i]?,ys[i]? with|some x,Ab y=>Ab (D.tup [x,y])|_,_=>none:=by
 unfold vL;rw[List.getElem?_zipWith];cases xs[i]? <;> cases ys[i]? <;> rfl
theorem pS (xs ys:Aa D):(vL xs ys).length=min xs.length ys.length:=by simp[vL]
section
variable {K:Ai}
theorem Sq.mono {P P':Hp}(e:qF P P'){a:Ad}{xs:Aa V}(q:Sq tp K P a xs):Sq tp K P' a xs:=by
 cases tp with
 |true=>exact wH e q
 |false=>exact e.seq q
theorem V9 {P:Hp}{a b:Ad}{xs ys:Aa D}{ws:Aa V}(qa:Sq tp K P a vs)(qb:Sq tp K P b ws)(ta:qD K P α xs vs)(tb:qD K P α ys ws):ItD K (Itz tp K a b) P α (vL xs ys) where
 go:=λi H P1 α1 S hi r e _=>by
  rw[pS] at hi;have h1:i<vs.length:=by rw[<- ta.length];lia
  have h2:i<ws.length:=by rw[<- tb.length];lia
  exact⟨vs,ws,vs[i],ws[i],qa.mono (e.trans r.sub),qb.mono (e.trans r.sub),by simp,by simp⟩
 yld:=λi H x H' P1 α1 S hi r e e2 y=>by
  obtain⟨T,u,w,rfl,hT,rfl,hu,hw⟩:=y;rw[pS] at hi;have h1:i<xs.length:=by lia
  have h2:i<ys.length:=by lia
  obtain⟨v1,z1,p1⟩:=ta.get (As h1);obtain⟨v2,z2,p2⟩:=tb.get (As h2);have eu:=hu vs (qa.mono (e.trans r.sub));have ew:=hw ws (qb.mono (e.trans r.sub));rw[z1] at eu;cases eu;rw[z2] at ew;cases ew;obtain⟨r1,s1⟩:=r.pure (o:=.tup [u,w]) hT;refine⟨_,.tup [xs[i],ys[i]],?_,r1,s1,?_⟩
  .rw[XT,As h1,As h2]
  .exact sZ (.of qT) (.cons (Rep.mono (e.trans s1) e2 _ _ p1) (.cons (Rep.mono (e.trans s1) e2 _ _ p2) .nil))
 stop:=λi H P1 α1 S hi r e _=>by
  rw[pS] at hi;have l1:=ta.length;have l2:=tb.length;exact⟨vs,ws,qa.mono (e.trans r.sub),qb.mono (e.trans r.sub),by lia⟩
end
section
variable {X:Cx}{e1 e2:AH}{elts:Aa AH}{x1:Ah}{tpos:CB}{f:DA}{p pos:CB}
theorem oR {pins:Aa (Ad × AV)}{σ:_L.St}{H P:Hp}{s:Ag}{a b:Ad}{xs ys:Aa D}{ws:Aa V}{R:It->Hp->Prop}(I:Inv X pins σ H s)(r:Rel X.K H P α S)(qa:Sq tp X.K P a vs)(qb:Sq tp X.K P b ws)(ta:qD X.K P α xs vs)(tb:qD X.K P α ys ws)
  (q:OkI X P α R (vL xs ys) S):Ao (Aq X.prog X.w) X.A (call (.type "zip") [.ref a,.ref b]) (λv s1=>Ao (Aq X.prog X.w) X.A (IP v) (PIE X pins σ (.Tuple elts x1 tpos) R) X.xe s1) X.xe s:=by
 obtain⟨ia,ra,ha⟩:=(qa.mono r.sub).at I;obtain⟨ib,rb,hb⟩:=(qb.mono r.sub).at I;refine Q2 ha hb λh' z1 z2 z3 z4 z5 z6 z7=>?_;refine Rj (s:={ s with heap:=h' }) z1 ?_
 have D:ZA (s.heap.objs.size+4) (s.heap.objs.size+2) (s.heap.objs.size+3) s.heap.objs.size (s.heap.objs.size+1):=by constructor <;> (intro z;simp at z)
 refine⟨_,[s.heap.objs.size+4,s.heap.objs.size+2,s.heap.objs.size+3,s.heap.objs.size,s.heap.objs.size+1],_,_,H,rfl,I.kept (t':=s.toks) z7,XS (a:=a) (b:=b) D,⟨_,_,z1,z2,z3,z4,z5⟩,λc hc=>?_,q _ _ P α r (qF.refl _) (AG _) (V9 qa qb ta tb)⟩;have hl:s.heap.objs.size<=c:=by
  simp only[AD,Cu,EO] at hc;rcases hc with rfl|rfl|rfl|rfl|rfl <;> simp
 exact I.fpOk hl (I.hok.fresh hl)
inductive ZipV (ds:Aa D)(its:Aa D):Prop
 |tup (xs ys:Aa D) (ed:ds=[.tup xs,.tup ys]) (e:its=vL xs ys)
 |lst (xs ys:Aa D) (ed:ds=[.lst xs,.lst ys]) (e:its=vL xs ys)
theorem JC {its:Aa D}(h:MA ds=Ab its):ZipV ds its:=by
 cases ds with
 |nil=>exact nn h
 |cons a ds =>
  cases a with
  |tup xs =>
   cases ds with
   |nil=>exact nn h
   |cons b ds =>
    cases b with
    |tup ys =>
     cases ds with
     |nil=>exact .tup xs ys rfl (Bg h).symm
     |cons _ _=>exact nn h
    |_=>exact nn h
  |lst xs =>
   cases ds with
   |nil=>exact nn h
   |cons b ds =>
    cases b with
    |lst ys =>
     cases ds with
     |nil=>exact .lst xs ys rfl (Bg h).symm
     |cons _ _=>exact nn h
    |_=>exact nn h
  |_=>exact nn h
theorem KP (hg:Gl X "zip")(hm:X.mg "zip" = none)(ha:PA X [e1,e2] (tDA X f))(hs:A5 [e1,e2] X.env=(false,eval e1 X.env)::A5 [e2] X.env:=by rfl)(hpl:(Dh pos (A5 [e2] X.env)).any (·.1)=false:=by rfl) :
  PI X (.Tuple elts x1 tpos) (.Call (.Name "zip" p) [e1,e2] [] pos) (tDI X (eA f)):=by
 intro pins s σ H R I h;obtain⟨P,α,env,S,r,re,af⟩:=h;refine Call_ (yK I hg hm boot_zip (EC (thn (xM ha I r re af pos) λus s1 ⟨vs,H1,P1,α1,ds,S1,I1,rv,r1,re1,rp,e1,e2,af1⟩=>?_) hs hpl));obtain⟨its,hi,q⟩:=yU af1;cases JC hi with
 |tup xs ys ed e =>
  subst ed e;obtain⟨v,w,u,x,rfl,rfl,p1,p2,q1,q2⟩:=gM rp rv;simp only[Rep] at p1 p2;obtain⟨a,va,rfl,qa,ta⟩:=p1;obtain⟨b,vb,rfl,qb,tb⟩:=p2;cases (show u=Ba a from q1)
  cases (show x=Ba b from q2)
  exact oR (tp:=true) I1 r1 qa qb ta tb (q.base e1 e2)
 |lst xs ys ed e =>
  subst ed e;obtain⟨v,w,u,x,rfl,rfl,p1,p2,q1,q2⟩:=gM rp rv;simp only[Rep] at p1 p2;obtain⟨a,va,rfl,qa,ta⟩:=p1;obtain⟨b,vb,rfl,qb,tb⟩:=p2;cases (show u=Ba a from q1)
  cases (show x=Ba b from q2)
  exact oR (tp:=false) I1 r1 qa.l qb.l ta tb (q.base e1 e2)
end
def Src (K:Ai)(mg:Ar->Ak Ac)(x:Ar)(st:CF)(ps:Aa Ar):Prop:=∃ f fd,mg x=Ab (.ref f)/\Fun K x x st f fd/\wM K fd ps []
def Lk (K:Ai)(f:Ad)(fd:CV):Prop:=∃ oc od osl,K.lookup f=Ab ⟨oc,od,.func fd,osl⟩
theorem gH {K:Ai}{x q:Ar}{st:CF}{f:Ad}{fd:CV}(F:Fun K x q st f fd):Lk K f fd:=by
 obtain⟨oc,od,kV,doc,pm,an,cdv,ct,osl,_,lk,_⟩:=F.ex;exact⟨oc,od,osl,lk⟩
theorem Lk.one {K:Ai}{f:Ad}{fd fd':CV}(h:Lk K f fd)(h':Lk K f fd'):fd=fd':=by
 obtain⟨oc,od,osl,e⟩:=h;obtain⟨oc',od',osl',e'⟩:=h';rw[e] at e';cases e';rfl
noncomputable def Def (P:Az)(w:AL)(K:Ai)(mg:Ar->Ak Ac)(base:A8)(cm:Ap)(k:Ah)(x:Ar)(n:Ah)(F:DF):Prop:=
 ∃ f fd ps,ps.length=n/\mg x=Ab (.ref f)/\CD K (.ref f)=true/\wM K fd ps [] /\ Lk K f fd/\FnX P w K mg base cm k f fd ps (spD K n F)
def tX (P:Az)(w:AL)(K:Ai)(mg:Ar->Ak Ac)(base:A8)(cm:Ap)(k:Ah)(x:Ar)(ps:Aa Ar)(F:DF):Prop:=
 ∃ f fd,mg x=Ab (.ref f)/\CD K (.ref f)=true/\wM K fd ps [] /\ Lk K f fd/\FnX P w K mg base cm k f fd ps (spD K ps.length F)
section
variable {P:Az}{w:AL}{K:Ai}{mg:Ar->Ak Ac}{base:A8}{cm:Ap}
theorem W2 {x:Ar}{f:Ad}{fd:CV}{cdv:Ac}(hm:mg x=Ab (.ref f))(lk:Lk K f fd)(h:fd.code=cdv/\Mod K mg base):j6 K x cdv:=λc T e=>by
 obtain⟨oc,od,osl,lk⟩:=lk;rw[<- h.1];exact PySem.W.law_code h.2.kin h.2.glob e hm (h.2.kin _ _ lk) rfl
theorem KL {x:Ar}{st:CF}{ps:Aa Ar}{k:Ah}{g:DS}(h:Src K mg x st ps)(S:FnScope N ps (qG st))
  (hbody:∀ (f:Ad) (cdv:Ac) (A:AJ) (outer:Aa E0) (s:Ag) (H:Hp) (E:XK),j6 K x cdv->RoomC cm k (A.deeper (Dp x (qG st) s.heap.objs.size f cdv)) ->
   PSs (cxC cm P w K mg base N x (qG st) f cdv A outer s H E) (zC st) (tDS (cxC cm P w K mg base N x (qG st) f cdv A outer s H E) g)):Def P w K mg base cm (k+1) x ps.length (qY N.length g):=by
 obtain⟨f,fd,hm,F,hb⟩:=h;exact⟨f,fd,ps,rfl,hm,F.kp,hb,gH F,fnX F S λcdv A outer s H E hc hr=>hbody f cdv A outer s H E (W2 hm (gH F) hc) hr⟩
theorem YG {x:Ar}{st:CF}{ps:Aa Ar}{k:Ah}{g:DS}(h:Src K mg x st ps)(S:FnScope N ps (qG st))
  (hbody:∀ (f:Ad) (cdv:Ac) (A:AJ) (outer:Aa E0) (s:Ag) (H:Hp) (E:XK),j6 K x cdv->RoomC cm k (A.deeper (Dp x (qG st) s.heap.objs.size f cdv)) ->
   PSs (cxC cm P w K mg base N x (qG st) f cdv A outer s H E) (zC st) (tDS (cxC cm P w K mg base N x (qG st) f cdv A outer s H E) g)):tX P w K mg base cm (k+1) x ps (qY N.length g):=by
 obtain⟨f,fd,hm,F,hb⟩:=h;exact⟨f,fd,hm,F.kp,hb,gH F,fnX F S λcdv A outer s H E hc hr=>hbody f cdv A outer s H E (W2 hm (gH F) hc) hr⟩
theorem Def.any {x:Ar}{k n:Ah}{F:DF}(h:Def P w K mg base false k x n F):Def P w K mg base cm k x n F:=by
 obtain⟨f,fd,ps,hn,hm,kp,hb,hl,X⟩:=h;exact⟨f,fd,ps,hn,hm,kp,hb,hl,X.any⟩
end
section
variable {X:Cx}{cm:Ap}{k n:Ah}{F:DF}{x:Ar}{p pos:CB}{e:AH}{es:Aa AH}{fa:DA}
theorem dcN (G:Def X.prog X.w X.K X.mg X.base cm k x n F)(hr:RoomC cm k X.A)(hF:Fn1 X)(hg:Gl X x)(ha:PA X (e::es) (tDA X fa))(hdb:(x == ("__debug__" : Ar))=false:=by decide)(he:A5 (e::es) X.env=(false,eval e X.env)::A5 es X.env:=by rfl)(hpl:(Dh pos (A5 es X.env)).any (·.1)=false:=by rfl) :
  PE X (.Call (.Name x p) (e::es) [] pos) (tD X (qU n F fa)):=by
 obtain⟨f,fd,ps,hn,hm,kp,hb,hl,G⟩:=G;exact Y9 G hr hF hg hm kp hb ha hdb he hpl
theorem dcL (G:Def X.prog X.w X.K X.mg X.base cm k x n F)(hr:RoomC cm k X.A)(hF:Fn1 X)(hg:Gl X x)(ha:PA X (e::es) (tDA X fa))(hdb:(x == ("__debug__" : Ar))=false:=by decide)(he:A5 (e::es) X.env=(false,eval e X.env)::A5 es X.env:=by rfl)(hpl:(Dh pos (A5 es X.env)).any (·.1)=false:=by rfl) :
  PE X (.Call (.Name x p) (e::es) [] pos) (tD X (qU n (vV F) fa)):=by
 obtain⟨f,fd,ps,hn,hm,kp,hb,hl,G⟩:=G;exact QD G hr hF hg hm kp hb ha hdb he hpl
theorem K6 (hg:Gl X x)(hm:X.mg x=Ab (.ref C))(hk:CD X.K (.ref C)=true)(hd:(x == ("__debug__" : Ar))=false:=by decide):PE X (.Name x pos) (tD X (dC (.obj C))):=
 YC hg hm (v:=.ref C) rfl (λP α => by simp only[Rep];exact⟨trivial,hk⟩) hd
end
noncomputable def jF:DF:=λds S=>match ds with
 |[.dct0]=>.bad
 |_=>nZ ds S
theorem Y1 {X:Cx}:wN X (.builtin "len") jF:=JU trivial
noncomputable def kH:DE:=λ_ _=>.bad
theorem K4 {X:Cx}{e:AH}:PE X e (tD X kH):=λ_ _ _ _ _ _ ⟨_,_,_,_,_,_,h⟩=>An h
theorem W0:∃ C:Am->Am->Ap,C=nB:=⟨_,rfl⟩
def XZ:Am->Am->Ap:=Lw W0
theorem nE:XZ=nB:=Ig W0
def zZ:G2:=i2 XZ λi j=>.int (i*j)
theorem VV {X:Cx}:OpD X (Cs .Mult) zZ:=by
 unfold zZ;rw[nE];exact VU
theorem hu1 {cm:Ap}{k:Ah}{A:AJ}(hr:RoomC cm k A):A.units+1<CZ:=by have:=hr.units;lia
noncomputable def okO (F:DF):DF:=λds S=>match F ds S with
 |.ok d S'=>.ok d S'
 |_=>.bad
theorem B8 {F:DF}{S':Sto}{d:D}(h:F ds S=.ok d S'):okO F ds S=.ok d S':=by unfold okO;rw[h]
section
variable {X:Cx}{cm:Ap}{k n:Ah}{F:DF}{x:Ar}{p pos:CB}{e:AH}{es:Aa AH}{fa:DA}{f:Ad}{fd:CV}{ps:Aa Ar}
theorem UQ {pins:Aa (Ad × AV)}{σ:_L.St}{H:Hp}{s:Ag}{Q:VK}{us:Aa Ac}{P:Hp}(G:FnX X.prog X.w X.K X.mg X.base cm k f fd ps (spD X.K n F))(hr:RoomC cm k X.A)(hb:wM X.K fd ps [])
  (I:Inv X pins σ H s) (r:Rel X.K H P α S) (rv:qK vs us) (rp:qD X.K P α ds vs) (hn:ds.length=n) (af:qP X P α (okO F ds S) Q):Ao (Aq X.prog X.w) X.A (call (.ref f) us) (EP X pins σ Q) X.xe s:=by
 have hvn:vs.length=n:=by rw[<- rp.length];exact hn
 have hsp:spD X.K n F vs H Q λ_ _ _=>CA:=by
  refine⟨hvn,P,α,ds,S,r,rp,?_⟩;unfold okO at af;cases q:F ds S with
  |ok d S'=>rw[q] at af;exact af
  |ex c x S'=>rw[q] at af;exact An af
  |bad=>rw[q] at af;exact af
 have hl:us.length=ps.length:=by rw[<- rv.length];exact G.len _ _ _ _ hsp
 have hb':=hb s us I.kIn (by rw[Di];exact hl)
 rw[Di] at hb';refine IW (EL (G.run X.A X.stack s H ⟨us,[]⟩ us vs Q _ hr I.env0 hb' rv hsp) λr s' hq=>?_);cases r with
 |error u =>
  obtain⟨_,_,_,_,_,_,_,_,_,_,_,_,z⟩:=hq;exact An z
 |ok fl =>
  cases fl with
  |ret u=>exact I.after hq
  |next=>exact An hq
  |brk=>exact An hq
  |cont=>exact An hq
theorem dcO (G:Def X.prog X.w X.K X.mg X.base cm k x n F)(hr:RoomC cm k X.A)(hg:Gl X x)(ha:PA X (e::es) (tDA X fa))(hdb:(x == ("__debug__" : Ar))=false:=by decide)(he:A5 (e::es) X.env=(false,eval e X.env)::A5 es X.env:=by rfl)(hpl:(Dh pos (A5 es X.env)).any (·.1)=false:=by rfl) :
  PE X (.Call (.Name x p) (e::es) [] pos) (tD X (qU n (okO F) fa)):=by
 obtain⟨f,fd,ps,hn0,hm,hk,hb,hl,G⟩:=G;intro pins s σ H Q I h;obtain⟨P,α,env,S,r,re,af⟩:=h;refine Dl (yE I hg hm ?_ hdb);refine Hw (h₀:=X.base) I.ok.mod.kin hk (thn (xM ha I r re af pos) λus s1 ⟨vs,H1,P1,α1,ds,S1,I1,rv,r1,re1,rp,e1,e2,af1⟩=>⟨I1.kIn,?_⟩) he hpl;obtain⟨hn,af2⟩:=kL (env:=env) (S:=S) af1;exact UQ G hr hb I1 r1 rv rp hn (qP.base e1 e2 af2)
end
structure QE (X:Cx)(e:AH)(f:DE):Prop where
 get:PE X e (tD X f)
structure QT (X:Cx)(e:AH)(t:DT):Prop where
 get:PT X e (tDT X t)
structure QW (X:Cx)(e:AH)(t:DT):Prop where
 get:PWD X e t
structure QA (X:Cx)(es:Aa AH)(f:DA):Prop where
 get:PA X es (tDA X f)
structure QO (X:Cx)(e:Ak AH)(f:DO):Prop where
 get:PO X e (tDO X f)
structure QG (X:Cx)(t:AH)(g:DG):Prop where
 get:PG X t (tDG X g)
structure QGs (X:Cx)(ts:Aa AH)(g:DGs):Prop where
 get:PGs X ts (lU X g)
structure QI (X:Cx)(tg it:AH)(f:DI):Prop where
 get:PI X tg it (tDI X f)
structure QS (X:Cx)(s:CF)(f:DS):Prop where
 get:PS X s (tDS X f)
structure QB (X:Cx)(ss:Aa CF)(f:DS):Prop where
 get:PSs X ss (tDS X f)
structure QJ (X:Cx)(es:Aa AH)(fs:Aa DE):Prop where
 get:PJ X es fs
structure ZOp (X:Cx)(f:Ac->Ac->Gf Ac)(g:G2):Prop where
 get:OpD X f g
structure ZUn (X:Cx)(f:Ac->Gf Ac)(g:D->Sto->Res D):Prop where
 get:UnD X f g
structure ZIx (X:Cx)(g:G2):Prop where
 get:IxD X g
structure ZCall (X:Cx)(f:Ac)(F:DF):Prop where
 get:wN X f F
structure ZMt (X:Cx)(id:Bp)(g:D->Aa D->Sto->Res D):Prop where
 get:MtD X id g
structure ZIp (X:Cx)(op:HR)(g:G2):Prop where
 get:IpD X op g
structure ZSet (X:Cx)(g:G3):Prop where
 get:tY X (tV X g)
structure ZPass (X:Cx):Prop where
 get:IC (Aq X.prog X.w) X.A X.env X.xe
section
variable {X:Cx}{a b c e e1 e2 o i:AH}{es qM:Aa AH}{fa fb fc fe fo fi:DE}{ta tb:DT}{fA:DA}{f g:DS}{st:CF}{sts:Aa CF}{x:Ar}{p pos:CB}{n k:Ah}{cm:Ap}{F:DF}{G2':G2}
theorem iP:QE X (.Constant .none j pos) (dC .non):=⟨KD⟩
theorem WK:QE X (.Constant (.bool v) j pos) (dC (.bl v)):=⟨MF⟩
theorem F5:QE X (.Constant (.int v) j pos) (dC (.int v)):=⟨KA⟩
theorem F9:QE X (.Constant (.str v) j pos) (dC (.str v)):=⟨KH⟩
theorem FA (m:Ah)(hN:X.N[m]? = Ab x)(hv:Vis X.env.scope x)(hd:(x == ("__debug__" : Ar))=false)(hcd:(x == ("__classdict__" : Ar))=false):QE X (.Name x pos) (qB m):=⟨dv m hN hv hd hcd⟩
theorem UA {nm:Bp}(hg:Gl X x)(hm:X.mg x=none)(hv:Dt x=Ab (.type nm))(hn:x ≠ "__name__")(hd:(x == ("__debug__" : Ar))=false):QE X (.Name x pos) (dC (.ty nm)):=⟨Y8 hg hm hv hn hd⟩
theorem F2 (hg:Gl X x)(hm:X.mg x=Ab (.ref C))(hk:CD X.K (.ref C)=true)(hd:(x == ("__debug__" : Ar))=false):QE X (.Name x pos) (dC (.obj C)):=⟨K6 hg hm hk hd⟩
theorem F1:QE X e kH:=⟨K4⟩
theorem NG {op:UnaryOp}{h:D->Sto->Res D}(ho:ZUn X (Qw op) h)(ha:QE X a fa):QE X (.UnaryOp op a pos) (d1 h fa):=⟨MJ ho.1 ha.1⟩
theorem F8 (ha:QE X a fa):QE X (.UnaryOp .Not a pos) (Q8 fa):=⟨KE ha.1⟩
theorem NF {op:HR}(ho:ZOp X (Cs op) G2')(ha:QE X a fa)(hb:QE X b fb):QE X (.BinOp a op b pos) (d2 G2' fa fb):=⟨MI ho.1 ha.1 hb.1⟩
theorem iO {op:Rw}(ho:ZOp X (Cb op) G2')(ha:QE X a fa)(hb:QE X b fb)(hm:Ha op b=false:=by first|exact uP _|with_unfolding_all rfl):QE X (.Compare a [op] [b] pos) (d2 G2' fa fb):=⟨K7 ho.1 ha.1 hb.1 hm⟩
theorem X7 {op op':Rw}{g':G2}(ho:ZOp X (Cb op) G2')(ho':ZOp X (Cb op') g')(ha:QE X a fa)(hb:QE X b fb)(hc:QE X c fc)(hm:lastMarks [op,op'] [b,c]=false:=by with_unfolding_all rfl):QE X (.Compare a [op,op'] [b,c] pos) (kJ G2' g' fa fb fc):=⟨QF ho.1 ho'.1 ha.1 hb.1 hc.1 hm⟩
theorem iQ  (h:QE X a fa):QE X (.BoolOp op [a] pos) fa:=⟨KG h.1⟩
theorem iM (ha:QE X a fa)(hb:QE X (.BoolOp .And (b::qM) pos) fb):QE X (.BoolOp .And (a::b::qM) pos) (p9 fa fb):=⟨K3 ha.1 hb.1⟩
theorem iR  (h:QA X es fA):QE X (.Tuple es x1 pos) (x9 fA):=⟨KJ h.1⟩
theorem F7 (h:QA X es fA):QE X (.List es pos) (xC fA):=⟨KC h.1⟩
theorem UD (h:QA X es fA):QE X (.List es pos) (pU fA):=⟨YE h.1⟩
theorem F3:QE X (.Dict [] [] pos) rZ:=⟨K8⟩
theorem UB:QE X (.Dict [] [] pos) tJ:=⟨YB⟩
theorem ND (ho:ZIx X G2')(ha:QE X a fa)(hb:QE X b fb)(hs:bW b:=by intro _ _;rfl):QE X (.Subscript a b pos) (d2 G2' fa fb):=⟨MH ho.1 ha.1 hb.1 hs⟩
theorem X9 {lo hi:Ak AH}{fl fh:DO}{p2:CB}(he:QE X e fe)(hl:QO X lo fl)(hu:QO X hi fh):QE X (.Subscript e (.Slice lo hi none p2) pos) (dSl fe fl fh):=⟨QL he.1 hl.1 hu.1⟩
theorem UH (he:QE X e fe):QO X (Ab e) (yY fe):=⟨YK he.1⟩
theorem F4 (he:QE X e fe):QE X (.FormattedValue e (-1) none pos) (d1 uB fe):=⟨K9 he.1⟩
theorem FE:QJ X [] []:=⟨BU⟩
theorem UG {fs:Aa DE}(he:QE X e fe)(hr:QJ X es fs):QJ X (e::es) (fe::fs):=⟨U5 he.1 hr.1⟩
theorem UC {fs:Aa DE}(h:QJ X (e1::e2::qM) fs):QE X (.JoinedStr (e1::e2::qM) pos) (tK fs):=⟨YD h.1⟩
theorem iK:QA X [] qC:=⟨K1⟩
theorem sT (ha:QE X e fa)(hr:QA X es fA)(hs:A5 (e::es) X.env=(false,eval e X.env)::A5 es X.env:=by rfl):QA X (e::es) (qA fa fA):=⟨Y7 ha.1 hr.1 hs⟩
theorem qcN (G:Def X.prog X.w X.K X.mg X.base cm k x n F)(hr:RoomC cm k X.A)(hF:Fn1 X)(hg:Gl X x)(ha:QA X (e::es) fA)(hdb:(x == ("__debug__" : Ar))=false)(he:A5 (e::es) X.env=(false,eval e X.env)::A5 es X.env:=by rfl)(hpl:(Dh pos (A5 es X.env)).any (·.1)=false:=by rfl):QE X (.Call (.Name x p) (e::es) [] pos) (qU n F fA):=⟨dcN G hr hF hg ha.1 hdb he hpl⟩
theorem qcL (G:Def X.prog X.w X.K X.mg X.base cm k x n F)(hr:RoomC cm k X.A)(hF:Fn1 X)(hg:Gl X x)(ha:QA X (e::es) fA)(hdb:(x == ("__debug__" : Ar))=false)(he:A5 (e::es) X.env=(false,eval e X.env)::A5 es X.env:=by rfl)(hpl:(Dh pos (A5 es X.env)).any (·.1)=false:=by rfl):QE X (.Call (.Name x p) (e::es) [] pos) (qU n (vV F) fA):=⟨dcL G hr hF hg ha.1 hdb he hpl⟩
theorem X6 (hc:ZCall X (.builtin id) F)(hg:Gl X x)(hm:X.mg x=none)(hv:Dt x=Ab (.builtin id))(ha:QA X (e::es) fA)(hn:x ≠ "__name__")(hdb:(x == ("__debug__" : Ar))=false)(he:A5 (e::es) X.env=(false,eval e X.env)::A5 es X.env:=by rfl)(hpl:(Dh pos (A5 es X.env)).any (·.1)=false:=by rfl):QE X (.Call (.Name x p) (e::es) [] pos) (qR F fA):=⟨Q9 hc.1 hg hm hv ha.1 hn hdb he hpl⟩
theorem iN {T:Bp}(hc:ZCall X (.type T) F)(hg:Gl X x)(hm:X.mg x=none)(hv:Dt x=Ab (.type T))(ha:QA X (e::es) fA)(hn:x ≠ "__name__")(hdb:(x == ("__debug__" : Ar))=false)(he:A5 (e::es) X.env=(false,eval e X.env)::A5 es X.env:=by rfl)(hpl:(Dh pos (A5 es X.env)).any (·.1)=false:=by rfl):QE X (.Call (.Name x p) (e::es) [] pos) (qR F fA):=⟨cZ hc.1 hg hm hv ha.1 hn hdb he hpl⟩
theorem bM {T:Bp}{name:Ar}{apos:CB}{h:D->Aa D->Sto->Res D}(pa:OG T)(slot:Slot T name id)(hty:Sw (.builtin id)=pure (.type "method_descriptor"))(hT:T = "list" \/ T = "dict" \/ T = "int" \/ T = "str")(hm:ZMt X id h)(ho:QE X o fo)(ha:QA X (e::es) fA)
  (hbase:Kn o name X.env (eval o X.env)=eval o X.env:=by rfl)
  (hfew:((Dh pos (A5 (e::es) X.env)).all (λx=>!x.1)&&(backToKw pos (keywordEach [] X.env)).all (λx=>x.1.isSome)&&decide ((e::es).length+([]:Aa Tl).length+(if ([] : Aa Tl).isEmpty then 0 else 1)<30))=true:=by rfl)
  (hline:(apos.endLine == pos.line)=true:=by rfl) (hs:A5 (e::es) X.env=(false,eval e X.env)::A5 es X.env:=by rfl) (hplain:(Dh pos (A5 es X.env)).any (·.1)=false:=by rfl):QE X (.Call (.Attribute o name apos) (e::es) [] pos) (dBm T h fo fA):=⟨MG pa slot hty hT hm.1 ho.1 ha.1 hbase hfew hline hs hplain⟩
theorem kU {T:Bp}{name:Ar}{apos:CB}{h:D->Aa D->Sto->Res D}(pa:OG T)(slot:Slot T name id)(hty:Sw (.builtin id)=pure (.type "method_descriptor"))(hT:T = "list" \/ T = "dict" \/ T = "int" \/ T = "str")(hm:ZMt X id h)(ho:QE X o fo)
  (hbase:Kn o name X.env (eval o X.env)=eval o X.env:=by rfl) (hline:(apos.endLine == pos.line)=true:=by rfl):QE X (.Call (.Attribute o name apos) [] [] pos) (nO T h fo):=⟨K5 pa slot hty hT hm.1 ho.1 hbase hline⟩
theorem WM (h:QW X e ta):QT X e ta:=⟨PWD.pt h.1⟩
theorem bN (ha:QT X a ta):QW X (.BoolOp .Or [a] pos) ta:=⟨GC ha.1⟩
theorem tS (ha:QT X a ta)(hb:QW X (.BoolOp .Or (b::qM) pos) tb):QW X (.BoolOp .Or (a::b::qM) pos) (nP ta tb):=⟨MQ ha.1 hb.1⟩
theorem FL (ha:QT X a ta):QT X (.UnaryOp .Not a pos) (vR ta):=⟨GA ha.1⟩
theorem iW {op:Rw}(ho:ZOp X (Cb op) G2')(ha:QE X a fa)(hb:QE X b fb)(hm:Ha op b=false:=by first|exact uP _|with_unfolding_all rfl):QT X (.Compare a [op] [b] pos) (dTr (d2 G2' fa fb)):=⟨G9 ho.1 ha.1 hb.1 hm⟩
theorem iX (ha:QE X a fa)(he:∀ whole,isTrue a X.env whole=(do let v <- whole;Ki a.pos;holding [v] (truthy v)):=by intro _;rfl):QT X a (dTr fa):=⟨GB ha.1 he⟩
theorem UF (hN:X.N.Nodup)(hi:X.N[m]? = Ab x)(hx:Loc X.env.scope x)(hf:X.fn x=true\/X.env.scope.names.lookup x=Ab .local):QG X (.Name x pos) (gNm m):=⟨YH hN hi hx hf⟩
theorem sU:QGs X [] jI:=⟨YI⟩
theorem lK {h:DG}{gs:DGs}(h1:QG X e h)(h2:QGs X es gs)(hs:(Dy (e::es) X.env).map (·.2)=assign e X.env::(Dy es X.env).map (·.2):=by rfl):QGs X (e::es) (xO h gs):=⟨QM h1.1 h2.1 hs⟩
theorem iS {kk:Ah}{gs:DGs}(hc:X.calm=true)(h:QGs X es gs)(hn:(Dy es X.env).length=n:=by rfl)(hst:(Dy es X.env).findIdx? (·.1)=none:=by rfl):QG X (.Tuple es kk pos) (gTp n gs):=⟨KN hc h.1 hn hst⟩
theorem FB {h:G3}(ho:QE X o fo)(hi:QE X i fi)(hs:ZSet X h)
  (ha:∀ v,assign (.Subscript o i pos) X.env v=(do
   let ov <- holding [v] (eval o X.env)
   let iv <- holding [v,ov] (eval i X.env)
   Ki pos
   holding [v,ov,iv] (Tf ov iv v)
   release [v,ov,iv] []):=by intro _;rfl):QG X (.Subscript o i pos) (gSb fo fi h):=⟨KM ho.1 hi.1 hs.1 ha⟩
theorem FD {tg:AH}(ha:QE X e fa):QI X tg e (uN fa):=⟨KO ha.1⟩
theorem XA {tg:AH}(hg:Gl X "range")(hm:X.mg "range" = none)(ha:QA X (e::es) fA)(hs:A5 (e::es) X.env=(false,eval e X.env)::A5 es X.env:=by rfl)(hpl:(Dh pos (A5 es X.env)).any (·.1)=false:=by rfl):QI X tg (.Call (.Name "range" p) (e::es) [] pos) (kK fA):=⟨QN hg hm ha.1 hs hpl⟩
theorem iU {elts:Aa AH}{x1:Ah}{tpos:CB}(hg:Gl X "zip")(hm:X.mg "zip" = none)(ha:QA X [e1,e2] fA)(hs:A5 [e1,e2] X.env=(false,eval e1 X.env)::A5 [e2] X.env:=by rfl)(hpl:(Dh pos (A5 [e2] X.env)).any (·.1)=false:=by rfl):QI X (.Tuple elts x1 tpos) (.Call (.Name "zip" p) [e1,e2] [] pos) (eA fA):=⟨KP hg hm ha.1 hs hpl⟩
theorem iL:QB X [] zK:=⟨KW⟩
theorem bL (h:QS X st f):QB X [st] f:=⟨KY h.1⟩
theorem gL (h1:QS X st f)(h2:QB X sts g):QB X (st::sts) (qS f g):=⟨YL h1.1 h2.1⟩
theorem UI (he:QE X e fa)(hs:Nu e none pos.line X.env=pure false:=by rfl):QS X (.Expr e pos) (xY fa):=⟨YM he.1 hs⟩
theorem iV (he:QE X e fa):QS X (.Return (Ab e) pos) (zA fa):=⟨G6 he.1⟩
theorem WL {as bs:Aa CF}(hc:QT X c ta)(ha:QB X as f)(hb:QB X bs g):QS X (.If c as bs pos) (sIf ta f g):=⟨MN hc.1 ha.1 hb.1⟩
theorem XD (hp:ZPass X)(hc:QT X c ta)(hb:QB X body f):QS X (.While c body [] pos) (bO ta f):=⟨QU hp.1 hc.1 hb.1⟩
theorem FH {tg iter:AH}{fI:DI}{h:DG}(hp:ZPass X)(hc:X.calm=true)(hi:QI X tg iter fI)(hg:QG X tg h)(hb:QB X body f)(hs:∀ x,CH iter X.env x=pure x:=by intro _;rfl):QS X (.For tg iter body [] pos) (jU fI h f):=⟨KU hp.1 hc hi.1 hg.1 hb.1 hs⟩
theorem FJ {pos':CB}(hN:X.N.Nodup)(he:QE X e fa)(hi:X.N[m]? = Ab x)(hx:Loc X.env.scope x)(hs:Nu e (Ab (.Name x pos')) pos.line X.env=pure false)(hf:X.fn x=true\/X.env.scope.names.lookup x=Ab .local):QS X (.Assign [.Name x pos'] e pos) (zF fa (gNm m)):=⟨G7 hN he.1 hi hx hs hf⟩
theorem FF {tg:AH}{h:DG}(he:QE X e fa)(hg:QG X tg h)(hs:Gy [tg] e pos.line X.env=pure false:=by rfl)(hw:Gx [tg] e X.env=pure none:=by rfl)(h1:(Dy [tg] X.env).map (·.2)=[assign tg X.env]:=by rfl):QS X (.Assign [tg] e pos) (zF fa h):=⟨KR he.1 hg.1 hs hw h1⟩
theorem FG {op:HR}{pos':CB}(hN:X.N.Nodup)(he:QE X e fe)(ho:ZIp X op G2')(hi:X.N[m]? = Ab x)(hx:Loc X.env.scope x)(hf:X.fn x=true\/X.env.scope.names.lookup x=Ab .local):QS X (.AugAssign (.Name x pos') op e pos) (yP m G2' fe):=⟨KS hN he.1 ho.1 hi hx hf⟩
theorem FI {l:Ah}{y:Ar}{px py pt:CB} {kt k2 pt2} (hc:X.calm=true) (hN:X.N.Nodup) (ha:QA X [a,b] fA) (hi:X.N[m]? = Ab x) (hj:X.N[l]? = Ab y) (hij:m≠l) (hx:X.env.scope.names.lookup x=Ab .local) (hy:X.env.scope.names.lookup y=Ab .local)
  (hw:Gx [.Tuple [.Name x px,.Name y py] kt pt] (.Tuple [a,b] k2 pt2) X.env=pure (Ab [x,y]):=by rfl) (hs:Gy [.Tuple [.Name x px,.Name y py] kt pt] (.Tuple [a,b] k2 pt2) pos.line X.env=pure false:=by rfl) :
  QS X (.Assign [.Tuple [.Name x px,.Name y py] kt pt] (.Tuple [a,b] k2 pt2) pos) (fX m l fA):=⟨KZ hc hN ha.1 hi hj hij hx hy hw hs⟩
theorem XC {Ae:Ad}{np cpos:CB}(hc:X.calm=true)(hF:Fn1 X)(hg:Gl X x)(hm:X.mg x=Ab (.ref C))(hx:p8 X.K C Ae=true)(ha:QA X (e::qM) fA)(hdb:(x == ("__debug__" : Ar))=false)(he:A5 (e::qM) X.env=(false,eval e X.env)::A5 qM X.env:=by rfl)(hpl:(Dh cpos (A5 qM X.env)).any (·.1)=false:=by rfl) :
  QS X (.Raise (Ab (.Call (.Name x np) (e::qM) [] cpos)) none pos) (uU (.ref C) fA):=⟨QR hc hF hg hm hx ha.1 hdb he hpl⟩
theorem FK {nm:Ar}{C0:Ad}{b₀:CF}{suite:Aa CF}{np hpos:CB}{cs:Aa Ac}(hF:Fn1 X)(hb:∀ E pn,ZPass (Cx.tryIn X E pn)->QB (Cx.tryIn X E pn) body f)(hs:∀ e,QB (Cx.suite X e) (b₀::suite) g)(hg:Gl X x)(hm:X.mg x=Ab (.ref C0))(hcs:∀ c∈cs,Fd X.K c (.ref C0)=Ab true)(hN:X.N.Nodup)(hi:X.N[m]? = Ab nm)(hlo:X.env.scope.names.lookup nm=Ab .local)(hdb:(x == ("__debug__" : Ar))=false)(hn:X.N.length=n) :
  QS X (.Try body [.ExceptHandler (Ab (.Name x np)) (Ab nm) (b₀::suite) hpos] [] [] pos) (pN n m cs f g):=⟨hn▸G8 hF (λE pn hp=>(hb E pn ⟨hp⟩).1) (λe=>(hs e).1) hg hm hcs hN hi hlo hdb⟩
theorem L5:ZOp X (Cs .Add) zS:=⟨PZ⟩
theorem LH:ZOp X (Cs .Sub) xN:=⟨B7⟩
theorem LA:ZOp X (Cs .Mult) zZ:=⟨VV⟩
theorem L6:ZOp X (Cs .FloorDiv) pB:=⟨B0⟩
theorem L9:ZOp X (Cs .Mod) jG:=⟨B4⟩
theorem LC:ZOp X (Cs .Pow) v8:=⟨B5⟩
theorem LG:ZOp X (Cs .LShift) l7:=⟨B6⟩
theorem SL:ZOp X (Cb .Lt) gLt:=⟨N3⟩
theorem SJ:ZOp X (Cb .LtE) gLe:=⟨N2⟩
theorem SH:ZOp X (Cb .Gt) gGt:=⟨N0⟩
theorem SG:ZOp X (Cb .GtE) gGe:=⟨TZ⟩
theorem M6:ZOp X (Cb .Is) gIs:=⟨N1⟩
theorem M4 (hr:RoomC cm k X.A):ZOp X (Cb .Eq) gEq:=⟨TY hr.units⟩
theorem M9 (hr:RoomC cm k X.A):ZOp X (Cb .NotEq) gNe:=⟨N4 hr.units⟩
theorem LB:ZUn X (Qw .USub) fG:=⟨FX⟩
theorem SI:ZIx X gIx:=⟨DB⟩
theorem WT:ZCall X (.builtin "isinstance") zV:=⟨cN⟩
theorem M7 {cl:Aa Ad}(h:ClsK X.K cl):ZCall X (.builtin "isinstance") (zH cl):=⟨WZ h⟩
theorem WU:ZCall X (.builtin "len") jF:=⟨Y1⟩
theorem WS (hc:X.calm=true):ZCall X (.builtin "all") (fD false):=⟨JS false hc⟩
theorem L8:ZCall X (.type "int") eG:=⟨JT⟩
theorem d0:ZMt X "list.append" wK:=⟨i7⟩
theorem oP:ZMt X "int.bit_length" tP:=⟨VL⟩
theorem rH:ZMt X "list.count" b0:=⟨ZP⟩
theorem rJ:ZMt X "list.index" b7:=⟨ZQ⟩
theorem M5:ZIp X .Add pZ:=⟨V2⟩
theorem M8:ZIp X .Sub xN:=⟨V3⟩
theorem LD (hr:RoomC cm k X.A):ZSet X wA:=⟨FP (hu1 hr)⟩
end
section
variable {P:Az}{w:AL}{K:Ai}{mg:Ar->Ak Ac}{base:A8}{cm:Ap}
theorem rK {qual:Ar}{scope:Cj}{f:Ad}{cd:Ac}{A:AJ}{outer:Aa E0}{s:Ag}{H:Hp}{E:XK}:ZPass (cxC cm P w K mg base N qual scope f cd A outer s H E):=⟨Q6⟩
theorem D0 {x:Ar}{st:CF}{ps:Aa Ar}{k:Ah}{g:DS}(h:Src K mg x st ps)(S:FnScope N ps (qG st))(hbd:zC st=body)
  (hbody:∀ (f:Ad) (cdv:Ac) (A:AJ) (outer:Aa E0) (s:Ag) (H:Hp) (E:XK),j6 K x cdv->RoomC cm k (A.deeper (Dp x (qG st) s.heap.objs.size f cdv)) ->
   QB (cxC cm P w K mg base N x (qG st) f cdv A outer s H E) body g):Def P w K mg base cm (k+1) x ps.length (qY N.length g):=
 KL h S λf cdv A outer s H E hc hr=>hbd▸(hbody f cdv A outer s H E hc hr).1
theorem MK {x:Ar}{st:CF}{ps:Aa Ar}{k:Ah}{g:DS}(h:Src K mg x st ps)(S:FnScope N ps (qG st))(hbd:zC st=body)
  (hbody:∀ (f:Ad) (cdv:Ac) (A:AJ) (outer:Aa E0) (s:Ag) (H:Hp) (E:XK),j6 K x cdv->RoomC cm k (A.deeper (Dp x (qG st) s.heap.objs.size f cdv)) ->
   QB (cxC cm P w K mg base N x (qG st) f cdv A outer s H E) body g):tX P w K mg base cm (k+1) x ps (qY N.length g):=
 YG h S λf cdv A outer s H E hc hr=>hbd▸(hbody f cdv A outer s H E hc hr).1
theorem YF {x:Ar}{st:CF}{ps:Aa Ar}(h:Src K mg x st ps):Def P w K mg base cm 0 x ps.length λ_ _=>.bad:=by
 obtain⟨f,fd,hm,F,hb⟩:=h;exact⟨f,fd,ps,rfl,hm,F.kp,hb,gH F,⟨λvs H Q E z=>z.1,λA outer s H args us vs Q E _ _ _ _ z=>by obtain⟨_,_,_,_,_,_,_,z⟩:=z;exact An z⟩⟩
end
structure QTs (X:Cx)(ifs:Aa AH)(t:DT):Prop where
 get:PTs X ifs t
section
variable {X:Cx}{elt tg iter e:AH}{ifs es:Aa AH}{scope:Cj}{pos p:CB}{N':Aa Ar}{cap:Aa (Ak Ah)}{fi:DI}{g:DG}{t u:DT}{fe:DE}{fa:DA}{x:Ar}{cm:Ap}{k n:Ah}{F:DF}
theorem sW:QTs X [] wF:=⟨YQ⟩
theorem qcO (G:Def X.prog X.w X.K X.mg X.base cm k x n F)(hr:RoomC cm k X.A)(hg:Gl X x)(ha:QA X (e::es) fa)(hdb:(x == ("__debug__" : Ar))=false)(he:A5 (e::es) X.env=(false,eval e X.env)::A5 es X.env:=by rfl)(hpl:(Dh pos (A5 es X.env)).any (·.1)=false:=by rfl) :
  QE X (.Call (.Name x p) (e::es) [] pos) (qU n (okO F) fa):=⟨dcO G hr hg ha.1 hdb he hpl⟩
end
def stn (o:Ak (Ah × MO))(S:Sto):Prop:=match o with
 |none=>HX
 |some p=>S[p.1]? = Ab p.2
open Classical in
def c7 (o:Ak (Ah × MO))(S:Sto):Ap:=decide (stn o S)
theorem wI {o:Ak (Ah × MO)}:c7 o S=true↔stn o S:=by simp[c7]
structure ItD2 (K:Ai)(J:It)(P:Hp)(α : Aa Ad)(o:Ak (Ah × MO))(ds:Aa D):Prop where
 go:∀ i H P1 α1 S,i<ds.length->Rel K H P1 α1 S->stn o S->qF P P1->α<+:α1->J.go i H
 yld:∀ i H x H' P1 α1 S,i<ds.length->Rel K H P1 α1 S->stn o S->qF P P1->α<+:α1->J.yld i H x H'->∃ P2 d,ds[i]? = Ab d/\Rel K H' P2 α1 S/\qF P1 P2/\Rep K P2 α1 d x
 stop:∀ i H P1 α1 S,ds.length<=i->Rel K H P1 α1 S->stn o S->qF P P1->α<+:α1->J.stop i H
theorem ItD.two {K:Ai}{J:It}{P:Hp}(h:ItD K J P α ds):ItD2 K J P α none ds:=
 ⟨λi H P1 α1 S a b _ c d=>h.go i H P1 α1 S a b c d,λi H x H' P1 α1 S a b _ c d e=>h.yld i H x H' P1 α1 S a b c d e,λi H P1 α1 S a b _ c d=>h.stop i H P1 α1 S a b c d⟩
abbrev DI2:=qE->Sto->Res (Ak (Ah × MO) × Aa D)
inductive tDI2 (X:Cx)(f:DI2)(σ : _L.St)(H:Hp)(R:It->Hp->Prop):Prop
 |mk (P:Hp) (α : Aa Ad) (env:qE) (S:Sto) (r:Rel X.K H P α S) (re:qV X.K P α σ env) (af:qH X P α (f env S) (λp S'=>∀ J H' P' α',Rel X.K H' P' α' S'->qF P P'->α<+:α'->ItD2 X.K J P' α' p.1 p.2->R J H')):tDI2 X f σ H R
noncomputable def bH (f:DI):DI2:=λenv S=>(f env S).bind λds S1=>.ok (none,ds) S1
section
variable {X:Cx}{K:Ai}{tg e:AH}{fa:DE}{pos:CB}
theorem YJ {f:DI}(h:PI X tg e (tDI X f)):PI X tg e (tDI2 X (bH f)):=PI.weak h λσ H R ⟨P,α,env,S,r,re,af⟩=>by
 refine⟨P,α,env,S,r,re,?_⟩;unfold bH at af;cases q:f env S with
 |bad=>rw[q] at af;exact af
 |ex c x S'=>rw[q] at af;exact af
 |ok ds S1 =>
  rw[q] at af;exact λJ H' P' α' r' e1 e2 it=>af J H' P' α' r' e1 e2 it.two
theorem V7 {P:Hp}{a:Ad}{n:Ah}(hα:α[n]? = Ab a):ItD2 K (Itl K a) P α (Ab (n,.lst ds)) ds where
 go:=λi H P1 α1 S hi r st e e2=>by
  obtain⟨vs,z,t⟩:=r.at' n a _ (gJ e2 hα) st;exact⟨vs,vs[i]'(by rw[<- t.length];exact hi),.of z,by simp⟩
 yld:=λi H x H' P1 α1 S hi r st e e2 y=>by
  obtain⟨rfl,y⟩:=y;obtain⟨vs,z,t⟩:=r.at' n a _ (gJ e2 hα) st;have hx:=y vs (.of z);obtain⟨v,h1,h2⟩:=t.get (As hi);rw[hx] at h1;cases h1;exact⟨P1,_,As hi,r,qF.refl _,h2⟩
 stop:=λi H P1 α1 S hi r st e e2=>by
  obtain⟨vs,z,t⟩:=r.at' n a _ (gJ e2 hα) st;exact⟨vs,.of z,by rw[<- t.length];exact hi⟩
noncomputable def itD (d:D)(S:Sto):Res (Ak (Ah × MO) × Aa D):=match d with
 |.tup xs=>.ok (none,xs) S
 |.lst xs=>.ok (none,xs) S
 |.loc n=>match S[n]? with
  |some (.lst xs)=>.ok (Ab (n,.lst xs),xs) S
  |_=>.bad
 |_=>.bad
noncomputable def dIt (f:DE):DI2:=λenv S=>(f env S).bind λd S1=>itD d S1
theorem ML (ha:PE X e (tD X fa)):PI X tg e (tDI2 X (dIt fa)):=by
 intro pins s σ H R I h;obtain⟨P,α,env,S,r,re,af⟩:=h;refine thn (zJ ha I r re af) λvv s1 ⟨v,H1,P1,α1,d,S1,G1,af1⟩=>?_;have seq:∀ ds,w9 d=Ab ds->(∀ J H' P' α',Rel X.K H' P' α' S1->qF P P'->α<+:α'->ItD2 X.K J P' α' none ds->R J H')->Ao (Aq X.prog X.w) X.A (IP vv) (PIE X pins σ tg R) X.xe s1:=λds e1 q =>
  lA G1.inv G1.rel G1.val G1.rep e1 λJ H' P' α' r' h1 h2 it=>q J H' P' α' r' (G1.same.trans h1) (G1.pre.trans h2) it.two
 cases d with
 |tup xs=>exact seq xs rfl af1
 |lst xs=>exact seq xs rfl af1
 |loc n =>
  obtain⟨xs,hS,af1⟩:=vG (X:=X) (f:=λxs=>Res.ok (Ab (n,MO.lst xs),xs) S1) af1;have rp:=G1.rep;simp only[Rep] at rp;obtain⟨a,rfl,ha⟩:=rp;cases (show vv=Ba a from G1.val)
  obtain⟨vs,z,t⟩:=G1.rel.at' n a _ ha hS;obtain⟨its,rv,p,hz⟩:=G1.inv.list (SqL.of z);refine Ew p.isList ?_;refine⟨s1.heap.objs.size,[s1.heap.objs.size],_,_,H1,rfl,G1.inv.kept (t':=s1.toks) λb o e=>Aj _ e,t9 a _,⟨_,AC _ rfl,rfl,rfl⟩,λb hb=>?_,af1 _ _ P1 α1 G1.rel G1.same G1.pre (V7 ha)⟩;have e:b=s1.heap.objs.size:=by simpa using hb
  subst e;exact G1.inv.fpOk (Ay _) (G1.inv.hok.fresh (Ay _))
 |_=>exact An af1
end
noncomputable def emX (m:Ap)(elt:AH)(acc:Ac)(env:E0):Gf IV:=match m with
 |false=>do let _ <- call (.builtin "list.append") [acc,<- eval elt env]
 |true=>do let v <- eval elt env;Ki elt.pos;let _ <- call (.builtin "set.add") [acc,v]
noncomputable def zB (m:Ap)(elt:AH)(gens:Aa Bm)(scope:Cj)(pos:CB)(k:Ah)(acc:Ac)(env:E0):Gf IV:=
 match gens[k+1]? with
 |some g'=>do
  let x <- eval g'.iter env
  Ki g'.iter.pos
  let x <- CH g'.iter env x
  let it <- holding [x] (IP x)
  let _ <- runOwn (.compStart (zX m elt gens scope pos) (k+1) it acc env) env
 |none=>emX m elt acc env
theorem XR (m:Ap)(elt target iter:AH)(ifs:Aa AH)(gens:Aa Bm)(scope:Cj)(pos:CB)(it acc:Ac)(env:E0)(k:Ah)(hg:gens[k]? = Ab ⟨target,iter,ifs,0⟩)(ha:∀ g',gens[k+1]? = Ab g'->g'.is_async=0) :
  RV (zX m elt gens scope pos) k it acc env=(do
   Ki iter.pos
   match <- IN it with
   |none=>pure (.done .next)
   |some v =>
    Fw target it v
    assign target env v
    let mut ok:=true
    for c in ifs do
     if ok then ok <- isTrue c env (eval c env)
    if ok then zB m elt gens scope pos k acc env
    again (.compLoop (zX m elt gens scope pos) k it acc env)):=by
 cases m <;>
 .unfold RV zB zX emX
  simp only[hg];cases q:gens[k+1]? with
  |none=>rfl
  |some g' =>
   have h0:=ha g' q;have e0:(g'.is_async != 0)=false:=by rw[h0];rfl
   simp only[e0,AI,Ci,bind_assoc,pure_bind];rfl
abbrev DK:=qE->Sto->Aa D->Res (qE × Aa D)
def goL (o:Ak (Ah × MO))(g:DG)(t:DT)(k:DK):Aa D->DK
 |[],env,S,acc=>if c7 o S then .ok (env,acc) S else .bad
 |d::ds,env,S,acc=>if c7 o S then (g d env S).bind λenv1 S1=>(t env1 S1).bind λb S2 =>
   if b then (k env1 S2 acc).bind λp S3=>goL o g t k ds p.1 S3 p.2 else goL o g t k ds env1 S2 acc
  else .bad
noncomputable def xW (fe:DE):DK:=λenv S acc=>(fe env S).bind λx S1=>if acc.length<lim then .ok (env,acc++[x]) S1 else .bad
def kIn (fi:DI2)(g:DG)(t:DT)(k:DK):DK:=λenv S acc=>(fi env S).bind λp S1=>goL p.1 g t k p.2 env S1 acc
def rL (B:Acc)(Y:Cx)(pins:Aa (Ad × AV))(P1:Hp)(α1:Aa Ad)(acc:Ad)(env:qE)(S:Sto)(ds:Aa D)(s:Ag):Prop:=
 ∃ σ H P α o,TurnSt B Y pins P1 α1 [] acc env S ds s σ H P α o
def PK (B:Acc)(Y:Cx)(step:Ac->Gf IV)(k:DK):Prop:=
 ∀ (pins:Aa (Ad × AV)) (P1:Hp) (α1:Aa Ad) (acc:Ad) (env env':qE) (S S':Sto) (ds ds':Aa D) (s:Ag),(∀ H:Hp,H acc=none->zO Y pins H acc)->rL B Y pins P1 α1 acc env S ds s->k env S ds=.ok (env',ds') S' ->
  Ao (Aq Y.prog Y.w) Y.A (step (.ref acc)) (λ_ s'=>rL B Y pins P1 α1 acc env' S' ds' s') (λ_ _=>CA) s
section
variable {B:Acc}{Y:Cx}{elt tg iter:AH}{ifs:Aa AH}{gens:Aa Bm}{scope:Cj}{pos:CB}{k:Ah}{g:DG}{t:DT}{fe:DE}{it acc:Ad}{fp:Aa Ad}{J:It}{tn:Ah->A8->Prop}{items:Aa D}{P1:Hp}{α1:Aa Ad}{pins:Aa (Ad × AV)}
theorem aI {X:Cx}{H:Hp}{b:Ad}{h:A8}(f:zO X pins H b)(hn:b ∉ fp):zO X (pins++wV fp h) H b:=by
 obtain⟨f0,f1,f2,f3,f4,f5⟩:=f;refine⟨f0,f1,f2,f3,f4,λp hp=>?_⟩;rcases AX.mp hp with z|z
 .exact f5 p (AT _ z)
 .rcases AX.mp z with z|z
  .exact f5 p (A3 _ z)
  .rintro rfl
   exact hn (mU z).1
theorem Res.bind_inv {β γ:Type}{r:Res β}{f:β->Sto->Res γ}{x:γ}(h:r.bind f=.ok x S):∃ b S1,r=.ok b S1/\f b S1=.ok x S:=by
 cases r with
 |ok b S1=>exact⟨b,S1,rfl,h⟩
 |_=>cases h
inductive GoC (o:Ak (Ah × MO))(g:DG)(t:DT)(k:DK)(d:D)(ds acc:Aa D)(env:qE)(S SF:Sto)(x:qE × Aa D):Prop
 |no (env1:qE) (S1 S2:Sto) (z:stn o S) (q1:g d env S=.ok env1 S1) (q2:t env1 S1=.ok false S2) (r:goL o g t k ds env1 S2 acc=.ok x SF):GoC o g t k d ds acc env S SF x
 |yes (env1:qE) (S1 S2:Sto) (env5:qE) (ds5:Aa D) (S5:Sto) (z:stn o S) (q1:g d env S=.ok env1 S1) (q2:t env1 S1=.ok true S2) (q3:k env1 S2 acc=.ok (env5,ds5) S5) (r:goL o g t k ds env5 S5 ds5=.ok x SF):GoC o g t k d ds acc env S SF x
set_option tactic.hygienic true in
theorem Z5 {o:Ak (Ah × MO)}{k:DK}{d:D}{acc:Aa D}{x:qE × Aa D}(h:goL o g t k (d::ds) env S acc=.ok x SF):GoC o g t k d ds acc env S SF x:=by
 simp only[goL] at h
 split at h
 .rename_i z
  obtain⟨env1,S1,q1,h⟩:=Res.bind_inv h;obtain⟨b,S2,q2,h⟩:=Res.bind_inv h;cases b with
  |false=>exact .no env1 S1 S2 (wI.mp z) q1 q2 h
  |true =>
   obtain⟨⟨env5,ds5⟩,S5,q3,h⟩:=Res.bind_inv h;exact .yes env1 S1 S2 env5 ds5 S5 (wI.mp z) q1 q2 q3 h
 .cases h
set_option tactic.hygienic true in
theorem YY {o:Ak (Ah × MO)}{k:DK}{acc:Aa D}(h:goL o g t k [] env S acc=.ok (envF,dsF) SF):stn o S/\env=envF/\acc=dsF/\S=SF:=by
 simp only[goL] at h
 split at h
 .rename_i z
  cases h;exact⟨wI.mp z,rfl,rfl,rfl⟩
 .cases h
inductive LpI (B:Acc)(Y:Cx)(pins:Aa (Ad × AV))(P1:Hp)(α1:Aa Ad)(fp:Aa Ad)(acc:Ad)(tn:Ah->A8->Prop)(G:Aa D->DK)(items:Aa D)(x:qE × Aa D)(SF:Sto)(n:Ah)(s:Ag):Prop
 |mk (i:Ah) (σ : _L.St) (H P:Hp) (α : Aa Ad) (o:AV) (env:qE) (S:Sto) (ds:Aa D) (hn:n=items.length-i) (hi:i<=items.length) (st:TurnSt B Y pins P1 α1 fp acc env S ds s σ H P α o) (st1:tn i s.heap) (run:G (items.drop i) env S ds=.ok x SF):LpI B Y pins P1 α1 fp acc tn G items x SF n s
theorem UZ {m:Ap}{M:Gg}{A:AJ}{Q:Fin->Ag->Prop}{E:Ac->Ag->Prop}{s:Ag}{it acc:Ac}{en:E0}(hgk:gens[k]? = Ab ⟨tg,iter,ifs,0⟩)(has:∀ g',gens[k+1]? = Ab g'->g'.is_async=0)
  (ha:∀ s,Qa s->Q (.again (.compLoop (zX m elt gens scope pos) k it acc en)) s) (hd:∀ s,Qd s->Q (.done .next) s)
  (h:Ao M A (IN it) (λr s1=>(r=none->Qd s1)/\∀ v,r=Ab v->Ao M A (Fw tg it v) (λ_ s2=>Ao M A (assign tg en v) (λ_ s3=>Ao M A (uV ifs en) (λb s4=>(b=false->Qa s4)/\(b=true->Ao M A (zB m elt gens scope pos k acc en) (λ_ s5=>Qa s5) E s4)) E s3) E s2) E s1) E s) :
  Ao M A (RV (zX m elt gens scope pos) k it acc en) Q E s:=by
 rw[XR m elt tg iter ifs gens scope pos it acc en k hgk has];refine Af (Gz (Af (thn h λr s1 ⟨h0,h1⟩=>?_)));cases r with
 |none=>exact Al (hd _ (h0 rfl))
 |some v =>
  refine Af (thn (h1 v rfl) λ_ s2 h2=>Af (thn h2 λ_ s3 h3=>Af (thn h3 λb s4 h4=>?_)));cases b with
  |false=>exact Al (ha _ (h4.1 rfl))
  |true=>exact Af (thn (h4.2 rfl) λ_ s5 h5=>Al (ha _ h5))
theorem YX (hfp:∀ H:Hp,(∀ b∈fp,H b=none)->∀ b∈fp,zO Y pins H b)(hne:acc ∉ fp)(o:AV)(H':Hp)(hn:∀ b∈fp,H' b=none):∀ b∈fp,zO Y (pins++[(acc,o)]) H' b:=λb hb=>by
 obtain⟨f0,f1,f2,f3,f4,f5⟩:=hfp H' hn b hb;refine⟨f0,f1,f2,f3,f4,λp hp=>?_⟩;rcases AX.mp hp with z|z
 .exact f5 p (AT _ z)
 .rcases AX.mp z with z|z
  .exact f5 p (A3 _ z)
  .rw[Bf.mp z]
   rintro rfl;exact hne hb
theorem u4 {i:Ah}{h:A8}(T:Turn Y.prog Y.w Y.K tg J fp it tn)(st2:tn (i+1) h)(pl:∀ b∈fp,∃ o,h.get? b=Ab o/\∀ v,o.data≠.cell v){s5:Ag}{σ5:_L.St}{H5:Hp}(I5:Inv Y (pins++wV fp h) σ5 H5 s5):tn (i+1) s5.heap/\(∀ b∈fp,H5 b=none):=by
 refine⟨T.keep _ _ _ st2 λb hb o' e=>(I5.pin (b,o') (A3 _ (A3 _ (yR hb e)))).1,λb hb=>?_⟩;obtain⟨o',e,d'⟩:=pl b hb;exact(I5.pin (b,o') (A3 _ (A3 _ (yR hb e)))).2.1
theorem rY {kk:DK}{E:Ac->Ag->Prop}{s:Ag}{σ:_L.St}{H P:Hp}{o:AV}{i:Ah}(hc:Y.calm=true)(hx:Y.xe=λ_ _=>CA)
  (T:Turn Y.prog Y.w Y.K tg J fp it tn) (hit:ItD2 Y.K J P1 α1 o' items) (hg:PG Y tg (tDG Y g)) (ht:PTs Y ifs t) (he:PK B Y (λacc=>zB B.m elt gens scope pos k acc Y.env) kk) (hacc:∀ H:Hp,H acc=none->zO Y pins H acc) (hfp:∀ H:Hp,(∀ b∈fp,H b=none)->∀ b∈fp,zO Y pins H b) (hne:acc ∉ fp)
  (hi:i<=items.length) (st:TurnSt B Y pins P1 α1 fp acc env S ds s σ H P α o) (st1:tn i s.heap) (run:goL o' g t kk (items.drop i) env S ds=.ok (envF,dsF) SF)
  (hA:∀ s' σ' H' P' α' o1 env1 S' ds',i<items.length->TurnSt B Y pins P1 α1 fp acc env1 S' ds' s' σ' H' P' α' o1->tn (i+1) s'.heap->goL o' g t kk (items.drop (i+1)) env1 S' ds'=.ok (envF,dsF) SF->Qa s')
  (hD:∀ s' σ' H' P' α' o',TurnSt B Y pins P1 α1 fp acc envF SF dsF s' σ' H' P' α' o'->Qd s') :
  Ao (Aq Y.prog Y.w) Y.A (IN (.ref it)) (λr s1=>(r=none->Qd s1)/\∀ v,r=Ab v->Ao (Aq Y.prog Y.w) Y.A (Fw tg (.ref it) v) (λ_ s2=>Ao (Aq Y.prog Y.w) Y.A (assign tg Y.env v) (λ_ s3=>Ao (Aq Y.prog Y.w) Y.A (uV ifs Y.env) (λb s4=>(b=false->Qa s4)/\(b=true->Ao (Aq Y.prog Y.w) Y.A (zB B.m elt gens scope pos k (.ref acc) Y.env) (λ_ s5=>Qa s5) E s4)) E s3) E s2) E s1) E s:=by
 have I1:=_D.Inv.pin1 st.inv (hacc H st.acn) st.at' (B.cell st.acc);have fp1:=YX hfp hne o;by_cases hlt:i<items.length
 .have hdr:items.drop i=items[i]::items.drop (i+1):=En hlt
  rw[hdr] at run;have run:=Z5 run;have hst:stn o' S:=by cases run with|no _ _ _ z=>exact z|yes _ _ _ _ _ _ z=>exact z
  refine uF (T.item Y rfl rfl rfl hc i _ s σ H (λ_ _=>CA) I1 (fp1 H st.fpn) st1 (hit.go i H P α S hlt st.rel hst st.same st.pre)) λr s1 ⟨u,hr,h1⟩=>⟨λz=>(by rw[hr] at z;cases z),λv hv=>?_⟩
  obtain rfl:v=u:=Bg (hv.symm.trans hr);refine uF h1 λ_ s2 ⟨x,H2,I2,rx,y,st2,fr2⟩=>?_;obtain⟨P2,d,hd,r2,e2,rp⟩:=hit.yld i H x H2 P α S hlt st.rel hst st.same st.pre y;cases (As hlt).symm.trans hd;have pl:=T.obj _ _ st2;have I2':=I2.pinned (fp1 _ fr2) pl;have two:∀ env1 S1 b S2,g items[i] env S=.ok env1 S1->t env1 S1=.ok b S2->(∀ s4 σ3 H4 P4 α4 (I4:Inv Y (pins++wV fp s2.heap) σ3 H4 s4),TurnSt B Y pins P1 α1 fp acc env1 S2 ds s4 σ3 H4 P4 α4 o->tn (i+1) s4.heap->(b=false->Qa s4)/\(b=true->Ao (Aq Y.prog Y.w) Y.A (zB B.m elt gens scope pos k (.ref acc) Y.env) (λ_ s5=>Qa s5) E s4))->Ao (Aq Y.prog Y.w) Y.A (assign tg Y.env v) (λ_ s3=>Ao (Aq Y.prog Y.w) Y.A (uV ifs Y.env) (λb s4=>(b=false->Qa s4)/\(b=true->Ao (Aq Y.prog Y.w) Y.A (zB B.m elt gens scope pos k (.ref acc) Y.env) (λ_ s5=>Qa s5) E s4)) E s3) E s2:=by
   intro env1 S1 b S2 q1 q2 next;refine uF (hx▸DP hg I2' r2 (st.env.mono e2 (AG _)) rx rp q1) λ_ s3 ⟨σ3,H3,P3,α3,I3,r3,re3,e3,e3'⟩=>?_;refine uF (hx▸NC ht I3 r3 re3 q2) λb' s4 ⟨hb,H4,P4,α4,I4,r4,re4,e4,e4'⟩=>?_;have I4':Inv Y (pins++wV fp s2.heap) σ3 H4 s4:=I4.pins_of λp hp=>I4.pin p (A3 _ ((AX.mp hp).elim (λz=>AT _ (AT _ z)) λz=>A3 _ z));have a4:=I4.pin (acc,o) (A3 _ (AT _ (A3 _ (Bf.mpr rfl))));rw[hb];exact next s4 σ3 H4 P4 α4 I4' ⟨I4'.unpinned,r4,re4,((st.same.trans e2).trans e3).trans e4,(st.pre.trans e3').trans e4',(u4 T st2 pl I4').2,a4.2.1,a4.1,B.mono ((e2.trans e3).trans e4) (e3'.trans e4') st.acc⟩ (u4 T st2 pl I4').1
  cases run with
  |no env1 S1 S2 _ q1 q2 run=>exact two env1 S1 false S2 q1 q2 λs4 σ3 H4 P4 α4 I4 st4 tn4=>⟨λ_=>hA s4 σ3 H4 P4 α4 o env1 S2 ds hlt st4 tn4 run,λz=>(by cases z)⟩
  |yes env1 S1 S2 env5 ds5 S5 _ q1 q2 q3 run =>
   refine two env1 S1 true S2 q1 q2 λs4 σ3 H4 P4 α4 I4 st4 tn4=>⟨λz=>(by cases z),λ_=>?_⟩
   refine uF (he (pins++wV fp s2.heap) P1 α1 acc env1 env5 S2 S5 ds ds5 s4 (λH hn=>aI (hacc H hn) hne) ⟨σ3,H4,P4,α4,o,I4,st4.rel,st4.env,st4.same,st4.pre,λb hb=>(by cases hb),st4.acn,st4.at',st4.acc⟩ q3) λ_ s5 ⟨σ5,H5,P5,α5,o5,T5⟩=>?_
   exact hA s5 σ5 H5 P5 α5 o5 env5 S5 ds5 hlt ⟨T5.inv.unpinned,T5.rel,T5.env,T5.same,T5.pre,(u4 T st2 pl T5.inv).2,T5.acn,T5.at',T5.acc⟩ (u4 T st2 pl T5.inv).1 run
 .rw[Mx li] at run
  obtain⟨z,rfl,rfl,rfl⟩:=YY run;refine uF (T.done Y rfl rfl rfl hc i _ s σ H (λ_ _=>CA) I1 (fp1 H st.fpn) st1 (hit.stop i H P α _ li st.rel z st.same st.pre)) λr s1 ⟨hr,I2⟩=>⟨λ_=>?_,λv hv=>(by rw[hr] at hv;cases hv)⟩
  have a:=_D.Inv.pinned1 I2;exact hD s1 σ H P α o ⟨I2.unpinned,st.rel,st.env,st.same,st.pre,st.fpn,a.2,a.1,st.acc⟩
theorem ZN (P:Az)(w:AL)(m:Ap)(elt:AH)(gens:Aa Bm)(scope:Cj)(pos:CB)(k:Ah)(it acc:Ac)(env:E0):(Aq P w).den (.compLoop (zX m elt gens scope pos) k it acc env)=(RV (zX m elt gens scope pos) k it acc env).onRaise (λx=>do Kj x env;theTreesLotGoes x):=by cases m <;> rfl
theorem ZO (A:AJ)(m:Ap)(elt:AH)(gens:Aa Bm)(scope:Cj)(pos:CB)(k:Ah)(it acc:Ac)(env:E0):A.under (.compLoop (zX m elt gens scope pos) k it acc env)=A:=by cases m <;> rfl
theorem pT {kk:DK}{s:Ag}{σ:_L.St}{H P:Hp}{ds0:Aa D}{o:AV}(hc:Y.calm=true)(hx:Y.xe=λ_ _=>CA)(hgk:gens[k]? = Ab ⟨tg,iter,ifs,0⟩)(has:∀ g',gens[k+1]? = Ab g'->g'.is_async=0)
  (T:Turn Y.prog Y.w Y.K tg J fp it tn) (hit:ItD2 Y.K J P1 α1 o' items) (hg:PG Y tg (tDG Y g)) (ht:PTs Y ifs t) (he:PK B Y (λacc=>zB B.m elt gens scope pos k acc Y.env) kk) (hacc:∀ H:Hp,H acc=none->zO Y pins H acc) (hfp:∀ H:Hp,(∀ b∈fp,H b=none)->∀ b∈fp,zO Y pins H b) (hne:acc ∉ fp)
  (st:TurnSt B Y pins P1 α1 fp acc env S ds0 s σ H P α o) (st0:tn 0 s.heap) (run:goL o' g t kk items env S ds0=.ok (envF,dsF) SF)
  (hR:∀ s' σ' H' P' α' o',TurnSt B Y pins P1 α1 fp acc envF SF dsF s' σ' H' P' α' o'->R (.ok .next) s') :
  El (Aq Y.prog Y.w) Y.A (.compLoop (zX B.m elt gens scope pos) k (.ref it) (.ref acc) Y.env) R s:=by
 refine codeAny_loop rfl (LpI B Y pins P1 α1 fp acc tn (goL o' g t kk) items (envF,dsF) SF) (λn s hI=>?_) items.length ⟨0,σ,H,P,α,o,env,S,ds0,rfl,Dn _,st,st0,run⟩;obtain⟨i,σ,H,P,α,o,env,S,ds,hn,hi,st,st1,run⟩:=hI;subst hn;rw[ZN,ZO];refine wpAny_noted (UZ (m:=B.m) hgk has (Qa:=λs'=>∃ m,m<items.length-i/\LpI B Y pins P1 α1 fp acc tn (goL o' g t kk) items (envF,dsF) SF m s') (Qd:=R (.ok .next)) (λ_ h=>⟨rfl,h⟩) (λ_ h=>h) ?_);exact rY hc hx T hit hg ht he hacc hfp hne hi st st1 run (λs' σ' H' P' α' o1 env1 S' ds' hlt st' tn' run'=>⟨_,Nat.sub_succ_lt_self _ _ hlt,i+1,σ',H',P',α',o1,env1,S',ds',rfl,hlt,st',tn',run'⟩) hR
set_option tactic.hygienic true in
theorem U6 (hx:Y.xe=λ_ _=>CA)(hlast:gens[k+1]? = none)(he:PE Y elt (tD Y fe)):PK accL Y (λacc=>zB false elt gens scope pos k acc Y.env) (xW fe):=by
 intro pins P1 α1 acc env env' S S' ds ds' s hacc ⟨σ,H,P,α,o,st⟩ run;show Ao _ _ (zB false elt gens scope pos k (.ref acc) Y.env) _ _ s;unfold zB;rw[hlast];dsimp only[emX];unfold xW at run;cases q3:fe env S with
 |bad=>rw[q3] at run;cases run
 |ex c z S'=>rw[q3] at run;cases run
 |ok d5 S5 =>
  rw[q3,Res.bind_ok] at run
  split at run
  .rename_i hlen
   cases run;have fA:=hacc H st.acn;have I1:=_D.Inv.pin1 st.inv fA st.at' (accL.cell st.acc);refine Af (uF (hx▸BM he I1 st.rel st.env q3) λu5 s5 ⟨v5,H5,P5,α5,G5⟩=>?_);have J:=_D.Inv.pinned1 G5.inv;have J1:=G5.inv.unpinned;obtain⟨J4,J5⟩:=J;obtain⟨its,n5,vs,ho,rvs,rps,hz⟩:=st.acc;subst ho;have hlen':vs.length=ds.length:=rps.length.symm;have hl2:=rvs.length;refine Af (Lq OW ⟨_,J4,rfl⟩ OC (Os _ _) (Qg acc its.toArray n5 u5 (by rw[AK];rw[<- zI];lia)) ⟨J4,?_⟩)
   have q:=Re J4 (·.push u5)
   have fA5:=hacc H5 J5;have keep:∀ b o,b≠acc->s5.heap.get? b=Ab o->(s5.heap.update acc (CT (·.push u5))).get? b=Ab o:=λb o hb e=>(Bv s5.heap _ (Dw hb)).trans e
   have I6:=J1.turned (t':=s5.toks) keep J5 fA5.2.1 fA5.2.2.2.1 fA5.2.2.2.2.1 fA5.2.2.2.2.2;refine Al ⟨σ,H5,P5,α5,_,I6,G5.rel,G5.env,st.same.trans G5.same,st.pre.trans G5.pre,λb hb=>(by simp at hb),J5,q,?_⟩
   refine⟨its++[u5],_,vs++[v5],by simp <;> rfl,rvs.append (.cons G5.val .nil),?_,by simp;lia⟩
   exact(qD.mono G5.same G5.pre _ _ rps).append (.cons G5.rep .nil)
  .cases run
end
theorem kF {prog:Az}{w:AL}{A:AJ}{s:Ag}{elt:AH}{gens:Aa Bm}{scope:Cj}{pos:CB}{k:Ah}{it acc:Ac}{env:E0}{g:Bm}{m:Ap}(hg:gens[k]? = Ab g)(ha:g.is_async=0)
  (h0:El (Aq prog w) A (.compLoop (zX m elt gens scope pos) k it acc env) R s)
  (h:Ao (Aq prog w) A (IP it) (λit' s'=>El (Aq prog w) A (.compLoop (zX m elt gens scope pos) k it' acc env) R s') (notedBy (Aq prog w) A env λx s'=>R (.error x) s') s) :
  El (Aq prog w) A (.compStart (zX m elt gens scope pos) k it acc env) R s:=by
 refine IJ ?_;have e1:(Aq prog w).den (.compStart (zX m elt gens scope pos) k it acc env)=(compStart (zX m elt gens scope pos) k it acc env).onRaise (λx=>do Kj x env;Ki theWindowsPlace):=by cases m <;> rfl
 have e2:A.under (.compStart (zX m elt gens scope pos) k it acc env)=A:=by cases m <;> rfl
 have e3:(Tp (zX m elt gens scope pos) k it acc env).quiet=true/\∀ it',(Tp (zX m elt gens scope pos) k it' acc env).quiet=true:=by cases m <;> exact⟨rfl,λ_=>rfl⟩
 rw[e1,e2];refine wpAny_notedAt ?_;have hcl:clausesOf (zX m elt gens scope pos)=gens:=by cases m <;> rfl
 have e0:(g.is_async != 0)=false:=by rw[ha];rfl
 unfold compStart;simp only[hcl,hg,Option.elim,e0,AI,Ci];refine Af (E7 (wpAny_ite ?_))
 split
 .exact Al (And.intro e3.1 h0)
 .refine Af (Ef ?_)
  exact Af (Gz (Af (Dq h (λit' s' h'=>Al (And.intro (e3.2 _) h')) λ_ _ x=>x)))
section
variable {B:Acc}{Y:Cx}{elt tg iter:AH}{ifs:Aa AH}{gens:Aa Bm}{scope:Cj}{pos:CB}{k:Ah}{g:DG}{t:DT}{fi:DI2}{kk:DK}
theorem aH {X:Cx}{pins pl:Aa (Ad × AV)}{H:Hp}{b:Ad}(f:zO X (pins++pl) H b):zO X pins H b:=by
 obtain⟨f0,f1,f2,f3,f4,f5⟩:=f;refine⟨f0,f1,f2,f3,f4,λp hp=>f5 p ?_⟩;rcases AX.mp hp with z|z
 .exact AT _ z
 .exact A3 _ (AT _ z)
theorem NB (hc:Y.calm=true)(hx:Y.xe=λ_ _=>CA)(hgk:gens[k+1]? = Ab ⟨tg,iter,ifs,0⟩)(has:∀ g',gens[k+1+1]? = Ab g'->g'.is_async=0)(hi:PI Y tg iter (tDI2 Y fi))(hg:PG Y tg (tDG Y g))(ht:PTs Y ifs t)
  (he:PK B Y (λacc=>zB B.m elt gens scope pos (k+1) acc Y.env) kk) (hs:∀ x,CH iter Y.env x=pure x):PK B Y (λacc=>zB B.m elt gens scope pos k acc Y.env) (kIn fi g t kk):=by
 intro pins P1 α1 acc env env' S S' ds ds' s hacc ⟨σ,H,P,α,o,st⟩ run;show Ao _ _ (zB B.m elt gens scope pos k (.ref acc) Y.env) _ _ s;unfold zB;rw[hgk];dsimp only;unfold kIn at run;cases q:fi env S with
 |bad=>rw[q] at run;cases run
 |ex c z S'=>rw[q] at run;cases run
 |ok p S1 =>
  rw[q,Res.bind_ok] at run;have fA:=hacc H st.acn;have I1:=_D.Inv.pin1 st.inv fA st.at' (B.cell st.acc);have key:=hi (pins++[(acc,o)]) s σ H (λJ H1=>∃ P' α',Rel Y.K H1 P' α' S1/\qF P P'/\α<+:α'/\ItD2 Y.K J P' α' p.1 p.2) I1 ⟨P,α,env,S,st.rel,st.env,by rw[q];exact λJ H' P' α' r' e1 e2 it=>⟨P',α',r',e1,e2,it⟩⟩
  rw[hx] at key;refine Af (uF key λv s1 h1=>Af (Gz ?_));rw[hs];refine Af (Al (Af (Cp (uF h1 λitv s2 h2=>?_))));obtain⟨it,fp,tn,J,H2,rfl,I2,T,st0,hf,P',α',r2,e1,e2,hit⟩:=h2;have a2:=_D.Inv.pinned1 I2;have hne:acc ∉ fp:=λhm=>(hf acc hm).2.2.2.2.2 (acc,o) (A3 _ (A3 _ (by simp))) rfl
  have loop:El (Aq Y.prog Y.w) Y.A (.compLoop (zX B.m elt gens scope pos) (k+1) (.ref it) (.ref acc) Y.env) (λr s'=>match r with
    |.ok f=>rL B Y pins P1 α1 acc env' S' ds' s'
    |.error _=>CA) s2:=by
   refine pT (pins:=pins) (fp:=fp) (P1:=P') (α1:=α') (σ:=σ) (H:=H2) (P:=P') (α:=α') (o:=o) hc hx hgk has T hit hg ht he hacc (λH hn b hb=>?_) hne
    ⟨I2.unpinned,r2,st.env.mono e1 e2,qF.refl _,AG _,λb hb=>(hf b hb).1,a2.2,a2.1,B.mono e1 e2 st.acc⟩ st0 run λs' σ' H' Pf αf o' T'=>?_
   .obtain⟨_,g1,g2,g3,g4,g5⟩:=aH (hf b hb)
    exact⟨hn b hb,g1,g2,g3,g4,g5⟩
   .exact⟨σ',H',Pf,αf,o',T'.inv,T'.rel,T'.env,(st.same.trans e1).trans T'.same,(st.pre.trans e2).trans T'.pre,λb hb=>(by simp at hb),T'.acn,T'.at',T'.acc⟩
  refine Af (wpAny_runOwn (EL (kF hgk rfl loop (T.self Y.A 0 _ _ _ st0 loop)) λr s' h=>?_));cases r with
  |error x=>exact An h
  |ok f=>exact Al h
end
noncomputable def mkM (m:Ap)(r:Res (qE × Aa D)):Res D:=match r with
 |.ok p S2=>if m then .ok (.loc S2.length) (S2++[.lst p.2]) else .ok (.lst p.2) S2
 |_=>.bad
def w8 (m:Ap)(cap:Aa (Ak Ah))(fi:DI2)(g:DG)(t:DT)(k:DK):DE:=λenv S=>(fi env S).bind λp S1=>mkM m (goL p.1 g t k p.2 (zW cap env) S1 [])
section
variable {X:Cx}{elt tg iter:AH}{ifs:Aa AH}{scope:Cj}{pos:CB}{N':Aa Ar}{cap:Aa (Ak Ah)}{fi:DI2}{g:DG}{t:DT}{kk:DK}{qM:Aa Bm}{mm:Ap}
theorem PC {P:Hp}{r:Res (qE × Aa D)}{Ok:D->Sto->Prop}(h:qH X P α (mkM mm r) Ok):∃ envF ds SF,r=.ok (envF,ds) SF/\(if mm then Ok (.loc SF.length) (SF++[.lst ds]) else Ok (.lst ds) SF):=by
 cases r with
 |ok p S =>
  obtain⟨envF,ds⟩:=p;refine⟨envF,ds,S,rfl,?_⟩;cases mm <;> exact h
 |ex c x S=>exact An h
 |bad=>exact An h
theorem QV {pins:Aa (Ad × AV)}{σ:_L.St}{P1:Hp}{α1:Aa Ad}{acc:Ad}{s:Ag}{Q:VK}(c:g9 X pins σ P1 α1 ds SF acc C s)(ok:if mm then OkV X P1 α1 Q (.loc SF.length) (SF++[.lst ds]) else OkV X P1 α1 Q (.lst ds) SF):EP X pins σ Q (.ref acc) s:=by
 cases mm with
 |false=>exact YS c ok
 |true =>
  obtain⟨H',P',α',vs,I,r,hn,e1,e2,rp,_⟩:=c;exact⟨.ref acc,_,I,rfl,gI r hn rp λv H2 P2 α2 r2 q1 q2 q3=>ok v H2 P2 α2 r2 (e1.trans q1) (e2.trans q2) q3⟩
theorem a8 {M:Gg}{A:AJ}{E:Ac->Ag->Prop}{s:Ag}{globals:Ad}{closure:Aa (Ar × Ad)}{qual:Ar}{env:E0}{Q:E0->Ag->Prop}
  (hQ:Q (newEnv scope s.heap.objs.size globals (Em (s.heap.objs.size+1) scope.names closure) qual none .none (Ab env) IU) { s with heap:=Ql (s.heap.push { cls:=.type "dict",data:=.dict #[] }) scope.names }) :
  Ao M A (Oh scope globals closure [] qual none .none (Ab env)) Q E s:=by
 simp only[Oh,OX,Cc];refine Af (Rk ?_);refine Af (wpAny_layCells _ (λname kind cells=>by cases hkc:kind == Ie <;> simp[hkc]) _ _ _ _ ?_)
 rw[show ({ s with heap:=s.heap.push { cls:=.type "dict",data:=.dict #[] } } : Ag).heap.objs.size=s.heap.objs.size+1 from Cn ..]
 refine Af ?_;rw[Jd];exact Al (Al hQ)
theorem gR {B:Acc}{o0:AV}{pins:Aa (Ad × AV)}{σ:_L.St}{H2 P1:Hp}{α1:Aa Ad}{s2:Ag}{S1:Sto}{items:Aa D}{it:Ad}{fp:Aa Ad}{tn:Ah->A8->Prop}{J:It}{E:Ac->Ag->Prop}{RR:Ac->Ad->OQ->Ag->Prop}
  (hc:X.calm=true) (S:CompSc X.env.scope X.N scope N' cap) (has:∀ g',(⟨tg,iter,ifs,0⟩::qM:Aa Bm)[0+1]? = Ab g'->g'.is_async=0)
  (hg:∀ cl C ex s₀ H₀,PG (qQ X N' scope cl C ex s₀ H₀) tg (tDG (qQ X N' scope cl C ex s₀ H₀) g))
  (ht:∀ cl C ex s₀ H₀,PTs (qQ X N' scope cl C ex s₀ H₀) ifs t) (he:∀ cl C ex s₀ H₀,PK B (qQ X N' scope cl C ex s₀ H₀) (λacc=>zB B.m elt (⟨tg,iter,ifs,0⟩::qM) scope pos 0 acc (qQ X N' scope cl C ex s₀ H₀).env) kk)
  (I2:Inv X pins σ H2 s2) (r:Rel X.K H2 P1 α1 S1) (re:qV X.K P1 α1 σ env) (T:Turn X.prog X.w X.K tg J fp it tn) (st0:tn 0 s2.heap) (hf:∀ b∈fp,zO X pins H2 b) (hit:ItD2 X.K J P1 α1 o' items) (run:goL o' g t kk items (zW cap env) S1 [] = .ok (envF,ds) SF)
  (h0:B.O X.K P1 α1 [] o0) (hg0:o0.isFreed=false) (hRR:∀ acc C s',s2.heap.objs.size<=acc->(∃ m,s'.heap.Ns C m)->s2.heap.objs.size<=C->acc≠C->(∃ cl σ' H' P' α' o',TurnSt B (qQ X N' scope cl C fp s2 H2) [] P1 α1 fp acc envF SF ds s' σ' H' P' α' o')->RR (.ref acc) C (.ok .next) s') :
  Ao (Aq X.prog X.w) X.A (Oh scope X.env.globals (xK X.env.cells scope.names []) [] X.env.qual none .none (Ab X.env)) (λcenv s₄ =>
   El (Aq X.prog X.w) X.A (.compStart (zX B.m elt (⟨tg,iter,ifs,0⟩::qM) scope pos) 0 (.ref it) (.ref s2.heap.objs.size) { cenv with scope:=relabel scope X.env }) (RR (.ref s2.heap.objs.size) cenv.locals) s₄) E { s2 with heap:=s2.heap.push o0 }:=by
 have hlt:∀ b∈fp,b<s2.heap.objs.size:=λb hb=>by
  obtain⟨o,e,_⟩:=T.obj 0 _ st0 b hb;exact Ax e
 refine a8 ?_;dsimp only;generalize hH2:s2.heap.push o0=Hh;have hsz:Hh.objs.size=s2.heap.objs.size+1:=by rw[<- hH2,Cn]
 have hC:s2.heap.objs.size<=Hh.objs.size:=by rw[hsz];exact Jx _
 have hne:s2.heap.objs.size≠Hh.objs.size:=by rw[hsz];exact AS (Ep _)
 have kp:∀ b o,Hh.get? b=Ab o->(Ql (Hh.push { cls:=.type "dict",data:=.dict #[] }) scope.names).get? b=Ab o:=λb o e=>RW _ _ b o (Aj _ e);have hns₁:(Ql (Hh.push { cls:=.type "dict",data:=.dict #[] }) scope.names).Ns Hh.objs.size (λ_=>none):=(Heap.Ns.new Hh (.type "dict")).keeps (RW _ _);have co:=cellsFrom_ok scope.names (Hh.push { cls:=.type "dict",data:=.dict #[] }) (Hh.objs.size+1) [] ⟨λ_ _ hm=>(nomatch hm),HK⟩ (by rw[Cn];exact Ay _)
 rw[Cn] at co;generalize hh₁:Ql (Hh.push { cls:=.type "dict",data:=.dict #[] }) scope.names=h₁ at kp hns₁ co ⊢;have keep:∀ b o,s2.heap.get? b=Ab o->h₁.get? b=Ab o:=λb o e=>kp b o (hH2▸Aj _ e);have hacc:h₁.get? s2.heap.objs.size=Ab o0:=kp _ _ (hH2▸AC _ hg0);have I4:∀ tk,Inv (qQ X N' scope (j8 X scope Hh.objs.size) Hh.objs.size fp s2 H2) [] (y8 cap σ) H2 { s2 with heap:=h₁,toks:=tk }:=λtk =>
  Q5 (s4:={ s2 with heap:=h₁,toks:=tk }) S I2 hf hlt hC hns₁ rfl rfl keep co
 have loop:∀ tk,El (Aq X.prog X.w) X.A (.compLoop (zX B.m elt (⟨tg,iter,ifs,0⟩::qM) scope pos) 0 (.ref it) (.ref s2.heap.objs.size) (compEnvC scope (j8 X scope Hh.objs.size) Hh.objs.size X.env)) (RR (.ref s2.heap.objs.size) Hh.objs.size) { s2 with heap:=h₁,toks:=tk }:=λtk=>by
  refine pT (B:=B) (kk:=kk) (o':=o') (Y:=qQ X N' scope (j8 X scope Hh.objs.size) Hh.objs.size fp s2 H2) (pins:=[]) (fp:=fp) (acc:=s2.heap.objs.size) (P1:=P1) (α1:=α1) (σ:=y8 cap σ) (H:=H2) (P:=P1) (α:=α1) (o:=o0) hc rfl rfl has T hit
   (hg _ _ _ _ _) (ht _ _ _ _ _) (he _ _ _ _ _) (λH hn=>?_) (λH hn b hb=>?_) (λhm=>CU _ (hlt _ hm)) ⟨I4 tk,r,iZ re cap,qF.refl _,AG _,λb hb=>(hf b hb).1,I2.hok.fresh (Ay _),hacc,h0⟩ (T.keep _ _ _ st0 λb hb o e=>keep b o e) run λs' σ' H' P' α' o' st=>?_
  .refine⟨hn,hne,λhm=>?_,.inr (Ay _),λx c h z=>?_,λp hp=>absurd (show p∈([]:Aa (Ad × AV)) from hp) (by simp)⟩
   .obtain⟨_,o,ho,_⟩:=I2.stack.mem hm
    exact CU _ (Ax ho)
   .rcases zU S I2.ok h with⟨m,_⟩|⟨m,_⟩
    .exact CU _ (Hx hC (z▸(co.empty x c m).2))
    .obtain⟨v,ob,hob,_⟩:=I2.cell x c m
     rw[z] at hob;exact CU _ (Ax hob)
  .obtain⟨_,h1,h2,h3,h4,h5⟩:=hf b hb
   refine⟨hn b hb,AS (Au (hlt b hb) hC),λhm=>?_,.inl hb,λx c h=>(by
    rcases zU S I2.ok h with⟨m,_⟩|⟨m,_⟩
    .exact Dw (AS (E1 (Au (hlt b hb) hC) (co.empty x c m).2))
    .exact h4 x c m),λp hp=>absurd (show p∈([]:Aa (Ad × AV)) from hp) (by simp)⟩
   rcases AD.mp (I2.stkSub b hm) with z|z
   .exact h1 z
   .exact h2 z
  .obtain⟨m,hm,_⟩:=st.inv.loc
   exact hRR _ _ s' (Ay _) ⟨m,hm⟩ hC hne ⟨_,_,_,_,_,_,st⟩
 exact kF (k:=0) rfl rfl (loop _) (T.self X.A 0 _ _ _ (T.keep _ _ _ st0 λb hb o e=>keep b o e) (loop _))
theorem QH (hc:X.calm=true)(S:CompSc X.env.scope X.N scope N' cap)(hi:PI X tg iter (tDI2 X fi))
  (hg:∀ cl C ex s₀ H₀,PG (qQ X N' scope cl C ex s₀ H₀) tg (tDG (qQ X N' scope cl C ex s₀ H₀) g))
  (ht:∀ cl C ex s₀ H₀,PTs (qQ X N' scope cl C ex s₀ H₀) ifs t) (has:∀ g',(⟨tg,iter,ifs,0⟩::qM:Aa Bm)[0+1]? = Ab g'->g'.is_async=0) (he:∀ cl C ex s₀ H₀,PK accL (qQ X N' scope cl C ex s₀ H₀) (λacc=>zB false elt (⟨tg,iter,ifs,0⟩::qM) scope pos 0 acc (qQ X N' scope cl C ex s₀ H₀).env) kk)
  (hs:∀ x,CH iter X.env x=pure x:=by intro _;rfl):PE X (.ListComp elt (⟨tg,iter,ifs,0⟩::qM) scope pos) (tD X (w8 mm cap fi g t kk)):=by
 intro pins s σ H Q I h;obtain⟨P,α,env,S0,r,re,af⟩:=h;rw[eval_ListComp];have af':qH X P α ((fi env S0).bind λp S1=>mkM mm (goL p.1 g t kk p.2 (zW cap env) S1 [])) (OkV X P α Q):=af;refine Ld (use:=none) rfl hs (dR S I.ok) S.kind S.names ?_;refine thn (hi pins s σ H (λJ H1=>∃ (P1:Hp) (α1:Aa Ad) (p:Ak (Ah × MO) × Aa _D.D) (S1:Sto),Rel X.K H1 P1 α1 S1/\qF P P1/\α<+:α1/\ItD2 X.K J P1 α1 p.1 p.2/\qH X P α (mkM mm (goL p.1 g t kk p.2 (zW cap env) S1 [])) (OkV X P α Q)) I ⟨P,α,env,S0,r,re,?_⟩) λxv s1 h1=>thn h1 λitv s2 h2=>?_
 .cases q:fi env S0 with
  |bad=>rw[q] at af';exact af'
  |ex c x S'=>rw[q] at af';exact af'
  |ok p S1=>rw[q] at af';exact λJ H1 P1 α1 r1 e1 e2 it=>⟨P1,α1,p,S1,r1,e1,e2,it,af'⟩
 obtain⟨it,fp,tn,J,H2,rfl,I2,T,st0,hf,P1,α1,p,S1,r1,e1,e2,hit,af1⟩:=h2;obtain⟨envF,ds,SF,run,ok⟩:=PC af1;refine CG (gR (B:=accL) (o0:={ cls:=.type "list",dict:=none,data:=.seq ([] : Aa Ac).toArray }) (RR:=λacc C=>compPost (Aq X.prog X.w) X.A X.xe none (EP X pins σ Q) acc C) hc S has hg ht he I2 r1 (re.mono e1 e2) T st0 hf hit run ⟨[],0,[],rfl,.nil,.nil,Dn _⟩ rfl ?_);intro acc C s' hA ⟨m,hm⟩ hC hne ⟨cl,σf,Hf,Pf,αf,of,stf⟩;have fin:∀ h',DL C s'.heap h'->g9 X pins σ P1 α1 ds SF acc C { s' with heap:=h' }:=λh' sb=>Q4 I2 hf rfl hC hA hne stf sb
 refine⟨m,hm,λh' sb=>QV (mm:=mm) (fin h' sb) ?_⟩;cases mm with
 |false=>exact λv H3 P3 α3 r3 q1 q2 q3=>ok v H3 P3 α3 r3 (e1.trans q1) (e2.trans q2) q3
 |true=>exact λv H3 P3 α3 r3 q1 q2 q3=>ok v H3 P3 α3 r3 (e1.trans q1) (e2.trans q2) q3
end
section
variable {X:Cx}
noncomputable def yI:Aa D->Ak (Aa Am)
 |[]=>Ab []
 |.int i::r=>(yI r).map (i::·)
 |_::_=>none
theorem aM (ns:Aa Am):yI (ns.map D.int)=Ab ns:=by
 induction ns with
 |nil=>rfl
 |cons n r ih=>exact congrArg (Option.map (n::·)) ih
theorem pF:∀ {ds:Aa D} {ns:Aa Am},yI ds=Ab ns->ds=ns.map D.int
 |[],ns,h=>by cases h;rfl
 |d::r,ns,h=>by
  cases d with
  |int i =>
   obtain⟨m,h1,rfl⟩:=Bw.mp (show (yI r).map (i::·)=Ab ns from h)
   rw[pF h1];rfl
  |_=>exact nn h
theorem vT {K:Ai}{P:Hp}:∀ {ns:Aa Am} {vs:Aa V},qD K P α (ns.map D.int) vs->vs=ns.map V.int
 |[],vs,r=>by rw[r.nil_inv];rfl
 |n::ns,vs,r=>by
  obtain⟨w,ws,rfl,p,t⟩:=r.cons_inv;simp only[Rep] at p;rw[p,vT t];rfl
end
section
variable {X:Cx}
theorem oX:Dt "set" = Ab (.type "set"):=by decide +kernel
variable {e:AH}{fa:DE}{p1 p2 pos1 pos2:CB}
end
structure QI2 (X:Cx)(tg it:AH)(f:DI2):Prop where
 get:PI X tg it (tDI2 X f)
structure QK (B:Acc)(Y:Cx)(step:Ac->Gf IV)(k:DK):Prop where
 get:PK B Y step k
section
variable {B:Acc}{X Y:Cx}{tg it e o elt iter ie:AH}{es ifs qM:Aa AH}{fa fo fe fi:DE}{fA:DA}{fI:DI}{f2:DI2}{g:DG}{t:DT}{kk:DK}{p pos:CB}{n k:Ah}{x:Ar}{cm:Ap}{F:DF}{f:DS}{gens grest:Aa Bm}{scope:Cj}{N':Aa Ar}{cap:Aa (Ak Ah)}{mm:Ap}
theorem iT (h:QI X tg it fI):QI2 X tg it (bH fI):=⟨YJ h.1⟩
theorem FC (h:QE X e fa):QI2 X tg e (dIt fa):=⟨ML h.1⟩
theorem sV (hx:Y.xe=λ_ _=>CA)(hlast:gens[k+1]? = none)(he:QE Y elt fe):QK accL Y (λacc=>zB false elt gens scope pos k acc Y.env) (xW fe):=⟨U6 hx hlast he.1⟩
theorem NH (hc:Y.calm=true)(hx:Y.xe=λ_ _=>CA)(hgk:gens[k+1]? = Ab ⟨tg,iter,ifs,0⟩)(has:∀ g',gens[k+1+1]? = Ab g'->g'.is_async=0)(hi:QI2 Y tg iter f2)(hg:QG Y tg g)(ht:QTs Y ifs t)(he:QK B Y (λacc=>zB B.m elt gens scope pos (k+1) acc Y.env) kk)(hs:∀ x,CH iter Y.env x=pure x) :
  QK B Y (λacc=>zB B.m elt gens scope pos k acc Y.env) (kIn f2 g t kk):=⟨NB hc hx hgk has hi.1 hg.1 ht.1 he.1 hs⟩
theorem X8 (hc:X.calm=true)(S:CompSc X.env.scope X.N scope N' cap)(hi:QI2 X tg iter f2)(hg:∀ cl C ex s₀ H₀,QG (qQ X N' scope cl C ex s₀ H₀) tg g)(ht:∀ cl C ex s₀ H₀,QTs (qQ X N' scope cl C ex s₀ H₀) ifs t)
  (has:∀ g',(⟨tg,iter,ifs,0⟩::grest:Aa Bm)[0+1]? = Ab g'->g'.is_async=0)
  (he:∀ cl C ex s₀ H₀,QK accL (qQ X N' scope cl C ex s₀ H₀) (λacc=>zB false elt (⟨tg,iter,ifs,0⟩::grest) scope pos 0 acc (qQ X N' scope cl C ex s₀ H₀).env) kk) (hs:∀ x,CH iter X.env x=pure x) :
  QE X (.ListComp elt (⟨tg,iter,ifs,0⟩::grest) scope pos) (w8 mm cap f2 g t kk):=
 ⟨QH hc S hi.1 (λcl C ex s H=>(hg cl C ex s H).1) (λcl C ex s H=>(ht cl C ex s H).1) has (λcl C ex s H=>(he cl C ex s H).1) hs⟩
end
noncomputable def uG (H:Hp):Aa (Ad × HO)->Hp
 |[]=>H
 |p::ps=>uG (upd H p.1 p.2) ps
theorem m8 {b:Ad}:∀ {L:Aa (Ad × HO)} {H:Hp},b ∉ L.map (·.1)->uG H L b=H b
 |[],_,_=>rfl
 |p::ps,H,h=>by
  simp only[Bu,AD,Sz] at h;show uG (upd H p.1 p.2) ps b=H b;rw[m8 h.2,qI h.1]
theorem lW {b:Ad}{u:HO}:∀ {L:Aa (Ad × HO)} {H:Hp},uG H L b=Ab u->(b,u)∈L\/H b=Ab u
 |[],_,h=>.inr h
 |p::ps,H,h=>by
  rcases lW (L:=ps) (H:=upd H p.1 p.2) h with h|h
  .exact .inl (Bc _ h)
  .by_cases hb:b=p.1
   .subst hb
    rw[qT] at h;cases h;exact .inl (Cf ..)
   .rw[qI hb] at h
    exact .inr h
section
variable {X:Cx}{pins:Aa (Ad × AV)}{σ : _L.St}{H:Hp}{s:Ag}
theorem Inv.laidL {L:Aa (Ad × HO)}{t':Ah}(I:Inv X pins σ H s)(k:∀ b u,s.heap.get? b=Ab u->h'.get? b=Ab u)(hp:∀ p∈L,s.heap.objs.size<=p.1)(new:∀ p∈L,z9 X.prog X.w (uG H L) h' p.1 p.2) :
  Inv X pins σ (uG H L) { s with heap:=h',toks:=t' }:=by
 have old:∀ b u,H b=Ab u->uG H L b=Ab u:=λb u e=>by
  rw[m8 (L:=L)]
  .exact e
  .intro hb
   obtain⟨p,hp',rfl⟩:=AW.mp hb;rw[I.hok.fresh (hp p hp')] at e;cases e
 have low:∀ b,b<s.heap.objs.size->uG H L b=H b:=λb hb=>m8 λhm=>by
  obtain⟨p,hp',rfl⟩:=AW.mp hm;exact absurd (Au hb (hp p hp')) (CU _)
 refine I.un ⟨λb u q _ _ _=>k b u q,λb u q _ _ _=>⟨u.slots,k b u q⟩,λb u q n _=>by rw[low b (Ax q)];exact n,λb u q _=>⟨u,k b u q⟩,λb xs q=>old b _ q,λb o xs q=>old b _ q,λb ps q=>⟨#[],by rw[old b _ q];simp⟩⟩ λb u e=>?_
 rcases lW e with hm|hb
 .exact new (b,u) hm
 .exact(I.hok b u hb).stay (λc v _ q=>k c v q) (λc q=>old c _ q) λc xs q=>old c _ q
end
end _D
namespace _S
open PySem
variable {mask:Ah}{xs:Av Ah}
def Rs (xs:Av Ah):Prop:=xs.toList.Pairwise (· < ·)
theorem Rs.lt (h:Rs xs){a b:Ah}{x y:Ah}(hab:a<b)(ha:xs[a]? = Ab x)(hb:xs[b]? = Ab y):x<y:=by
 obtain⟨h1,e1⟩:=Bx.mp ha;obtain⟨h2,e2⟩:=Bx.mp hb;have:=EV.mp h a b (by simpa using h1) (by simpa using h2) hab
 rw[<- e1,<- e2];simpa using this
theorem getD_some {i x d:Ah}(h:xs[i]? = Ab x):xs.getD i d=x:=by
 obtain⟨h1,e1⟩:=Bx.mp h;simp[Ds,h1,e1]
structure Bel (xs:Av Ah)(j p:Ah):Prop where
 le:p<=xs.size
 lo:∀ i x,i<p->xs[i]? = Ab x->x<j
 hi:∀ i x,p<=i->xs[i]? = Ab x->j<=x
set_option tactic.hygienic true in
theorem gZ (h:Rs xs)(j:Ah):∀ (fuel lo hi:Ah),hi-lo<=fuel->lo<=hi->hi<=xs.size ->
  (∀ i x,i<lo->xs[i]? = Ab x->x<j)->(∀ i x,hi<=i->xs[i]? = Ab x->j<=x)->Bel xs j (Qm xs j fuel lo hi)
 |0,lo,hi,h1,h2,h3,h4,h5=>by
  have:lo=hi:=by lia
  subst this;exact⟨h3,h4,h5⟩
 |fuel+1,lo,hi,h1,h2,h3,h4,h5=>by
  unfold Qm;by_cases hlt:lo<hi
  .rw[AA hlt]
   have hm:(lo+hi)/2<xs.size:=by lia
   have e:xs[(lo+hi)/2]? = Ab xs[(lo+hi)/2]:=Ce hm;simp only[getD_some e]
   split
   .rename_i hc
    refine gZ h j fuel _ hi (by lia) (by lia) h3 (λi x hi' ex=>?_) h5
    by_cases q:i=(lo+hi)/2
    .subst q;rw[e] at ex;cases ex;exact hc
    .exact E1 (h.lt (by lia) ex e) hc
   .rename_i hc
    refine gZ h j fuel lo _ (by lia) (by lia) (by lia) h4 (λi x hi' ex=>?_)
    by_cases q:i=(lo+hi)/2
    .subst q;rw[e] at ex;cases ex;lia
    .have:=h.lt (show (lo+hi)/2<i by lia) e ex
     lia
  .rw[AB hlt]
   have:lo=hi:=by lia
   subst this;exact⟨h3,h4,h5⟩
theorem yW (h:Rs xs)(j:Ah):Bel xs j (AU xs j):=
 gZ h j _ _ _ (by lia) (by lia) (Ay _) (λi x hi=>by lia) λi x hi ex=>by
  have:=(Bx.mp ex).1
  lia
theorem gY (h:Rs xs){i j:Ah}(e:xs[i]? = Ab j):AU xs j=i:=by
 have b:=yW h j;have hi:=(Bx.mp e).1;by_cases h1:AU xs j<i
 .have e2:xs[AU xs j]? = Ab xs[AU xs j]:=Ce (by lia)
  have:=h.lt h1 e2 e;have:=b.hi _ _ (Ay _) e2
  lia
 .by_cases h2:i<AU xs j
  .have:=b.lo _ _ h2 e
   lia
  .lia
theorem rV (h:Rs xs){i j:Ah}(e:xs[i]? = Ab j):AU xs (j+1)=i+1:=by
 have b:=yW h (j+1);have hi:=(Bx.mp e).1;have h1:i<AU xs (j+1):=by
  apply CW;intro q;have:=b.hi _ _ (by lia) e
  lia
 by_cases h2:i+1<AU xs (j+1)
 .have hz:i+1<xs.size:=by have:=b.le;lia
  have e2:xs[i+1]? = Ab xs[i+1]:=Ce hz;have:=b.lo _ _ h2 e2;have:=h.lt (Ep i) e e2
  lia
 .lia
theorem rW (h:Rs xs):AU xs 0=0:=by
 have b:=yW h 0;apply CW;intro q;have hz:0<xs.size:=by have:=b.le;lia
 have e2:xs[0]? = Ab xs[0]:=Ce hz;have:=b.lo _ _ (by lia) e2
 lia
structure Tb (t:CK):Prop where
 rs:Rs t.place
 dm:t.dummies=#[]
theorem sA (j:Ah):Pp #[] j=false:=by simp[Pp]
theorem mY {t:CK}(T:Tb t){i j:Ah}(e:t.place[i]? = Ab j):t.slot j=.live i:=by
 unfold Tq;simp only[gY T.rs e,e];simp
theorem c6 {t:CK}(T:Tb t)(j:Ah):(∃ i,t.slot j=.live i/\t.place[i]? = Ab j)\/(t.slot j=.empty/\j ∉ t.place.toList):=by
 by_cases h:j∈t.place.toList
 .obtain⟨i,hi,e⟩:=Bl.mp h
  have e':t.place[i]? = Ab j:=by rw[<- A6,As hi,e]
  exact .inl ⟨i,mY T e',e'⟩
 .refine .inr ⟨?_,h⟩
  unfold Tq;simp only[T.dm,sA];rw[AB,AB (by simp)]
  intro q;apply h;have:t.place[AU t.place j]? = Ab j:=by simpa using q
  obtain⟨h1,e1⟩:=Bx.mp this;rw[<- e1];simp
theorem o8 (h:Rs xs){j:Ah}(hj:j ∉ xs.toList):Rs (AN xs (AU xs j) j):=by
 have b:=yW h j;unfold Rs;rw[Lf];have key:∀ (i:Ah) (x:Ah),xs.toList[i]? = Ab x->(i<AU xs j->x<j)/\(AU xs j<=i->j<x):=λi x e=>by
  have e':xs[i]? = Ab x:=by rw[<- A6];exact e
  refine⟨λq=>b.lo _ _ q e',λq=>?_⟩;have h1:=b.hi _ _ q e';have:x≠j:=by
   rintro rfl;exact hj (AM e)
  lia
 have tk:∀ x∈xs.toList.take (AU xs j),x<j:=λx hx=>by
  obtain⟨i,hi,e⟩:=Bl.mp hx;rw[Dz] at hi;rw[Kq] at e;exact(key i x (by rw[As (by lia),e])).1 (by lia)
 have dr:∀ x∈xs.toList.drop (AU xs j),j<x:=λx hx=>by
  obtain⟨i,hi,e⟩:=Bl.mp hx;rw[Gv] at hi;rw[Kr] at e;exact(key (AU xs j+i) x (by rw[As (by lia),e])).2 (by lia)
 rw[Bz,Cg];refine⟨Uw h,⟨dr,Ux h⟩,λx hx y hy=>?_⟩;rcases AD.mp hy with rfl|hy
 .exact tk x hx
 .exact E1 (tk x hx) (dr y hy)
theorem b8 {α:Type}(xs:Av α){p:Ah}(hp:p<=xs.size)(x:α)(i:Ah):(AN xs p x)[i]? = if i<p then xs[i]? else if i=p then Ab x else xs[i-1]?:=by
 rw[<- A6,Lf];have hl:(xs.toList.take p).length=p:=by simp;lia
 by_cases h1:i<p
 .rw[AA h1,AO (by lia),Ht h1,A6]
 .rw[AB h1,Bb (by lia),hl]
  by_cases h2:i=p
  .subst h2;simp
  .rw[AB h2]
   obtain⟨k,hk⟩:∃ k,i-p=k+1:=⟨i-p-1,by lia⟩
   rw[hk,Me,Pb,A6]
   congr 1;lia
theorem yH {α:Type}(xs:Av α)(p:Ah)(x:α):(AN xs p x).size=xs.size+1:=by
 have:=(E8 xs p x).length_eq;simpa using this
theorem BZ {t:CK}(T:Tb t){j:Ah}(hj:j ∉ t.place.toList):Tb (t.put j).1:=by
 refine⟨o8 T.rs hj,?_⟩;show (if Pp t.dummies j then _ else t.dummies)=#[]
 rw[T.dm,sA];rfl
open PySem.SetTable (Probe leap runEnd turns bits)
noncomputable def adv (mask:Ah)(p:HM):HM:=if p.more>0 then { p with j:=p.j+1,more:=p.more-1 } else { p with j:=(leap mask p.i p.perturb).1,more:=Ei mask (leap mask p.i p.perturb).1-(leap mask p.i p.perturb).1,i:=(leap mask p.i p.perturb).1,perturb:=(leap mask p.i p.perturb).2 }
theorem JO (t:CK)(p:HM):t.advance p=adv t.mask p:=rfl
noncomputable def it (mask:Ah):Ah->HM->HM
 |0,p=>p
 |n+1,p=>it mask n (adv mask p)
theorem gE (mask:Ah):∀ (n:Ah) (p:HM),it mask (n+1) p=adv mask (it mask n p)
 |0,p=>rfl
 |n+1,p=>gE mask n (adv mask p)
theorem bC (mask:Ah):∀ (m n:Ah) (p:HM),it mask (m+n) p=it mask n (it mask m p)
 |0,n,p=>by rw[Ea];rfl
 |m+1,n,p=>by rw[Jo];exact bC mask m n (adv mask p)
noncomputable def rs (mask i pert:Ah):HM:={ j:=i,more:=Ei mask i-i,i,perturb:=pert,dummy:=none }
noncomputable def st (mask:Ah)(h:Am):HM:=rs mask (bits h % (mask+1)) (bits h)
theorem NT (t:CK)(h:Am):t.probeStart h=st t.mask h:=rfl
theorem kM (mask i pert:Ah):∀ k,k<=Ei mask i-i->it mask k (rs mask i pert)={ j:=i+k,more:=Ei mask i-i-k,i,perturb:=pert,dummy:=none }
 |0,_=>rfl
 |k+1,hk=>by
  rw[gE,kM mask i pert k (by lia)]
  unfold adv;rw[AA (by show Ei mask i-i-k>0;lia)]
  simp only[Probe.mk.injEq,and_true,true_and]
  lia
theorem sF (mask i pert:Ah):it mask (Ei mask i-i+1) (rs mask i pert)=rs mask (leap mask i pert).1 (leap mask i pert).2:=by
 rw[gE,kM mask i pert _ (Ay _)];unfold adv;rw[AB (by show ¬ (Ei mask i-i-(Ei mask i-i)>0);lia)]
 rfl
theorem FN (mask i:Ah):Ei mask i-i+1<=10:=by
 unfold Ei
 split <;> lia
noncomputable def lp (mask:Ah):Ah->Ah × Ah->Ah × Ah
 |0,q=>q
 |n+1,q=>lp mask n (leap mask q.1 q.2)
theorem i4 (mask:Ah):∀ (m n:Ah) (q:Ah × Ah),lp mask (m+n) q=lp mask n (lp mask m q)
 |0,n,p=>by rw[Ea];rfl
 |m+1,n,p=>by rw[Jo];exact i4 mask m n _
theorem W8 (mask:Ah):∀ (n i pert:Ah),∃ k,k<=10*n/\it mask k (rs mask i pert)=rs mask (lp mask n (i,pert)).1 (lp mask n (i,pert)).2
 |0,i,pert=>⟨0,by lia,rfl⟩
 |n+1,i,pert=>by
  obtain⟨k,hk,e⟩:=W8 mask n (leap mask i pert).1 (leap mask i pert).2;refine⟨(Ei mask i-i+1)+k,by have:=FN mask i;lia,?_⟩
  rw[bC,sF,e];rfl
theorem sM (mask:Ah):∀ (n i pert:Ah),(lp mask n (i,pert)).2=pert/32 ^ n
 |0,i,pert=>by simp[lp]
 |n+1,i,pert=>by
  show (lp mask n ((leap mask i pert).1,pert/32)).2=_;rw[sM mask n _ (pert/32),Nat.div_div_eq_div_mul,<- Nat.pow_succ']
theorem fP (mask i pert:Ah):(leap mask i pert).1<=mask:=Gi (IY _ (IS _))
theorem WA (mask:Ah):∀ (n i pert:Ah),i<=mask->(lp mask n (i,pert)).1<=mask
 |0,i,pert,h=>h
 |n+1,i,pert,h=>WA mask n _ _ (fP mask i pert)
theorem dO (h:Am):bits h<2 ^ 64:=by
 unfold bits;have h1:(0:Am)<=h % 2 ^ 64:=Ho _ (by decide)
 have h2:h % 2 ^ 64<(2 ^ 64:Am):=Fu _ (by decide)
 lia
noncomputable def cyc (mask:Ah):Ah->Ah->Ah
 |0,i=>i
 |n+1,i=>cyc mask n ((i*5+1) % (mask+1))
theorem gB (mask:Ah):∀ (m n i:Ah),cyc mask (m+n) i=cyc mask n (cyc mask m i)
 |0,n,p=>by rw[Ea];rfl
 |m+1,n,p=>by rw[Jo];exact gB mask m n _
theorem i6 (mask:Ah):∀ (n i:Ah),(lp mask n (i,0)).1=cyc mask n i
 |0,i=>rfl
 |n+1,i=>by
  show (lp mask n (leap mask i 0)).1=_;have:leap mask i 0=((i*5+1) % (mask+1),0):=by simp[leap]
  rw[this,i6 mask n];rfl
def Msk (mask:Ah):Prop:=mask=7\/mask=31\/mask=127\/mask=511\/mask=2047
noncomputable def orb (mask:Ah):Ah->Ah->Ah->Ah
 |0,_,acc=>acc
 |n+1,i,acc=>orb mask n ((i*5+1) % (mask+1)) (acc ||| 1 <<< i)
noncomputable def cS (mask:Ah):Ap:=orb mask (mask+1) 0 0 == 2 ^ (mask+1)-1&&cyc mask (mask+1) 0 == 0
theorem cT (h:Msk mask):cS mask=true:=by
 rcases h with rfl|rfl|rfl|rfl|rfl <;> decide +kernel
theorem sS (mask e:Ah):∀ (n i acc:Ah),(orb mask n i acc).testBit e=true->acc.testBit e=true\/∃ m,m<n/\cyc mask m i=e
 |0,i,acc,h=>.inl h
 |n+1,i,acc,h=>by
  rcases sS mask e n _ _ h with q|⟨m,hm,q⟩
  .rw[Nat.testBit_or,IH] at q
   rcases q with q|q
   .exact .inl q
   .rw[Nat.one_shiftLeft,Nat.testBit_two_pow,AY] at q
    exact .inr ⟨0,by lia,q⟩
  .exact .inr ⟨m+1,by lia,q⟩
theorem Q7 (h:Msk mask){i e:Ah}(hi:i<=mask)(he:e<=mask):∃ n,n<=mask/\cyc mask n i=e:=by
 have a:=cT h;unfold cS at a;rw[AF] at a;obtain⟨a1,a2⟩:=a;have a1:orb mask (mask+1) 0 0=2 ^ (mask+1)-1:=by simpa using a1
 have g:∀ e,e<=mask->∃ n,n<=mask/\cyc mask n 0=e:=λe he=>by
  have q:(orb mask (mask+1) 0 0).testBit e=true:=by rw[a1,Nat.testBit_two_pow_sub_one];simp;lia
  rcases sS mask e _ _ _ q with q|⟨n,hn,q⟩
  .simp at q
  .exact⟨n,by lia,q⟩
 have a3:cyc mask (mask+1) 0=0:=by simpa using a2
 obtain⟨m,hm,em⟩:=g i hi;obtain⟨n,hn,en⟩:=g e he;by_cases q:m<=n
 .refine⟨n-m,by lia,?_⟩
  rw[<- em,<- gB,show m+(n-m)=n by lia]
  exact en
 .refine⟨n+(mask+1)-m,by lia,?_⟩
  rw[<- em,<- gB,show m+(n+(mask+1)-m)=(mask+1)+n by lia,gB,a3]
  exact en
theorem lF (h:Msk mask){i pert e:Ah}(hi:i<=mask)(hp:pert<2 ^ 64)(he:e<=mask):∃ n,n<=mask+13/\(lp mask n (i,pert)).1=e:=by
 have h0:(lp mask 13 (i,pert)).2=0:=by
  rw[sM];apply Nat.div_eq_of_lt;exact E1 hp (by decide)
 obtain⟨n,hn,q⟩:=Q7 h (WA mask 13 i pert hi) he;refine⟨13+n,by lia,?_⟩
 rw[i4];have:lp mask 13 (i,pert)=((lp mask 13 (i,pert)).1,0):=by rw[<- h0]
 rw[this,i6];exact q
theorem l9 (h:Msk mask)(hs:Am){e:Ah}(he:e<=mask):∃ n,n<10*turns mask/\(it mask n (st mask hs)).j=e:=by
 obtain⟨n,hn,q⟩:=lF h (i:=bits hs % (mask+1)) (Gi (IY _ (IS _))) (dO hs) he;obtain⟨k,hk,e1⟩:=W8 mask n (bits hs % (mask+1)) (bits hs);refine⟨k,by unfold turns;lia,?_⟩
 show (it mask k (rs mask _ _)).j=e;rw[e1];exact q
theorem pG (mask:Ah):∀ (n:Ah) (p:HM),(it mask n p).dummy=p.dummy
 |0,p=>rfl
 |n+1,p=>by
  show (it mask n (adv mask p)).dummy=_;rw[pG mask n];unfold adv
  split <;> rfl
def Way (t:CK)(p:HM)(n:Ah):Prop:=∀ m,m<n->(it t.mask m p).j∈t.place.toList
inductive Meets (t:CK)(hashAt:Ah->Am)(h:Am)(p:HM)(fuel:Ah):Ak SetTable.Met->Prop
 |emp (n:Ah) (hn:n<fuel) (w:Way t p n) (e:(it t.mask n p).j ∉ t.place.toList) (q:∀ m i,m<n->t.place[i]? = Ab (it t.mask m p).j->hashAt i≠h):Meets t hashAt h p fuel (Ab (.empty (it t.mask n p).j none))
 |cand (n i:Ah) (hn:n<fuel) (w:Way t p n) (e:t.place[i]? = Ab (it t.mask n p).j) (hh:hashAt i=h) (q:∀ m i,m<n->t.place[i]? = Ab (it t.mask m p).j->hashAt i≠h):Meets t hashAt h p fuel (Ab (.candidate (it t.mask n p).j i (it t.mask (n+1) p)))
theorem o7 (h:Rs xs){a b x:Ah}(ha:xs[a]? = Ab x)(hb:xs[b]? = Ab x):a=b:=by rw[<- gY h ha,gY h hb]
set_option tactic.hygienic true in
theorem jH {t:CK}(T:Tb t)(hashAt:Ah->Am)(h:Am):∀ (fuel:Ah) (p:HM),p.dummy=none->(∃ n,n<fuel/\(it t.mask n p).j ∉ t.place.toList)->Meets t hashAt h p fuel (Gj t hashAt h fuel p)
 |0,p,_,⟨n,hn,_⟩=>by lia
 |fuel+1,p,hd,⟨n,hn,hne⟩=>by
  unfold Gj;rcases c6 T p.j with⟨i,e,ei⟩|⟨e,q⟩
  .rw[e]
   simp only
   split
   .rename_i hh
    exact Meets.cand 0 i (by lia) (λm hm=>by lia) ei (by simpa using hh) λm i hm=>by lia
   .rename_i hh
    have hh':hashAt i≠h:=by simpa using hh
    have hn0:n≠0:=by
     rintro rfl;exact hne (AM (by rw[A6];exact ei))
    obtain⟨n',rfl⟩:∃ n',n=n'+1:=⟨n-1,by lia⟩
    have ih:=jH T hashAt h fuel (adv t.mask p) (by rw[<- hd];exact pG t.mask 1 p) ⟨n',by lia,hne⟩
    rw[JO];have mem0:p.j∈t.place.toList:=AM (by rw[A6];exact ei)
    have up:∀ {k:Ah},Way t (adv t.mask p) k->Way t p (k+1):=λ{k} w m hm=>by
     cases m with
     |zero=>exact mem0
     |succ m=>exact w m (by lia)
    have upq:∀ {k:Ah},(∀ m i,m<k->t.place[i]? = Ab (it t.mask m (adv t.mask p)).j->hashAt i≠h)->∀ m i,m<k+1->t.place[i]? = Ab (it t.mask m p).j->hashAt i≠h:=λ{k} q m i' hm e'=>by
     cases m with
     |zero=>rw[o7 T.rs e' ei];exact hh'
     |succ m=>exact q m i' (by lia) e'
    generalize hg:Gj t hashAt h fuel (adv t.mask p)=r at ih;cases ih with
    |emp k hk w e1 q1=>exact Meets.emp (p:=p) (k+1) (by lia) (up w) e1 (upq q1)
    |cand k i' hk w e1 hh1 q1=>exact Meets.cand (p:=p) (k+1) i' (by lia) (up w) e1 hh1 (upq q1)
  .rw[e]
   simp only[hd];exact Meets.emp (p:=p) 0 (by lia) (λm hm=>by lia) q λm i hm=>by lia
end _S
namespace _S
open PySem
open PySem.SetTable (Probe leap runEnd turns bits)
variable {us:Aa Ah}{mask:Ah}{owner:Av (Ak Ah)}
structure Own (mask:Ah)(owner:Av (Ak Ah))(us:Aa Ah):Prop where
 size:owner.size=mask+1
 nd:us.Nodup
 le:∀ u∈us,u<=mask
 at':∀ j k,j<=mask->(owner.getD j (Ab 0)=Ab k↔us[k]? = Ab j)
theorem fV {i:Ah}(hi:i<=mask):Ei mask i<=mask:=by
 unfold Ei
 split <;> lia
theorem fW (mask i:Ah):i<=Ei mask i:=by
 unfold Ei
 split <;> lia
theorem Own.none (O:Own mask owner us){j:Ah}(hj:j<=mask):(owner.getD j (Ab 0)).isNone=true↔j ∉ us:=by
 constructor
 .intro h hm
  obtain⟨k,hk,e⟩:=Bl.mp hm;have:=(O.at' j k hj).mpr (by rw[As hk,e])
  rw[this] at h;cases h
 .intro h
  cases q:owner.getD j (Ab 0) with
  |none=>rfl
  |some k=>exact absurd (AM ((O.at' j k hj).mp q)) h
theorem mM (O:Own mask owner us):∀ (fuel i pert:Ah),i<=mask->(∃ L,L<fuel/\(lp mask L (i,pert)).1 ∉ us) ->
  ∃ n,E9 mask owner fuel i pert=Ab (it mask n (rs mask i pert)).j/\(it mask n (rs mask i pert)).j<=mask/\(it mask n (rs mask i pert)).j ∉ us/\∀ m,m<n->(it mask m (rs mask i pert)).j∈us
 |0,i,pert,hi,⟨L,hL,_⟩=>by lia
 |fuel+1,i,pert,hi,⟨L,hL,hne⟩=>by
  unfold E9;have hmx:=fV hi;have hmn:=fW mask i;cases hf:(Bt (Ei mask i+1-i)).find? λk=>(owner.getD (i+k) (Ab 0)).isNone with
  |some k =>
   obtain⟨h1,h2,h3⟩:=List.find?_range_eq_some.mp hf;have hk:k<Ei mask i+1-i:=Cw.mp h2;have ej:(it mask k (rs mask i pert)).j=i+k:=by rw[kM mask i pert k (by lia)]
   refine⟨k,?_,?_,?_,λm hm=>?_⟩
   .rw[ej]
   .rw[ej];lia
   .rw[ej];exact(O.none (by lia)).mp h1
   .rw[kM mask i pert m (by lia)]
    have:=h3 m hm;apply CW;intro q;rw[(O.none (show i+m<=mask by lia)).mpr q] at this
    cases this
  |none =>
   have hall:∀ k,k<Ei mask i+1-i->i+k∈us:=λk hk=>by
    have:=List.find?_eq_none.mp hf k (Cw.mpr hk);apply CW;intro q;exact this ((O.none (show i+k<=mask by lia)).mpr q)
   have hL0:L≠0:=by
    rintro rfl;exact hne (hall 0 (by lia))
   obtain⟨L',rfl⟩:∃ L',L=L'+1:=⟨L-1,by lia⟩
   obtain⟨n,q1,q2,q3,q4⟩:=mM O fuel (leap mask i pert).1 (leap mask i pert).2 (fP mask i pert) ⟨L',by lia,hne⟩
   have e:∀ m,it mask (Ei mask i-i+1+m) (rs mask i pert)=it mask m (rs mask (leap mask i pert).1 (leap mask i pert).2):=λm=>by rw[bC,sF]
   refine⟨Ei mask i-i+1+n,?_,?_,?_,λm hm=>?_⟩
   .rw[e];exact q1
   .rw[e];exact q2
   .rw[e];exact q3
   .by_cases hlt:m<Ei mask i-i+1
    .rw[kM mask i pert m (by lia)]
     exact hall m (by lia)
    .obtain⟨m',rfl⟩:∃ m',m=Ei mask i-i+1+m':=⟨m-(Ei mask i-i+1),by lia⟩
     rw[e];exact q4 m' (by lia)
theorem gap (h:us.length<=mask):∃ e,e<=mask/\e ∉ us:=by
 apply CW;intro q;have:Bt (mask+1) ⊆ us:=λe he=>by
  apply CW;intro r;exact q ⟨e,by have:=Cw.mp he;lia,r⟩
 have:=List.Nodup.length_le_of_subset Rl this;rw[Qn] at this
 lia
theorem VZ (mask:Ah):Own mask (Array.replicate (mask+1) none) []:=by
 refine⟨by simp,HG,λu hu=>by simp at hu,λj k hj=>?_⟩
 have:j<mask+1:=by lia
 simp[Ds,this]
theorem ZY (O:Own mask owner us){j:Ah}(hj:j<=mask)(hn:j ∉ us):Own mask (owner.setIfInBounds j (Ab us.length)) (us++[j]):=by
 refine⟨by simp[O.size],?_,λu hu=>?_,λi k hi=>?_⟩
 .rw[Qh]
  refine⟨O.nd,by simp,λa ha b hb=>?_⟩
  simp at hb;rintro rfl;subst hb;exact hn ha
 .rcases AX.mp hu with h|h
  .exact O.le u h
  .simp at h;lia
 .have hsz:=O.size
  have hi':i<owner.size:=by lia
  have hk:∀ {k},us[k]? = Ab i->k<us.length:=λq=>(AQ.mp q).1;by_cases hij:j=i
  .subst hij
   have e1:(owner.setIfInBounds j (Ab us.length)).getD j (Ab 0)=Ab us.length:=by simp[Ds,hi']
   rw[e1];constructor
   .intro q;cases q;simp
   .intro q
    by_cases h1:k<us.length
    .rw[AO h1] at q
     exact absurd (AM q) hn
    .rw[Bb (by lia)] at q
     have:k-us.length=0:=by
      cases hz:k-us.length with
      |zero=>rfl
      |succ z=>rw[hz] at q;simp at q
     congr 1;lia
  .have e1:(owner.setIfInBounds j (Ab us.length)).getD i (Ab 0)=owner.getD i (Ab 0):=by
    simp[Ds,hi',Array.getElem_setIfInBounds,hij]
   rw[e1,O.at' i k hi];constructor
   .intro q;rw[AO (hk q)];exact q
   .intro q
    by_cases h1:k<us.length
    .rw[AO h1] at q;exact q
    .rw[Bb (by lia)] at q
     cases hz:k-us.length with
     |zero=>rw[hz] at q;simp at q;exact absurd q hij
     |succ z=>rw[hz] at q;simp at q
def rO (mask:Ah)(us:Aa Ah)(hs:Aa Am):Prop:=∀ (k:Ah) (h:Am),hs[k]? = Ab h->∃ n,us[k]? = Ab (it mask n (st mask h)).j/\∀ m,m<n->(it mask m (st mask h)).j∈us
theorem mL (hM:Msk mask):∀ (hs done:Aa Am) (owner:Av (Ak Ah)) (us:Aa Ah),Own mask owner us->us.length=done.length->done.length+hs.length<=mask->rO mask us done ->
  ∃ owner' us',hs.foldl (λacc h=>do
   let (owner,k) <- acc
   let j <- E9 mask owner (turns mask) (bits h % (mask+1)) (bits h)
   pure (owner.setIfInBounds j (Ab k),k+1)) (Ab (owner,us.length))=Ab (owner',us'.length)/\Own mask owner' us'/\us'.length=done.length+hs.length/\rO mask us' (done++hs)
 |[],done,owner,us,O,hl,_,hL=>⟨owner,us,rfl,O,by simpa using hl,by simpa using hL⟩
 |h::hs,done,owner,us,O,hl,hlen,hL=>by
  rw[Bk] at hlen;obtain⟨e,he,hne⟩:=gap (mask:=mask) (us:=us) (by lia)
  obtain⟨L,hLn,hLe⟩:=lF hM (i:=bits h % (mask+1)) (Gi (IY _ (IS _))) (dO h) he;obtain⟨n,q1,q2,q3,q4⟩:=mM O (turns mask) (bits h % (mask+1)) (bits h) (Gi (IY _ (IS _))) ⟨L,by unfold turns;lia,by rw[hLe];exact hne⟩
  have O':=ZY O q2 q3;have hL':rO mask (us++[(it mask n (rs mask (bits h % (mask+1)) (bits h))).j]) (done++[h]):=λk h' e'=>by
   by_cases hk:k<done.length
   .rw[AO hk] at e'
    obtain⟨n',w1,w2⟩:=hL k h' e';exact⟨n',by rw[AO (by lia)];exact w1,λm hm=>AT _ (w2 m hm)⟩
   .rw[Bb (by lia)] at e'
    cases hz:k-done.length with
    |succ z=>rw[hz] at e';simp at e'
    |zero =>
     rw[hz] at e';simp at e';subst e';refine⟨n,?_,λm hm=>AT _ (q4 m hm)⟩;rw[Bb (by lia),hl,hz]
     rfl
  obtain⟨owner',us',r1,r2,r3,r4⟩:=mL hM hs (done++[h]) _ _ O' (by simp[hl]) (by simp;lia) hL'
  refine⟨owner',us',?_,r2,by simpa [Tr,Mf 1] using r3,by simpa using r4⟩
  rw[RX];rw[Bs] at r1;have e0:(do
   let (owner,k) <- Ab (owner,us.length)
   let j <- E9 mask owner (turns mask) (bits h % (mask+1)) (bits h)
   pure (owner.setIfInBounds j (Ab k),k+1))=Ab (owner.setIfInBounds (it mask n (rs mask (bits h % (mask+1)) (bits h))).j (Ab us.length),us.length+1):=by
   show (E9 mask owner (turns mask) (bits h % (mask+1)) (bits h)).bind _=_;rw[q1];rfl
  rw[e0];exact r1
theorem tE (hM:Msk mask)(hs:Av Am)(hlen:hs.size<=mask):∃ owner us,Qo mask hs=Ab owner/\Own mask owner us/\us.length=hs.size/\rO mask us hs.toList:=by
 obtain⟨owner',us',r1,r2,r3,r4⟩:=mL hM hs.toList [] _ [] (VZ mask) rfl (by simpa using hlen) (λk h e=>by simp at e)
 refine⟨owner',us',?_,r2,by simpa using r3,by simpa using r4⟩
 unfold Qo;rw[<- Array.foldl_toList];have:(([]:Aa Ah).length)=0:=rfl;rw[this] at r1
 erw [r1]
 rfl
structure Laid (mask:Ah)(hs:Av Am)(t:CK)(qN:Av Ah):Prop where
 msk:t.mask=mask
 tb:Tb t
 size:t.place.size=hs.size
 le:∀ x∈t.place.toList,x<=mask
 perm:qN.toList.Perm (Bt hs.size)
 way:∀ (i k:Ah) (h:Am),qN[i]? = Ab k->hs[k]? = Ab h->∃ n,t.place[i]? = Ab (it mask n (st mask h)).j/\Way t (st mask h) n
theorem aW (hM:Msk mask)(hs:Av Am)(hlen:hs.size<=mask)(finger moves:Ah)(led plain:Ap) :
  ∃ t qN,OH mask finger moves led plain hs=Ab (t,qN)/\t.led=led/\t.plain=plain/\Laid mask hs t qN:=by
 obtain⟨owner,us,e,O,hl,hL⟩:=tE hM hs hlen;have hg:∀ j,j<=mask->owner.getD j none=owner.getD j (Ab 0):=λj hj=>by
  have:j<owner.size:=by rw[O.size];lia
  simp[Ds,this]
 generalize hlv:((Bt (mask+1)).filterMap λj=>(owner.getD j none).map (j,·))=live
 have mem:∀ (j k:Ah),(j,k)∈live↔us[k]? = Ab j:=λj k=>by
  rw[<- hlv,EE];constructor
  .rintro⟨j',hj',q⟩
   have hj'':j'<=mask:=by have:=Cw.mp hj';lia
   rw[hg j' hj''] at q;cases hz:owner.getD j' (Ab 0) with
   |none=>rw[hz] at q;cases q
   |some k' =>
    rw[hz] at q;simp at q;obtain⟨rfl,rfl⟩:=q;exact(O.at' _ _ hj'').mp hz
  .intro q
   have hj:j<=mask:=O.le j (AM q);refine⟨j,Cw.mpr (by lia),?_⟩
   rw[hg j hj,(O.at' j k hj).mpr q];rfl
 have hfst:live.map (·.1)=(Bt (mask+1)).filter λj=>(owner.getD j none).isSome:=by
  rw[<- hlv,List.map_filterMap];generalize owner.getD=f
  induction Bt (mask+1) with
  |nil=>rfl
  |cons a l ih =>
   rw[E4,List.filter_cons];cases hz:f a none with
   |none=>simpa using ih
   |some k=>simpa using ih
 have hR:(live.map (·.1)).Pairwise (· < ·):=by
  rw[hfst];exact Uq _ List.pairwise_lt_range
 have ndl:(live.map (·.2)).Nodup:=by
  unfold Si;rw[Ey];have h1:=Ey.mp hR;refine Lg (λ{a b} ha hb hab=>?_) h1;intro q;have ea:=(mem a.1 a.2).mp ha;have eb:=(mem b.1 b.2).mp hb;rw[<- q,ea] at eb;simp at eb
  lia
 have pm:(live.map (·.2)).Perm (Bt hs.size):=by
  rw[List.perm_ext_iff_of_nodup ndl Rl];intro k;rw[AW,Cw,<- hl];constructor
  .rintro⟨⟨j,k'⟩,h1,rfl⟩
   exact(AQ.mp ((mem j k').mp h1)).1
  .intro hk
   exact⟨(us[k],k),(mem _ _).mpr (As hk),rfl⟩
 have hmem:∀ j,j∈live.map (·.1)↔j∈us:=λj=>by
  rw[AW];constructor
  .rintro⟨⟨j',k⟩,h1,rfl⟩
   exact AM ((mem _ _).mp h1)
  .intro h1
   obtain⟨k,hk,e⟩:=Bl.mp h1;exact⟨(j,k),(mem _ _).mpr (by rw[As hk,e]),rfl⟩
 refine⟨{ mask,place:=(live.map (·.1)).toArray,dummies:=#[],finger,led,moves,plain },(live.map (·.2)).toArray,?_,rfl,rfl,rfl,⟨?_,rfl⟩,?_,λx hx=>?_,?_,λi k h e1 e2=>?_⟩
 .unfold OH
  rw[e,<- hlv];rfl
 .exact hR
 .have:=pm.length_eq
  simp at this ⊢;exact this
 .exact O.le x ((hmem x).mp hx)
 .exact pm
 .have e1':(live.map (·.2))[i]? = Ab k:=by simpa using e1
  rw[Br] at e1';cases hz:live[i]? with
  |none=>rw[hz] at e1';cases e1'
  |some jk =>
   rw[hz] at e1';simp at e1';have hin:=AM hz;have hu:=(mem jk.1 jk.2).mp hin;obtain⟨n,w1,w2⟩:=hL k h (by rw[A6];exact e2)
   rw[<- e1'] at w1;rw[hu] at w1;refine⟨n,?_,λm hm=>?_⟩
   .rw[<- w1]
    simp[hz]
   .have:=(hmem _).mpr (w2 m hm)
    simpa using this
theorem UT {t:CK}{hs:Av Am}{w:Ah}:SetTable.relaid t hs w=OH (CL w-1) t.finger (t.movedTo (CL w-1)) t.led t.plain hs:=rfl
end _S
namespace _S
open PySem
open PySem.SetTable (Probe leap runEnd turns bits)
structure Set0 {K:Type}(is:K->Ac->Prop)(hash:K->Am)(es:Av (Am × Ac))(seen:Aa K):Prop where
 good:∀ e∈es.toList,∃ k,e.1=hash k/\is k e.2
 nd:es.toList.Pairwise λa b=>∀ k,is k a.2->¬ is k b.2
 mem:∀ k,k∈seen↔∃ e∈es.toList,is k e.2
section
variable {K:Type}{is:K->Ac->Prop}{hash:K->Am}{es es':Av (Am × Ac)}{seen seen':Aa K}
theorem Set0.perm (Z:Set0 is hash es seen)(p:es'.toList.Perm es.toList):Set0 is hash es' seen:=
 ⟨λe he=>Z.good e (p.mem_iff.mp he),(p.pairwise_iff λ{x y} h k hy hx=>h k hx hy).mpr Z.nd,λk=>(Z.mem k).trans ⟨λ⟨e,he,q⟩=>⟨e,p.mem_iff.mpr he,q⟩,λ⟨e,he,q⟩=>⟨e,p.mem_iff.mp he,q⟩⟩⟩
theorem Set0.nil:Set0 is hash #[] []:=⟨λe he=>by simp at he,by simp,λk=>by simp⟩
theorem Set0.push (Z:Set0 is hash es seen)(inj:∀ {k k':K} {v:Ac},is k v->is k' v->k=k'){k:K}{x:Ac}(hk:is k x)(hn:k ∉ seen)(p:es'.toList.Perm (es.toList++[(hash k,x)])):Set0 is hash es' (k::seen):=by
 refine Set0.perm (es:=es.push (hash k,x)) ⟨λe he=>?_,?_,λk'=>?_⟩ (by simpa using p)
 .rw[Cy] at he
  rcases AX.mp he with he|he
  .exact Z.good e he
  .simp at he;subst he;exact⟨k,rfl,hk⟩
 .rw[Cy,Bz]
  refine⟨Z.nd,by simp,λa ha b hb k' h1 h2=>?_⟩
  simp at hb;subst hb;have:=inj hk h2;subst this;exact hn ((Z.mem k).mpr ⟨a,ha,h1⟩)
 .rw[AD,Z.mem,Cy]
  constructor
  .rintro (rfl|⟨e,he,q⟩)
   .exact⟨(hash k',x),by simp,hk⟩
   .exact⟨e,AT _ he,q⟩
  .rintro⟨e,he,q⟩
   rcases AX.mp he with he|he
   .exact .inr ⟨e,he,q⟩
   .simp at he;subst he;exact .inl (inj q hk)
theorem Set0.again (Z:Set0 is hash es seen){k:K}(hk:k∈seen):Set0 is hash es (k::seen):=
 ⟨Z.good,Z.nd,λk'=>by rw[AD,Z.mem];exact⟨λh=>h.elim (λe=>by subst e;exact(Z.mem _).mp hk) id,.inr⟩⟩
end
section
open Classical in
theorem pI {K:Type}{is:K->Ac->Prop}:∀ (L:Aa (Am × Ac)) (U:Aa K),L.Pairwise (λa b=>∀ k,is k a.2->¬ is k b.2)->(∀ e∈L,∃ k∈U,is k e.2)->L.length<=U.length
 |[],U,_,_=>Dn _
 |e::L,U,nd,h=>by
  rw[Cg] at nd;obtain⟨k0,hk0,q0⟩:=h e (by simp)
  have ih:=pI L (U.erase k0) nd.2 λe' he'=>by
   obtain⟨k,hk,q⟩:=h e' (by simp[he'])
   have:k≠k0:=λz=>nd.1 e' he' k0 q0 (z▸q);exact⟨k,(Iy this).mpr hk,q⟩
  rw[Lh hk0] at ih;have:0<U.length:=Nd hk0;rw[Bk]
  lia
open Classical in
theorem Set0.few {K:Type}{is:K->Ac->Prop}{hash:K->Am}{es:Av (Am × Ac)}{seen U:Aa K}{k:K}(Z:Set0 is hash es seen)(hU:∀ k'∈seen,k'∈U)(hk:k∈U)(hn:k ∉ seen):es.size<U.length:=by
 have:=pI es.toList (U.erase k) Z.nd λe he=>by
  obtain⟨k',_,q⟩:=Z.good e he;have hs:=(Z.mem k').mpr ⟨e,he,q⟩;have hne:k'≠k:=λz=>hn (z▸hs);exact⟨k',(Iy hne).mpr (hU k' hs),q⟩
 rw[Lh hk,A4] at this;have:0<U.length:=Nd hk
 lia
end
structure TabT (t:CK)(es:Av (Am × Ac)):Prop where
 tb:Tb t
 msk:Msk t.mask
 size:t.place.size=es.size
 le:∀ x∈t.place.toList,x<=t.mask
 few:es.size*5<t.mask*3
 way:∀ (i:Ah) (e:Am × Ac),es[i]? = Ab e->∃ n,t.place[i]? = Ab (it t.mask n (st t.mask e.1)).j/\Way t (st t.mask e.1) n
 plain:t.plain=true
theorem TabT.fits {t:CK}{es:Av (Am × Ac)}(T:TabT t es):t.fits es.size=true:=by
 have h1:=T.size;have h2:=T.few;have h3:t.fill=es.size:=by unfold Hg;rw[T.tb.dm,h1];rfl
 unfold OI;rw[h3,h1];rcases T.msk with h|h|h|h|h <;> rw[h] at h2 ⊢ <;> simp <;> lia
theorem TabT.gap {t:CK}{es:Av (Am × Ac)}(T:TabT t es):∃ e,e<=t.mask/\e ∉ t.place.toList:=by
 apply _S.gap;rw[A4,T.size];have h2:=T.few;rcases T.msk with h|h|h|h|h <;> rw[h] at h2 ⊢ <;> lia
theorem TabT.odd {t:CK}{es:Av (Am × Ac)}(T:TabT t es):t.gaveWay=false:=by
 unfold SetTable.gaveWay;rcases T.msk with h|h|h|h|h <;> rw[h] <;> rfl
theorem TabT.put {t:CK}{es:Av (Am × Ac)}(T:TabT t es){h:Am}{x:Ac}{n:Ah}(w:Way t (st t.mask h) n)(hn:(it t.mask n (st t.mask h)).j ∉ t.place.toList)(hle:(it t.mask n (st t.mask h)).j<=t.mask) :
  let es':=AN es (t.put (it t.mask n (st t.mask h)).j).2 (h,x)
  Tb (t.put (it t.mask n (st t.mask h)).j).1/\(t.put (it t.mask n (st t.mask h)).j).1.place.size=es'.size/\(∀ y∈(t.put (it t.mask n (st t.mask h)).j).1.place.toList,y<=t.mask) /\
  (∀ (i:Ah) (e:Am × Ac),es'[i]? = Ab e->∃ m,(t.put (it t.mask n (st t.mask h)).j).1.place[i]? = Ab (it t.mask m (st t.mask e.1)).j/\Way (t.put (it t.mask n (st t.mask h)).j).1 (st t.mask e.1) m):=by
 generalize hj:(it t.mask n (st t.mask h)).j=j at *;have pm:∀ y,y∈(t.put j).1.place.toList↔y=j\/y∈t.place.toList:=λy=>by
  show y∈(AN t.place (AU t.place j) j).toList↔_;rw[(E8 _ _ _).mem_iff];simp[or_comm]
 have hb:AU t.place j<=t.place.size:=(yW T.tb.rs j).le;have wm:∀ {p:HM} {m:Ah},Way t p m->Way (t.put j).1 p m:=λ{p m} w q hq=>(pm _).mpr (.inr (w q hq));refine⟨BZ T.tb hn,?_,λy hy=>?_,λi e he=>?_⟩
 .show (AN t.place _ j).size=(AN es _ (h,x)).size
  rw[yH,yH,T.size]
 .rcases (pm y).mp hy with rfl|hy
  .exact hle
  .exact T.le y hy
 .have he':(if i<AU t.place j then es[i]? else if i=AU t.place j then Ab (h,x) else es[i-1]?)=Ab e:=by
   rw[<- b8 es (by rw[<- T.size];exact hb)]
   exact he
  have pl:(t.put j).1.place[i]? = if i<AU t.place j then t.place[i]? else if i=AU t.place j then Ab j else t.place[i-1]?:=b8 t.place hb j i
  rw[pl];by_cases h1:i<AU t.place j
  .rw[AA h1] at he' ⊢
   obtain⟨m,q1,q2⟩:=T.way i e he';exact⟨m,q1,wm q2⟩
  .rw[AB h1] at he' ⊢
   by_cases h2:i=AU t.place j
   .rw[AA h2] at he' ⊢
    cases he';exact⟨n,by rw[hj],wm w⟩
   .rw[AB h2] at he' ⊢
    obtain⟨m,q1,q2⟩:=T.way _ e he';exact⟨m,q1,wm q2⟩
theorem W7 {mask:Ah}(p:HM)(hp:p.j+p.more<=mask):∀ n,(it mask n p).j+(it mask n p).more<=mask
 |0=>hp
 |n+1=>by
  rw[gE];have ih:=W7 p hp n;unfold adv
  split
  .show (it mask n p).j+1+((it mask n p).more-1)<=mask
   lia
  .show (leap mask _ _).1+(Ei mask (leap mask _ _).1-(leap mask _ _).1)<=mask
   have h1:=fV (fP mask (it mask n p).i (it mask n p).perturb);have h2:=fW mask (leap mask (it mask n p).i (it mask n p).perturb).1
   lia
theorem WQ (mask:Ah)(h:Am)(n:Ah):(it mask n (st mask h)).j<=mask:=by
 have h0:bits h % (mask+1)<=mask:=Gi (IY _ (IS _));have:=W7 (mask:=mask) (st mask h) (by
  show bits h % (mask+1)+(Ei mask (bits h % (mask+1))-bits h % (mask+1))<=mask;have h1:=fV h0;have h2:=fW mask (bits h % (mask+1))
  lia) n
 lia
theorem gV {t:CK}{es:Av (Am × Ac)}(hM:Msk t.mask)(hp:t.plain=true)(h1:t.place.size=es.size)(h2:es.size<=1001)(hf:t.tooFull=true)(hd:t.dummies=#[])(h3:(es.size-1)*5<t.mask*3)(h4:0<es.size) :
  CL (Ed es.size)<=2048/\∃ t' qN,t.relaid (es.map (·.1)) (Ed es.size)=Ab (t',qN)/\t'.led=t.led/\(qN.filterMap (es[·]?)).toList.Perm es.toList/\TabT t' (qN.filterMap (es[·]?))/\qN.toList.Perm (Bt es.size):=by
 have hfill:t.fill=es.size:=by unfold Hg;rw[hd,h1];rfl
 have hful:t.mask*3<=es.size*5:=by
  unfold Lz at hf;rw[hfill] at hf;simpa using hf
 have hcase:(es.size=5/\CL (Ed es.size)=32)\/(es.size=19/\CL (Ed es.size)=128)\/(es.size=77/\CL (Ed es.size)=512)\/(es.size=307/\CL (Ed es.size)=2048):=by
  rcases hM with h|h|h|h|h <;> rw[h] at hful h3
  .have:es.size=5:=by lia
   exact .inl ⟨this,by rw[this];decide⟩
  .have:es.size=19:=by lia
   exact .inr (.inl ⟨this,by rw[this];decide⟩)
  .have:es.size=77:=by lia
   exact .inr (.inr (.inl ⟨this,by rw[this];decide⟩))
  .have:es.size=307:=by lia
   exact .inr (.inr (.inr ⟨this,by rw[this];decide⟩))
  .lia
 have hM':Msk (CL (Ed es.size)-1):=by
  rcases hcase with⟨_,h⟩|⟨_,h⟩|⟨_,h⟩|⟨_,h⟩ <;> rw[h]
  .exact .inr (.inl rfl)
  .exact .inr (.inr (.inl rfl))
  .exact .inr (.inr (.inr (.inl rfl)))
  .exact .inr (.inr (.inr (.inr rfl)))
 have hle:(es.map (·.1)).size<=CL (Ed es.size)-1:=by
  rw[Ol];rcases hcase with⟨h5,h⟩|⟨h5,h⟩|⟨h5,h⟩|⟨h5,h⟩ <;> rw[h,h5] <;> lia
 obtain⟨t',qN,e,l1,l2,L⟩:=aW hM' (es.map (·.1)) hle t.finger (t.movedTo (CL (Ed es.size)-1)) t.led t.plain
 have hosz:qN.size=es.size:=by
  have:=L.perm.length_eq;simpa using this
 have hord:∀ i k,qN[i]? = Ab k->k<es.size:=λi k q=>by
  have:k∈Bt (es.map (·.1)).size:=L.perm.mem_iff.mp (AM (by rw[A6];exact q))
  simpa using this
 have hfm:(qN.filterMap (es[·]?)).toList=qN.toList.map λk=>es.toList.getD k (0,.none):=by
  rw[Array.toList_filterMap];have:∀ l:Aa Ah,(∀ k∈l,k<es.size)->l.filterMap (es[·]?)=l.map λk=>es.toList.getD k (0,.none):=by
   intro l
   induction l with
   |nil=>intro _;rfl
   |cons a l ih =>
    intro hl;have ha:=hl a (by simp)
    rw[E4,Bu,ih λk hk=>hl k (by simp[hk])]
    rw[Ce ha];simp[ha]
  refine this _ λk hk=>?_;obtain⟨i,hi,q⟩:=Bl.mp hk;exact hord i k (by rw[<- A6,As hi,q])
 have hperm:(qN.filterMap (es[·]?)).toList.Perm es.toList:=by
  rw[hfm];have p1:=L.perm.map λk=>es.toList.getD k (0,Bj);refine p1.trans ?_;have e2:(Bt (es.map (·.1)).size).map (λk=>es.toList.getD k (0,Bj))=es.toList:=by
   apply Ma
   .simp
   .intro i a1 a2
    have a3:i<es.size:=by simpa using a2
    simp[a3]
  rw[e2]
 have hsz:(qN.filterMap (es[·]?)).size=es.size:=by rw[<- A4,hperm.length_eq,A4]
 have hentry:∀ i,(qN.filterMap (es[·]?))[i]? = (qN[i]?).map λk=>es.toList.getD k (0,.none):=λi=>by
  rw[<- A6,hfm,Br,A6]
 refine⟨by rcases hcase with⟨_,h⟩|⟨_,h⟩|⟨_,h⟩|⟨_,h⟩ <;> rw[h] <;> decide,t',qN,by rw[UT];exact e,l1,hperm,⟨L.tb,by rw[L.msk];exact hM',by rw[L.size,hsz,Ol],by rw[L.msk];exact L.le,?_,λi en q=>?_,by rw[l2];exact hp⟩,by have:=L.perm;rwa [Ol] at this⟩
 .rw[hsz,L.msk]
  rcases hcase with⟨h5,h⟩|⟨h5,h⟩|⟨h5,h⟩|⟨h5,h⟩ <;> rw[h,h5] <;> lia
 .rw[hentry] at q
  cases hz:qN[i]? with
  |none=>rw[hz] at q;cases q
  |some k =>
   rw[hz] at q;simp only[RY,Option.some.injEq] at q;have hk:=hord i k hz;have:(es.map (·.1))[k]? = Ab en.1:=by
    rw[Array.getElem?_map,Ce hk];rw[<- q];simp[hk]
   rw[L.msk];exact L.way i k en.1 hz this
end _S
namespace _S
open PySem
open PySem.SetTable (Probe leap runEnd turns bits)
variable {Q:Ap->Ag->Prop}
def Sup (h0 h:A8):Prop:=∀ b o,h0.get? b=Ab o->h.get? b=Ab o
def isT (prog:Az)(w:AL)(h0:A8)(ks:Aa Am)(v:Ac):Prop:=∃ a,v=.ref a/\Mb (A0 prog w) h0 ks a
section
variable {prog:Az}{w:AL}{h0:A8}
theorem isT.inj {x y:Aa Am}{v:Ac}(hx:isT prog w h0 x v)(hy:isT prog w h0 y v):x=y:=by
 obtain⟨a,rfl,h1⟩:=hx;obtain⟨b,e,h2⟩:=hy;cases e;exact h1.inj h2
theorem yM {h:A8}{ks:Aa Am}{a:Ad}(hS:Sup h0 h)(hx:Mb (A0 prog w) h0 ks a):Mb (A0 prog w) h ks a:=by
 obtain⟨o,items,n,ho,r⟩:=hx;exact⟨o,items,n,hS _ _ ho,r⟩
variable {A:AJ}{E:Ac->Ag->Prop}{s:Ag}
theorem MX {k:Aa Am}{v:Ac}{Q:Am->Ag->Prop}(hu:A.units<CZ)(hS:Sup h0 s.heap)(hx:isT prog w h0 k v)(h:Q (A7 (A0 prog w) k) { s with toks:=s.toks+(k.length+1) }) : Ao (Aq prog w) A (pyHash v) Q E s:=by
 obtain⟨a,rfl,hx⟩:=hx;exact wpAny_pyHash_tuple hu (yM hS hx) h
theorem eqT {k k':Aa Am}{v v':Ac}(hu:A.units<CZ)(hS:Sup h0 s.heap)(hx:isT prog w h0 k v)(hy:isT prog w h0 k' v')(h:Q (decide (k=k')) s):Ao (Aq prog w) A (eqBool v v') Q E s:=by
 obtain⟨a,rfl,hx⟩:=hx;obtain⟨b,rfl,hy⟩:=hy;exact wpAny_eqBool_tuple hu (yM hS hx) (yM hS hy) h
theorem bD:∀ {ks:Aa Am} {vs:Aa Ac},ItemsAre (A0 prog w) ks vs->∀ v∈vs,∃ i t,v=.int i t:=by
 intro ks vs h
 induction h with
 |nil=>intro v hv;simp at hv
 |@cons k v' ks vs h1 _ ih =>
  intro v hv;rcases AD.mp hv with rfl|hv
  .cases v <;> first|exact⟨_,_,rfl⟩|exact absurd h1 (by rintro⟨⟩)
  .exact ih v hv
theorem LS {k:Aa Am}{v:Ac}(hS:Sup h0 s.heap)(hx:isT prog w h0 k v)(h:Q true s):Ao (Aq prog w) A (Jy 8 v) Q E s:=by
 obtain⟨a,rfl,hx⟩:=hx;have hx:=yM hS hx;have hT:=hx.typeIs;obtain⟨o,items,n,ho,_,hd,hi⟩:=hx;unfold Jy;refine Af (Mw hT F.slot_tuple_hash.lookup ?_);show Ao _ _ (To (.ref a) >>= _) Q E s;refine Af (Ec ho hd ?_);refine Af ?_;show Ao _ _ (forIn items _ _) _ _ s;rw[<- Pc];refine Mc _ (λqM r s'=>r.1=none/\s'=s/\∀ v∈qM,∃ i t,v=.int i t) _ ?_ ?_ _ _ ⟨rfl,rfl,bD hi⟩
 .rintro v qM r s' ⟨hr,rfl,hall⟩
  obtain⟨i,t,rfl⟩:=hall v Cf;show Ao _ _ (Jy 7 (.int i t) >>= _) _ _ _;rw[show Jy 7 (.int i t)=pure true from rfl]
  refine Af (Al ?_);simp only[Gc,AI,Ci];exact Al ⟨rfl,rfl,λu hu'=>hall u (Bc _ hu')⟩
 .rintro⟨r1,r2⟩ s' ⟨hr,rfl,_⟩
  simp only at hr;subst hr;exact Al h
theorem cQ {k:Aa Am}{v:Ac}(hS:Sup h0 s.heap)(hx:isT prog w h0 k v)(h:Q false s):Ao (Aq prog w) A (HN 8 v) Q E s:=by
 obtain⟨a,rfl,hx⟩:=hx;have hx:=yM hS hx;have hT:=hx.typeIs;obtain⟨o,items,n,ho,_,hd,hi⟩:=hx;unfold HN;refine Af (H8 hT ?_);dsimp only;refine Af (Al ?_);simp only[Gc,AI,Ci];refine Af (Ec ho hd ?_);refine Af ?_;show Ao _ _ (forIn items _ _) _ _ s;rw[<- Pc];refine Mc _ (λqM r s'=>r.1=none/\s'=s/\∀ v∈qM,∃ i t,v=.int i t) _ ?_ ?_ _ _ ⟨rfl,rfl,bD hi⟩
 .rintro v qM r s' ⟨hr,rfl,hall⟩
  obtain⟨i,t,rfl⟩:=hall v Cf;show Ao _ _ (HN 7 (.int i t) >>= _) _ _ _;rw[show HN 7 (.int i t)=pure false from rfl]
  refine Af (Al ?_);simp only[AI,Ci];exact Al ⟨rfl,rfl,λu hu'=>hall u (Bc _ hu')⟩
 .rintro⟨r1,r2⟩ s' ⟨hr,rfl,_⟩
  simp only at hr;subst hr;exact Al h
theorem iY {k:Aa Am}{v:Ac}(hS:Sup h0 s.heap)(hx:isT prog w h0 k v)(h:Q true s):Ao (Aq prog w) A (eqIsQuiet 8 v) Q E s:=by
 obtain⟨a,rfl,hx⟩:=hx;exact wpAny_eqIsQuiet_tuple (yM hS hx) h
theorem eM {α:Type}{c:Prop}[ER c]{M:Gg}{t u:Gf α}{Q:α->Ag->Prop}(h1:c->Ao M A t Q E s)(h2:¬ c->Ao M A u Q E s):Ao M A (if c then t else u) Q E s:=by
 by_cases h:c
 .rw[AA h];exact h1 h
 .rw[AB h];exact h2 h
theorem NN {k:Aa Am}{x:Ac}{ys:Aa Ac}(hS:Sup h0 s.heap)(hx:isT prog w h0 k x)(hy:∀ y∈ys,∃ k',isT prog w h0 k' y)(h:Q false s):Ao (Aq prog w) A (Qq x ys) Q E s:=by
 unfold Qq;refine Af ?_;refine Mc _ (λqM r s'=>r.1=none/\s'=s/\∀ v∈qM,∃ k',isT prog w h0 k' v) _ ?_ ?_ _ _ ⟨rfl,rfl,hy⟩
 .rintro v qM r s' ⟨hr,rfl,hall⟩
  obtain⟨k',hv⟩:=hall v Cf;have hrest:∀ u∈qM,∃ k',isT prog w h0 k' u:=λu hu'=>hall u (Bc _ hu');dsimp only;refine eM (λ_=>Al ⟨rfl,rfl,hrest⟩) λ_=>?_
  .refine Af (iY hS hx ?_)
   simp only[Gc,AI,Ci];refine Af (iY hS hv ?_);simp only[Gc,AI,Ci];refine Af (cQ hS hx ?_);simp only[AI,Ci];refine Af (cQ hS hv ?_);simp only[AI,Ci];exact Al ⟨rfl,rfl,hrest⟩
 .rintro⟨r1,r2⟩ s' ⟨hr,rfl,_⟩
  simp only at hr;subst hr;exact Al h
theorem NM {k:Aa Am}{v:Ac}(hx:isT prog w h0 k v)(h:Q true s):Ao (Aq prog w) A (isSame v v) Q E s:=by
 obtain⟨a,rfl,hx⟩:=hx;unfold isSame;simp only[Do,Cc];exact Al h
theorem W4 {k:Aa Am}{x:Ac}{S:Ad}{o:AV}{es:Av (Am × Ac)}{ep:Ah}{t:CK}{seen:Aa (Aa Am)}(hu:A.units<CZ)(hS:Sup h0 s.heap)(ho:s.heap.get? S=Ab o)(hd:o.data=.set es ep t)
  (T:TabT t es) (Z:Set0 (isT prog w h0) (A7 (A0 prog w)) es seen) (hx:isT prog w h0 k x) (N:Ah) (hNw:Way t (st t.mask (A7 (A0 prog w) k)) N)
  (hNe:(it t.mask N (st t.mask (A7 (A0 prog w) k))).j ∉ t.place.toList) (hNf:N<10*turns t.mask) {Q:SetFound->Ag->Prop}
  (h1:k∈seen->Q (.there none) s) (h2:k ∉ seen->Q (.free (it t.mask N (st t.mask (A7 (A0 prog w) k))).j false) s) :
  ∀ (fuel n:Ah) (stand:Ak HM),stand.getD (t.probeStart (A7 (A0 prog w) k))=it t.mask n (st t.mask (A7 (A0 prog w) k))->n<=N->N-n<fuel ->
   (∀ (m i:Ah) (e:Am × Ac),m<n->t.place[i]? = Ab (it t.mask m (st t.mask (A7 (A0 prog w) k))).j->es[i]? = Ab e->¬ isT prog w h0 k e.2) ->
   Ao (Aq prog w) A (Ks S x (A7 (A0 prog w) k) true fuel stand) Q E s
 |0,n,stand,_,_,hf,_=>by lia
 |fuel+1,n,stand,hst,hn,hf,hq=>by
  unfold Ks;refine Af (Df ho hd T.fits ?_);dsimp only;rw[T.odd];simp only[AI,Ci];rw[hst];generalize hg:t.probe _ (A7 (A0 prog w) k) (it t.mask n (st t.mask (A7 (A0 prog w) k)))=r;obtain⟨H,hH,hg⟩:∃ H:Ah->Am,(∀ i,H i=(es[i]?.map (·.1)).getD 0)/\t.probe H (A7 (A0 prog w) k) (it t.mask n (st t.mask (A7 (A0 prog w) k)))=r:=⟨_,λi=>rfl,hg⟩
  have itn:∀ m,it t.mask m (it t.mask n (st t.mask (A7 (A0 prog w) k)))=it t.mask (n+m) (st t.mask (A7 (A0 prog w) k)):=λm=>(bC _ _ _ _).symm;have gm:Meets t H (A7 (A0 prog w) k) (it t.mask n (st t.mask (A7 (A0 prog w) k))) (10*turns t.mask) r:=by
   rw[<- hg];refine jH T.tb H _ _ _ (by rw[pG];rfl) ⟨N-n,by lia,?_⟩
   rw[itn,show n+(N-n)=N by lia]
   exact hNe
  have miss:∀ j:Ah,(∀ m i:Ah,m<j->t.place[i]? = Ab (it t.mask m (it t.mask n (st t.mask (A7 (A0 prog w) k)))).j->H i≠A7 (A0 prog w) k) ->
    ∀ (m i:Ah) (e:Am × Ac),m<n+j->t.place[i]? = Ab (it t.mask m (st t.mask (A7 (A0 prog w) k))).j->es[i]? = Ab e->¬ isT prog w h0 k e.2:=λj qj m i e hm ei ee hk=>by
   by_cases hmn:m<n
   .exact hq m i e hmn ei ee hk
   .refine qj (m-n) i (by lia) (by rw[itn,show n+(m-n)=m by lia];exact ei) ?_
    rw[hH,ee];obtain⟨k',e1,e2⟩:=Z.good e (AM (by rw[A6];exact ee))
    rw[isT.inj hk e2];simpa using e1
  cases gm with
  |emp j hj w' e' q =>
   rw[itn] at e';have hjN:n+j=N:=by
    rcases Kt (n+j) N with h|h|h
    .exact absurd (hNw _ h) e'
    .exact h
    .have:=w' (N-n) (by lia)
     rw[itn,show n+(N-n)=N by lia] at this
     exact absurd this hNe
   dsimp only;rw[itn,hjN];refine Al (h2 λhk=>?_);obtain⟨e,he,hke⟩:=(Z.mem k).mp hk;obtain⟨i,hi,ei⟩:=Bl.mp he;have ei':es[i]? = Ab e:=by rw[<- A6,As hi,ei]
   obtain⟨m,w1,w2⟩:=T.way i e ei';obtain⟨k',g1,g2⟩:=Z.good e he;have:=isT.inj hke g2;subst this;rw[g1] at w1 w2;have hmN:m<N:=by
    apply CW;intro hc;by_cases hmN:m=N
    .subst hmN
     exact hNe (AM (by rw[A6];exact w1))
    .exact hNe (w2 N (by lia))
   exact miss j q m i e (by lia) w1 ei' hke
  |cand j i hj w' e' hh q =>
   rw[itn] at e';have hi:i<es.size:=by
    rw[<- T.size];exact(Bx.mp e').1
   have ei:es[i]? = Ab es[i]:=Ce hi;have hjN:n+j<N:=by
    rcases Kt (n+j) N with h|h|h
    .exact h
    .rw[h] at e'
     exact absurd (AM (by rw[A6];exact e')) hNe
    .have:=w' (N-n) (by lia)
     rw[itn,show n+(N-n)=N by lia] at this
     exact absurd this hNe
   obtain⟨k',g1,g2⟩:=Z.good es[i] (by simp)
   dsimp only;have main:Ao (Aq prog w) A (do
     let Ab (_,y):=es[i]?|unsupported "internal:set-entry"
     let equal <- holding [y] (eqBool y x)
     let (es',_,t') <- OR S
     if true&&equal then return .there none
     let Ab same:=t'.sameMemory t.moves t.mask|unsupported "set.changed-during-lookup:is-the-new-block-at-the-old-address"
     let still <- match (if same then t'.slot (it t.mask j (it t.mask n (st t.mask (A7 (A0 prog w) k)))).j else .empty) with
      |.live i'=>match es'[i']? with
       |some (_,y')=>do pure (if <- isSame y' y then Ab i' else none)
       |none=>pure none
      |_=>pure none
     match still with
     |none=>rule "set.search.anew";Ks S x (A7 (A0 prog w) k) true fuel none
     |some i'=>if equal then return .there (Ab i') else Ks S x (A7 (A0 prog w) k) true fuel (Ab (it t.mask (j+1) (it t.mask n (st t.mask (A7 (A0 prog w) k)))))) Q E s:=by
    rw[ei];dsimp only;refine Af (Cp (eqT hu hS g2 hx ?_));refine Af (Df ho hd T.fits ?_);by_cases hkk:k'=k
    .subst hkk
     simp only[Fj,Bool.and_self,Cc];exact Al (h1 ((Z.mem k').mpr ⟨es[i],by simp,g2⟩))
    .simp only[hkk,Fl,Og,AI,Ci]
     have hm:t.sameMemory t.moves t.mask=Ab true:=by simp[SetTable.sameMemory]
     rw[hm];dsimp only;rw[itn,mY T.tb e'];simp only[Cc,ei];refine Af (NM g2 ?_);simp only[Cc];refine Af (Al ?_);dsimp only;refine W4 hu hS ho hd T Z hx N hNw hNe hNf h1 h2 fuel (n+j+1) _ ?_ (by lia) (by lia) λm i' e hm ei' ee hk=>?_
     .rw[Ic,itn]
      rfl
     .by_cases hmj:m<n+j
      .exact miss j q m i' e hmj ei' ee hk
      .have:m=n+j:=by lia
       subst this;have:=o7 T.tb.rs ei' e';subst this;rw[ei] at ee;cases ee;exact hkk (isT.inj g2 hk)
   refine eM (λ_=>?_) λ_=>?_
   .refine Af (NN hS hx (λy hy=>?_) ?_)
    .obtain⟨e,he,rfl⟩:=AW.mp hy
     have:e∈es.toList:=by
      have:=(Iu.mp he);exact Iu.mpr (Array.mem_filter.mp this).1
     obtain⟨k2,_,g⟩:=Z.good e this;exact⟨k2,g⟩
    .simp only[AI,Ci]
     exact main
   .exact main
end
end _S
namespace _S
open PySem
open PySem.SetTable (Probe leap runEnd turns bits)
@[reducible] def setO (es:Av (Am × Ac))(ep:Ah)(t:CK):AV:={ cls:=.type "set",dict:=none,data:=.set es ep t }
theorem gK {h:A8}{S:Ad}{es es':Av (Am × Ac)}{ep:Ah}{t t':CK}(ho:h.get? S=Ab (setO es ep t)):(h.update S (Sj es' t')).get? S=Ab (setO es' (ep+1) t'):=Dd _ ho rfl
structure SetK {K:Type}(is:K->Ac->Prop)(hash:K->Am)(S:Ad)(led:Ap)(V:Aa Ac)(seen:Aa K)(h:A8):Prop where
 ex:∃ es ep t,h.get? S=Ab (setO es ep t)/\Set0 is hash es seen/\TabT t es/\t.led=led/\∀ e∈es.toList,e.2∈V
section
variable {prog:Az}{w:AL}{h0:A8}{A:AJ}{E:Ac->Ag->Prop}{s:Ag}{S:Ad}{led:Ap}{V:Aa Ac}
theorem XE (a:Ad)(wanted:Ah):setRelay a wanted=(do
  let (es,_,t) <- OR a
  if CL wanted>sizeLine then unsupported "set:memory"
  let (es,t) <- (do
   let Ab (t,qN):=t.relaid (es.map (·.1)) wanted|unsupported "internal:set-table-without-room"
   let es':=qN.filterMap (es[·]?)
   if es'.size != es.size then unsupported "internal:set-table-lost-an-element"
   pure (es',t))
  storeSet a es t):=rfl
theorem LP {seen:Aa (Aa Am)}{k:Aa Am}{x:Ac}{Q:Ap->Ag->Prop}(hu:A.units<CZ)(hS:Sup h0 s.heap)(Z:SetK (isT prog w h0) (A7 (A0 prog w)) S led V seen s.heap)(hx:isT prog w h0 k x)(hV:x∈V){U:Aa (Aa Am)}(hU:U.length<=1000)(hU1:∀ k'∈seen,k'∈U)(hU2:k∈U)
  (h:∀ (b:Ap) (h':A8) (tk:Ah),s.toks<=tk->DL S s.heap h'->SetK (isT prog w h0) (A7 (A0 prog w)) S led V (k::seen) h'->Q b { s with heap:=h',toks:=tk }) : Ao (Aq prog w) A (OS S x) Q E s:=by
 obtain⟨es,ep,t,ho,Z,T,hl,hm⟩:=Z;unfold OS;refine Cp (Af (MX hu hS hx ?_));unfold setAddHashed setAddHashedIn;refine Cp (Af (Df (s:={ s with toks:=s.toks+(k.length+1) }) ho rfl T.fits ?_))
 dsimp only;have hsc:byScan x es=false:=by
  obtain⟨a,rfl,_⟩:=hx;rfl
 rw[hsc];simp only[AI,Ci];obtain⟨e,he,hne⟩:=T.gap;have first:∃ N,Way t (st t.mask (A7 (A0 prog w) k)) N/\(it t.mask N (st t.mask (A7 (A0 prog w) k))).j ∉ t.place.toList/\N<10*turns t.mask:=by
  obtain⟨N,hN,eN⟩:=l9 T.msk (A7 (A0 prog w) k) he;have gm:=jH T.tb (λ_=>A7 (A0 prog w) k+1) (A7 (A0 prog w) k) (10*turns t.mask) (st t.mask (A7 (A0 prog w) k)) rfl ⟨N,hN,by rw[eN];exact hne⟩
  generalize Gj t _ _ _ _=r at gm;cases gm with
  |emp j hj w' e' q=>exact⟨j,w',e',hj⟩
  |cand j i hj w' e' hh q=>exact absurd hh (by lia)
 obtain⟨N,hNw,hNe,hNf⟩:=first
 have hNt:N<100000:=by
  have:turns t.mask<=2200:=by
   unfold turns;rcases T.msk with h|h|h|h|h <;> rw[h] <;> lia
  lia
 refine Af (W4 (s:={ s with toks:=s.toks+(k.length+1) }) hu hS ho rfl T Z hx N hNw hNe hNf (λhk=>?_) (λhk=>?_) 100000 0 none rfl (by lia) (by lia) λm i e hm=>by lia)
 .exact Al (h _ s.heap _ (by lia) (Qr _ _) ⟨es,ep,t,ho,Z.again hk,T,hl,hm⟩)
 .have hle:es.size<1000:=Au (Z.few hU1 hU2 hk) hU
  dsimp only;refine Af (Df (s:={ s with toks:=s.toks+(k.length+1) }) ho rfl T.fits ?_)
  obtain⟨p1,p2,p3,p4⟩:=T.put (h:=A7 (A0 prog w) k) (x:=x) hNw hNe (WQ _ _ _);generalize hj:(it t.mask N (st t.mask (A7 (A0 prog w) k))).j=j at *;have m1:(t.put j).1.mask=t.mask:=rfl;have m2:(t.put j).1.plain=true:=T.plain;have m3:(t.put j).1.led=led:=hl;generalize hp:t.put j=tp at *;obtain⟨t1,p⟩:=tp;dsimp only at p1 p2 p3 p4 m1 m2 m3 ⊢;rw[m2];simp only[Cc];refine Af (LS (s:={ s with toks:=s.toks+(k.length+1) }) hS hx ?_)
  simp only[Cc,Om,Ts];have hsz:(AN es p (A7 (A0 prog w) k,x)).size=es.size+1:=yH _ _ _;have hline:es.size+1<=sizeLine:=by rw[Dm];lia
  refine Af (HP (s:={ s with toks:=s.toks+(k.length+1) }) ho rfl ?_ (by rw[hsz];exact hline))
  have Z1:Set0 (isT prog w h0) (A7 (A0 prog w)) (AN es p (A7 (A0 prog w) k,x)) (k::seen):=by
   refine Z.push (λa b=>isT.inj a b) hx hk ?_;have:=E8 es p (A7 (A0 prog w) k,x);rw[Cy] at this;exact this
  have hm1:∀ e∈(AN es p (A7 (A0 prog w) k,x)).toList,e.2∈V:=λe he=>by
   have:=(E8 es p (A7 (A0 prog w) k,x)).mem_iff.mp he;rw[Cy] at this;rcases AX.mp this with h1|h1
   .exact hm e h1
   .simp at h1;subst h1;exact hV
  have ho1:=gK (es':=AN es p (A7 (A0 prog w) k,x)) (t':=t1) ho;have sb1:=Eg s.heap S (Sj (AN es p (A7 (A0 prog w) k,x)) t1);have hfit:t1.fits (AN es p (A7 (A0 prog w) k,x)).size=true:=by
   have h3:t1.fill=es.size+1:=by unfold Hg;rw[p1.dm,p2,hsz];rfl
   have h2:=T.few;unfold OI;rw[h3,p2,hsz,m1];rcases T.msk with h|h|h|h|h <;> rw[h] at h2 ⊢ <;> simp <;> lia
  refine eM (λhf=>?_) λhf=>?_
  .have hM1:Msk t1.mask:=by rw[m1];exact T.msk
   have h3:((AN es p (A7 (A0 prog w) k,x)).size-1)*5<t1.mask*3:=by rw[hsz,m1];exact T.few
   obtain⟨q1,t2,qN,q2,q3,q4,q5,_⟩:=gV hM1 m2 p2 (by rw[hsz];lia) (by simpa using hf) p1.dm h3 (by rw[hsz];lia)
   rw[hsz] at q1 q2;rw[XE];refine Af ?_;refine Af (Df (s:={ s with heap:=_,toks:=s.toks+(k.length+1) }) ho1 rfl hfit ?_)
   dsimp only;rw[AB (by rw[Dm];lia)]
   refine Af ?_;rw[q2];dsimp only;have hs2:(qN.filterMap λx_1=>(AN es p (A7 (A0 prog w) k,x))[x_1]?).size=es.size+1:=by rw[<- A4,q4.length_eq,A4,hsz]
   rw[AB (by rw[hs2,hsz];simp)]
   refine Al ?_;refine HP (s:={ s with heap:=_,toks:=s.toks+(k.length+1) }) ho1 rfl ?_ (by rw[hs2];exact hline)
   refine Al (h _ _ _ (Eo _ _) (sb1.trans (Eg _ S _)) ⟨_,_,t2,gK ho1,Z1.perm q4,q5,by rw[q3];exact m3,λe he=>hm1 e (q4.mem_iff.mp he)⟩)
  .refine Al (h _ _ _ (Eo _ _) sb1 ⟨_,_,t1,ho1,Z1,⟨p1,by rw[m1];exact T.msk,p2,by rw[m1];exact p3,?_,by rw[m1];exact p4,m2⟩,m3,hm1⟩)
   have h3:t1.fill=es.size+1:=by unfold Hg;rw[p1.dm,p2,hsz];rfl
   unfold Lz at hf;rw[h3] at hf;rw[hsz];simpa using hf
end
end _S
namespace _S
open PySem
open PySem.SetTable (Probe leap runEnd turns bits)
variable {seen:Aa Am}
def isI (prog:Az)(w:AL)(k:Am)(v:Ac):Prop:=(A0 prog w).is k v=true
section
variable {prog:Az}{w:AL}{A:AJ}{E:Ac->Ag->Prop}{s:Ag}{S:Ad}{led:Ap}{V:Aa Ac}
set_option tactic.hygienic true in
theorem xV {k:Am}{v:Ac}(h:isI prog w k v):∃ t,v=.int k t:=by
 cases v <;> first|(exact absurd h (by rintro⟨⟩)) | skip
 rename_i i t;refine⟨t,?_⟩;have:i=k:=(A0 prog w).inj (.int i t) i k (Sk _ _ _ _) h;rw[this]
theorem nU {es:Av (Am × Ac)}(Z:Set0 (isI prog w) (A0 prog w).hash es seen):ElemsOf (A0 prog w) es.toList:=λe he=>by
 obtain⟨k,h1,h2⟩:=Z.good e he;refine⟨⟨k,h2,h1⟩,?_⟩;obtain⟨t,q⟩:=xV h2;rw[q];rfl
theorem LO {k:Am}{x:Ac}{Q:Ap->Ag->Prop}(Z:SetK (isI prog w) (A0 prog w).hash S led V seen s.heap)(hx:isI prog w k x)(hV:x∈V){U:Aa Am}(hU:U.length<=1000)(hU1:∀ k'∈seen,k'∈U)(hU2:k∈U)
  (h:∀ (b:Ap) (h':A8) (tk:Ah),s.toks<=tk->DL S s.heap h'->SetK (isI prog w) (A0 prog w).hash S led V (k::seen) h'->Q b { s with heap:=h',toks:=tk }) : Ao (Aq prog w) A (OS S x) Q E s:=by
 obtain⟨es,ep,t,ho,Z,T,hl,hm⟩:=Z;have hsc:x.scannable=true:=by
  obtain⟨tk,q⟩:=xV hx;rw[q];rfl
 have hf:=T.fits;have hb:es.size<scanBound:=by
  have h1:=T.few;have:scanBound=4096:=rfl;rcases T.msk with h|h|h|h|h <;> rw[h] at h1 <;> lia
 unfold OS;refine Cp (Af ((A0 prog w).pyHash (k:=k) hx ?_));unfold setAddHashed setAddHashedIn;refine Cp (Af (Df (s:={ s with toks:=s.toks+1 }) ho rfl hf ?_))
 dsimp only;rw[byScan_of hsc hb (nU Z)];simp only[Cc];unfold setAddByScan;refine Af (Af (Ef (Af (wpAny_setScan_of (s:={ s with toks:=s.toks+1 }) hx ho rfl hf (nU Z) ?_))))
 cases hr:es.toList.findIdx? (λe=>(A0 prog w).is k e.2) with
 |some j =>
  dsimp only;obtain⟨hj,hpj,_⟩:=List.findIdx?_eq_some_iff_getElem.mp hr;have hk:k∈seen:=(Z.mem k).mpr ⟨es.toList[j],Lv hj,hpj⟩;exact Al (Al (h _ s.heap _ (Eo _ _) (Qr _ _) ⟨es,ep,t,ho,Z.again hk,T,hl,hm⟩))
 |none =>
  dsimp only;have hk:k ∉ seen:=λhk=>by
   obtain⟨e,he,q⟩:=(Z.mem k).mp hk;have:=List.findIdx?_eq_none_iff.mp hr e he;rw[show (A0 prog w).is k e.2=true from q] at this
   cases this
  have hle:es.size<1000:=Au (Z.few hU1 hU2 hk) hU;obtain⟨e,he,hne⟩:=T.gap;have first:∃ N,Way t (st t.mask ((A0 prog w).hash k)) N/\(it t.mask N (st t.mask ((A0 prog w).hash k))).j ∉ t.place.toList/\t.freeSlot ((A0 prog w).hash k)=Ab ((it t.mask N (st t.mask ((A0 prog w).hash k))).j,false):=by
   obtain⟨N,hN,eN⟩:=l9 T.msk ((A0 prog w).hash k) he;have gm:=jH T.tb (λ_=>(A0 prog w).hash k+1) ((A0 prog w).hash k) (10*turns t.mask) (st t.mask ((A0 prog w).hash k)) rfl ⟨N,hN,by rw[eN];exact hne⟩
   unfold SetTable.freeSlot SetTable.probe;rw[NT];generalize Gj t _ _ _ _=r at gm;cases gm with
   |emp j hj w' e' q=>exact⟨j,w',e',rfl⟩
   |cand j i hj w' e' hh q=>exact absurd hh (by lia)
  obtain⟨N,hNw,hNe,hfs⟩:=first
  obtain⟨p1,p2,p3,p4⟩:=T.put (h:=(A0 prog w).hash k) (x:=x) hNw hNe (WQ _ _ _);generalize hj:(it t.mask N (st t.mask ((A0 prog w).hash k))).j=j at *;have m1:(t.put j).1.mask=t.mask:=rfl;have m2:(t.put j).1.plain=true:=T.plain;have m3:(t.put j).1.led=led:=hl;generalize hp:t.put j=tp at *;obtain⟨t1,p⟩:=tp;dsimp only at p1 p2 p3 p4 m1 m2 m3 ⊢;have hsz:(AN es p ((A0 prog w).hash k,x)).size=es.size+1:=yH _ _ _;have hfit:t1.fits (AN es p ((A0 prog w).hash k,x)).size=true:=by
   have h3:t1.fill=es.size+1:=by unfold Hg;rw[p1.dm,p2,hsz];rfl
   have h2:=T.few;unfold OI;rw[h3,p2,hsz,m1];rcases T.msk with h|h|h|h|h <;> rw[h] at h2 ⊢ <;> simp <;> lia
  have lay:layNew t es ((A0 prog w).hash k) x=(AN es p ((A0 prog w).hash k,x),t1,false,false):=by
   unfold layNew;rw[hfs];dsimp only;rw[hp];dsimp only;unfold SetTable.orStandIn;rw[hfit];rfl
  rw[lay];dsimp only;refine Af (Al (a:=()) ?_);have hbv:Jy 8 x=pure true:=by
   rw[hashByValue_scannable 8 hsc];obtain⟨tk,q⟩:=xV hx;subst q;rfl
  rw[hbv,ite_self];refine Af (Al ?_);simp only[Cc];have hline:es.size+1<=sizeLine:=by rw[Dm];lia
  refine Af (HP (s:={ s with toks:=s.toks+1 }) ho rfl ?_ (by rw[hsz];exact hline))
  have pm:(AN es p ((A0 prog w).hash k,x)).toList.Perm (es.toList++[((A0 prog w).hash k,x)]):=by
   have:=E8 es p ((A0 prog w).hash k,x);rw[Cy] at this;exact this
  have Z1:Set0 (isI prog w) (A0 prog w).hash (AN es p ((A0 prog w).hash k,x)) (k::seen):=Z.push (λa b=>(A0 prog w).inj _ _ _ a b) hx hk pm;have hm1:∀ e∈(AN es p ((A0 prog w).hash k,x)).toList,e.2∈V:=λe he=>by
   rcases AX.mp (pm.mem_iff.mp he) with h1|h1
   .exact hm e h1
   .simp at h1;subst h1;exact hV
  have ho1:=gK (es':=AN es p ((A0 prog w).hash k,x)) (t':=t1) ho;have sb1:=Eg s.heap S (Sj (AN es p ((A0 prog w).hash k,x)) t1);refine eM (λhf=>?_) λhf=>?_
  .have hM1:Msk t1.mask:=by rw[m1];exact T.msk
   have h3:((AN es p ((A0 prog w).hash k,x)).size-1)*5<t1.mask*3:=by rw[hsz,m1];exact T.few
   obtain⟨q1,t2,qN,q2,q3,q4,q5,q6⟩:=gV hM1 m2 p2 (by rw[hsz];lia) (by simpa using hf) p1.dm h3 (by rw[hsz];lia)
   have hs2:(qN.filterMap λx_1=>(AN es p ((A0 prog w).hash k,x))[x_1]?).size=es.size+1:=by rw[<- A4,q4.length_eq,A4,hsz]
   have rl:relayAll t1 (AN es p ((A0 prog w).hash k,x)) (Ed (AN es p ((A0 prog w).hash k,x)).size)=(qN.filterMap λx_1=>(AN es p ((A0 prog w).hash k,x))[x_1]?,t2,false):=by
    unfold relayAll;rw[q2];dsimp only;have c1:coversAll qN (AN es p ((A0 prog w).hash k,x)).size=true:=by
     unfold coversAll;exact List.isPerm_iff.mpr q6
    rw[c1,q5.fits];rfl
   rw[rl];dsimp only;refine Af (Al (a:=()) ?_);refine Af (HP (s:={ s with heap:=_,toks:=s.toks+1 }) ho1 rfl ?_ (by rw[hs2];exact hline))
   exact Al (Al (h _ _ _ (Eo _ _) (sb1.trans (Eg _ S _)) ⟨_,_,t2,gK ho1,Z1.perm q4,q5,by rw[q3];exact m3,λe he=>hm1 e (q4.mem_iff.mp he)⟩))
  .refine Al (Al (h _ _ _ (Eo _ _) sb1 ⟨_,_,t1,ho1,Z1,⟨p1,by rw[m1];exact T.msk,p2,by rw[m1];exact p3,?_,by rw[m1];exact p4,m2⟩,m3,hm1⟩))
   have h3:t1.fill=es.size+1:=by unfold Hg;rw[p1.dm,p2,hsz];rfl
   unfold Lz at hf;rw[h3] at hf;rw[hsz];simpa using hf
end
end _S
namespace _S
open PySem
variable {Q:Ac->Ag->Prop}{i:Ah}
structure AddS (prog:Az)(w:AL){K:Type}(is:K->Ac->Prop)(hash:K->Am)(h0:A8):Prop where
 add:∀ {A:AJ} {E:Ac->Ag->Prop} {s:Ag} {S:Ad} {led:Ap} {V:Aa Ac} {seen U:Aa K} {k:K} {x:Ac} {Q:Ap->Ag->Prop},A.units<CZ->Sup h0 s.heap->SetK is hash S led V seen s.heap->is k x->x∈V->U.length<=1000->(∀ k'∈seen,k'∈U)->k∈U ->
  (∀ (b:Ap) (h':A8) (tk:Ah),s.toks<=tk->DL S s.heap h'->SetK is hash S led V (k::seen) h'->Q b { s with heap:=h',toks:=tk }) -> Ao (Aq prog w) A (OS S x) Q E s
theorem cF {prog:Az}{w:AL}(h0:A8):AddS prog w (isT prog w h0) (A7 (A0 prog w)) h0:=⟨λhu hS Z hx hV h1 h2 h3 h=>LP hu hS Z hx hV h1 h2 h3 h⟩
theorem JL {prog:Az}{w:AL}(h0:A8):AddS prog w (isI prog w) (A0 prog w).hash h0:=⟨λ_ _ Z hx hV h1 h2 h3 h=>LO Z hx hV h1 h2 h3 h⟩
noncomputable def xU {K:Type}(key:Ah->K):Ah->Aa K
 |0=>[]
 |i+1=>key i::xU key i
theorem vX {K:Type}{key:Ah->K}{k:K}:∀ {n:Ah},k∈xU key n↔∃ i,i<n/\key i=k
 |0=>by simp[xU]
 |n+1=>by
  rw[xU,AD,vX];constructor
  .rintro (rfl|⟨i,h,e⟩)
   .exact⟨n,by omega,rfl⟩
   .exact⟨i,by omega,e⟩
  .rintro⟨i,h,e⟩
   by_cases hi:i=n
   .subst hi;exact .inl e.symm
   .exact .inr ⟨i,by omega,e⟩
section
variable {prog:Az}{w:AL}{A:AJ}{R:OQ->Ag->Prop}{I:Ad}{fp wr:Aa Ad}{G:Av Rv->Av Rv->Prop}{n:Ah}{P:Ah->Ac->Prop}{St:Ah->Ag->Prop}
variable {K:Type}{is:K->Ac->Prop}{hash:K->Am}{h0:A8}{led:Ap}{V:Aa Ac}{U:Aa K}
theorem SetK.sup {S:Ad}{seen:Aa K}{h h':A8}(Z:SetK is hash S led V seen h)(e:∀ o,h.get? S=Ab o->h'.get? S=Ab o):SetK is hash S led V seen h':=by
 obtain⟨es,ep,t,ho,r⟩:=Z;exact⟨es,ep,t,e _ ho,r⟩
theorem rC (a:AddS prog w is hash h0)(W:WalksS prog w A.in1 I fp wr G n P St)(S:Ad)(hSf:S ∉ fp)(hu:A.in1.units<CZ)(key:Ah->K)(hkey:∀ i v,P i v->is (key i) v/\v∈V)(hU:U.length<=1000)(hUk:∀ i,i<n->key i∈U)
  (hS0:h0.get? S=none) (hw0:∀ b∈wr,h0.get? b=none):∀ (k i:Ah) (s:Ag),n-i=k->i<=n->St i s->Sup h0 s.heap->SetK is hash S led V (xU key i) s.heap ->
   (∀ s',Moved (S::wr) G s s'->SetK is hash S led V (xU key n) s'.heap->R (.ok (.ret .none)) s')->El (Aq prog w) A (.builtin "set.update.loop" ⟨[.ref S,.ref I],[]⟩) R s:=by
 have hSw:S ∉ wr:=λh=>hSf (W.sub _ h);have hsub:∀ b∈wr,b∈S::wr:=λb hb=>Bc _ hb;intro k
 induction k with
 |zero =>
  intro i s hk hi hst hS Z hR;have hin:i=n:=by omega
  subst hin;refine Ex Hq ?_;rw[EZ EA _];show Ao _ A.in1 (IN (.ref I) >>= _) _ _ s;refine Af (W.done s _ _ hst λs' hm=>?_);exact Al (hR s' (hm.mono hsub) (Z.sup λo e=>hm.heap S _ hSw e))
 |succ k ih =>
  intro i s hk hi hst hS Z hR;have hlt:i<n:=by omega
  refine Ex Hq ?_;rw[EZ EA _];show Ao _ A.in1 (IN (.ref I) >>= _) _ _ s;refine Af (W.item i s _ _ hlt hst λv s' hP hst' hm=>?_);obtain⟨q1,q2⟩:=hkey i v hP;have hS':Sup h0 s'.heap:=λb o e=>hm.heap b o (λhb=>by rw[hw0 b hb] at e;cases e) (hS b o e)
  show Ao _ A.in1 (holding [v] (OS S v) >>= _) _ _ s';refine Af (Cp (a.add hu hS' (Z.sup λo e=>hm.heap S _ hSw e) q1 q2 hU (λk' hk'=>?_) (hUk i hlt) λb h' tk htk hsb Z'=>?_))
  .obtain⟨j,hj,e⟩:=vX.mp hk'
   exact e▸hUk j (by omega)
  .refine Al ⟨Ku EA _,ih (i+1) _ (by omega) hlt (W.frame _ s' _ _ hst' htk λb hb o e=>?_) (λb o e=>?_) Z' λs'' hm'' Z''=>?_⟩
   .rw[hsb.2 b (λh:b=S=>hSf (by rw[<- h];exact hb))];exact e
   .rw[hsb.2 b (λh:b=S=>by rw[h,hS0] at e;cases e)];exact hS' b o e
   .refine hR s'' (Moved.trans W.gtrans ((hm.mono hsub).then_heap htk λb o hb e=>?_) hm'') Z''
    rw[hsb.2 b (λh:b=S=>hb (by rw[h];exact Cf))];exact e
end
section
variable {prog:Az}{w:AL}{A:AJ}{E:Ac->Ag->Prop}{s:Ag}
noncomputable def zT (w:AL):Ap:=!w.params.followText "set-order"
@[reducible] def set0 (w:AL):AV:=setO #[] 0 (.fresh 0 0 (zT w))
theorem gU (a:Ac){Q₁:Ac->Ag->Prop}(h:Q₁ (.ref s.heap.objs.size) { s with heap:=s.heap.push (set0 w) }) : El (Aq prog w) A (.call (.builtin "set.__new__") ⟨[.type "set",a],[]⟩) (wants Q₁ E) s:=by
 refine IJ ?_;show Ao _ A.in1 (do Lr "set.__new__" ⟨[.type "set",a],[]⟩;again (.builtin "set.__new__" ⟨[.type "set",a],[]⟩)) _ _ s
 refine Af (Jw (PySem.F.newCall_set_1 a) (Al ⟨Ku Nw _,Ex PySem.F.entry_set_new ?_⟩));rw[EZ Nw _];unfold EU.«set.__new__» Ta;have hsub:=PySem.sub_set_self;obtain⟨hp,g,d,tk,os⟩:=s;dsimp only
 wp_walk
 refine E7 (Al ?_);dsimp only;simp only[newObj];exact Af (Rk (Al (Al h)))
theorem kY (w:AL):TabT (.fresh 0 0 (zT w)) #[]:=⟨⟨by unfold Rs;exact HK,rfl⟩,.inl rfl,rfl,λx hx=>(by cases hx),(show 0*5<7*3 by decide),λi e h=>(by simp at h),rfl⟩
variable {K:Type}{is:K->Ac->Prop}{hash:K->Am}{U:Aa K}
theorem Q1 (a:AddS prog w is hash s.heap){l:Ad}{items:Av Ac}{Q:Ac->Ag->Prop}(hh:A.handled=none)(hu:A.units+8<CZ)(hl:s.heap.IsList l items)(key:Ah->K)(hkey:∀ i v,items[i]? = Ab v->is (key i) v)(hU:U.length<=1000)(hUk:∀ i,i<items.size->key i∈U)
  (h:∀ (h':A8) (tk:Ah),SetK is hash s.heap.objs.size (zT w) items.toList (xU key items.size) h'->(∀ b o,s.heap.get? b=Ab o->h'.get? b=Ab o)->Q (.ref s.heap.objs.size) { s with heap:=h',toks:=tk }) :
  Ao (Aq prog w) A (call (.type "set") [.ref l]) Q E s:=by
 obtain⟨c,tl,hmro⟩:=Bn.mro;have hmade:=Bn.made;have hsub:=Bn.sub;refine IW (IJ ?_);show Ao _ _ (callAny (.type "set") _) _ _ _;refine Al ⟨Jn _ (by decide +kernel),Ex Mi ?_⟩
 rw[Pd (Nx "set" [.ref l] []) rfl];have h1:=Bn.notType;have h2:=Bn.canCreate;have hct:=Ng (.ref l)
 repeat (any_goals (first|assumption|wp_step))
 refine EL (gU (.ref l) (E:=E) (Q₁:=λobj s₁=>obj=.ref s.heap.objs.size/\s₁={ s with heap:=s.heap.push (set0 w) }) ⟨rfl,rfl⟩) λr s₁ hr=>?_
 cases r with
 |error e=>exact hr
 |ok fl =>
  cases fl with
  |ret obj =>
   obtain⟨rfl,rfl⟩:=hr;have hS:(s.heap.push (set0 w)).get? s.heap.objs.size=Ab (set0 w):=AC _ rfl;have hT:Kv { s with heap:=s.heap.push (set0 w) } (.ref s.heap.objs.size) "set":=⟨_,hS,rfl⟩
   have hli:=Bn.init.lookup;have hbi:=Bn.init.bind (.ref s.heap.objs.size)
   repeat (any_goals (first|assumption|wp_step))
   refine EL (Gs (R:=wants (λr s₂=>r=.none/\∃ h' tk,s₂={ s with heap:=h',toks:=tk } /\ SetK is hash s.heap.objs.size (zT w) items.toList (xU key items.size) h'/\∀ b o,s.heap.get? b=Ab o->h'.get? b=Ab o) E) Bn.init.plain Nh (Rm hT ?_)) λr₂ s₂ hr₂=>?_
   .obtain⟨ol,hol,hcl,nl,hdl⟩:=hl
    obtain⟨ocls,odict,odata,oslots⟩:=ol;simp only at hcl hdl;subst hcl;subst hdl;have hol':(s.heap.push (set0 w)).get? l=Ab { cls:=.type "list",dict:=odict,data:=.seq items nl,slots:=oslots }:=Aj _ hol;have hsls:=PySem.F.sub_list_set;have hslf:=PySem.F.sub_list_frozenset;have hne:(Eu "list" == Eu "dict")=false:=by decide
    have hl1:(s.heap.push (set0 w)).IsList l items:=⟨_,hol',rfl,nl,rfl⟩;unfold EU.«set.__init__» noKeywords IZ;generalize hPI:IP=PI
    wp_walk
    subst hPI;refine Ew hl1 ?_;refine Af (On ?_);have hlS:l<s.heap.objs.size:=Ax hol;have hneI:l≠(s.heap.push (set0 w)).objs.size:=by
     rw[Cn];exact AS (Kx hlS)
    have nS:s.heap.get? s.heap.objs.size=none:=EY (Ay _);have nI:s.heap.get? (s.heap.push (set0 w)).objs.size=none:=EY (by rw[Cn];exact Jx _)
    refine rC (led:=zT w) (V:=items.toList) a ((Ut (A:=A.in1.in1.in1) (by simp[hh]) _ l hneI items).toS) s.heap.objs.size ?_ (by show A.units+3<CZ;omega) key (λi v hv=>⟨hkey i v hv,?_⟩) hU hUk nS (λb hb=>?_) (items.size-0) 0 _ (by omega) (Dn _)
     ⟨⟨_,AC _ rfl,rfl,rfl⟩,hl1.push _⟩ (λb o e=>Aj _ (Aj _ e)) ?_ λs' hm hS'=>?_
    .rw[Cn];simp only[AD,Bf,Cu,EO,Sz]
     exact⟨AS (Ep _),Ej hlS⟩
    .exact AM (by rw[A6];exact hv)
    .rw[Bf.mp hb];exact nI
    .exact⟨#[],0,_,Aj _ hS,Set0.nil,kY w,rfl,λe he=>by simp at he⟩
    .obtain⟨h',g',d',tk',os'⟩:=s'
     have eg:g'=s.gens:=hm.gens;have ed:d'=s.drawn:=hm.drawn;have eo:os'=s.os:=hm.os;subst eg;subst ed;subst eo;refine Al (Al ⟨rfl,h',tk',rfl,hS',λb o e=>?_⟩);refine hm.heap b o (λhb=>?_) (Aj _ (Aj _ e));rcases AD.mp hb with rfl|hb
     .rw[nS] at e;cases e
     .rw[Bf.mp hb,nI] at e;cases e
   .cases r₂ with
    |error e=>exact hr₂
    |ok fl₂ =>
     cases fl₂ with
     |ret r =>
      obtain⟨rfl,h',tk,rfl,hS',hk'⟩:=hr₂
      repeat (any_goals (first|assumption|wp_step))
      exact h _ _ hS' hk'
     |_=>exact hr₂.elim
  |_=>exact hr.elim
theorem cM (a:AddS prog w is hash s.heap){l:Ad}{items:Av Ac}{Q:Ac->Ag->Prop}(hh:A.handled=none)(hu:A.units+8<CZ)(hl:s.heap.IsTuple l items)(key:Ah->K)(hkey:∀ i v,items[i]? = Ab v->is (key i) v)(hU:U.length<=1000)(hUk:∀ i,i<items.size->key i∈U)
  (h:∀ (h':A8) (tk:Ah),SetK is hash s.heap.objs.size (zT w) items.toList (xU key items.size) h'->(∀ b o,s.heap.get? b=Ab o->h'.get? b=Ab o)->Q (.ref s.heap.objs.size) { s with heap:=h',toks:=tk }) :
  Ao (Aq prog w) A (call (.type "set") [.ref l]) Q E s:=by
 obtain⟨c,tl,hmro⟩:=Bn.mro;have hmade:=Bn.made;have hsub:=Bn.sub;refine IW (IJ ?_);show Ao _ _ (callAny (.type "set") _) _ _ _;refine Al ⟨Jn _ (by decide +kernel),Ex Mi ?_⟩
 rw[Pd (Nx "set" [.ref l] []) rfl];have h1:=Bn.notType;have h2:=Bn.canCreate;have hct:=Ng (.ref l)
 repeat (any_goals (first|assumption|wp_step))
 refine EL (gU (.ref l) (E:=E) (Q₁:=λobj s₁=>obj=.ref s.heap.objs.size/\s₁={ s with heap:=s.heap.push (set0 w) }) ⟨rfl,rfl⟩) λr s₁ hr=>?_
 cases r with
 |error e=>exact hr
 |ok fl =>
  cases fl with
  |ret obj =>
   obtain⟨rfl,rfl⟩:=hr;have hS:(s.heap.push (set0 w)).get? s.heap.objs.size=Ab (set0 w):=AC _ rfl;have hT:Kv { s with heap:=s.heap.push (set0 w) } (.ref s.heap.objs.size) "set":=⟨_,hS,rfl⟩
   have hli:=Bn.init.lookup;have hbi:=Bn.init.bind (.ref s.heap.objs.size)
   repeat (any_goals (first|assumption|wp_step))
   refine EL (Gs (R:=wants (λr s₂=>r=.none/\∃ h' tk,s₂={ s with heap:=h',toks:=tk } /\ SetK is hash s.heap.objs.size (zT w) items.toList (xU key items.size) h'/\∀ b o,s.heap.get? b=Ab o->h'.get? b=Ab o) E) Bn.init.plain Nh (Rm hT ?_)) λr₂ s₂ hr₂=>?_
   .obtain⟨ol,hol,hcl,nl,hdl⟩:=hl
    obtain⟨ocls,odict,odata,oslots⟩:=ol;simp only at hcl hdl;subst hcl;subst hdl;have hol':(s.heap.push (set0 w)).get? l=Ab { cls:=.type "tuple",dict:=odict,data:=.seq items nl,slots:=oslots }:=Aj _ hol;have hsls:=PySem.F.sub_tuple_set;have hslf:=PySem.F.sub_tuple_frozenset;have hne:(Eu "tuple" == Eu "dict")=false:=by decide
    have hl1:(s.heap.push (set0 w)).IsTuple l items:=⟨_,hol',rfl,nl,rfl⟩;unfold EU.«set.__init__» noKeywords IZ;generalize hPI:IP=PI
    wp_walk
    subst hPI;refine EF hl1 ?_;refine Af (On ?_);have hlS:l<s.heap.objs.size:=Ax hol;have hneI:l≠(s.heap.push (set0 w)).objs.size:=by
     rw[Cn];exact AS (Kx hlS)
    have nS:s.heap.get? s.heap.objs.size=none:=EY (Ay _);have nI:s.heap.get? (s.heap.push (set0 w)).objs.size=none:=EY (by rw[Cn];exact Jx _)
    refine rC (led:=zT w) (V:=items.toList) a ((Uj (A:=A.in1.in1.in1) (by simp[hh]) _ l hneI items).toS) s.heap.objs.size ?_ (by show A.units+3<CZ;omega) key (λi v hv=>⟨hkey i v hv,?_⟩) hU hUk nS (λb hb=>?_) (items.size-0) 0 _ (by omega) (Dn _)
     ⟨⟨_,AC _ rfl,rfl,rfl⟩,hl1.push _⟩ (λb o e=>Aj _ (Aj _ e)) ?_ λs' hm hS'=>?_
    .rw[Cn];simp only[AD,Bf,Cu,EO,Sz]
     exact⟨AS (Ep _),Ej hlS⟩
    .exact AM (by rw[A6];exact hv)
    .rw[Bf.mp hb];exact nI
    .exact⟨#[],0,_,Aj _ hS,Set0.nil,kY w,rfl,λe he=>by simp at he⟩
    .obtain⟨h',g',d',tk',os'⟩:=s'
     have eg:g'=s.gens:=hm.gens;have ed:d'=s.drawn:=hm.drawn;have eo:os'=s.os:=hm.os;subst eg;subst ed;subst eo;refine Al (Al ⟨rfl,h',tk',rfl,hS',λb o e=>?_⟩);refine hm.heap b o (λhb=>?_) (Aj _ (Aj _ e));rcases AD.mp hb with rfl|hb
     .rw[nS] at e;cases e
     .rw[Bf.mp hb,nI] at e;cases e
   .cases r₂ with
    |error e=>exact hr₂
    |ok fl₂ =>
     cases fl₂ with
     |ret r =>
      obtain⟨rfl,h',tk,rfl,hS',hk'⟩:=hr₂
      repeat (any_goals (first|assumption|wp_step))
      exact h _ _ hS' hk'
     |_=>exact hr₂.elim
  |_=>exact hr.elim
theorem rX (a:AddS prog w is hash s.heap){l:Ad}{items:Av Ac}{Q:Ac->Ag->Prop}(hh:A.handled=none)(hu:A.units+8<CZ)(hl:s.heap.IsList l items\/s.heap.IsTuple l items)(key:Ah->K)(hkey:∀ i v,items[i]? = Ab v->is (key i) v)(hU:U.length<=1000)(hUk:∀ i,i<items.size->key i∈U)
  (h:∀ (h':A8) (tk:Ah),SetK is hash s.heap.objs.size (zT w) items.toList (xU key items.size) h'->(∀ b o,s.heap.get? b=Ab o->h'.get? b=Ab o)->Q (.ref s.heap.objs.size) { s with heap:=h',toks:=tk }) :
  Ao (Aq prog w) A (call (.type "set") [.ref l]) Q E s:=by
 rcases hl with hl|hl
 .exact Q1 a hh hu hl key hkey hU hUk h
 .exact cM a hh hu hl key hkey hU hUk h
end
theorem pY {α:Type}:∀ {l:Aa α} {i:Ah} (h:i<l.length),(l[i]::l.eraseIdx i).Perm l
 |a::l,0,h=>by simp
 |a::l,i+1,h=>by
  rw[List.eraseIdx_cons_succ,List.getElem_cons_succ];exact(List.Perm.swap _ _ _).trans ((pY (l:=l) (i:=i) (by simpa using h)).cons a)
theorem mV {α:Type}(next:Ah->Ah):∀ (fuel k:Ah) (left:Aa α) (out:Av α),left.length=fuel->(Pq next fuel k left out).toList.Perm (out.toList++left)
 |0,k,left,out,h=>by
  have:left=[]:=IK h;subst this;unfold Pq;simp
 |fuel+1,k,left,out,h=>by
  unfold Pq;have hlt:next k % left.length<left.length:=IY _ (by omega)
  rw[As hlt];dsimp only;refine(mV next fuel (k+1) _ _ (by rw[List.length_eraseIdx,AA hlt];omega)).trans ?_
  rw[Cy,Be];refine EJ _ ?_;exact pY hlt
theorem fT {α:Type}(next:Ah->Ah)(xs:Av α) : (IL next xs).toList.Perm xs.toList:=by
 have:=mV next xs.size 0 xs.toList #[] (by simp)
 simpa [IL] using this
theorem wL:Slot "set_iterator" "__next__" "set_iterator.__next__":=
 .of (owner:="set_iterator") (n:="__next__") (by rw[RZ,Ny];kernel_rfl) (by decide +kernel) (by decide +kernel) (by decide +kernel) (.inl (by decide +kernel)) (by rw[Oo];kernel_rfl)
theorem pX:entryFor table "set_iterator.__next__" = Ab EU.«set_iterator.__next__»:=entryFor_of_fast (by kernel_rfl)
theorem m9 (a:Ac):argsOk "set_iterator.__next__" ⟨[a],[]⟩:=by unfold argsOk;kernel_rfl
theorem mZ:Slot "set_iterator" "__iter__" "set_iterator.__iter__":=
 .of (owner:="set_iterator") (n:="__iter__") (by rw[RZ,Ny];kernel_rfl) (by decide +kernel) (by decide +kernel) (by decide +kernel) (.inl (by decide +kernel)) (by rw[Oo];kernel_rfl)
theorem eF:entryFor table "set_iterator.__iter__" = Ab EU.«dict_keyiterator.__iter__»:=entryFor_alias (id':="dict_keyiterator.__iter__") (by kernel_rfl) rfl (by decide +kernel) (by kernel_rfl)
theorem cI (a:Ac):argsOk "set_iterator.__iter__" ⟨[a],[]⟩:=by unfold argsOk;kernel_rfl
theorem eE:entryFor table "set.__iter__" = Ab EU.«frozenset.__iter__»:=entryFor_alias (id':="frozenset.__iter__") (by kernel_rfl) rfl (by decide +kernel) (by kernel_rfl)
theorem VO (a:Ad)(slot given epochThen:Ah):setNext a slot given epochThen=(do
  let (es,epoch,t) <- OR a
  if <- OJ then
   if epoch != epochThen then unsupported "set_iterator.__next__:elements-changed"
   return ((<- setWalk a)[given]?).map λe=>(e.2,slot)
  if !t.plain&&es.size>1 then unsupported "set_iterator.__next__:the-table-is-plain-no-more"
  (do if !t.led&&!es.isEmpty then unsupported "set:maker-not-led")
  return match es[AU t.place slot]?,t.place[AU t.place slot]? with
   |some (_,x),Ab j=>Ab (x,j+1)
   |_,_=>none):=rfl
theorem J3 (a:Ad):setWalk a=(do
  let (es,epoch,t) <- OR a
  if <- OJ then return IL ((<- ask).params.setOrder a epoch) es
  if !t.plain&&es.size>1 then return (<- drawOrder es.size es.toList).toArray
  (do if !t.led&&es.size>1 then unsupported "set:maker-not-led")
  return es):=rfl
theorem QQ (a:Ad):setDrawn a=(do
  let (es,_,t) <- OR a
  let byText <- OJ
  return !byText&&(!t.plain&&es.size>1)):=rfl
structure Still (w:AL)(S:Ad)(es:Av (Am × Ac))(ep:Ah)(t:CK):Prop where
 tab:TabT t es
 led:t.led=zT w
def qN (w:AL)(S:Ad)(ep:Ah)(es:Av (Am × Ac)):Av (Am × Ac):=if w.params.followText "set-order" = true then IL (w.params.setOrder S ep) es else es
theorem bK (w:AL)(S:Ad)(ep:Ah)(es:Av (Am × Ac)):(qN w S ep es).toList.Perm es.toList:=by
 unfold qN
 split
 .exact fT _ _
 .exact HH _
theorem yS (w:AL)(S:Ad)(ep:Ah)(es:Av (Am × Ac)):(qN w S ep es).size=es.size:=by
 rw[<- A4,(bK w S ep es).length_eq,A4]
noncomputable def itO (slot i:Ah)(S:Ad)(n ep:Ah):AV:={ cls:=.type "set_iterator",data:=.fields #[.int slot 0,.int i 0,.ref S,.int n 0,.int ep 0] }
def At (w:AL)(I S:Ad)(es:Av (Am × Ac))(ep:Ah)(t:CK)(i:Ah)(h:A8):Prop:=
 ∃ slot,h.get? I=Ab (itO slot i S es.size ep)/\h.get? S=Ab (setO es ep t)/\(w.params.followText "set-order" = true\/AU t.place slot=i)
section
variable {prog:Az}{w:AL}{A:AJ}{E:Ac->Ag->Prop}{s:Ag}{S I:Ad}{es:Av (Am × Ac)}{ep:Ah}{t:CK}
theorem c5 {slot:Ah}{Q:Ak (Ac × Ah)->Ag->Prop}(Z:Still w S es ep t)(ho:s.heap.get? S=Ab (setO es ep t))(hs:w.params.followText "set-order" = true\/AU t.place slot=i)
  (h1:∀ e slot',(qN w S ep es)[i]? = Ab e->(w.params.followText "set-order" = true\/AU t.place slot'=i+1)->Q (Ab (e.2,slot')) s) (h2:(qN w S ep es)[i]? = none->Q none s):Ao (Aq prog w) A (setNext S slot i ep) Q E s:=by
 rw[VO];refine Af (Df ho rfl Z.tab.fits ?_);dsimp only;refine Af (Af (E7 (Al ?_)));cases hf:w.params.followText "set-order" with
 |true =>
  show Ao _ _ (if (w.params.followText "set-order")=true then _ else _) _ _ _
  rw[AA hf];have hb:(ep != ep)=false:=by simp
  rw[hb];simp only[AI,Ci];refine Af ?_;rw[J3];refine Af (Df ho rfl Z.tab.fits ?_);dsimp only;refine Af (Af (E7 (Al ?_)));show Ao _ _ (if (w.params.followText "set-order")=true then _ else _) _ _ _
  rw[AA hf];refine Af (E7 (Al (Al ?_)));show Q (((IL (w.params.setOrder S ep) es)[i]?).map λe=>(e.2,slot)) s;have ho':qN w S ep es=IL (w.params.setOrder S ep) es:=by unfold qN;rw[AA hf]
  rw[ho'] at h1 h2;cases hx:(IL (w.params.setOrder S ep) es)[i]? with
  |none=>exact h2 hx
  |some e=>exact h1 e slot hx (.inl hf)
 |false =>
  show Ao _ _ (if (w.params.followText "set-order")=true then _ else _) _ _ _
  rw[AB (by rw[hf];decide),Z.tab.plain,Z.led]
  unfold zT;rw[hf];simp only[Gc,Jb,AI,Ci,Om];have hb:AU t.place slot=i:=by
   rcases hs with h|h
   .rw[hf] at h;cases h
   .exact h
  rw[hb];have ho':qN w S ep es=es:=by unfold qN;rw[AB (by rw[hf];decide)]
  rw[ho'] at h1 h2;refine Al ?_;cases hx:es[i]? with
  |none=>exact h2 hx
  |some e =>
   have hi:i<t.place.size:=by rw[Z.tab.size];exact(Bx.mp hx).1
   have hp:t.place[i]? = Ab t.place[i]:=Ce hi;rw[hp];exact h1 e _ hx (.inr (rV Z.tab.tb.rs hp))
theorem At.type (h:At w I S es ep t i s.heap):s.TypeIs (.ref I) "set_iterator":=by
 obtain⟨slot,h,_⟩:=h;exact⟨_,h,rfl⟩
theorem mT (Z:Still w S es ep t)(hI:At w I S es ep t i s.heap)
  (h1:∀ e slot' slot,(qN w S ep es)[i]? = Ab e->s.heap.get? I=Ab (itO slot i S es.size ep)->s.heap.get? S=Ab (setO es ep t)->(w.params.followText "set-order" = true\/AU t.place slot'=i+1) ->
   Q e.2 { s with heap:=(s.heap.update I (OK (·.setIfInBounds 0 (Eb slot')))).update I (OK (·.setIfInBounds 1 (Eb ((i:Am)+1)))) })
  (h2:(qN w S ep es)[i]? = none->Ao (Aq prog w) A (do setField (.ref I) 2 .none;raiseNew (<- newExc (.type "StopIteration") [])) (λ(fin:Va) s'=>∃ r,fin=.done (.ret r)/\Q r s') E s) :
  Ao (Aq prog w) A (EU.«set_iterator.__next__» ⟨[.ref I],[]⟩) (λfin s'=>∃ r,fin=.done (.ret r)/\Q r s') E s:=by
 obtain⟨slot,hg,hS,hb⟩:=hI;show Ao _ _ (fieldsOf (.ref I) >>= _) _ _ s;refine Af (wpAny_fieldsOf hg rfl ?_);show Ao _ _ (setEntries S >>= _) _ _ s;refine Af (OL hS rfl Z.tab.fits ?_);have hne:(((es.size:Ah):Am) != ((es.size:Ah):Am))=false:=by simp
 rw[hne];simp only[AI,Ci];show Ao _ _ (setNext S (slot:Am).toNat (i:Am).toNat (ep:Am).toNat >>= _) _ _ s;rw[Ee,Ee,Ee];refine Af (c5 Z hS hb (λe slot' he hb'=>?_) λhe=>?_)
 .dsimp only
  refine Af (HF hg rfl (by show 0<5;decide) ?_)
  have hg2:=Dd (OK (·.setIfInBounds 0 (Eb slot'))) hg rfl
  refine Af (HF hg2 rfl (by show 1<5;decide) ?_)
  exact Al ⟨_,rfl,h1 e slot' slot he hg hS hb'⟩
 .exact h2 he
theorem J2 (hh:A.handled=none)(hne:S≠I)(Z:Still w S es ep t):Walks prog w A I [I,S] [I] es.size (λi v=>∃ e,(qN w S ep es)[i]? = Ab e/\e.2=v) (λi h=>At w I S es ep t i h) where
 sub:=λb hb=>by simp at hb;simp[hb]
 frame:=λi h h' ⟨slot,h1,h2,h3⟩ hk=>⟨slot,hk I (by simp) _ h1,hk S (by simp) _ h2,h3⟩
 item:=λi s Q E hi st hQ=>by
  unfold IN;refine Af (Gb (CQ (name:=Fk "__next__") st.type wL (CP wL st.type pX (mT Z st (λe slot' slot he hg hS hb=>?_) λhe=>?_) (m9 _))))
  .refine Al (hQ e.2 _ s.toks ⟨e,he,rfl⟩ ⟨slot',?_,?_,hb⟩ λb o hb e=>?_)
   .exact Dd _ (Dd _ hg rfl) rfl
   .rw[Bv _ _ hne.symm,Bv _ _ hne.symm];exact hS
   .have hb:I≠b:=λz=>hb (by simp[z])
    rw[Bv _ _ hb,Bv _ _ hb];exact e
  .have:=Array.getElem?_eq_none_iff.mp he
   rw[yS] at this;omega
 done:=λs Q E st hQ=>by
  unfold IN;refine Af (Gb (CQ (name:=Fk "__next__") st.type wL (CP wL st.type pX (mT Z st (λe slot' slot he hg hS hb=>?_) λhe=>?_) (m9 _))))
  .have:=(Bx.mp he).1
   rw[yS] at this;omega
  .obtain⟨slot,hg,hS,hb⟩:=st
   refine Af (HF hg rfl (by show 2<5;decide) ?_)
   refine Af ?_;simp only[newExc,newTuple];refine Af (CG ?_ (by size_fits))
   refine Af (m:=Jf _ _) (Jw (a:=Bj) (by first|rfl|(simp only[Jf];rfl)) ?_)
   refine CG ?_ (by size_fits)
   simp only[raiseNew];refine Af (wpAny_handled ?_);rw[show A.in1.handled=none from hh]
   refine Af (Al (wpAny_throw ?_));refine Af (Ly (T:="StopIteration") (b:=true) ⟨_,AC _ rfl,rfl⟩ isSubtype_stop ?_);refine Al (hQ _ s.toks λb o hb e=>?_);exact(((Eg ..).extBut.push _).push _) b o (λz=>hb (by simp[z])) e
 self:=λi s Q E st hQ=>by
  refine Qs st.type mZ (CP mZ st.type eF ?_ (cI _));show Ao _ _ (ret (.ref I)) _ _ s;exact Al ⟨_,rfl,"set_iterator",_,st.type,wL.lookup,hQ⟩
theorem ZD (Z:Still w S es ep t)(ho:s.heap.get? S=Ab (setO es ep t))(h:Q (.ref s.heap.objs.size) { s with heap:=s.heap.push (itO 0 0 S es.size ep) }) : Ao (Aq prog w) A (IP (.ref S)) Q E s:=by
 have hT:s.TypeIs (.ref S) "set":=⟨_,ho,rfl⟩;refine Qs hT Nz (CP Nz hT eE ?_ (PySem.F.args_set_iter_1 _));show Ao _ _ (Li S >>= _) _ _ s;unfold Li;refine Af (Af (OL ho rfl Z.tab.fits (Al ?_)));refine Af ?_;rw[QQ];refine Af (Df ho rfl Z.tab.fits ?_);dsimp only;refine Af (Af (E7 (Al (Al ?_))));rw[Z.tab.plain];simp only[Gc,Jb,Og,AI,Ci];refine Af (Al ?_);unfold setEpoch;refine Af (Af (Df ho rfl Z.tab.fits (Al ?_)));refine Af (CG (Al ⟨_,rfl,"set_iterator",_,⟨_,AC _ rfl,rfl⟩,wL.lookup,h⟩))
theorem WX (Z:Still w S es ep t)(ho:s.heap.get? S=Ab (setO es ep t)):At w s.heap.objs.size S es ep t 0 (s.heap.push (itO 0 0 S es.size ep)):=
 ⟨0,AC _ rfl,Aj _ ho,.inr (rW Z.tab.tb.rs)⟩
end
end _S
namespace _S
open PySem PySem.W PyProof.Rows
variable {vs:Aa Ac}{n lo:Ah}{arr m:Av AE}
structure Ord {K:Type}(lt:K->K->Ap):Prop where
 irr:∀ a,lt a a=false
 tr:∀ {a b c},lt a b=true->lt b c=true->lt a c=true
 tri:∀ {a b},lt a b=false->a=b\/lt b a=true
noncomputable def ltI (a b:Am):Ap:=decide (a<b)
theorem DM:Ord ltI:=⟨λa=>by simp[ltI],λ{a b c} h1 h2=>by simp only[ltI,AY] at *;omega,λ{a b} h=>by simp only[ltI,AY,E2] at *;omega⟩
theorem sJ:∀ a:Aa Am,_H.lexLt a a=false
 |[]=>rfl
 |x::xs=>by rw[_H.lexLt_cons,AA rfl];exact sJ xs
theorem aZ:∀ {a b c:Aa Am},_H.lexLt a b=true->_H.lexLt b c=true->_H.lexLt a c=true
 |_,[],[],_,h=>by cases h
 |_,_::_,[],_,h=>by cases h
 |[],_,_::_,_,_=>rfl
 |_::_,[],_::_,h,_=>by cases h
 |x::xs,y::ys,z::zs,h1,h2=>by
  rw[_H.lexLt_cons] at h1 h2 ⊢;by_cases e1:x=y
  .subst e1
   rw[AA rfl] at h1;by_cases e2:x=z
   .rw[AA e2] at h2 ⊢;exact aZ h1 h2
   .rw[AB e2] at h2 ⊢;exact h2
  .rw[AB e1] at h1
   have h1:=AZ h1;by_cases e2:y=z
   .subst e2;rw[AB e1];exact CC h1
   .rw[AB e2] at h2
    have h2:=AZ h2;rw[AB (by omega)]
    exact CC (by omega)
theorem sL:∀ {a b:Aa Am},_H.lexLt a b=false->a=b\/_H.lexLt b a=true
 |[],[],_=>.inl rfl
 |[],_::_,h=>by cases h
 |_::_,[],_=>.inr rfl
 |x::xs,y::ys,h=>by
  rw[_H.lexLt_cons] at h ⊢;by_cases e:x=y
  .subst e
   rw[AA rfl] at h ⊢;rcases sL h with h|h
   .exact .inl (by rw[h])
   .exact .inr h
  .rw[AB e] at h
   have h:=Pe h;rw[AB (Dw e)];exact .inr (CC (by omega))
theorem uD:Ord _H.lexLt:=⟨sJ,aZ,sL⟩
theorem mI {α:Type}{p q:α->Ap}:∀ {l:Aa α},(∀ x∈l,p x=true->q x=true)->(∃ x∈l,q x=true/\p x=false)->l.countP p<l.countP q
 |[],_,⟨x,h,_⟩=>by simp at h
 |a::l,h,⟨x,hx,h1,h2⟩=>by
  have le:l.countP p<=l.countP q:=NE λy hy=>h y (by simp[hy])
  rw[Ro,Ro];rcases AD.mp hx with rfl|hx
  .rw[AB (by rw[h2];decide),AA h1];omega
  .have ih:=mI (l:=l) (λy hy=>h y (by simp[hy])) ⟨x,hx,h1,h2⟩
   have:=h a (by simp)
   cases hp:p a with
   |false=>rw[AB (by decide)];split <;> omega
   |true=>rw[AA rfl,AA (this hp)];omega
section
variable {K:Type}{lt':K->K->Ap}
noncomputable def jS (lt':K->K->Ap)(ks:Aa K)(x:K):Am:=(ks.countP (λk=>lt' k x):Ah)
theorem lN (O:Ord lt'){ks:Aa K}{x y:K}(hx:x∈ks):lt' x y=decide (jS lt' ks x<jS lt' ks y):=by
 unfold jS;cases h:lt' x y with
 |true =>
  refine(CC ?_).symm;have:=mI (l:=ks) (p:=λk=>lt' k x) (q:=λk=>lt' k y) (λz _ hz=>O.tr hz h) ⟨x,hx,h,O.irr x⟩;omega
 |false =>
  refine(Cq ?_).symm;have:ks.countP (λk=>lt' k y)<=ks.countP (λk=>lt' k x):=by
   rcases O.tri h with e|h'
   .rw[e];exact Ay _
   .exact NE λz _ hz=>O.tr hz h'
  omega
noncomputable def tZ (lt':K->K->Ap)(ks:Aa K)(d:K)(i j:Ah):Ap:=lt' (ks.getD i d) (ks.getD j d)
def Nf (lt':K->K->Ap)(l:Aa K):Prop:=l.Pairwise λa b=>lt' b a=false
theorem iA (O:Ord lt'){l:Aa K}(h:Nf lt' l)(nd:l.Nodup):l.Pairwise λa b=>lt' a b=true:=by
 refine Uy (λ{a b} h1 h2=>?_) h nd;exact(O.tri h1).elim (λe=>absurd e.symm h2) id
noncomputable def vA (lt':K->K->Ap)(x:K):Aa K->Aa K
 |[]=>[x]
 |y::l=>if lt' x y then x::y::l else if lt' y x then y::vA lt' x l else y::l
noncomputable def srt (lt':K->K->Ap):Aa K->Aa K
 |[]=>[]
 |x::xs=>vA lt' x (srt lt' xs)
set_option tactic.hygienic true in
theorem pE (O:Ord lt')(x y:K):∀ l:Aa K,y∈vA lt' x l↔y=x\/y∈l
 |[]=>by simp[vA]
 |z::l=>by
  unfold vA
  split
  .simp
  .rename_i h1
   split
   .rw[AD,pE O x y l,AD]
    exact⟨λh=>by rcases h with h|h|h <;> simp[h],λh=>by rcases h with h|h|h <;> simp[h]⟩
   .rename_i h2
    have:x=z:=(O.tri (by simpa using h1)).elim id λh=>absurd h h2
    subst this;simp
set_option tactic.hygienic true in
theorem sD (O:Ord lt')(x:K):∀ l:Aa K,l.Pairwise (λa b=>lt' a b=true)->(vA lt' x l).Pairwise (λa b=>lt' a b=true)
 |[],_=>by simp[vA]
 |z::l,h=>by
  rw[Cg] at h;unfold vA
  split
  .rename_i h1
   refine Cg.mpr ⟨λy hy=>?_,Cg.mpr h⟩;rcases AD.mp hy with rfl|hy
   .exact h1
   .exact O.tr h1 (h.1 y hy)
  .split
   .rename_i h2
    refine Cg.mpr ⟨λy hy=>?_,sD O x l h.2⟩;rcases (pE O x y l).mp hy with rfl|hy
    .exact h2
    .exact h.1 y hy
   .exact Cg.mpr h
theorem zR (O:Ord lt')(y:K):∀ l:Aa K,y∈srt lt' l↔y∈l
 |[]=>by simp[srt]
 |x::l=>by rw[srt,pE O,zR O y l,AD]
theorem y6 (O:Ord lt'):∀ l:Aa K,(srt lt' l).Pairwise (λa b=>lt' a b=true)
 |[]=>by simp[srt]
 |x::l=>sD O x _ (y6 O l)
theorem uY (O:Ord lt'):∀ {a b:Aa K},a.Pairwise (λa b=>lt' a b=true)->b.Pairwise (λa b=>lt' a b=true)->(∀ x,x∈a↔x∈b)->a=b
 |[],[],_,_,_=>rfl
 |[],y::b,_,_,h=>by have:=(h y).mpr (by simp);simp at this
 |x::a,[],_,_,h=>by have:=(h x).mp (by simp);simp at this
 |x::a,y::b,ha,hb,h=>by
  rw[Cg] at ha hb;have asym:∀ {u v},lt' u v=true->lt' v u=true->CA:=λp q=>by have:=O.tr p q;rw[O.irr] at this;cases this
  have e:x=y:=by
   rcases AD.mp ((h x).mp (by simp)) with e|e
   .exact e
   .rcases AD.mp ((h y).mpr (by simp)) with e'|e'
    .exact e'.symm
    .exact(asym (hb.1 x e) (ha.1 y e')).elim
  subst e;have ne:∀ {z:K} {l:Aa K},(∀ y∈l,lt' x y=true)->z∈l->z≠x:=λh hz e=>by subst e;have:=h _ hz;rw[O.irr] at this;cases this
  rw[uY O ha.2 hb.2 λz=>⟨λhz=>?_,λhz=>?_⟩]
  .exact(AD.mp ((h z).mp (by simp[hz]))).elim (λe=>absurd e (ne ha.1 hz)) id
  .exact(AD.mp ((h z).mpr (by simp[hz]))).elim (λe=>absurd e (ne hb.1 hz)) id
theorem PL (O:Ord lt'){l xs:Aa K}(h:Nf lt' l)(nd:l.Nodup)(m:∀ x,x∈l↔x∈xs):l=srt lt' xs:=
 uY O (iA O h nd) (y6 O xs) λx=>by rw[m,zR O]
end
theorem VI:Sf (.type "set") "__len__" = pure (Ab (.builtin "set.__len__")):=PySem.F.slot_set_len.lookup
section
variable {prog:Az}{w:AL}{A:AJ}{E:Ac->Ag->Prop}{s:Ag}{S:Ad}{es:Av (Am × Ac)}{ep:Ah}{t:CK}
theorem Z8 {r:Ad}(hT:s.TypeIs (.ref r) "set"){Q:Ap->Ag->Prop}(h:Q false s):Ao (Aq prog w) A (Jh (.ref r)) Q E s:=by
 unfold Jh;refine Af (Mw hT VI ?_);generalize hid:("set.__len__" : Bp)=id0
 wp_delta
 rw[show splitId id0=Ab ("set","__len__") from by subst hid;decide +kernel]
 subst hid;refine Af (Ly (T:="set") (b:=true) hT (by rw[Oo];kernel_rfl) ?_)
 refine Ni (λhab=>absurd hab (by decide)) (λ_=>?_)
 refine Ni (λ_=>?_) (λhab=>absurd (by decide +kernel) hab)
 exact Af (H8 hT (Al h))
theorem d6 {Q:Aa Ac->Ag->Prop}(hh:A.handled=none)(Z:Still w S es ep t)(ho:s.heap.get? S=Ab (setO es ep t))(hn:es.size<=1000)
  (h:∀ h' tk,(∀ b o,s.heap.get? b=Ab o->h'.get? b=Ab o)->s.heap.objs.size<h'.objs.size->Q ((qN w S ep es).toList.map (·.2)) { s with heap:=h',toks:=tk }) : Ao (Aq prog w) A (collect (.ref S)) Q E s:=by
 have hS:S<s.heap.objs.size:=Ax ho;unfold collect;refine Af (On (Ex PySem.F.entry_proto_collect ?_));rw[EZ PySem.F.plain_proto_collect _];show Ao _ A.in1 (newList [] >>= λl=>again (.builtin "list.__iadd__" ⟨[l,.ref S],[]⟩)) _ _ s;refine Af (CG (Al ⟨Ku Mj _,Ex PySem.F.entry_list_iadd ?_⟩));rw[EZ Mj _];have hD:(s.heap.push { cls:=.type "list",data:=.seq ([] : Aa Ac).toArray }).get? s.heap.objs.size=Ab { cls:=.type "list",data:=.seq #[] }:=AC _ rfl;have ho1:(s.heap.push { cls:=.type "list",data:=.seq ([] : Aa Ac).toArray }).get? S=Ab (setO es ep t):=Aj _ ho;show Ao _ A.in1 (Ji (.ref s.heap.objs.size) (.ref S) (.ref s.heap.objs.size)) _ _ _;unfold Ji;have hT1:Kv { s with heap:=s.heap.push { cls:=.type "list",data:=.seq ([] : Aa Ac).toArray } } (.ref S) "set":=⟨_,ho1,rfl⟩
 refine Af (H8 hT1 ?_);have h1:Lj (.ref s.heap.objs.size) (.ref S)=false:=by simp[Lj];exact Ej hS
 rw[AB (by rw[h1];decide)]
 refine Af (ZD (s:={ s with heap:=s.heap.push { cls:=.type "list",data:=.seq ([] : Aa Ac).toArray } }) Z ho1 ?_)
 have hD2:=Aj (itO 0 0 S es.size ep) hD;have hT2:Kv { s with heap:=(s.heap.push { cls:=.type "list",data:=.seq ([] : Aa Ac).toArray }).push (itO 0 0 S es.size ep) } (.ref S) "set":=⟨_,Aj _ ho1,rfl⟩
 refine Af (Cp (Z8 hT2 ?_));refine Ni (λ_=>?_) (λhab=>absurd (by decide) hab)
 refine Af (Ef (Af ?_));show Ao _ _ (updateSeq s.heap.objs.size (·.push .none) >>= λ_=>updateSeq s.heap.objs.size (·.pop)) _ _ _
 refine Af (Sa hD2 rfl ?_);have hD3:=Dd (CT (·.push Bj)) hD2 rfl
 refine Sa (hz:=by seq_fits) hD3 rfl ?_
 have hD4:=Dd (CT (·.pop)) hD3 rfl
 have sz:(s.heap.push { cls:=.type "list",data:=.seq ([] : Aa Ac).toArray }).objs.size=s.heap.objs.size+1:=Cn ..;have oth:∀ {b:Ad} {o:AV},b≠s.heap.objs.size->((s.heap.push { cls:=.type "list",data:=.seq ([] : Aa Ac).toArray }).push (itO 0 0 S es.size ep)).get? b=Ab o ->
   ((((s.heap.push { cls:=.type "list",data:=.seq ([] : Aa Ac).toArray }).push (itO 0 0 S es.size ep)).update s.heap.objs.size (CT (·.push Bj))).update s.heap.objs.size (CT (·.pop))).get? b=Ab o:=
  λhb e=>(Bv _ _ (Dw hb)).trans ((Bv _ _ (Dw hb)).trans e)
 have at0:=WX (w:=w) (s:={ s with heap:=s.heap.push { cls:=.type "list",data:=.seq ([] : Aa Ac).toArray } }) Z ho1
 refine Al ⟨Ku PySem.F.plain_extend_loop _,?_⟩;refine codeAny_extend_loopS ((J2 (prog:=prog) (A:=A.in1) (I:=(s.heap.push { cls:=.type "list",data:=.seq ([] : Aa Ac).toArray }).objs.size) hh (by rw[sz];exact AS (Kx hS)) Z).toS) (by rw[Dm];lia) s.heap.objs.size ?_ _ es.size 0 _ #[] _ rfl (Dn _) ?_ hD4 (ItemsOf.nil _) λs' acc c hm hS' hacc=>?_
 .rw[sz]
  simp only[AD,Cu,EO,Sz];exact⟨AS (Ep _),Ej hS⟩
 .obtain⟨slot,a1,a2,a3⟩:=at0
  exact⟨slot,oth (by rw[sz];exact Ej (Ep _)) a1,oth (AS hS) a2,a3⟩
 .show Ao _ A (load s.heap.objs.size >>= _) _ _ s'
  refine Af (wpAny_load hS' ?_);obtain⟨h',g',d',tk',os'⟩:=s';have eg:g'=s.gens:=hm.gens;have ed:d'=s.drawn:=hm.drawn;have eo:os'=s.os:=hm.os;subst eg;subst ed;subst eo;have e:acc.toList=(qN w S ep es).toList.map (·.2):=by
   refine Qt λi=>?_;rw[A6,Br,A6];by_cases hi:i<es.size
   .have hi':i<acc.size:=by rw[hacc.1];exact hi
    obtain⟨e,he,q⟩:=hacc.2 i acc[i] (Ce hi');rw[Ce hi',he,RY,q]
   .rw[Nj (by rw[hacc.1];lia),Nj (by rw[yS];lia)]
    rfl
  refine Al ?_;show Q acc.toList _;rw[e];refine h h' tk' (λb o q=>?_) (Ax hS');have hb:b<s.heap.objs.size:=Ax q;refine hm.heap b o (λhx=>?_) (oth (AS hb) (Aj _ (Aj _ q)));simp only[AD,Cu,EO] at hx;rcases hx with hx|hx
  .exact absurd hb (by rw[hx];exact CU _)
  .exact absurd hb (by rw[hx,sz];exact HT.mpr (Jx _))
end
noncomputable def fH:Ap->AE->Av AE->Ah->Ah->Ah->Ih Dg Gf (Ak Ah):=sortPriv% PySem.Builtin.gallop
noncomputable def ZS:Av AE->Av AE->Ih Dg Gf (Av AE):=sortPriv% PySem.Builtin.mergeLo
noncomputable def ZR:Av AE->Av AE->Ih Dg Gf (Av AE):=sortPriv% PySem.Builtin.mergeHi
noncomputable def nv:AE:=(Bj,Bj)
section
variable {M:Gg}{A:AJ}{E:Ac->Ag->Prop}{s:Ag}{κ : Hr}{U:AE->Prop}{r:AE->Am}
structure Cm (M:Gg)(A:AJ)(s:Ag)(κ : Hr)(U:AE->Prop)(r:AE->Am):Prop where
 lt:∀ {x y:AE},U x->U y->∀ {E:Ac->Ag->Prop} {Q:Ak Ap->Dg->Prop} {st:Dg},kindOf st=κ->Q (Ab (decide (r x<r y))) st->wpS M A E s (lt' x y) Q st
theorem z0 {i:Ah}{Q:AE->Dg->Prop}{st:Dg}(h:i<arr.size)(q:Q (arr.getD i nv) st):wpS M A E s (elem' arr i) Q st:=by
 rw[elem'_eq,getElem?_pos arr i h];have e:arr.getD i nv=arr[i]:=by simp[Ds,h]
 rw[e] at q;exact A9 q
theorem cC (C:Cm M A s κ U r){left:Ap}{key:AE}{arr:Av AE}{i:Ah}{Q:Ak Ap->Dg->Prop}{st:Dg}(hk:kindOf st=κ)(hi:i<arr.size)(hU:U (arr.getD i nv))(hkU:U key)
  (q:Q (Ab (if left then decide (r (arr.getD i nv)<r key) else !decide (r key<r (arr.getD i nv)))) st) :
  wpS M A E s (do let x <- elem' arr i;if left then lt' x key else (do let a <- lt' key x;pure (a.map (λb=>!b)))) Q st:=by
 refine Aw (z0 hi ?_);cases left with
 |true=>exact C.lt hU hkU hk q
 |false=>exact Aw (C.lt hkU hU hk (A9 q))
theorem bT (C:Cm M A s κ U r){left:Ap}{key:AE}{arr:Av AE}{base n hint cut:Ah}{Q:Ak Ah->Dg->Prop}{st:Dg}(hk:kindOf st=κ)(hh:hint<n)(hb:base+n<=arr.size)(hU:∀ i,i<n->U (arr.getD (base+i) nv))(hkU:U key)(hc:cut<=n)
  (hB:∀ i,i<n->(if left then decide (r (arr.getD (base+i) nv)<r key) else !decide (r key<r (arr.getD (base+i) nv)))=decide (i<cut)) (h:Q (Ab cut) st):wpS M A E s (fH left key arr base n hint) Q st:=by
 have B:∀ {i:Ah} {E:Ac->Ag->Prop} {Q:Ak Ap->Dg->Prop},i<n->Q (Ab (decide (i<cut))) st->wpS M A E s (do let x <- elem' arr (base+i);if left then lt' x key else (do let a <- lt' key x;pure (a.map (λb=>!b)))) Q st:=by
  intro i E Q hi q;exact cC C hk (by lia) (hU i hi) hkU (by rw[hB i hi];exact q)
 have bin:∀ {lo hi:Ah} {f:Ah->Ak (Ak Ah) × Ah × Ah->Ih Dg Gf (ForInStep (Ak (Ak Ah) × Ah × Ah))},lo<=cut->cut<=hi->hi<=n ->
   (∀ x a b,f x (none,a,b)=if a>=b then pure (.done (none,a,b)) else ((do let x <- elem' arr (base+(a+(b-a)/2));if left then lt' x key else (do let a <- lt' key x;pure (a.map (λb=>!b)))) >>= λo=>match o with
    |some more=>if more then pure (.yield (none,a+(b-a)/2+1,b)) else pure (.yield (none,a,a+(b-a)/2))
    |_=>pure (.done (Ab none,a,b))))->wpS M A E s (forIn [0:n] (none,lo,hi) f) (λc st'=>st'=st/\∃ a,c=(none,a,cut)) st:=by
  intro lo hi f h1 h2 h3 hf;refine CS (I:=λx c st'=>st'=st/\∃ a b,c=(none,a,b)/\a<=cut/\cut<=b/\b<=n/\b-a<=n-x) ?_ ?_ ⟨rfl,lo,hi,rfl,h1,h2,h3,by lia⟩
  .rintro x c st' _ hx ⟨rfl,a,b,rfl,q1,q2,q3,q4⟩
   rw[hf];by_cases g:a>=b
   .rw[AA g];exact A9 ⟨rfl,a,by rw[show b=cut by lia]⟩
   .rw[AB g]
    refine Aw (B (by lia) ?_)
    by_cases z:a+(b-a)/2<cut
    .simp only[z,Fj,Cc]
     exact A9 ⟨rfl,_,_,rfl,by lia,q2,q3,by lia⟩
    .simp only[z,Fl,AI,Ci]
     exact A9 ⟨rfl,_,_,rfl,q1,by lia,by lia,by lia⟩
  .rintro c st' ⟨rfl,a,b,rfl,q1,q2,q3,q4⟩
   exact⟨rfl,a,by rw[show b=cut by lia]⟩
 refine Aw (B hh ?_);dsimp only;by_cases hr:hint<cut
 .simp only[hr,Fj,Cc]
  refine Aw (Eh (CS (I:=λx c st'=>st'=st/\∃ a b,c=(none,a,b)/\hint+a<cut/\a<b/\x<b)
   (Q:=λc st'=>st'=st/\∃ a b,c=(none,a,b)/\hint+a<cut/\cut<=hint+min b (n-hint)) ?_ ?_ ⟨rfl,0,1,rfl,hr,by lia,by lia⟩) ?_)
  .rintro x c st' _ hx ⟨rfl,a,b,rfl,q1,q2,q3⟩
   dsimp only;by_cases g:b>=n-hint
   .rw[AA g];exact A9 ⟨rfl,a,b,rfl,q1,by lia⟩
   .rw[AB g]
    refine Aw (B (by lia) ?_)
    by_cases z:hint+b<cut
    .simp only[z,Fj,Gc,AI,Ci]
     exact A9 ⟨rfl,_,_,rfl,z,by lia,by lia⟩
    .simp only[z,Fl,Om,Cc]
     exact A9 ⟨rfl,a,b,rfl,q1,by lia⟩
  .rintro c st' ⟨rfl,a,b,rfl,q1,q2,q3⟩
   exact⟨rfl,a,b,rfl,q1,by lia⟩
  .rintro c st' ⟨rfl,a,b,rfl,q1,q2⟩
   dsimp only;refine Aw (Eh (bin (lo:=hint+a+1) (hi:=hint+min b (n-hint)) (by lia) q2 (by lia) λ_ _ _=>rfl) ?_)
   rintro c st' ⟨rfl,a',rfl⟩;exact A9 h
 .simp only[hr,Fl,AI,Ci]
  refine Aw (Eh (CS (I:=λx c st'=>st'=st/\∃ a b,c=(none,a,b)/\cut+a<=hint/\a<b/\x<b)
   (Q:=λc st'=>st'=st/\∃ a b,c=(none,a,b)/\cut+a<=hint/\hint+1<=cut+min b (hint+1)) ?_ ?_ ⟨rfl,0,1,rfl,by lia,by lia,by lia⟩) ?_)
  .rintro x c st' _ hx ⟨rfl,a,b,rfl,q1,q2,q3⟩
   dsimp only;by_cases g:b>=hint+1
   .rw[AA g];exact A9 ⟨rfl,a,b,rfl,q1,by lia⟩
   .rw[AB g]
    refine Aw (B (by lia) ?_)
    by_cases z:hint-b<cut
    .simp only[z,Fj,Cc]
     exact A9 ⟨rfl,a,b,rfl,q1,by lia⟩
    .simp only[z,Fl,AI,Ci]
     exact A9 ⟨rfl,_,_,rfl,by lia,by lia,by lia⟩
  .rintro c st' ⟨rfl,a,b,rfl,q1,q2,q3⟩
   exact⟨rfl,a,b,rfl,q1,by lia⟩
  .rintro c st' ⟨rfl,a,b,rfl,q1,q2⟩
   dsimp only;refine Aw (Eh (bin (lo:=hint+1-min b (hint+1)) (hi:=hint-a) (by lia) (by lia) (by lia) λ_ _ _=>rfl) ?_)
   rintro c st' ⟨rfl,a',rfl⟩;exact A9 h
end
def Le (r:AE->Am)(x y:AE):Prop:=r x<=r y
structure Mg (r:AE->Am)(o A B T:Aa AE):Prop where
 p1:(o++A).Pairwise (Le r)
 p2:(o++B).Pairwise (Le r)
 pm:(o++A++B).Perm T
structure Mh (r:AE->Am)(A B o T:Aa AE):Prop where
 p1:(A++o).Pairwise (Le r)
 p2:(B++o).Pairwise (Le r)
 pm:(A++B++o).Perm T
section
variable {r:AE->Am}{o A B A1 A2 B1 B2 T:Aa AE}
theorem Mg.b (h:Mg r o A (B1++B2) T)(l:∀ x∈B1,∀ y∈A,Le r x y):Mg r (o++B1) A B2 T:=by
 obtain⟨p1,p2,pm⟩:=h;refine⟨?_,by rw[Be];exact p2,?_⟩
 .rw[Be]
  rw[Bz] at p1 p2 ⊢;refine⟨p1.1,?_,λx hx y hy=>?_⟩
  .rw[Bz]
   exact⟨(Bz.mp p2.2.1).1,p1.2.1,l⟩
  .rcases AX.mp hy with hy|hy
   .exact p2.2.2 x hx y (AT _ hy)
   .exact p1.2.2 x hx y hy
 .refine IM ?_ pm
  simp only[Be];refine EJ _ ?_;simp only[<- Be];exact Gd _ Gk
theorem Mg.a (h:Mg r o (A1++A2) B T)(l:∀ x∈A1,∀ y∈B,Le r x y):Mg r (o++A1) A2 B T:=by
 obtain⟨p1,p2,pm⟩:=h;refine⟨by rw[Be];exact p1,?_,by simpa only [Be] using pm⟩
 rw[Be];rw[Bz] at p1 p2 ⊢;refine⟨p2.1,?_,λx hx y hy=>?_⟩
 .rw[Bz]
  exact⟨(Bz.mp p1.2.1).1,p2.2.1,l⟩
 .rcases AX.mp hy with hy|hy
  .exact p1.2.2 x hx y (AT _ hy)
  .exact p2.2.2 x hx y hy
theorem Mh.a (h:Mh r (A1++A2) B o T)(l:∀ x∈B,∀ y∈A2,Le r x y):Mh r A1 B (A2++o) T:=by
 obtain⟨p1,p2,pm⟩:=h;refine⟨by rw[<- Be];exact p1,?_,?_⟩
 .rw[Be] at p1
  rw[Bz] at p1 p2 ⊢;refine⟨p2.1,p1.2.1,λx hx y hy=>?_⟩;rcases AX.mp hy with hy|hy
  .exact l x hx y hy
  .exact p2.2.2 x hx y hy
 .refine IM ?_ pm
  simp only[Be];refine EJ _ ?_;simp only[<- Be];exact Gd _ Gk
theorem Mh.b (h:Mh r A (B1++B2) o T)(l:∀ x∈A,∀ y∈B2,Le r x y):Mh r A B1 (B2++o) T:=by
 obtain⟨p1,p2,pm⟩:=h;refine⟨?_,by rw[<- Be];exact p2,by simpa only [Be] using pm⟩
 rw[Be] at p2;rw[Bz] at p1 p2 ⊢;refine⟨p1.1,p2.2.1,λx hx y hy=>?_⟩;rcases AX.mp hy with hy|hy
 .exact l x hx y hy
 .exact p1.2.2 x hx y hy
end
structure Mo (r:AE->Am)(T:Aa AE)(m:Av AE):Prop where
 pm:m.toList.Perm T
 up:m.toList.Pairwise (Le r)
noncomputable abbrev wY (st:Dg)(g:Ah):Dg:=Bi (kindOf st) (arrOf st) (pendingOf st) g (failedOf st)
theorem f9 {a:Av AE}{i:Ah}(h:i<a.size):a.toList.drop i=a.getD i nv::a.toList.drop (i+1):=by
 rw[En (by simpa using h)]
 congr 1
 simp[Ds,h]
theorem zD {a:Av AE}{i:Ah}(h:i<a.size):a.getD i nv∈a.toList:=by
 have e:a.getD i nv=a[i]:=by simp[Ds,h]
 rw[e];exact Array.getElem_mem_toList h
theorem xS {r:AE->Am}{a:Av AE}(s:a.toList.Pairwise (Le r)){i j:Ah}(h:i<=j)(hj:j<a.size):r (a.getD i nv)<=r (a.getD j nv):=by
 rcases Ud i j with l|l
 .have e:=EV.mp s i j (by simpa using E1 l hj) (by simpa using hj) l
  have hi:i<a.size:=E1 l hj;simpa [Ds,hi,hj,Le] using e
 .rw[Nk h l];exact Ik _
theorem jN {a:Av AE}{i:Ah}{x:AE}(h:x∈a.toList.drop i):∃ j,i<=j/\j<a.size/\x=a.getD j nv:=by
 obtain⟨k,hk,e⟩:=Bl.mp h;rw[Kr] at e;have hk':k<a.size-i:=by simpa using hk
 refine⟨i+k,by lia,by lia,?_⟩
 have:i+k<a.size:=by lia
 simp[Ds,this,<- e]
theorem jP {a:Av AE}{x:AE}(h:x∈a.toList.take n):∃ j,j<n/\j<a.size/\x=a.getD j nv:=by
 obtain⟨k,hk,e⟩:=Bl.mp h;rw[Kq] at e;have hk':k<n/\k<a.size:=by rw[Dz,A4] at hk;lia
 refine⟨k,hk'.1,hk'.2,?_⟩;simp[Ds,hk'.2,<- e]
theorem pA {a:Av AE}{i k:Ah}:(a.extract i (i+k)).toList++a.toList.drop (i+k)=a.toList.drop i:=by
 rw[Fa,Er,Fm,<- List.drop_drop];exact Il _ _
theorem gC {a:Av AE}{i:Ah}:(a.extract i a.size).toList=a.toList.drop i:=by
 rw[Fa,Er];exact HV (by simp)
theorem fQ {a:Av AE}{i k:Ah}{x:AE}(h:x∈(a.extract i (i+k)).toList):∃ j,i<=j/\j<i+k/\j<a.size/\x=a.getD j nv:=by
 rw[Fa,Er,Fm] at h;obtain⟨m,hm,e⟩:=Bl.mp h;rw[Kq,Kr] at e;have hm':m<k/\i+m<a.size:=by rw[Dz,Gv,A4] at hm;lia
 refine⟨i+m,by lia,by lia,hm'.2,?_⟩
 simp[Ds,hm'.2,<- e]
def GL (r:AE->Am)(a b o:Av AE)(i j:Ah):Prop:=Mg r o.toList (a.toList.drop i) (b.toList.drop j) (a.toList++b.toList)
section
variable {r:AE->Am}{a b o:Av AE}{i j k:Ah}
theorem GL.pb (sa:a.toList.Pairwise (Le r))(h:GL r a b o i j)(hj:j<b.size)(l:i<a.size->r (b.getD j nv)<=r (a.getD i nv)):GL r a b (o.push (b.getD j nv)) i (j+1):=by
 have h':Mg r o.toList (a.toList.drop i) ([b.getD j nv]++b.toList.drop (j+1)) (a.toList++b.toList):=by rw[Oa,<- f9 hj];exact h
 have:=h'.b λx hx y hy=>by
  cases Bf.mp hx;obtain⟨m,h1,h2,rfl⟩:=jN hy;exact CY (l (by lia)) (xS sa h1 h2)
 unfold GL;rw[Cy];exact this
theorem GL.pa (sb:b.toList.Pairwise (Le r))(h:GL r a b o i j)(hi:i<a.size)(l:j<b.size->r (a.getD i nv)<=r (b.getD j nv)):GL r a b (o.push (a.getD i nv)) (i+1) j:=by
 have h':Mg r o.toList ([a.getD i nv]++a.toList.drop (i+1)) (b.toList.drop j) (a.toList++b.toList):=by rw[Oa,<- f9 hi];exact h
 have:=h'.a λx hx y hy=>by
  cases Bf.mp hx;obtain⟨m,h1,h2,rfl⟩:=jN hy;exact CY (l (by lia)) (xS sb h1 h2)
 unfold GL;rw[Cy];exact this
theorem GL.ea (sb:b.toList.Pairwise (Le r))(h:GL r a b o i j)(hj:j<b.size)(l:∀ m,m<k->r (a.getD (i+m) nv)<=r (b.getD j nv)):GL r a b (o++a.extract i (i+k)) (i+k) j:=by
 have h':Mg r o.toList ((a.extract i (i+k)).toList++a.toList.drop (i+k)) (b.toList.drop j) (a.toList++b.toList):=by rw[pA];exact h
 have:=h'.a λx hx y hy=>by
  obtain⟨m,h1,h2,h3,rfl⟩:=fQ hx;obtain⟨m',h4,h5,rfl⟩:=jN hy;have:=l (m-i) (by lia)
  rw[show i+(m-i)=m by lia] at this
  exact CY this (xS sb h4 h5)
 unfold GL;rw[Bo];exact this
theorem GL.eb (sa:a.toList.Pairwise (Le r))(h:GL r a b o i j)(hi:i<a.size)(l:∀ m,m<k->r (b.getD (j+m) nv)<=r (a.getD i nv)):GL r a b (o++b.extract j (j+k)) i (j+k):=by
 have h':Mg r o.toList (a.toList.drop i) ((b.extract j (j+k)).toList++b.toList.drop (j+k)) (a.toList++b.toList):=by rw[pA];exact h
 have:=h'.b λx hx y hy=>by
  obtain⟨m,h1,h2,h3,rfl⟩:=fQ hx;obtain⟨m',h4,h5,rfl⟩:=jN hy;have:=l (m-j) (by lia)
  rw[show j+(m-j)=m by lia] at this
  exact CY this (xS sa h4 h5)
 unfold GL;rw[Bo];exact this
theorem GL.fin (h:GL r a b o i j)(e:i=a.size\/j=b.size):Mo r (a.toList++b.toList) (o++a.extract i a.size++b.extract j b.size):=by
 refine⟨?_,?_⟩ <;> rw[Bo,Bo,gC,gC]
 .exact h.pm
 .rcases e with rfl|rfl
  .rw[HW (by simp),Di];exact h.p2
  .rw[HW (l:=b.toList) (by simp),Di];exact h.p1
theorem GL.last (h:GL r a b o i j)(e:i+1=a.size)(l:∀ x∈b.toList,Le r x (a.getD (a.size-1) nv)):Mo r (a.toList++b.toList) (o++b.extract j b.size++a.extract i a.size):=by
 have hi:i<a.size:=by lia
 have hd:a.toList.drop i=[a.getD i nv]:=by rw[f9 hi,HW (by simp;lia)]
 refine⟨?_,?_⟩ <;> rw[Bo,Bo,gC,gC]
 .refine IM ?_ h.pm
  rw[Be,Be];exact EJ _ Gk
 .have p1:=h.p1
  rw[hd] at p1 ⊢;rw[Bz] at p1 ⊢;refine⟨h.p2,HC _ _,λx hx y hy=>?_⟩;rcases AX.mp hx with hx|hx
  .exact p1.2.2 x hx y hy
  .cases Bf.mp hy
   have:=l x (List.mem_of_mem_drop hx);rw[show a.size-1=i by lia] at this
   exact this
end
theorem nK {p:Ah->Ap}:∀ (n:Ah),(∀ i j,i<=j->j<n->p j=true->p i=true)->∃ c,c<=n/\∀ i,i<n->p i=decide (i<c)
 |0,_=>⟨0,Ay _,λi h=>by lia⟩
 |n+1,h=>by
  obtain⟨c,hc,e⟩:=nK n λi j a b=>h i j a (by lia)
  by_cases q:p n=true
  .refine⟨n+1,Ay _,λi hi=>?_⟩
   rw[h i n (by lia) (by lia) q]
   simp[hi]
  .refine⟨c,by lia,λi hi=>?_⟩
   rcases Ud i n with l|l
   .exact e i l
   .have:i=n:=by lia
    subst this;have:¬ i<c:=by lia
    simp[this,q]
section
variable {M:Gg}{A:AJ}{E:Ac->Ag->Prop}{s:Ag}{κ : Hr}{U:AE->Prop}{r:AE->Am}
theorem qL {σ α:Type}{c:Prop}[ER c]{x y:Ih σ Gf α}{Q:α->σ->Prop}{st:σ}(h1:c->wpS M A E s x Q st)(h2:¬ c->wpS M A E s y Q st):wpS M A E s (if c then x else y) Q st:=by
 by_cases h:c
 .rw[AA h];exact h1 h
 .rw[AB h];exact h2 h
theorem Z3 (C:Cm M A s κ U r){key:AE}{arr:Av AE}{base n hint:Ah}{Q:Ak Ah->Dg->Prop}{st:Dg}(hk:kindOf st=κ)(hh:hint<n)(hb:base+n<=arr.size)(hU:∀ i,i<n->U (arr.getD (base+i) nv))(hkU:U key)
  (sa:∀ i j,i<=j->j<n->r (arr.getD (base+i) nv)<=r (arr.getD (base+j) nv)) (h:∀ c,c<=n->(∀ i,i<c->r (arr.getD (base+i) nv)<=r key)->(∀ i,c<=i->i<n->r key<r (arr.getD (base+i) nv))->Q (Ab c) st):wpS M A E s (fH false key arr base n hint) Q st:=by
 obtain⟨c,hc,e⟩:=nK (p:=λi=>!decide (r key<r (arr.getD (base+i) nv))) n λi j a b q=>by
  have:=sa i j a b;simp only[HL,E2] at q ⊢
  lia
 refine bT C hk hh hb hU hkU hc (λi hi=>by simpa using e i hi) (h c hc (λi hi=>?_) λi hi hn=>?_)
 .have:=e i (by lia)
  simp only[hi,Fj,HL,E2] at this
  lia
 .have:=e i hn
  simp only[show ¬ i<c by lia,Fl,Bool.not_eq_false',AY] at this
  exact this
theorem Z4 (C:Cm M A s κ U r){key:AE}{arr:Av AE}{base n hint:Ah}{Q:Ak Ah->Dg->Prop}{st:Dg}(hk:kindOf st=κ)(hh:hint<n)(hb:base+n<=arr.size)(hU:∀ i,i<n->U (arr.getD (base+i) nv))(hkU:U key)
  (sa:∀ i j,i<=j->j<n->r (arr.getD (base+i) nv)<=r (arr.getD (base+j) nv)) (h:∀ c,c<=n->(∀ i,i<c->r (arr.getD (base+i) nv)<r key)->(∀ i,c<=i->i<n->r key<=r (arr.getD (base+i) nv))->Q (Ab c) st):wpS M A E s (fH true key arr base n hint) Q st:=by
 obtain⟨c,hc,e⟩:=nK (p:=λi=>decide (r (arr.getD (base+i) nv)<r key)) n λi j a b q=>by
  have:=sa i j a b;simp only[AY] at q ⊢
  lia
 refine bT C hk hh hb hU hkU hc (λi hi=>by simpa using e i hi) (h c hc (λi hi=>?_) λi hi hn=>?_)
 .have:=e i (by lia)
  simp only[hi,Fj,AY] at this;exact this
 .have:=e i hn
  simp only[show ¬ i<c by lia,Fl,E2] at this
  lia
end
section
variable {M:Gg}{A:AJ}{E:Ac->Ag->Prop}{s:Ag}{σ α γ δ:Type}{Q:α->σ->Prop}{st:σ}{c c' c2:Prop}[ER c][ER c'][ER c2]
theorem rG {K:γ->Ih σ Gf α}{x y:γ}(h:∀ z,wpS M A E s (K z) Q st):wpS M A E s (if c then K x else K y) Q st:=qL (λ_=>h x) λ_=>h y
theorem oN {K:γ->δ->Ih σ Gf α}{u:Ih σ Gf α}{x y:γ}{w v:δ}(P:γ->δ->Prop)(hK:∀ z w,P z w->wpS M A E s (K z w) Q st)(h1:c->c'->wpS M A E s u Q st)(h2:c->¬ c'->P x w)(h3:¬ c->P y v):wpS M A E s (if c then (if c' then u else K x w) else K y v) Q st:=qL (λe=>qL (h1 e) λe'=>hK _ _ (h2 e e')) λe=>hK _ _ (h3 e)
theorem oO {K:γ->δ->Ih σ Gf α}{u u':Ih σ Gf α}{x y:γ}{w v:δ}(P:γ->δ->Prop)(hK:∀ z w,P z w->wpS M A E s (K z w) Q st)(h1:c->c'->wpS M A E s u Q st)(h1':c->¬ c'->c2->wpS M A E s u' Q st)(h2:c->¬ c'->¬ c2->P x w)(h3:¬ c->P y v):wpS M A E s (if c then (if c' then u else if c2 then u' else K x w) else K y v) Q st:=qL (λe=>qL (h1 e) λe'=>qL (h1' e e') λe2=>hK _ _ (h2 e e' e2)) λe=>hK _ _ (h3 e)
end
section
variable {prog:Az}{w:AL}{A:AJ}{E:Ac->Ag->Prop}{s:Ag}{κ : Hr}{U:AE->Prop}{r:AE->Am}
theorem dJ (C:Cm (Aq prog w) A s κ U r){a b:Av AE}{Q:Av AE->Dg->Prop}{st:Dg}(hk:kindOf st=κ)(ua:∀ x∈a.toList,U x)(ub:∀ x∈b.toList,U x)(sa:a.toList.Pairwise (Le r))(sb:b.toList.Pairwise (Le r))
  (h:∀ m g,Mo r (a.toList++b.toList) m->Q m (wY st g)) (ha:0<a.size) (hb:0<b.size) (h0:r (b.getD 0 nv)<=r (a.getD 0 nv)) (h1:∀ x∈b.toList,Le r x (a.getD (a.size-1) nv)):wpS (Aq prog w) A E s (ZS a b) Q st:=by
 have G0:GL r a b #[] 0 0:=⟨by simpa using sa,by simpa using sb,by simp⟩
 have G1:=G0.pb sa hb λ_=>h0;refine Aw (Kb (Ef ⟨rfl,?_⟩));refine Aw (z0 hb ?_);dsimp only;refine qL (λe=>A9 (h _ (Nl st) (G1.fin (.inr (by simpa using e))))) λe1=>?_
 refine qL (λe=>A9 (h _ (Nl st) (G1.last (by simpa using e) h1))) λe2=>?_
 have e1:1<b.size:=by
  have:¬ 1=b.size:=by simpa using e1
  lia
 have e2:0+1<a.size:=by
  have:¬ 0+1=a.size:=by simpa using e2
  lia
 refine Aw (HD ?_);refine Aw (Eh (CS (I:=λx c st'=>(∃ g,st'=wY st g)/\∃ o i j g,c=(none,o,i,j,g)/\GL r a b o i j/\i+1<a.size/\j<b.size/\x<i+j)
  (Q:=λc st'=>(∃ g,st'=wY st g)/\∃ m,c.1=Ab m/\Mo r (a.toList++b.toList) m) ?_ ?_ ⟨⟨Nl st,rfl⟩,_,0,1,_,rfl,G1,e2,e1,by lia⟩) ?_)
 .rintro x c st' _ hx ⟨⟨g,rfl⟩,o,i,j,mg,rfl,G,hi,hj,hp⟩
  dsimp only;refine Aw (Eh (CS (I:=λy c st'=>(∃ g,st'=wY st g)/\∃ o i' j' p q,c=(none,o,i',j',p,q)/\GL r a b o i' j'/\i'+1<a.size/\j'<b.size/\i+j+y<=i'+j')
   (Q:=λc st'=>(∃ g,st'=wY st g)/\((∃ m,c.1=Ab m/\Mo r (a.toList++b.toList) m)\/∃ o i' j' p q,c=(none,o,i',j',p,q)/\GL r a b o i' j'/\i'+1<a.size/\j'<b.size/\x+1<i'+j')) ?_ ?_ ⟨⟨g,rfl⟩,o,i,j,0,0,rfl,G,hi,hj,by lia⟩) ?_)
  .rintro y c st' _ hy ⟨⟨g,rfl⟩,o,i',j',p,q,rfl,G,hi,hj,hq⟩
   dsimp only;refine Aw (z0 hj (Aw (z0 (i:=i') (by lia) (Aw (C.lt (ub _ (zD hj)) (ua _ (zD (i:=i') (by lia))) hk ?_)))))
   dsimp only;refine qL (λl=>?_) λl=>?_
   .have l:r (b.getD j' nv)<r (a.getD i' nv):=by simpa using l
    have G2:=G.pb sa hj λ_=>Ek l;refine Aw (z0 hj ?_);refine qL (λe=>?_) λe=>?_
    .exact A9 ⟨⟨g,rfl⟩,.inl ⟨_,rfl,G2.fin (.inr (by simpa using e))⟩⟩
    .have e:¬ j'+1=b.size:=by simpa using e
     refine qL (λ_=>?_) λ_=>?_
     .exact A9 ⟨⟨g,rfl⟩,.inr ⟨_,_,_,_,_,rfl,G2,hi,by lia,by lia⟩⟩
     .exact A9 ⟨⟨g,rfl⟩,_,_,_,_,_,rfl,G2,hi,by lia,by lia⟩
   .have l:¬ r (b.getD j' nv)<r (a.getD i' nv):=by simpa using l
    have G2:=G.pa sb (by lia) λ_=>Sl.mp l
    refine Aw (z0 (i:=i') (by lia) ?_)
    refine qL (λe=>?_) λe=>?_
    .exact A9 ⟨⟨g,rfl⟩,.inl ⟨_,rfl,G2.last (by simpa using e) h1⟩⟩
    .have e:¬ i'+1+1=a.size:=by simpa using e
     refine qL (λ_=>?_) λ_=>?_
     .exact A9 ⟨⟨g,rfl⟩,.inr ⟨_,_,_,_,_,rfl,G2,by lia,hj,by lia⟩⟩
     .exact A9 ⟨⟨g,rfl⟩,_,_,_,_,_,rfl,G2,by lia,hj,by lia⟩
  .rintro c st' ⟨z,o,i',j',p,q,rfl,G,hi,hj,hq⟩
   exact⟨z,.inr ⟨_,_,_,_,_,rfl,G,hi,hj,by lia⟩⟩
  .rintro c st' ⟨⟨g,rfl⟩,⟨m,hc,hm⟩|⟨o,i',j',p,q,rfl,G,hi,hj,hq⟩⟩
   .obtain⟨c0,c1⟩:=c
    cases hc;exact A9 ⟨⟨g,rfl⟩,m,rfl,hm⟩
   dsimp only;refine Aw (Kb (Ef ⟨rfl,?_⟩));refine Aw (Eh (CS (I:=λy c st'=>(∃ g,st'=wY st g)/\∃ o i' j' p q t,c=(none,o,i',j',p,q,t)/\GL r a b o i' j'/\i'+1<a.size/\j'<b.size/\x+1<i'+j')
    (Q:=λc st'=>(∃ g,st'=wY st g)/\((∃ m,c.1=Ab m/\Mo r (a.toList++b.toList) m)\/∃ o i' j' p q t,c=(none,o,i',j',p,q,t)/\GL r a b o i' j'/\i'+1<a.size/\j'<b.size/\x+1<i'+j')) ?_ ?_ ⟨⟨g,rfl⟩,o,i',j',_,_,_,rfl,G,hi,hj,hq⟩) ?_)
   .rintro y c st' _ hy ⟨⟨g,rfl⟩,o,i,j,p,q,t,rfl,G,hi,hj,hq⟩
    dsimp only;generalize p-1=p1;apply rG (x:=p1) (y:=p);intro mg;have hi0:i<a.size:=Ky hi;refine Aw (EM ?_);refine Aw (z0 hj ?_);refine Aw (Z3 C hk (Kz hi0) (Pr (OM (Ch hi0))) (λi' hi'=>ua _ (zD (Gm hi'))) (ub _ (zD hj)) (λi' j' h1 h2=>xS sa (E5 h1 _) (Gm h2)) λk k1 k2 k3=>?_);dsimp only;have G2:=G.ea sb hj k2;have k4:i+k<=a.size:=Ob (Ch hi0) k1;have k5:i+k<a.size->r (b.getD j nv)<r (a.getD (i+k) nv):=λh=>k3 k (Ay _) (Ou (by rw[Mf];exact h))
    have k6:x+1<i+k+j:=Au hq (Ov (Eo _ _) _);have k7:k=0->i=i+k:=λh=>by rw[h];rfl
    generalize i+k=i1 at G2 k4 k5 k6 k7 ⊢;generalize o++a.extract i i1=o1 at G2 ⊢;apply oO (x:=o1) (w:=i1) (y:=o) (v:=i) (P:=λout ia=>GL r a b out ia j/\ia+1<a.size/\x+1<ia+j/\r (b.getD j nv)<r (a.getD ia nv))
    case h1=>exact λ_ e=>A9 ⟨⟨_,rfl⟩,.inl ⟨_,rfl,G2.last (by simpa using e) h1⟩⟩
    case h1'=>exact λ_ _ e=>A9 ⟨⟨_,rfl⟩,.inl ⟨_,rfl,G2.fin (.inl (by simpa using e))⟩⟩
    case h2 =>
     intro _ e3 e4;have e3:¬ i1+1=a.size:=by simpa using e3
     have e4:¬ i1=a.size:=by simpa using e4
     have e5:i1<a.size:=Et k4 e4;exact⟨G2,Et e5 e3,k6,k5 e5⟩
    case h3 =>
     intro e;have e:=k7 (Ge e);exact⟨G,hi,hq,by rw[e];exact k5 (by rw[<- e];exact hi0)⟩
    case hK =>
     rintro out ia ⟨G2,hl,hq,hc⟩;have ha0:ia<a.size:=Ky hl;refine Aw (z0 hj ?_);have G3:=G2.pb sa hj λ_=>Ek hc;refine qL (λe=>A9 ⟨⟨_,rfl⟩,.inl ⟨_,rfl,G3.fin (.inr (by simpa using e))⟩⟩) λe5=>?_
     have e5:¬ j+1=b.size:=by simpa using e5
     have hj1:j+1<b.size:=Et hj e5;refine Aw (z0 ha0 ?_);refine Aw (Z4 C hk (Kz hj1) (Pr (OM hj)) (λi hi=>ub _ (zD (Gm hi))) (ua _ (zD ha0)) (λi j h1 h2=>xS sb (E5 h1 _) (Gm h2)) λm m1 m2 m3=>?_);dsimp only;have G4:=G3.eb sa ha0 λi hi=>Ek (m2 i hi);have m4:j+1+m<=b.size:=Ob hj m1;have m5:j+1+m<b.size->r (a.getD ia nv)<=r (b.getD (j+1+m) nv):=λh=>m3 m (Ay _) (Ou (by rw[Mf];exact h))
     have m6:j+1<=j+1+m:=Eo _ _;have m7:m=0->j+1=j+1+m:=λh=>by rw[h]
     generalize j+1+m=j1 at G4 m4 m5 m6 m7 ⊢;generalize out.push (b.getD j nv)++b.extract (j+1) j1=o2 at G4 ⊢;apply oN (x:=o2) (w:=j1) (y:=out.push (b.getD j nv)) (v:=j+1) (P:=λout ib=>GL r a b out ia ib/\ib<b.size/\j+1<=ib/\r (a.getD ia nv)<=r (b.getD ib nv))
     case h1=>exact λ_ e=>A9 ⟨⟨_,rfl⟩,.inl ⟨_,rfl,G4.fin (.inr (by simpa using e))⟩⟩
     case h2 =>
      intro _ e6;have e6:¬ j1=b.size:=by simpa using e6
      have e7:=Et m4 e6;exact⟨G4,e7,m6,m5 e7⟩
     case h3 =>
      intro e;have e:=m7 (Ge e);exact⟨G3,hj1,Ay _,by rw[e];exact m5 (by rw[<- e];exact hj1)⟩
     case hK =>
      rintro out ib ⟨G4,hb1,hb2,hc4⟩;refine Aw (z0 ha0 ?_);have G5:=G4.pa sb ha0 λ_=>hc4;refine qL (λe=>A9 ⟨⟨_,rfl⟩,.inl ⟨_,rfl,G5.last (by simpa using e) h1⟩⟩) λe7=>?_
      have e7:¬ ia+1+1=a.size:=by simpa using e7
      have e8:ia+1+1<a.size:=Et hl e7;have e9:x+1<ia+1+ib:=Au hq (So (Jx _) (Nat.le_of_succ_le hb2));exact qL (λ_=>A9 ⟨⟨_,rfl⟩,.inr ⟨_,_,_,_,_,_,rfl,G5,e8,hb1,e9⟩⟩) λ_=>A9 ⟨⟨_,rfl⟩,_,_,_,_,_,_,rfl,G5,e8,hb1,e9⟩
   .rintro c st' ⟨z,o,i',j',p,q,t,rfl,G,hi,hj,hq⟩
    exact⟨z,.inr ⟨_,_,_,_,_,_,rfl,G,hi,hj,by lia⟩⟩
   .rintro c st' ⟨⟨g,rfl⟩,⟨m,hc,hm⟩|⟨o,i',j',p,q,t,rfl,G,hi,hj,hq⟩⟩
    .obtain⟨c0,c1⟩:=c
     cases hc;exact A9 ⟨⟨g,rfl⟩,m,rfl,hm⟩
    dsimp only;refine Aw (EM ?_);exact A9 ⟨⟨_,rfl⟩,_,_,_,_,rfl,G,hi,hj,by lia⟩
 .rintro c st' ⟨z,o,i',j',p,rfl,G,hi,hj,hq⟩
  exfalso
  lia
 .rintro c st' ⟨⟨g,rfl⟩,m,hc,hm⟩
  obtain⟨c0,c1⟩:=c;cases hc;exact A9 (h m g hm)
end
theorem fZ {a:Av AE}(h:0<n)(hn:n<=a.size):a.toList.take n=a.toList.take (n-1)++[a.getD (n-1) nv]:=by
 obtain⟨m,rfl⟩:∃ m,n=m+1:=⟨n-1,by lia⟩
 rw[Nat.add_sub_cancel,List.take_add_one];have hm:m<a.size:=by lia
 simp[Ds,hm]
theorem nY {a:Av AE}{i:Ah}(h:i<=n):a.toList.take i++(a.extract i n).toList=a.toList.take n:=by
 rw[Fa,Er]
 conv=>rhs;rw[show n=i+(n-i) by lia,List.take_add]
theorem jD {a:Av AE}:(a.extract 0 n).toList=a.toList.take n:=by
 rw[Fa,Er];simp
theorem jO {a:Av AE}{i:Ah}{x:AE}(hn:i<=n)(h:x∈(a.extract i n).toList):∃ j,i<=j/\j<n/\j<a.size/\x=a.getD j nv:=by
 obtain⟨k,rfl⟩:∃ k,n=i+k:=⟨n-i,by lia⟩
 exact fQ h
def GH (r:AE->Am)(a b o:Av AE)(i j:Ah):Prop:=Mh r (a.toList.take i) (b.toList.take j) o.toList.reverse (a.toList++b.toList)
section
variable {r:AE->Am}{a b o:Av AE}{i j k:Ah}
theorem GH.pa (sb:b.toList.Pairwise (Le r))(h:GH r a b o i j)(h1:0<i)(h2:i<=a.size)(hj:j<=b.size)(l:0<j->r (b.getD (j-1) nv)<=r (a.getD (i-1) nv)):GH r a b (o.push (a.getD (i-1) nv)) (i-1) j:=by
 have h':Mh r (a.toList.take (i-1)++[a.getD (i-1) nv]) (b.toList.take j) o.toList.reverse (a.toList++b.toList):=by rw[<- fZ h1 h2];exact h
 have:=h'.a λx hx y hy=>by
  cases Bf.mp hy;obtain⟨m,q1,q2,rfl⟩:=jP hx;exact CY (xS sb (by lia) (by lia)) (l (by lia))
 unfold GH;rw[Cy,Hi];exact this
theorem GH.pb (sa:a.toList.Pairwise (Le r))(h:GH r a b o i j)(h1:0<j)(h2:j<=b.size)(hi:i<=a.size)(l:0<i->r (a.getD (i-1) nv)<=r (b.getD (j-1) nv)):GH r a b (o.push (b.getD (j-1) nv)) i (j-1):=by
 have h':Mh r (a.toList.take i) (b.toList.take (j-1)++[b.getD (j-1) nv]) o.toList.reverse (a.toList++b.toList):=by rw[<- fZ h1 h2];exact h
 have:=h'.b λx hx y hy=>by
  cases Bf.mp hy;obtain⟨m,q1,q2,rfl⟩:=jP hx;exact CY (xS sa (by lia) (by lia)) (l (by lia))
 unfold GH;rw[Cy,Hi];exact this
theorem GH.ea (sb:b.toList.Pairwise (Le r))(h:GH r a b o i j)(hk:k<=i)(hj:j<=b.size)(l:0<j->∀ m,k<=m->m<i->m<a.size->r (b.getD (j-1) nv)<=r (a.getD m nv)):GH r a b (o++(a.extract k i).reverse) k j:=by
 have h':Mh r (a.toList.take k++(a.extract k i).toList) (b.toList.take j) o.toList.reverse (a.toList++b.toList):=by rw[nY hk];exact h
 have:=h'.a λx hx y hy=>by
  obtain⟨m,q1,q2,rfl⟩:=jP hx;obtain⟨m',q3,q4,q5,rfl⟩:=jO hk hy;exact CY (xS sb (by lia) (by lia)) (l (by lia) m' q3 q4 q5)
 unfold GH;rw[Bo,Gu,Hi,Ow];exact this
theorem GH.eb (sa:a.toList.Pairwise (Le r))(h:GH r a b o i j)(hk:k<=j)(hi:i<=a.size)(l:0<i->∀ m,k<=m->m<j->m<b.size->r (a.getD (i-1) nv)<=r (b.getD m nv)):GH r a b (o++(b.extract k j).reverse) i k:=by
 have h':Mh r (a.toList.take i) (b.toList.take k++(b.extract k j).toList) o.toList.reverse (a.toList++b.toList):=by rw[nY hk];exact h
 have:=h'.b λx hx y hy=>by
  obtain⟨m,q1,q2,rfl⟩:=jP hx;obtain⟨m',q3,q4,q5,rfl⟩:=jO hk hy;exact CY (xS sa (by lia) (by lia)) (l (by lia) m' q3 q4 q5)
 unfold GH;rw[Bo,Gu,Hi,Ow];exact this
theorem GH.fin (h:GH r a b o i j)(e:i=0\/j=0):Mo r (a.toList++b.toList) (a.extract 0 i++b.extract 0 j++o.reverse):=by
 refine⟨?_,?_⟩ <;> rw[Bo,Bo,jD,jD,Gu]
 .exact h.pm
 .rcases e with rfl|rfl
  .rw[Sr,Ez];exact h.p2
  .rw[Sr,Di];exact h.p1
theorem GH.first (h:GH r a b o i j)(e:j=1)(hb:0<b.size)(l:∀ x∈a.toList,Le r (b.getD 0 nv) x):Mo r (a.toList++b.toList) (b.extract 0 j++a.extract 0 i++o.reverse):=by
 subst e;have hd:b.toList.take 1=[b.getD 0 nv]:=by rw[fZ (by lia) (by lia)];rfl
 refine⟨?_,?_⟩ <;> rw[Bo,Bo,jD,jD,Gu]
 .refine IM ?_ h.pm
  exact Gd _ Gk
 .have p2:=h.p2
  rw[hd] at p2 ⊢;rw[Be];rw[Bz] at p2 ⊢;refine⟨p2.1,h.p1,λx hx y hy=>?_⟩;rcases AX.mp hy with hy|hy
  .cases Bf.mp hx
   exact l y (List.mem_of_mem_take hy)
  .exact p2.2.2 x hx y hy
end
section
variable {prog:Az}{w:AL}{A:AJ}{E:Ac->Ag->Prop}{s:Ag}{κ : Hr}{U:AE->Prop}{r:AE->Am}
theorem dI (C:Cm (Aq prog w) A s κ U r){a b:Av AE}{Q:Av AE->Dg->Prop}{st:Dg}(hk:kindOf st=κ)(ua:∀ x∈a.toList,U x)(ub:∀ x∈b.toList,U x)(sa:a.toList.Pairwise (Le r))(sb:b.toList.Pairwise (Le r))
  (h:∀ m g,Mo r (a.toList++b.toList) m->Q m (wY st g)) (ha:0<a.size) (hb:0<b.size) (h0:∀ x∈a.toList,Le r (b.getD 0 nv) x) (h1:r (b.getD (b.size-1) nv)<=r (a.getD (a.size-1) nv)):wpS (Aq prog w) A E s (ZR a b) Q st:=by
 have G0:GH r a b #[] a.size b.size:=by
  unfold GH;rw[HV (by simp),HV (by simp)]
  exact⟨by simpa using sa,by simpa using sb,by simp⟩
 have G1:=G0.pa sb ha (Ay _) (Ay _) λ_=>h1;refine Aw (Kb (Ef ⟨rfl,?_⟩));refine Aw (z0 (i:=a.size-1) (by lia) ?_)
 dsimp only;refine qL (λe=>A9 (h _ (Nl st) (G1.fin (.inl (by simpa using e))))) λe1=>?_
 refine qL (λe=>A9 (h _ (Nl st) (G1.first (by simpa using e) hb h0))) λe2=>?_
 have e1:¬ a.size-1=0:=by simpa using e1
 have e2:¬ b.size=1:=by simpa using e2
 refine Aw (HD ?_);refine Aw (Eh (CS (I:=λx c st'=>(∃ g,st'=wY st g)/\∃ o i j g,c=(none,i,j,o,g)/\GH r a b o i j/\0<i/\i<=a.size/\1<j/\j<=b.size/\x+i+j<a.size+b.size)
  (Q:=λc st'=>(∃ g,st'=wY st g)/\∃ m,c.1=Ab m/\Mo r (a.toList++b.toList) m) ?_ ?_ ⟨⟨Nl st,rfl⟩,_,a.size-1,b.size,_,rfl,G1,by lia,by lia,by lia,by lia,by lia⟩) ?_)
 .rintro x c st' _ hx ⟨⟨g,rfl⟩,o,i,j,mg,rfl,G,hi,hi2,hj,hj2,hp⟩
  dsimp only;refine Aw (Eh (CS (I:=λy c st'=>(∃ g,st'=wY st g)/\∃ o i' j' p q,c=(none,i',j',o,p,q)/\GH r a b o i' j'/\0<i'/\i'<=a.size/\1<j'/\j'<=b.size/\i'+j'+y<=i+j)
   (Q:=λc st'=>(∃ g,st'=wY st g)/\((∃ m,c.1=Ab m/\Mo r (a.toList++b.toList) m)\/∃ o i' j' p q,c=(none,i',j',o,p,q)/\GH r a b o i' j'/\0<i'/\i'<=a.size/\1<j'/\j'<=b.size/\x+1+i'+j'<a.size+b.size)) ?_ ?_ ⟨⟨g,rfl⟩,o,i,j,0,0,rfl,G,hi,hi2,hj,hj2,by lia⟩) ?_)
  .rintro y c st' _ hy ⟨⟨g,rfl⟩,o,i',j',p,q,rfl,G,hi,hi2,hj,hj2,hq⟩
   dsimp only;refine Aw (z0 (i:=j'-1) (by lia) (Aw (z0 (i:=i'-1) (by lia) (Aw (C.lt (ub _ (zD (i:=j'-1) (by lia))) (ua _ (zD (i:=i'-1) (by lia))) hk ?_)))))
   dsimp only;refine qL (λl=>?_) λl=>?_
   .have l:r (b.getD (j'-1) nv)<r (a.getD (i'-1) nv):=by simpa using l
    have G2:=G.pa sb hi hi2 hj2 λ_=>Ek l;refine Aw (z0 (i:=i'-1) (by lia) ?_)
    refine qL (λe=>A9 ⟨⟨g,rfl⟩,.inl ⟨_,rfl,G2.fin (.inl (by simpa using e))⟩⟩) λe=>?_
    have e:¬ i'-1=0:=by simpa using e
    exact qL (λ_=>A9 ⟨⟨g,rfl⟩,.inr ⟨_,_,_,_,_,rfl,G2,by lia,by lia,hj,hj2,by lia⟩⟩) λ_=>A9 ⟨⟨g,rfl⟩,_,_,_,_,_,rfl,G2,by lia,by lia,hj,hj2,by lia⟩
   .have l:¬ r (b.getD (j'-1) nv)<r (a.getD (i'-1) nv):=by simpa using l
    have G2:=G.pb sa (by lia) hj2 hi2 λ_=>Sl.mp l
    refine Aw (z0 (i:=j'-1) (by lia) ?_)
    refine qL (λe=>A9 ⟨⟨g,rfl⟩,.inl ⟨_,rfl,G2.first (by simpa using e) hb h0⟩⟩) λe=>?_
    have e:¬ j'-1=1:=by simpa using e
    exact qL (λ_=>A9 ⟨⟨g,rfl⟩,.inr ⟨_,_,_,_,_,rfl,G2,hi,hi2,by lia,by lia,by lia⟩⟩) λ_=>A9 ⟨⟨g,rfl⟩,_,_,_,_,_,rfl,G2,hi,hi2,by lia,by lia,by lia⟩
  .rintro c st' ⟨z,o,i',j',p,q,rfl,G,hi,hi2,hj,hj2,hq⟩
   exact⟨z,.inr ⟨_,_,_,_,_,rfl,G,hi,hi2,hj,hj2,by lia⟩⟩
  .rintro c st' ⟨⟨g,rfl⟩,⟨m,hc,hm⟩|⟨o,i',j',p,q,rfl,G,hi,hi2,hj,hj2,hq⟩⟩
   .obtain⟨c0,c1⟩:=c
    cases hc;exact A9 ⟨⟨g,rfl⟩,m,rfl,hm⟩
   dsimp only;refine Aw (Kb (Ef ⟨rfl,?_⟩));refine Aw (Eh (CS (I:=λy c st'=>(∃ g,st'=wY st g)/\∃ o i' j' p q t,c=(none,i',j',o,p,q,t)/\GH r a b o i' j'/\0<i'/\i'<=a.size/\1<j'/\j'<=b.size/\x+1+i'+j'<a.size+b.size)
    (Q:=λc st'=>(∃ g,st'=wY st g)/\((∃ m,c.1=Ab m/\Mo r (a.toList++b.toList) m)\/∃ o i' j' p q t,c=(none,i',j',o,p,q,t)/\GH r a b o i' j'/\0<i'/\i'<=a.size/\1<j'/\j'<=b.size/\x+1+i'+j'<a.size+b.size)) ?_ ?_ ⟨⟨g,rfl⟩,o,i',j',_,_,_,rfl,G,hi,hi2,hj,hj2,hq⟩) ?_)
   .rintro y c st' _ hy ⟨⟨g,rfl⟩,o,i,j,p,q,t,rfl,G,hi,hi2,hj,hj2,hq⟩
    dsimp only;generalize p-1=p1;apply rG (x:=p1) (y:=p);intro mg;refine Aw (EM ?_);have j0:0<j:=Ky hj;have jb:j-1<b.size:=Au (Hj j0 Gn) hj2;refine Aw (z0 jb ?_);refine Aw (Z3 C hk (Hj hi Gn) (by rw[Ea];exact hi2) (λi' hi'=>ua _ (zD (by rw[Ea];exact Au hi' hi2))) (ub _ (zD jb)) (λi' j' h1 h2=>xS sa (E5 h1 0) (by rw[Ea];exact Au h2 hi2)) λk k1 k2 k3=>?_)
    simp only[Ea] at k2 k3;dsimp only;have G2:=G.ea sb k1 hj2 λ_ m q1 q2 _=>Ek (k3 m q1 q2);have kc:i-k=0->k=i:=λh=>Nk k1 (Oc h);generalize i-k=ac at kc ⊢;generalize o++(a.extract k i).reverse=o1 at G2 ⊢;apply oN (x:=k) (w:=o1) (y:=i) (v:=o) (P:=λna out=>GH r a b out na j/\0<na/\na<=a.size/\x+1+na+j<a.size+b.size/\r (a.getD (na-1) nv)<=r (b.getD (j-1) nv))
    case h1=>exact λ_ e=>A9 ⟨⟨_,rfl⟩,.inl ⟨_,rfl,G2.fin (.inl (by simpa using e))⟩⟩
    case hK =>
     rintro na out ⟨G2,hl,hl2,hq,hc⟩;have na1:na-1<a.size:=Au (Hj hl Gn) hl2;refine Aw (z0 jb ?_);have G3:=G2.pb sa j0 hj2 hl2 λ_=>hc;refine qL (λe=>A9 ⟨⟨_,rfl⟩,.inl ⟨_,rfl,G3.first (by simpa using e) hb h0⟩⟩) λe5=>?_
     have e5:¬ j-1=1:=by simpa using e5
     have j1:0<j-1:=Kz hj;refine Aw (z0 na1 ?_);refine Aw (Z4 C hk (Hj j1 Gn) (by rw[Ea];exact Ch jb) (λi hi=>ub _ (zD (by rw[Ea];exact E1 hi jb))) (ua _ (zD na1)) (λi j h1 h2=>xS sb (E5 h1 0) (by rw[Ea];exact E1 h2 jb)) λm m1 m2 m3=>?_)
     simp only[Ea] at m2 m3;dsimp only;have G4:=G3.eb sa m1 hl2 λ_ m q1 q2 _=>m3 m q1 q2;have mc:j-1-m=0->m=j-1:=λh=>Nk m1 (Oc h);generalize j-1-m=bc at mc ⊢;generalize out.push (b.getD (j-1) nv)++(b.extract m (j-1)).reverse=o2 at G4 ⊢;apply oO (x:=m) (w:=o2) (y:=j-1) (v:=out.push (b.getD (j-1) nv)) (P:=λnb out=>GH r a b out na nb/\1<nb/\nb<=j-1/\r (b.getD (nb-1) nv)<=r (a.getD (na-1) nv))
     case h1=>exact λ_ e=>A9 ⟨⟨_,rfl⟩,.inl ⟨_,rfl,G4.first (by simpa using e) hb h0⟩⟩
     case h1'=>exact λ_ _ e=>A9 ⟨⟨_,rfl⟩,.inl ⟨_,rfl,G4.fin (.inr (by simpa using e))⟩⟩
     case hK =>
      rintro nb out ⟨G4,h4,h5,hc4⟩;have h6:nb<=b.size:=Ca h5 (Ch jb);have hq2:x+1+(na-1)+nb<a.size+b.size:=Hx (So (E5 (Nat.sub_le _ _) _) (Ca h5 (Nat.sub_le _ _))) hq;refine Aw (z0 na1 ?_);have G5:=G4.pa sb hl hl2 h6 λ_=>hc4;refine qL (λe=>A9 ⟨⟨_,rfl⟩,.inl ⟨_,rfl,G5.fin (.inl (by simpa using e))⟩⟩) λe7=>?_
      have e7:0<na-1:=Fv (by simpa using e7)
      exact qL (λ_=>A9 ⟨⟨_,rfl⟩,.inr ⟨_,_,_,_,_,_,rfl,G5,e7,Ch na1,h4,h6,hq2⟩⟩) λ_=>A9 ⟨⟨_,rfl⟩,_,_,_,_,_,_,rfl,G5,e7,Ch na1,h4,h6,hq2⟩
     case h2 =>
      intro _ e6 e7;have e6:¬ m=1:=by simpa using e6
      have e7:¬ m=0:=by simpa using e7
      exact⟨G4,Et (Fv e7) (Dw e6),m1,Ek (m2 (m-1) (Hj (Fv e7) Gn))⟩
     case h3 =>
      intro e;cases mc (Ge e);exact⟨G3,Et j1 (Dw e5),Ay _,Ek (m2 (j-1-1) (Hj j1 Gn))⟩
    case h2 =>
     intro _ e;have e3:0<k:=Fv (by simpa using e)
     exact⟨G2,e3,Ca k1 hi2,Hx (Ov (E5 k1 _) _) hq,k2 (k-1) (Hj e3 Gn)⟩
    case h3 =>
     intro e;have e:=kc (Ge e);exact⟨G,hi,hi2,hq,k2 (i-1) (by rw[e];exact Hj hi Gn)⟩
   .rintro c st' ⟨z,o,i',j',p,q,t,rfl,G,hi,hi2,hj,hj2,hq⟩
    exact⟨z,.inr ⟨_,_,_,_,_,_,rfl,G,hi,hi2,hj,hj2,by lia⟩⟩
   .rintro c st' ⟨⟨g,rfl⟩,⟨m,hc,hm⟩|⟨o,i',j',p,q,t,rfl,G,hi,hi2,hj,hj2,hq⟩⟩
    .obtain⟨c0,c1⟩:=c
     cases hc;exact A9 ⟨⟨g,rfl⟩,m,rfl,hm⟩
    dsimp only;refine Aw (EM ?_);exact A9 ⟨⟨_,rfl⟩,_,_,_,_,rfl,G,hi,hi2,hj,hj2,by lia⟩
 .rintro c st' ⟨z,o,i',j',p,rfl,G,hi,hi2,hj,hj2,hq⟩
  exfalso
  lia
 .rintro c st' ⟨⟨g,rfl⟩,m,hc,hm⟩
  obtain⟨c0,c1⟩:=c;cases hc;exact A9 (h m g hm)
end
theorem cB:∀ (l:Aa AE) (arr:Av AE) (o d:Ah),o+d+l.length<=arr.size->∀ k,((l.zipIdx d).foldl (λa p=>a.setIfInBounds (o+p.2) p.1) arr)[k]? = if o+d<=k/\k<o+d+l.length then l[k-(o+d)]? else arr[k]?
 |[],arr,o,d,h,k=>by
  rw[AB (by simp only[IE];lia)];rfl
 |x::l,arr,o,d,h,k=>by
  rw[Bk] at h;rw[Lx,RX,cB l _ o (d+1) (by rw[Array.size_setIfInBounds];lia) k,Bk]
  by_cases h1:k=o+d
  .subst h1
   rw[AB (by lia),AA (by lia),Ps,Array.getElem?_setIfInBounds_self_of_lt (by lia)]
   rfl
  .by_cases h2:o+(d+1)<=k/\k<o+(d+1)+l.length
   .rw[AA h2,AA (by lia),show k-(o+d)=(k-(o+(d+1)))+1 by lia,Me]
   .rw[AB h2,AB (by lia),Array.getElem?_setIfInBounds_ne (by lia)]
noncomputable def wb (arr:Av AE)(o:Ah)(m:Av AE):Av AE:=m.toList.zipIdx.foldl (λa p=>a.setIfInBounds (o+p.2) p.1) arr
theorem J8 {o:Ah}(h:o+m.size<=arr.size)(k:Ah):(wb arr o m).getD k nv=if o<=k/\k<o+m.size then m.getD (k-o) nv else arr.getD k nv:=by
 have e:=cB m.toList arr o 0 (by simpa using h) k
 simp only[Pu,A4,A6] at e;rw[CM,CM,CM];unfold wb;rw[e]
 split <;> rfl
theorem J9 {o:Ah}(h:o+m.size<=arr.size):(wb arr o m).toList=arr.toList.take o++(m.toList++arr.toList.drop (o+m.size)):=by
 apply Qt;intro k;have e:=cB m.toList arr o 0 (by simpa using h) k
 simp only[Pu,A4,A6] at e;unfold wb;rw[A6,e];have lt:(arr.toList.take o).length=o:=by rw[Dz,A4];lia
 by_cases h1:k<o
 .rw[AB (by lia),AO (by lia),Ht h1,A6]
 .rw[Bb (by lia),lt]
  by_cases h2:k<o+m.size
  .rw[AA (by lia),AO (by rw[A4];lia),A6]
  .rw[AB (by lia),Bb (by rw[A4];lia),Pb,A4,A6]
   congr 1
   lia
theorem JA {o:Ah}(h:o+n<=arr.size)(p:m.toList.Perm (arr.extract o (o+n)).toList):(wb arr o m).toList.Perm arr.toList:=by
 have hm:m.size=n:=by
  have:=p.length_eq;rw[A4,A4,EH] at this
  lia
 rw[J9 (by lia),hm]
 have e:arr.toList=arr.toList.take o++((arr.extract o (o+n)).toList++arr.toList.drop (o+n)):=by rw[pA,Il]
 conv=>rhs;rw[e]
 exact EJ _ (Gd _ p)
def Seg (r:AE->Am)(a:Av AE)(lo n:Ah):Prop:=∀ i j,lo<=i->i<=j->j<lo+n->r (a.getD i nv)<=r (a.getD j nv)
theorem r9 {r:AE->Am}{a:Av AE}(h:Seg r a lo n){i k:Ah}(h1:lo<=i)(h2:i+k<=lo+n)(h3:i+k<=a.size):(a.extract i (i+k)).toList.Pairwise (Le r):=by
 rw[EV];intro x y hx hy l;have hx':x<k:=by rw[A4,EH] at hx;lia
 have hy':y<k:=by rw[A4,EH] at hy;lia
 have e:=h (i+x) (i+y) (by lia) (by lia) (by lia)
 have q1:i+x<a.size:=by lia
 have q2:i+y<a.size:=by lia
 simpa [Ds,q1,q2,Le] using e
theorem nX {a:Av AE}{i k m:Ah}(h:m<k)(h3:i+k<=a.size):(a.extract i (i+k)).getD m nv=a.getD (i+m) nv:=by
 have q1:i+m<a.size:=by lia
 have q2:m<(a.extract i (i+k)).size:=by rw[EH];lia
 have q3:m<min (i+k) a.size-i:=by lia
 simp[Ds,q1,q3]
theorem QZ {a:Av AE}{i j k:Ah}(h1:i<=j)(h2:j<=k):(a.extract i j).toList++(a.extract j k).toList=(a.extract i k).toList:=by
 rw[<- Bo,Array.extract_append_extract]
 congr 2 <;> lia
section
variable {prog:Az}{w:AL}{A:AJ}{E:Ac->Ag->Prop}{s:Ag}{κ : Hr}{U:AE->Prop}{r:AE->Am}
theorem JB {M:Gg}{σ:Type}{Q:PUnit->σ->Prop}{st st':σ}(h:Q ⟨⟩ st'):wpS M A E s (set st':Ih σ Gf PUnit) Q st:=by
 unfold wpS;rw[StateT.run_set];exact Al ⟨rfl,h⟩
theorem dH (C:Cm (Aq prog w) A s κ U r){i sa na pw nb pz:Ah}{Q:Ap->Dg->Prop}{arr:Av AE}{pd:Av (Ah × Ah × Ah)}{g:Ah}(ua:∀ x∈arr.toList,U x)(e1:pd[i]? = Ab (sa,na,pw))(e2:pd[i+1]? = Ab (sa+na,nb,pz))(p1:0<na)(p2:0<nb)(hz:sa+na+nb<=arr.size)
  (s1:Seg r arr sa na) (s2:Seg r arr (sa+na) nb)
  (h:∀ arr' g,arr'.toList.Perm arr.toList->(∀ k,k<sa\/sa+na+nb<=k->arr'.getD k nv=arr.getD k nv)->Seg r arr' sa (na+nb)->Q true (Bi κ arr' ((pd.setIfInBounds i (sa,na+nb,pw)).eraseIdxIfInBounds (i+1)) g none)) :
  wpS (Aq prog w) A E s (mergeAt' i) Q (Bi κ arr pd g none):=by
 refine Aw (HD ?_);dsimp only;rw[e1,e2];dsimp only;refine Aw (JB ?_);refine Aw (z0 (i:=sa+na) (by omega) ?_)
 refine Aw (Z3 C rfl (by omega) (by omega) (λi hi=>ua _ (zD (by omega))) (ua _ (zD (by omega))) (λi j a b=>s1 _ _ (by omega) (by omega) (by omega)) λk k1 k2 k3=>?_)
 dsimp only;refine qL (λe=>A9 (h arr g (HH _) (λ_ _=>rfl) λi j a b c=>?_)) λe=>?_
 .have e:na-k=0:=by simpa using e
  by_cases q1:j<sa+na
  .exact s1 i j a b q1
  .by_cases q2:sa+na<=i
   .exact s2 i j q2 b (by omega)
   .have:=k2 (i-sa) (by omega)
    rw[show sa+(i-sa)=i by omega] at this
    exact CY this (s2 _ _ (Ay _) (by omega) (by omega))
 have e:¬ na-k=0:=by simpa using e
 refine Aw (z0 (i:=sa+k+(na-k)-1) (by omega) ?_)
 refine Aw (Z4 C rfl (by omega) (by omega) (λi hi=>ua _ (zD (by omega))) (ua _ (zD (by omega))) (λi j a b=>s2 _ _ (by omega) (by omega) (by omega)) λm m1 m2 m3=>?_)
 dsimp only;rw[show sa+k+(na-k)-1=sa+na-1 by omega] at m2 m3
 have hk3:=k3 k (Ay _) (by omega)
 refine qL (λe=>?_) λe'=>?_
 .exfalso
  have e:m=0:=by simpa using e
  subst e;have q1:=m3 0 (Ay _) p2;have q2:=s1 (sa+k) (sa+na-1) (by omega) (by omega) (by omega)
  rw[Pu] at q1;omega
 have e':¬ m=0:=by simpa using e'
 have ex:arr.extract (sa+k) (sa+na)=arr.extract (sa+k) (sa+k+(na-k)):=by rw[show sa+k+(na-k)=sa+na by omega]
 have zx:(arr.extract (sa+k) (sa+na)).size=na-k:=by rw[EH];omega
 have zy:(arr.extract (sa+na) (sa+na+m)).size=m:=by rw[EH];omega
 have gx:∀ i,i<na-k->(arr.extract (sa+k) (sa+na)).getD i nv=arr.getD (sa+k+i) nv:=λi hi=>by rw[ex];exact nX hi (by omega)
 have gy:∀ i,i<m->(arr.extract (sa+na) (sa+na+m)).getD i nv=arr.getD (sa+na+i) nv:=λi hi=>nX hi (by omega)
 have px:(arr.extract (sa+k) (sa+na)).toList.Pairwise (Le r):=by rw[ex];exact r9 s1 (by omega) (by omega) (by omega)
 have py:(arr.extract (sa+na) (sa+na+m)).toList.Pairwise (Le r):=r9 s2 (by omega) (by omega) (by omega)
 have mx:∀ x∈(arr.extract (sa+k) (sa+na)).toList,∃ j,sa+k<=j/\j<sa+na/\x=arr.getD j nv:=λx hx=>by
  obtain⟨j,q1,q2,q3,q4⟩:=jO (by omega) hx
  exact⟨j,q1,q2,q4⟩
 have my:∀ x∈(arr.extract (sa+na) (sa+na+m)).toList,∃ j,sa+na<=j/\j<sa+na+m/\x=arr.getD j nv:=λx hx=>by
  obtain⟨j,q1,q2,q3,q4⟩:=jO (by omega) hx
  exact⟨j,q1,q2,q4⟩
 have lox:∀ x∈(arr.extract (sa+k) (sa+na)).toList,r (arr.getD (sa+na) nv)<=r x/\r x<=r (arr.getD (sa+na-1) nv):=λx hx=>by
  obtain⟨j,q1,q2,rfl⟩:=mx x hx;have:=s1 (sa+k) j (by omega) q1 q2
  exact⟨by omega,s1 j _ (by omega) (by omega) (by omega)⟩
 have loy:∀ x∈(arr.extract (sa+na) (sa+na+m)).toList,r (arr.getD (sa+na) nv)<=r x/\r x<=r (arr.getD (sa+na-1) nv):=λx hx=>by
  obtain⟨j,q1,q2,rfl⟩:=my x hx;have:=m2 (j-(sa+na)) (by omega)
  rw[show sa+na+(j-(sa+na))=j by omega] at this
  exact⟨s2 _ _ (Ay _) q1 (by omega),by omega⟩
 have fin:∀ mg g',Mo r ((arr.extract (sa+k) (sa+na)).toList++(arr.extract (sa+na) (sa+na+m)).toList) mg->Q true (Bi κ (wb arr (sa+k) mg) ((pd.setIfInBounds i (sa,na+nb,pw)).eraseIdxIfInBounds (i+1)) g' none):=by
  intro mg g' M;have ej:(arr.extract (sa+k) (sa+na)).toList++(arr.extract (sa+na) (sa+na+m)).toList=(arr.extract (sa+k) (sa+k+(na-k+m))).toList:=by
   rw[QZ (by omega) (by omega),show sa+k+(na-k+m)=sa+na+m by omega]
  have hm:mg.size=na-k+m:=by
   have:=M.pm.length_eq;rw[Bs,A4,A4,A4,zx,zy] at this;exact this
  have gd:=λj=>J8 (arr:=arr) (m:=mg) (o:=sa+k) (by omega) j
  refine h _ g' (JA (n:=na-k+m) (by omega) (ej▸M.pm)) (λj hj=>?_) λi j a b c=>?_
  .rw[gd,AB (by omega)]
  .have bd:∀ j,sa+k<=j->j<sa+na+m->r (arr.getD (sa+na) nv)<=r (mg.getD (j-(sa+k)) nv)/\r (mg.getD (j-(sa+k)) nv)<=r (arr.getD (sa+na-1) nv):=λj h1 h2=>by
    have:=M.pm.mem_iff.mp (zD (a:=mg) (i:=j-(sa+k)) (by omega))
    rcases AX.mp this with q|q
    .exact lox _ q
    .exact loy _ q
   rw[gd,gd,hm];by_cases i1:i<sa+k
   .rw[AB (by omega)]
    have u:=k2 (i-sa) (by omega)
    rw[show sa+(i-sa)=i by omega] at u
    by_cases j1:j<sa+k
    .rw[AB (by omega)];exact s1 i j a b (by omega)
    .by_cases j2:j<sa+na+m
     .rw[AA (by omega)];exact CY u (bd j (by omega) j2).1
     .rw[AB (by omega)];exact CY u (s2 _ _ (Ay _) (by omega) (by omega))
   .by_cases i2:i<sa+na+m
    .rw[AA (by omega)]
     by_cases j2:j<sa+na+m
     .rw[AA (by omega)];exact xS M.up (by omega) (by omega)
     .rw[AB (by omega)]
      have v:=m3 (j-(sa+na)) (by omega) (by omega)
      rw[show sa+na+(j-(sa+na))=j by omega] at v
      exact CY (bd i (by omega) i2).2 v
    .rw[AB (by omega),AB (by omega)]
     exact s2 i j (by omega) b (by omega)
 have ux:∀ x∈(arr.extract (sa+k) (sa+na)).toList,U x:=λx hx=>by obtain⟨j,q1,q2,rfl⟩:=mx x hx;exact ua _ (zD (by omega))
 have uy:∀ x∈(arr.extract (sa+na) (sa+na+m)).toList,U x:=λx hx=>by obtain⟨j,q1,q2,rfl⟩:=my x hx;exact ua _ (zD (by omega))
 have y0:(arr.extract (sa+na) (sa+na+m)).getD 0 nv=arr.getD (sa+na) nv:=gy 0 (by omega)
 have xl:(arr.extract (sa+k) (sa+na)).getD ((arr.extract (sa+k) (sa+na)).size-1) nv=arr.getD (sa+na-1) nv:=by rw[zx,gx _ (by omega)];congr 1;omega
 refine qL (λ_=>?_) λ_=>?_
 .refine Aw (dJ C rfl ux uy px py (λmg g' M=>?_) (by rw[zx];omega) (by rw[zy];omega) ?_ λx hx=>?_)
  .refine Aw (EM (Aw (HD (A9 ?_))))
   exact fin mg g' M
  .rw[y0];exact(lox _ (zD (by rw[zx];omega))).1
  .rw[xl];exact(loy x hx).2
 .refine Aw (dI C rfl ux uy px py (λmg g' M=>?_) (by rw[zx];omega) (by rw[zy];omega) (λx hx=>?_) ?_)
  .refine Aw (EM (Aw (HD (A9 ?_))))
   exact fin mg g' M
  .rw[y0];exact(lox x hx).1
  .rw[xl];exact(loy _ (zD (by rw[zy];omega))).2
end
noncomputable def mir (a:Av AE)(i j:Ah):Av AE:=mirror a i j ((j-i)/2)
theorem xQ {a:Av AE}{i j:Ah}(hj:j<=a.size)(k:Ah):(mir a i j).getD k nv=if i<=k/\k<j then a.getD (i+j-1-k) nv else a.getD k nv:=by
 rw[CM,CM,CM];unfold mir;rw[getElem?_mirror_all hj]
 split <;> rfl
structure Cr (a b:Av AE)(lo n:Ah):Prop where
 pm:b.toList.Perm a.toList
 out:∀ k,k<lo\/lo+n<=k->b.getD k nv=a.getD k nv
theorem Cr.z {a b:Av AE}(h:Cr a b lo n):b.size=a.size:=by
 have:=h.pm.length_eq;simpa using this
theorem Cr.rfl' {a:Av AE}:Cr a a lo n:=⟨HH _,λ_ _=>rfl⟩
theorem Cr.mir {a b:Av AE}{i j:Ah}(h:Cr a b lo n)(h1:lo<=i)(h2:j<=lo+n)(h3:j<=a.size):Cr a (mir b i j) lo n:=
 ⟨(Jz.mp (mirror_perm _ _ _ _)).trans h.pm,λk hk=>by rw[xQ (by rw[h.z];exact h3),AB (by lia)];exact h.out k hk⟩
def Dsg (r:AE->Am)(a:Av AE)(lo n:Ah):Prop:=∀ i j,lo<=i->i<=j->j<lo+n->r (a.getD j nv)<=r (a.getD i nv)
theorem XH {r:AE->Am}{a:Av AE}(h:Seg r a lo n)(h1:1<=n)(l:r (a.getD (lo+n-1) nv)<=r (a.getD (lo+n) nv)):Seg r a lo (n+1):=λi j h2 h3 h4=>by
 by_cases q:j<lo+n
 .exact h i j h2 h3 q
 .have:j=lo+n:=by lia
  subst this;by_cases q2:i=lo+n
  .subst q2;exact Ik _
  .exact CY (h i (lo+n-1) h2 (by lia) (by lia)) l
theorem yZ {r:AE->Am}{a:Av AE}(h:Dsg r a lo n)(h1:1<=n)(l:r (a.getD (lo+n) nv)<=r (a.getD (lo+n-1) nv)):Dsg r a lo (n+1):=λi j h2 h3 h4=>by
 by_cases q:j<lo+n
 .exact h i j h2 h3 q
 .have:j=lo+n:=by lia
  subst this;by_cases q2:i=lo+n
  .subst q2;exact Ik _
  .exact CY l (h i (lo+n-1) h2 (by lia) (by lia))
theorem rA {r:AE->Am}{a:Av AE}:Seg r a lo 1:=λi j h2 h3 h4=>by
 have:i=j:=by lia
 subst this;exact Ik _
theorem YO {r:AE->Am}{a:Av AE}:Dsg r a lo 1:=λi j h2 h3 h4=>by
 have:i=j:=by lia
 subst this;exact Ik _
def oT (r:AE->Am)(a:Av AE)(lo n q:Ah):Prop:=q+1<=n/\∀ k,lo+n-(q+1)<=k->k<lo+n->r (a.getD k nv)=r (a.getD (lo+n-1) nv)
set_option tactic.hygienic true in
theorem jC {r:AE->Am}{a:Av AE}{q:Ah}(hn:lo+n<=a.size)(h:oT r a lo n q)(k:Ah):r ((mir a (lo+n-(q+1)) (lo+n)).getD k nv)=r (a.getD k nv):=by
 rw[xQ hn];have:=h.1
 split
 .rename_i c
  rw[h.2 k (by lia) c.2,h.2 _ (by lia) (by lia)]
 .rfl
theorem YN {r:AE->Am}{a:Av AE}(hn:lo+n<=a.size)(h:Dsg r a lo n):Seg r (mir a lo (lo+n)) lo n:=λi j h2 h3 h4=>by
 rw[xQ hn,xQ hn,AA (by lia),AA (by lia)]
 exact h _ _ (by lia) (by lia) (by lia)
section
variable {prog:Az}{w:AL}{A:AJ}{E:Ac->Ag->Prop}{s:Ag}{κ : Hr}{U:AE->Prop}{r:AE->Am}
theorem uZ (C:Cm (Aq prog w) A s κ U r){i j:Ah}{arr:Av AE}{pd:Av (Ah × Ah × Ah)}{g:Ah}{Q:Ak Ap->Dg->Prop}(ua:∀ x∈arr.toList,U x)(hi:i<arr.size)(hj:j<arr.size)
  (q:Q (Ab (decide (r (arr.getD i nv)<r (arr.getD j nv)))) (Bi κ arr pd g none)):wpS (Aq prog w) A E s (ltAt' i j) Q (Bi κ arr pd g none):=by
 refine Aw (HD ?_);exact Aw (z0 hi (Aw (z0 hj (C.lt (ua _ (zD hi)) (ua _ (zD hj)) rfl q))))
theorem gQ {i j:Ah}{pd:Av (Ah × Ah × Ah)}{g:Ah}{Q:PUnit->Dg->Prop}(q:Q ⟨⟩ (Bi κ (mir arr i j) pd g none)):wpS (Aq prog w) A E s (reverseSlice' i j) Q (Bi κ arr pd g none):=EM q
theorem tG (C:Cm (Aq prog w) A s κ U r){lo N:Ah}{arr:Av AE}{pd:Av (Ah × Ah × Ah)}{g:Ah}{Q:Ak Ah->Dg->Prop}(ua:∀ x∈arr.toList,U x)(h1:1<=N)(hz:lo+N<=arr.size)
  (h:∀ n b,1<=n->n<=N->Cr arr b lo N->Seg r b lo n->Q (Ab n) (Bi κ b pd g none)):wpS (Aq prog w) A E s (countRun' lo N) Q (Bi κ arr pd g none):=by
 have uc:∀ {b:Av AE},Cr arr b lo N->∀ x∈b.toList,U x:=λh x hx=>ua x (h.pm.mem_iff.mp hx);have asc:∀ {b:Av AE} {n:Ah} {f:Ah->Ak (Ak Ah) × Ah->Ih Dg Gf (ForInStep (Ak (Ak Ah) × Ah))},Cr arr b lo N->1<=n->n<=N->Seg r b lo n ->
   (∀ x m,f x (none,m)=(ltAt' (lo+m) (lo+m-1) >>= λo=>match o with
    |some z=>if z then pure (.done (none,m)) else pure (.yield (none,m+1))
    |_=>pure (.done (Ab none,m))))->wpS (Aq prog w) A E s (forIn [n:N] (none,n) f) (λc st'=>st'=Bi κ b pd g none/\∃ m,c=(none,m)/\n<=m/\m<=N/\Seg r b lo m/\(m=N\/r (b.getD (lo+m) nv)<r (b.getD (lo+m-1) nv))) (Bi κ b pd g none):=by
  intro b n f cr hn hN sg hf;have zb:=cr.z;refine CS (I:=λx c st'=>st'=Bi κ b pd g none/\c=(none,x)/\n<=x/\Seg r b lo x) ?_ ?_ ⟨rfl,rfl,Ay _,sg⟩
  .rintro x c st' hx1 hx ⟨rfl,rfl,hx3,sg⟩
   rw[hf];refine Aw (uZ C (uc cr) (by lia) (by lia) ?_)
   by_cases l:r (b.getD (lo+x) nv)<r (b.getD (lo+x-1) nv)
   .simp only[l,Fj,Cc]
    exact A9 ⟨rfl,x,rfl,hx1,by lia,sg,.inr l⟩
   .simp only[l,Fl,AI,Ci]
    exact A9 ⟨rfl,rfl,by lia,XH sg (by lia) (by lia)⟩
  .rintro c st' ⟨rfl,rfl,hx3,sg⟩
   rw[show max n N=N by lia] at sg ⊢
   exact⟨rfl,N,rfl,hN,Ay _,sg,.inl rfl⟩
 refine Aw (Eh (asc Cr.rfl' (Ay 1) h1 rA λ_ _=>rfl) ?_);rintro c st' ⟨rfl,n,rfl,n1,n2,sg,nd⟩;dsimp only;refine qL (λe=>A9 (h n arr n1 n2 Cr.rfl' sg)) λe=>?_;have e:¬ n=N:=by simpa using e
 have nd:r (arr.getD (lo+n) nv)<r (arr.getD (lo+n-1) nv):=by lia
 apply qL
 case' h1 =>
  intro np;refine Aw (uZ C ua (by lia) (by lia) ?_)
  dsimp only;refine qL (λe=>A9 (h n arr n1 n2 Cr.rfl' sg)) λl=>?_;have l:¬ r (arr.getD lo nv)<r (arr.getD (lo+n-1) nv):=by simpa using l
  refine Aw (gQ ?_);have cr:Cr arr (mir arr lo (lo+n)) lo N:=Cr.rfl'.mir (Ay _) (by lia) (by lia)
  have ds:Dsg r (mir arr lo (lo+n)) lo (n+1):=by
   refine yZ (λi j a b c=>?_) n1 ?_
   .rw[xQ (by lia),xQ (by lia),AA (by lia),AA (by lia)]
    exact sg _ _ (by lia) (by lia) (by lia)
   .rw[xQ (by lia),xQ (by lia),AB (by lia),AA (by lia),show lo+(lo+n)-1-(lo+n-1)=lo by lia]
    lia
 case' h2 =>
  intro np;have cr:Cr arr arr lo N:=Cr.rfl';have ds:Dsg r arr lo (n+1):=by
   have:n=1:=by lia
   subst this;exact yZ YO (Ay _) (Ek nd)
 all_goals
  refine Aw (Kb (Ef ⟨rfl,?_⟩));refine Aw (Eh (CS (I:=λx c st'=>∃ b q,st'=Bi κ b pd g none/\c=(none,x,q)/\Cr arr b lo N/\Dsg r b lo x/\oT r b lo x q)
   (Q:=λc st'=>∃ b m q,st'=Bi κ b pd g none/\c=(none,m,q)/\1<=m/\m<=N/\Cr arr b lo N/\Dsg r b lo m/\oT r b lo m q) ?_ ?_ ⟨_,0,rfl,rfl,cr,ds,by lia,λk a b=>by rw[show k=lo+(n+1)-1 by lia]⟩) ?_)
  .rintro x c st' hx1 hx ⟨b,q,rfl,rfl,cr,ds,eq⟩
   dsimp only;have zb:=cr.z;refine Aw (uZ C (uc cr) (by lia) (by lia) ?_)
   dsimp only;refine qL (λl=>?_) λl=>?_
   .have l:r (b.getD (lo+x) nv)<r (b.getD (lo+x-1) nv):=by simpa using l
    refine qL (λqp=>Aw (gQ (A9 ⟨_,0,rfl,rfl,cr.mir (by have:=eq.1;lia) (by lia) (by lia),λi j a c d=>?_,by lia,λk a b=>by rw[show k=lo+(x+1)-1 by lia]⟩))) λqp=>A9 ⟨_,0,rfl,rfl,cr,yZ ds (by lia) (Ek l),by lia,λk a b=>by rw[show k=lo+(x+1)-1 by lia]⟩
    rw[jC (by lia) eq,jC (by lia) eq]
    exact yZ ds (by lia) (Ek l) i j a c d
   .have l:¬ r (b.getD (lo+x) nv)<r (b.getD (lo+x-1) nv):=by simpa using l
    refine Aw (uZ C (uc cr) (by lia) (by lia) ?_)
    dsimp only;refine qL (λl2=>A9 ⟨b,x,q,rfl,rfl,by lia,by lia,cr,ds,eq⟩) λl2=>?_
    have l2:¬ r (b.getD (lo+x-1) nv)<r (b.getD (lo+x) nv):=by simpa using l2
    have ee:r (b.getD (lo+x) nv)=r (b.getD (lo+x-1) nv):=by lia
    refine A9 ⟨b,q+1,rfl,rfl,cr,yZ ds (by lia) (by lia),by have:=eq.1;lia,λk a c=>?_⟩
    rw[show lo+(x+1)-1=lo+x by lia]
    by_cases kx:k=lo+x
    .rw[kx]
    .rw[ee];exact eq.2 k (by lia) (by lia)
  .rintro c st' ⟨b,q,rfl,rfl,cr,ds,eq⟩
   rw[show max (n+1) N=N by lia] at ds eq ⊢
   exact⟨b,N,q,rfl,rfl,h1,Ay _,cr,ds,eq⟩
  .rintro c st' ⟨b,m,q,rfl,rfl,m1,m2,cr,ds,eq⟩
   dsimp only;have zb:=cr.z;apply qL
   case' h1 =>
    intro qp;refine Aw (gQ ?_);have cr2:=cr.mir (i:=lo+m-(q+1)) (j:=lo+m) (by have:=eq.1;lia) (by lia) (by lia)
    have ds2:Dsg r (mir b (lo+m-(q+1)) (lo+m)) lo m:=λi j a c d=>by
     rw[jC (by lia) eq,jC (by lia) eq]
     exact ds i j a c d
   case' h2 =>
    intro qp;have cr2:=cr;have ds2:=ds
   all_goals
    have z2:=cr2.z;refine Aw (gQ ?_);refine Aw (Eh (asc (cr2.mir (Ay _) (by lia) (by lia)) m1 m2 (YN (by lia) ds2) λ_ _=>rfl) ?_)
    rintro c st' ⟨rfl,n',rfl,q1,q2,q3,_⟩;exact A9 (h n' _ (by lia) q2 (cr2.mir (Ay _) (by lia) (by lia)) q3)
end
theorem n9 {a:Av AE}{src d:Ah}(hs:src<a.size)(hd:d<=src)(k:Ah):(bubble a src d).getD k nv=if k=src-d then a.getD src nv else if src-d<k/\k<=src then a.getD (k-1) nv else a.getD k nv:=by
 simp only[CM];rw[getElem?_bubble hs d hd]
 repeat' split
 all_goals rfl
section
variable {prog:Az}{w:AL}{A:AJ}{E:Ac->Ag->Prop}{s:Ag}{κ : Hr}{U:AE->Prop}{r:AE->Am}
theorem lZ (C:Cm (Aq prog w) A s κ U r){lo n ok:Ah}{arr:Av AE}{pd:Av (Ah × Ah × Ah)}{g:Ah}{Q:Ap->Dg->Prop}(ua:∀ x∈arr.toList,U x)(h1:ok<=n)(hz:lo+n<=arr.size)(sg:Seg r arr lo ok)
  (h:∀ b,Cr arr b lo n->Seg r b lo n->Q true (Bi κ b pd g none)):wpS (Aq prog w) A E s (binarySort' lo n ok) Q (Bi κ arr pd g none):=by
 have uc:∀ {b:Av AE},Cr arr b lo n->∀ x∈b.toList,U x:=λh x hx=>ua x (h.pm.mem_iff.mp hx);have sg1:Seg r arr lo (max ok 1):=by
  by_cases q:ok=0
  .rw[q];exact rA
  .rw[show max ok 1=ok by lia];exact sg
 refine Aw (Eh (CS (I:=λk c st'=>c=(none,())/\∃ b,st'=Bi κ b pd g none/\Cr arr b lo n/\Seg r b lo (min k (max ok (max n 1))))
  (Q:=λc st'=>c=(none,())/\∃ b,st'=Bi κ b pd g none/\Cr arr b lo n/\Seg r b lo n) ?_ ?_ ⟨rfl,arr,rfl,Cr.rfl',?_⟩) ?_)
 .rintro k c st' hk hkn ⟨rfl,b,rfl,cr,sg⟩
  have zb:=cr.z;rw[show min k (max ok (max n 1))=k by lia] at sg
  dsimp only;refine Aw (Eh (CS (I:=λx c st'=>st'=Bi κ b pd g none/\∃ l u,c=(none,l,u)/\l<=u/\u<=k/\u-l<=k-x/\(∀ i,i<l->r (b.getD (lo+i) nv)<=r (b.getD (lo+k) nv))/\∀ i,u<=i->i<k->r (b.getD (lo+k) nv)<r (b.getD (lo+i) nv))
   (Q:=λc st'=>st'=Bi κ b pd g none/\∃ l u,c=(none,l,u)/\l<=k/\(∀ i,i<l->r (b.getD (lo+i) nv)<=r (b.getD (lo+k) nv))/\∀ i,l<=i->i<k->r (b.getD (lo+k) nv)<r (b.getD (lo+i) nv)) ?_ ?_
   ⟨rfl,0,k,rfl,by lia,by lia,by lia,λi hi=>by lia,λi a b=>by lia⟩) ?_)
  .rintro x c st' _ hx ⟨rfl,l,u,rfl,q1,q2,q3,q4,q5⟩
   dsimp only;refine qL (λe=>A9 ⟨rfl,l,u,rfl,by lia,q4,λi a b=>q5 i (by lia) b⟩) λe=>?_
   refine Aw (uZ C (uc cr) (by lia) (by lia) ?_)
   dsimp only;refine qL (λz=>?_) λz=>?_
   .have z:r (b.getD (lo+k) nv)<r (b.getD (lo+(l+u)/2) nv):=by simpa using z
    exact A9 ⟨rfl,_,_,rfl,by lia,by lia,by lia,q4,λi a c=>Int.lt_of_lt_of_le z (sg _ _ (by lia) (by lia) (by lia))⟩
   .have z:¬ r (b.getD (lo+k) nv)<r (b.getD (lo+(l+u)/2) nv):=by simpa using z
    exact A9 ⟨rfl,_,_,rfl,by lia,by lia,by lia,λi a=>CY (sg _ _ (by lia) (by lia) (by lia)) (Sl.mp z),q5⟩
  .rintro c st' ⟨rfl,l,u,rfl,q1,q2,q3,q4,q5⟩
   exact⟨rfl,l,u,rfl,by lia,q4,λi a b=>q5 i (by lia) b⟩
  .rintro c st' ⟨rfl,l,u,rfl,q1,q4,q5⟩
   dsimp only;refine Aw (EM (A9 ⟨rfl,_,rfl,⟨(Jz.mp (bubble_perm _ _ _)).trans cr.pm,λj hj=>?_⟩,?_⟩))
   .show (bubble b (lo+k) (lo+k-(lo+l))).getD j nv=_
    rw[n9 (by lia) (by lia),AB (by lia),AB (by lia)]
    exact cr.out j hj
   .rw[show min (k+1) (max ok (max n 1))=k+1 by lia]
    have e:∀ j,(bubble b (lo+k) (lo+k-(lo+l))).getD j nv=if j=lo+l then b.getD (lo+k) nv else if lo+l<j/\j<=lo+k then b.getD (j-1) nv else b.getD j nv:=λj=>by
     rw[n9 (by lia) (by lia),show lo+k-(lo+k-(lo+l))=lo+l by lia]
    intro i j a c d;show r ((bubble b (lo+k) (lo+k-(lo+l))).getD i nv)<=r ((bubble b (lo+k) (lo+k-(lo+l))).getD j nv);rw[e,e];by_cases i1:i<lo+l
    .rw[AB (by lia),AB (by lia)]
     have u1:=q4 (i-lo) (by lia)
     rw[show lo+(i-lo)=i by lia] at u1
     by_cases j1:j<lo+l
     .rw[AB (by lia),AB (by lia)];exact sg i j a c (by lia)
     .by_cases j2:j=lo+l
      .rw[AA j2];exact u1
      .rw[AB j2,AA (by lia)];exact sg _ _ a (by lia) (by lia)
    .by_cases i2:i=lo+l
     .rw[AA i2]
      by_cases j2:j=lo+l
      .rw[AA j2];exact Ik _
      .rw[AB j2,AA (by lia)]
       have:=q5 (j-1-lo) (by lia) (by lia)
       rw[show lo+(j-1-lo)=j-1 by lia] at this
       exact Ek this
     .rw[AB i2,AA (by lia),AB (by lia),AA (by lia)]
      exact sg _ _ (by lia) (by lia) (by lia)
 .rintro c st' ⟨rfl,b,rfl,cr,sg⟩
  refine⟨rfl,b,rfl,cr,?_⟩;intro i j a c d;exact sg i j a c (by lia)
 .rw[show min (max ok 1) (max ok (max n 1))=max ok 1 by lia];exact sg1
 .rintro c st' ⟨rfl,b,rfl,cr,sg⟩
  exact A9 (h b cr sg)
end
def Rn (r:AE->Am)(a:Av AE):Aa (Ah × Ah × Ah)->Ah->Ah->Prop
 |[],x,y=>x=y
 |(s,n,_)::t,x,y=>s=x/\0<n/\Seg r a s n/\Rn r a t (x+n) y
section
variable {r:AE->Am}{a b:Av AE}
theorem Rn.app:∀ {L1 L2:Aa (Ah × Ah × Ah)} {x y:Ah},Rn r a (L1++L2) x y↔∃ m,Rn r a L1 x m/\Rn r a L2 m y
 |[],L2,x,y=>⟨λh=>⟨x,rfl,h⟩,λ⟨m,h1,h2⟩=>by cases h1;exact h2⟩
 |(s,n,p)::t,L2,x,y=>by
  show s=x/\0<n/\Seg r a s n/\Rn r a (t++L2) (x+n) y↔∃ m,(s=x/\0<n/\Seg r a s n/\Rn r a t (x+n) m)/\Rn r a L2 m y;rw[Rn.app];exact⟨λ⟨h1,h2,h3,m,h4,h5⟩=>⟨m,⟨h1,h2,h3,h4⟩,h5⟩,λ⟨m,⟨h1,h2,h3,h4⟩,h5⟩=>⟨h1,h2,h3,m,h4,h5⟩⟩
theorem Rn.le:∀ {L:Aa (Ah × Ah × Ah)} {x y:Ah},Rn r a L x y->x+L.length<=y
 |[],x,y,h=>by cases h;simp
 |(s,n,p)::t,x,y,h=>by have:=Rn.le h.2.2.2;have:=h.2.1;simp only[Bk];lia
theorem Rn.congr:∀ {L:Aa (Ah × Ah × Ah)} {x y:Ah},Rn r a L x y->(∀ k,x<=k->k<y->b.getD k nv=a.getD k nv)->Rn r b L x y
 |[],x,y,h,_=>h
 |(s,n,p)::t,x,y,h,e=>by
  obtain⟨rfl,h2,h3,h4⟩:=h;have l:=Rn.le h4;refine⟨rfl,h2,λi j a c d=>?_,Rn.congr h4 λk h1 h2=>e k (by lia) h2⟩
  rw[e i (by lia) (by lia),e j (by lia) (by lia)]
  exact h3 i j a c d
theorem Rn.mod {f:Ah × Ah × Ah->Ah × Ah × Ah}(hf:∀ u v p,∃ p',f (u,v,p)=(u,v,p')):∀ {L:Aa (Ah × Ah × Ah)} {i x y:Ah},Rn r a L x y->Rn r a (L.modify i f) x y
 |[],i,x,y,h=>by simpa using h
 |(s,n,p)::t,0,x,y,h=>by
  obtain⟨p',e⟩:=hf s n p;rw[List.modify_zero_cons,e];exact h
 |(s,n,p)::t,i+1,x,y,h=>by
  rw[List.modify_succ_cons];exact⟨h.1,h.2.1,h.2.2.1,Rn.mod hf h.2.2.2⟩
end
theorem FW {α:Type}{l:Aa α}{i:Ah}(h:i+1<l.length):∃ L1 x y L2,l=L1++x::y::L2/\L1.length=i:=by
 refine⟨l.take i,l[i],l[i+1],l.drop (i+2),?_,by rw[Dz];lia⟩
 rw[<- En h,<- En (by lia),Il]
section
variable {prog:Az}{w:AL}{A:AJ}{E:Ac->Ag->Prop}{s:Ag}{κ : Hr}{U:AE->Prop}{r:AE->Am}
theorem bJ (C:Cm (Aq prog w) A s κ U r){i e:Ah}{Q:Ap->Dg->Prop}{arr:Av AE}{pd:Av (Ah × Ah × Ah)}{g:Ah}(ua:∀ x∈arr.toList,U x)(hi:i+1<pd.size)(R:Rn r arr pd.toList 0 e)(he:e<=arr.size)
  (h:∀ b pd' g,b.toList.Perm arr.toList->(∀ k,e<=k->b.getD k nv=arr.getD k nv)->Rn r b pd'.toList 0 e->pd'.size+1=pd.size->Q true (Bi κ b pd' g none)):wpS (Aq prog w) A E s (mergeAt' i) Q (Bi κ arr pd g none):=by
 obtain⟨L1,⟨sa,na,pa⟩,⟨sb,nb,pb⟩,L2,el,hl⟩:=FW (l:=pd.toList) (i:=i) (by simpa using hi)
 rw[el] at R;obtain⟨m,R1,rfl,p1,s1,rfl,p2,s2,R2⟩:=Rn.app.mp R;have l2:=Rn.le R2;have e1:pd[i]? = Ab (sa,na,pa):=by
  rw[<- A6,el,<- hl,Bb (Ay _),Ps];rfl
 have e2:pd[i+1]? = Ab (sa+na,nb,pb):=by
  rw[<- A6,el,<- hl,Bb (by lia),Fm];rfl
 refine dH C ua e1 e2 p1 p2 (by lia) s1 s2 λb g pm out sg=>?_
 have ep:((pd.setIfInBounds i (sa,na+nb,pa)).eraseIdxIfInBounds (i+1)).toList=L1++(sa,na+nb,pa)::L2:=by
  rw[Array.toList_eraseIdxIfInBounds,Array.toList_setIfInBounds,el,<- hl,List.set_append_right _ _ (Ay _),Ps,List.set_cons_zero,List.eraseIdx_append_of_length_le (by lia),Fm]
  rfl
 refine h b _ g pm (λk hk=>out k (by lia)) ?_ ?_
 .rw[ep]
  refine Rn.app.mpr ⟨sa,R1.congr λk _ hk=>out k (by lia),rfl,by lia,sg,?_⟩
  rw[<- Tr];exact R2.congr λk hk _=>out k (by lia)
 .have:=congrArg Ra ep
  have q:=congrArg Ra el;simp only[A4,Bs,Bk] at this q
  lia
theorem tH (C:Cm (Aq prog w) A s κ U r){Q:IV->Dg->Prop}{arr:Av AE}{g:Ah}(ua:∀ x∈arr.toList,U x)(h2:0<arr.size)
  (h:∀ b pd g,b.toList.Perm arr.toList->b.toList.Pairwise (Le r)->Q () (Bi κ b pd g none)):wpS (Aq prog w) A E s sortRuns' Q (Bi κ arr #[] g none):=by
 have uc:∀ {b:Av AE},b.toList.Perm arr.toList->∀ x∈b.toList,U x:=λh x hx=>ua x (h.mem_iff.mp hx);have zc:∀ {b:Av AE},b.toList.Perm arr.toList->b.size=arr.size:=λh=>by simpa using h.length_eq
 refine Aw (HD ?_);dsimp only;refine Aw (Eh (CS (I:=λx c st'=>∃ b pd g lo,st'=Bi κ b pd g none/\c=(none,lo)/\b.toList.Perm arr.toList/\lo<=arr.size/\min x arr.size<=lo/\Rn r b pd.toList 0 lo)
  (Q:=λc st'=>∃ b pd g,st'=Bi κ b pd g none/\c=(none,arr.size)/\b.toList.Perm arr.toList/\Rn r b pd.toList 0 arr.size) ?_ ?_ ⟨arr,#[],g,0,rfl,rfl,HH _,by lia,by lia,rfl⟩) ?_)
 .rintro x c st' _ hx ⟨b,pd,g,lo,rfl,rfl,pm,lo1,lo2,R⟩
  have zb:=zc pm;dsimp only;refine qL (λe=>A9 ⟨b,pd,g,rfl,by rw[show lo=arr.size by lia],pm,by rw[show arr.size=lo by lia];exact R⟩) λe=>?_
  refine Aw (tG C (uc pm) (by lia) (by lia) λn b2 n1 n2 cr sg=>?_)
  have R2:Rn r b2 pd.toList 0 lo:=R.congr λk _ hk=>cr.out k (.inl hk);have pm2:=cr.pm.trans pm;have z2:=zc pm2;dsimp only;apply qL
  case' h1 =>
   intro lt;refine Aw (Kb (Ef ⟨rfl,?_⟩));refine Aw (lZ C (uc pm2) (by lia) (by lia) sg λb3 cr3 sg3=>?_)
   have R3:Rn r b3 pd.toList 0 lo:=R2.congr λk _ hk=>cr3.out k (.inl hk);have pm3:=cr3.pm.trans pm2;refine qL (λe=>by simp at e) λ_=>?_
   have n3:lo+min (arr.size-lo) ((sortPriv% PySem.Builtin.minRun) arr.size arr.size 0)<=arr.size:=by lia
   have n4:0<min (arr.size-lo) ((sortPriv% PySem.Builtin.minRun) arr.size arr.size 0):=by lia
  case' h2 =>
   intro lt;have R3:=R2;have pm3:=pm2;have sg3:=sg;have n3:lo+n<=arr.size:=by lia
   have n4:0<n:=n1
  all_goals
   refine Aw (HD ?_);dsimp only;rcases hb:pd.back? with _|⟨s1,l1,p1⟩
   .dsimp only
    refine Aw (EM (A9 ⟨_,_,_,_,rfl,rfl,pm3,n3,by lia,?_⟩))
    show Rn r _ (pd.push _).toList 0 _;rw[Cy];exact Rn.app.mpr ⟨lo,R3,rfl,n4,sg3,rfl⟩
   .dsimp only
    refine Aw (Eh (CS (I:=λ_ c st'=>c=(none,())/\∃ b pd g,st'=Bi κ b pd g none/\b.toList.Perm arr.toList/\Rn r b pd.toList 0 lo/\Seg r b lo _)
     (Q:=λc st'=>c=(none,())/\∃ b pd g,st'=Bi κ b pd g none/\b.toList.Perm arr.toList/\Rn r b pd.toList 0 lo/\Seg r b lo _) ?_ (λ_ _ z=>z) ⟨rfl,_,pd,g,rfl,pm3,R3,sg3⟩) ?_)
    .rintro y c st' _ hy ⟨rfl,b,pd,g,rfl,pm,R,sg⟩
     have zb:=zc pm;refine Aw (HD ?_);dsimp only;by_cases hp:pd.size>1
     .rw[AA hp]
      rcases hq:pd[pd.size-2]? with _|⟨u,v,old⟩
      .exact A9 ⟨rfl,b,pd,g,rfl,pm,R,sg⟩
      .dsimp only
       refine qL (λ_=>A9 ⟨rfl,b,pd,g,rfl,pm,R,sg⟩) λ_=>?_;refine Aw (bJ C (uc pm) (by lia) R (by lia) λb' pd' g' p' out R' _=>?_)
       refine qL (λe=>by simp at e) λ_=>A9 ⟨rfl,b',pd',g',rfl,p'.trans pm,R',λi j a c d=>?_⟩
       rw[out i a,out j (by lia)]
       exact sg i j a c d
     .rw[AB hp]
      exact A9 ⟨rfl,b,pd,g,rfl,pm,R,sg⟩
    .rintro c st' ⟨rfl,b,pd,g,rfl,pm,R,sg⟩
     dsimp only;refine Aw (EM (Aw (EM (A9 ⟨_,_,_,_,rfl,rfl,pm,n3,by lia,?_⟩))))
     show Rn r b ((pd.modify (pd.size-1) _).push _).toList 0 _;rw[Cy,Array.toList_modify];exact Rn.app.mpr ⟨lo,Rn.mod (λ_ _ _=>⟨_,rfl⟩) R,rfl,n4,sg,rfl⟩
 .rintro c st' ⟨b,pd,g,lo,rfl,rfl,pm,lo1,lo2,R⟩
  have:lo=arr.size:=by lia
  subst this;exact⟨b,pd,g,rfl,rfl,pm,R⟩
 .rintro c st' ⟨b,pd,g,rfl,rfl,pm,R⟩
  dsimp only;have hl:=R.le;rw[A4] at hl;refine Aw (Eh (CS (I:=λx c st'=>c=(none,())/\∃ b pd g,st'=Bi κ b pd g none/\b.toList.Perm arr.toList/\Rn r b pd.toList 0 arr.size/\(pd.size<=1\/pd.size+x<=arr.size))
   (Q:=λc st'=>c=(none,())/\∃ b pd g,st'=Bi κ b pd g none/\b.toList.Perm arr.toList/\Rn r b pd.toList 0 arr.size/\pd.size<=1) ?_ ?_ ⟨rfl,b,pd,g,rfl,pm,R,by lia⟩) ?_)
  .rintro x c st' _ hx ⟨rfl,b,pd,g,rfl,pm,R,hs⟩
   have zb:=zc pm;refine Aw (HD ?_);dsimp only;refine qL (λe=>A9 ⟨rfl,b,pd,g,rfl,pm,R,e⟩) λe=>?_;refine Aw (bJ C (uc pm) ?_ R (by lia) λb' pd' g' p' out R' z'=>?_)
   .have e:¬ pd.size<=1:=e
    have q:∀ (c:Prop) [ER c],(if c then pd.size-2-1 else pd.size-2)+1<pd.size:=λc _=>by split <;> lia
    exact q _
   exact qL (λe=>by simp at e) λ_=>A9 ⟨rfl,b',pd',g',rfl,p'.trans pm,R',by lia⟩
  .rintro c st' ⟨rfl,b,pd,g,rfl,pm,R,hs⟩
   exact⟨rfl,b,pd,g,rfl,pm,R,by lia⟩
  .rintro c st' ⟨rfl,b,pd,g,rfl,pm,R,hs⟩
   have zb:=zc pm;refine A9 (h b pd g pm ?_);have hs:pd.toList.length<=1:=by simpa using hs
   revert R hs
   cases pd.toList with
   |nil=>intro R;have:0=arr.size:=R;lia
   |cons q t =>
    obtain⟨s0,n0,p0⟩:=q;intro R hs;have:t=[]:=by cases t with|nil=>rfl|cons _ _=>simp at hs
    subst this;obtain⟨rfl,_,sg,e⟩:=R;have e:n0=arr.size:=by have:0+n0=arr.size:=e;lia
    subst e;rw[EV];intro i j hi hj l;have hi':i<b.size:=by simpa using hi
    have hj':j<b.size:=by simpa using hj
    have:=sg i j (by lia) (by lia) (by lia)
    simpa [Ds,hi',hj',Le] using this
end
structure Cmps (prog:Az)(w:AL)(h0:A8)(vs:Aa Ac)(f:Ah->Ah->Ap):Prop where
 ex:∃ κ,∀ (A:AJ),A.units+8<CZ->∀ (s:Ag),Sup h0 s.heap->(∀ (Q:Hr->Ag->Prop) (E:Ac->Ag->Prop),Q κ s->Ao (Aq prog w) A (keyKind' vs.toArray) Q E s)/\∀ i j (C:Ap->Ag->Prop),i<vs.length->j<vs.length->C (f i j) s->kas_ask prog w A κ vs i j C s
open Classical in
def kV {K:Type}(is:K->Ac->Prop)(d:K)(v:Ac):K:=if h:∃ k,is k v then choose h else d
open Classical in
theorem gF {K:Type}{is:K->Ac->Prop}{d:K}{v:Ac}(h:∃ k,is k v):is (kV is d v) v:=by
 unfold kV;rw[dif_pos h];exact choose_spec h
section
variable {prog:Az}{w:AL}{A:AJ}{E:Ac->Ag->Prop}{s:Ag}
theorem TB {K:Type}{is:K->Ac->Prop}{lt':K->K->Ap}{d:K}(O:Ord lt')(inj:∀ {k k':K} {v:Ac},is k v->is k' v->k=k'){a:Ad}{vs:Aa Ac}{ks:Aa K}{n:Ah}{h0:A8}{P:Va->Ag->Prop}(hlen:vs.length=ks.length)(hks:∀ i v,vs[i]? = Ab v->is (ks.getD i d) v)(ho:s.heap.get? a=Ab (Dv "list" vs.toArray n))(hu:A.units+8<CZ)(hz:vs.length<=100000)(c:2<=vs.length->Cmps prog w h0 vs (tZ lt' ks d))(hS:Sup h0 s.heap)(ha:h0.get? a=none)
  (h:∀ ps:Aa (K × Ac),ps.Perm (ks.zip vs)->Nf lt' (ps.map (·.1))->P (.done (.ret .none)) { s with heap:=sortedHeap s.heap a vs (ps.map (·.2)).toArray }) : Ao (Aq prog w) A (EU.«list.sort» ⟨[.ref a],[]⟩) P E s:=by
 rw[list_sort_plain];have hb:a<s.heap.objs.size:=Ax ho;have hsz:vs.toArray.size=vs.length:=by simp
 refine Af (listItems_at ho rfl (Af (listUpdate_at ho rfl ?_ (by rw[hsz,Dm];lia) (Dn _))))
 obtain⟨e1,ho1⟩:∃ e1,(s.heap.update a (CT λ_=>#[])).get? a=Ab (Dv "list" #[] e1):=⟨_,Nm ho (λ_=>#[])⟩;refine Af (seqEpoch_at ho1 rfl (Af (wpAny_newTuple (Af (wpAny_newList (Cp ?_) (Dn _))) (by show vs.length<=_;rw[Dm];lia))))
 have ho6:(((s.heap.update a (CT λ_=>#[])).push (Dv "tuple" vs.toArray 0)).push (Dv "list" #[] 0)).get? a=Ab (Dv "list" #[] e1):=
  Aj _ (Aj _ ho1)
 have S6:Sup h0 (((s.heap.update a (CT λ_=>#[])).push (Dv "tuple" vs.toArray 0)).push (Dv "list" #[] 0)):=λb o e =>
  Aj _ (Aj _ ((Bv _ _ (λz:a=b=>by rw[<- z,ha] at e;cases e)).trans (hS b o e)))
 show Ao (Aq prog w) A _ P E { s with heap:=((s.heap.update a (CT λ_=>#[])).push (Dv "tuple" vs.toArray 0)).push (Dv "list" #[] 0) }
 dsimp only;have fin:∀ (st':Dg) (ps:Aa (K × Ac)),(arrOf st').map (·.2)=(ps.map (·.2)).toArray->failedOf st'=none->ps.Perm (ks.zip vs)->Nf lt' (ps.map (·.1))->Ao (Aq prog w) A (do
   let touched:=(<- seqEpoch a) != e1
   Ue (.ref a) λ_=>(arrOf st').map (·.2)
   if let Ab e:=failedOf st' then rule "list.sort.comparison-raised";throw e
   if touched then rule "list.sort.modified";raiseError "ValueError" "list modified during sort"
   ret .none) P E { s with heap:=((s.heap.update a (CT λ_=>#[])).push (Dv "tuple" vs.toArray 0)).push (Dv "list" #[] 0) }:=by
  intro st' ps h1 h2 h3 h4;have hl:(ps.map (·.2)).length=vs.length:=by rw[AR,h3.length_eq,Sb,hlen,Po]
  refine Af (seqEpoch_at ho6 rfl ?_);rw[h1];refine Af (listUpdate_at ho6 rfl ?_ (Dn _) (by show (ps.map (·.2)).toArray.size<=_;rw[AK,hl,Dm];lia))
  rw[h2];simp only[bne_self_eq_false,AI,Ci];exact Al (h ps h3 h4)
 by_cases h2:vs.toArray.size<2
 .rw[AA h2,AA h2]
  refine Af (Al ?_);rw[StateT.run_pure];refine Af (Al ?_);refine fin (Bi general' (vs.toArray.zip vs.toArray) #[] 7 none) (ks.zip vs) ?_ rfl (HH _) ?_
  .show (vs.toArray.zip vs.toArray).map (·.2)=_
   apply Rp.mp;simp[List.map_snd_zip,hlen]
  .rw[Rq (by lia)]
   match ks,hlen with
   |[],_=>exact HK
   |[_],_=>exact HC _ _
   |_::_::_,e=>simp at e h2;lia
 .rw[AB h2,AB h2]
  have h2':2<=vs.length:=by lia
  obtain⟨κ,C⟩:=c h2';obtain⟨k1,k2⟩:=C A hu { s with heap:=((s.heap.update a (CT λ_=>#[])).push (Dv "tuple" vs.toArray 0)).push (Dv "list" #[] 0) } S6
  have kv:∀ i,i<vs.length->kV is d (vs.getD i Bj)=ks.getD i d:=λi hi=>by
   have q:=hks i (vs.getD i Bj) (by rw[Ka,As hi];rfl)
   exact inj (gF ⟨_,q⟩) q
  have km:∀ i,i<vs.length->ks.getD i d∈ks:=λi hi=>by
   have:i<ks.length:=by lia
   simp[He,this]
  have cm:Cm (Aq prog w) A { s with heap:=((s.heap.update a (CT λ_=>#[])).push (Dv "tuple" vs.toArray 0)).push (Dv "list" #[] 0) } κ (λx=>∃ i,i<vs.length/\x=(vs.getD i Bj,vs.getD i Bj)) (λx=>jS lt' ks (kV is d x.1)):=by
   refine⟨?_⟩;rintro x y ⟨i,hi,rfl⟩ ⟨j,hj,rfl⟩ E Q st hk q;rw[lt'_eq];refine Aw (HD ?_);rw[hk];rw[kv i hi,kv j hj,<- lN O (km i hi)] at q;refine Aw (Kb (Gb (Dq (k2 i j (λb s'=>s'=_/\b=tZ lt' ks d i j) hi hj ⟨rfl,rfl⟩) ?_ λ_ _ e=>e.elim)));rintro b s' ⟨rfl,rfl⟩;exact⟨rfl,A9 q⟩
  have pl:(vs.toArray.zip vs.toArray).toList=(Bt vs.length).map λi=>(vs.getD i Bj,vs.getD i Bj):=by
   apply Ma
   .simp
   .intro i h1 h2
    have:i<vs.length:=by simpa using h2
    simp[this]
  refine Af (k1 _ _ ?_);refine Af (Dq (tH (E:=E) (Q:=λ_ st'=>∃ b pd g,st'=Bi κ b pd g none/\b.toList.Perm (vs.toArray.zip vs.toArray).toList/\b.toList.Pairwise (Le λx=>jS lt' ks (kV is d x.1))) cm (arr:=vs.toArray.zip vs.toArray) (g:=7) ?_ ?_ λb pd g p q=>⟨b,pd,g,rfl,p,q⟩) ?_ λ_ _ e=>e)
  .intro x hx
   rw[pl] at hx;obtain⟨i,hi,rfl⟩:=AW.mp hx;exact⟨i,Cw.mp hi,rfl⟩
  .simp;lia
  .rintro⟨⟨⟩,st'⟩ s' ⟨rfl,b,pd,g,rfl,pm,up⟩
   refine fin _ (b.toList.map λx=>(kV is d x.1,x.2)) ?_ rfl ?_ ?_
   .show b.map (·.2)=_
    apply Rp.mp;simp
   .refine(pm.map _).trans ?_
    rw[pl,Fn];have:ks.zip vs=(Bt vs.length).map λi=>(ks.getD i d,vs.getD i Bj):=by
     apply Ma
     .simp[hlen]
     .intro i h1 h2
      have h3:i<vs.length:=by simpa using h2
      have h4:i<ks.length:=by lia
      simp[h3,h4]
    rw[this];refine List.Perm.of_eq (Ja λi hi=>?_);show (kV is d (vs.getD i Bj),_)=_;rw[kv i (Cw.mp hi)]
   .unfold Nf
    rw[Fn,Ey];refine up.imp_of_mem λ{x y} hx hy h=>?_;have hx:=pm.mem_iff.mp hx;have hy:=pm.mem_iff.mp hy;rw[pl] at hx hy;obtain⟨i,hi,rfl⟩:=AW.mp hx;obtain⟨j,hj,rfl⟩:=AW.mp hy;have h:jS lt' ks (kV is d (vs.getD i Bj))<=jS lt' ks (kV is d (vs.getD j Bj)):=h;show lt' (kV is d (vs.getD j Bj)) (kV is d (vs.getD i Bj))=false;have hj:=Cw.mp hj;rw[lN O (ks:=ks) (by rw[kv j hj];exact km j hj)]
    exact Cq (by lia)
end
section
variable {prog:Az}{w:AL}{h0:A8}
theorem VJ {A:AJ}{s:Ag}{b:Ap}{Q:Ap->Ag->Prop}:∀ {xs ys:Aa Am} {us vs:Aa Ac} {i:Ah} {N M:Ah},ItemsAre (A0 prog w) xs us->ItemsAre (A0 prog w) ys vs->N+ys.length=M+xs.length->Q (_H.lexLt xs ys) s->KatLex prog w A b (decide (N<M)) Q (us.zip vs) i s:=by
 intro xs ys us vs i N M hx
 induction hx generalizing ys vs i with
 |nil =>
  intro hy hl h;cases hy with
  |nil =>
   have:decide (N<M)=false:=Cq (by simp at hl;lia)
   rw[this];exact h
  |@cons k v ys vs q r =>
   have:decide (N<M)=true:=CC (by simp at hl;lia)
   rw[this];exact h
 |@cons x u xs us qx rx ih =>
  intro hy hl h;cases hy with
  |nil =>
   have:decide (N<M)=false:=Cq (by simp at hl;lia)
   rw[this];exact h
  |@cons y v ys vs qy ry =>
   obtain⟨t,rfl⟩:=xV (prog:=prog) (w:=w) qx;obtain⟨t',rfl⟩:=xV (prog:=prog) (w:=w) qy;rw[List.zip_cons_cons];refine kat_cons (Qu ?_);rw[_H.lexLt_cons] at h;refine kat_go (λe=>kat_yes ?_) λe=>kat_no ?_
   .rw[AA (by simpa using e)] at h
    exact ih ry (by simp at hl;lia) h
   .rw[AB (by simpa using e)] at h
    cases b&&i == 0 with
    |true=>exact oneLt_int h
    |false=>exact kat_one _ _ (Uu h)
theorem rF {h:A8}:∀ {vs:Aa Ac} {ks:Aa (Aa Am)},vs.length=ks.length->(∀ i v,vs[i]? = Ab v->isT prog w h (ks.getD i []) v)->(∀ k∈ks,k≠[])->∃ fs,KatTups h vs fs/\fs.length=vs.length/\∀ f∈fs,∃ n t,f=IA n t
 |[],[],_,_,_=>⟨[],trivial,rfl,λf hf=>by simp at hf⟩
 |v::vs,k::ks,hl,hv,hne=>by
  obtain⟨fs,a1,a2,a3⟩:=rF (vs:=vs) (ks:=ks) (by simpa using hl) (λi u hu=>by simpa using hv (i+1) u (by simpa using hu)) λk hk=>hne k (by simp[hk])
  obtain⟨a,rfl,o,items,n,ho,hc,hd,hi⟩:=hv 0 v rfl;have hk:k≠[]:=hne k (by simp)
  have hi':ItemsAre (A0 prog w) k items.toList:=hi;cases hz:items.toList with
  |nil=>rw[hz] at hi';cases hi';exact absurd rfl hk
  |cons f qM =>
   rw[hz] at hi';cases hi' with
   |cons q _ =>
    obtain⟨t,rfl⟩:=xV (prog:=prog) (w:=w) q;refine⟨_::fs,KatTups.cons ho hc hd (by rw[<- A6,hz];rfl) a1,by simp[a2],λf hf=>?_⟩
    rcases AD.mp hf with rfl|hf
    .exact⟨_,_,rfl⟩
    .exact a3 f hf
theorem JZ {ks:Aa (Aa Am)}(hl:vs.length=ks.length)(hv:∀ i v,vs[i]? = Ab v->isT prog w h0 (ks.getD i []) v)(hne:∀ k∈ks,k≠[])(h2:2<=vs.length):Cmps prog w h0 vs (tZ _H.lexLt ks []):=by
 refine⟨tuples' (Eu "int" != Eu "tuple"),λA hu s hS=>⟨λQ E h=>?_,λi j C hi hj h=>?_⟩⟩
 .obtain⟨fs,a1,a2,a3⟩:=rF (h:=s.heap) hl (λi v hv'=>by obtain⟨a,e,q⟩:=hv i v hv';exact⟨a,e,yM hS q⟩) hne
  refine kat_kind a1 (by lia) (λv hv'=>?_) (by decide) h
  obtain⟨n,t,rfl⟩:=a3 v hv';exact Looks.of_pure rfl
 .have g:∀ k (hk:k<vs.length),∃ a,vs.getD k Bj=.ref a/\Mb (A0 prog w) s.heap (ks.getD k []) a:=λk hk=>by
   obtain⟨a,e,q⟩:=hv k vs[k] (As hk);exact⟨a,by rw[<- e];simp[He,hk],yM hS q⟩
  obtain⟨a,ea,oa,ia,na,ha,_,da,qa⟩:=g i hi;obtain⟨b,eb,ob,ib,nb,hb,_,db,qb⟩:=g j hj;unfold kas_ask;rw[ea,eb];refine kat_lt ha da hb db (VJ qa qb ?_ h);have la:=qa.length;have lb:=qb.length;simp only[A4] at la lb
  lia
theorem JY {ks:Aa Am}(hl:vs.length=ks.length)(hv:∀ i v,vs[i]? = Ab v->isI prog w (ks.getD i 0) v)(h2:2<=vs.length):Cmps prog w h0 vs (tZ ltI ks 0):=by
 have hi:∀ v∈vs,∃ n t,v=IA n t:=λv hm=>by
  obtain⟨i,hi,e⟩:=Bl.mp hm;obtain⟨t,q⟩:=xV (hv i v (by rw[As hi,e]))
  exact⟨_,t,q⟩
 refine⟨oneType',λA hu s hS=>⟨λQ E h=>?_,λi j C hi hj h=>?_⟩⟩
 .obtain⟨v₁,v₂,qM,rfl⟩:∃ v₁ v₂ qM,vs=v₁::v₂::qM:=by
   match vs,h2 with
   |v₁::v₂::qM,_=>exact⟨v₁,v₂,qM,rfl⟩
  rw[keyKind_ints (intsAre_map _ hi)];exact Al h
 .have g:∀ k (hk:k<vs.length),∃ t,vs.getD k Bj=.int (ks.getD k 0) t:=λk hk=>by
   obtain⟨t,q⟩:=xV (hv k vs[k] (As hk));exact⟨t,by rw[<- q];simp[He,hk]⟩
  obtain⟨t,et⟩:=g i hi;obtain⟨u,eu⟩:=g j hj;unfold kas_ask;rw[et,eu];exact kat_lt_int h
end
section
variable {K:Type}{lt':K->K->Ap}
theorem MB {α:Type}{ks:Aa K}{vs:Aa α}{d:K}(hl:vs.length=ks.length){p:K × α}(h:p∈ks.zip vs):∃ i,vs[i]? = Ab p.2/\ks.getD i d=p.1:=by
 obtain⟨i,hi,e⟩:=Bl.mp h;have h1:i<ks.length:=by rw[Sb] at hi;lia
 have h2:i<vs.length:=by lia
 rw[List.getElem_zip] at e;subst e;exact⟨i,As h2,by simp[h1]⟩
end
structure Kind (prog:Az)(w:AL){K:Type}(is:K->Ac->Prop)(hash:K->Am)(lt':K->K->Ap)(d:K)(Fit:K->Prop)(h0:A8):Prop where
 ord:Ord lt'
 inj:∀ {k k':K} {v:Ac},is k v->is k' v->k=k'
 cmps:∀ {vs:Aa Ac} {ks:Aa K},vs.length=ks.length->(∀ i v,vs[i]? = Ab v->is (ks.getD i d) v)->(∀ k∈ks,Fit k)->2<=vs.length->Cmps prog w h0 vs (tZ lt' ks d)
theorem eO (prog:Az)(w:AL)(h0:A8):Kind prog w (isT prog w h0) (A7 (A0 prog w)) _H.lexLt [] (·≠[]) h0:=⟨uD,isT.inj,λh1 h2 h3 h4=>JZ h1 h2 h3 h4⟩
theorem T6 (prog:Az)(w:AL)(h0:A8):Kind prog w (isI prog w) (A0 prog w).hash ltI 0 (λ_=>HX) h0:=⟨DM,λa b=>(A0 prog w).inj _ _ _ a b,λh1 h2 _ h4=>JY h1 h2 h4⟩
section
variable {prog:Az}{w:AL}{A:AJ}{E:Ac->Ag->Prop}{s:Ag}{K:Type}{is:K->Ac->Prop}{hash:K->Am}{lt':K->K->Ap}{d:K}{Fit:K->Prop}{h0:A8}{S:Ad}{V:Aa Ac}{seen:Aa K}
open Classical in
def kOf (is:K->Ac->Prop)(d:K)(e:Am × Ac):K:=if h:∃ k,is k e.2 then choose h else d
open Classical in
theorem aR {e:Am × Ac}(h:∃ k,is k e.2):is (kOf is d e) e.2:=by
 unfold kOf;rw[dif_pos h];exact choose_spec h
theorem bR {Q:Ac->Ag->Prop}(kd:Kind prog w is hash lt' d Fit h0)(hh:A.handled=none)(hu:A.units+16<CZ)(hS:Sup h0 s.heap)(Z:SetK is hash S (zT w) V seen s.heap)(hf:∀ k∈seen,Fit k){U:Aa K}(hU:U.length<=1000)(hU1:∀ k∈seen,k∈U)
  (h:∀ h' tk D c (ps:Aa (K × Ac)),(∀ b o,s.heap.get? b=Ab o->h'.get? b=Ab o)->s.heap.objs.size<=D->h'.get? D=Ab (Dv "list" (ps.map (·.2)).toArray c)->ps.map (·.1)=srt lt' seen->(∀ p∈ps,is p.1 p.2/\p.2∈V)->ps.length<=1000->Q (.ref D) { s with heap:=h',toks:=tk }) :
  Ao (Aq prog w) A (call (.builtin "sorted") [.ref S]) Q E s:=by
 obtain⟨es,ep,t,ho,Z0,T,hl,hV⟩:=Z;have st:Still w S es ep t:=⟨T,hl⟩;have hn:es.size<=1000:=by
  have:=pI es.toList U Z0.nd λe he=>by
   obtain⟨k',_,q⟩:=Z0.good e he;exact⟨k',hU1 k' ((Z0.mem k').mpr ⟨e,he,q⟩),q⟩
  rw[A4] at this
  lia
 have op:=bK w S ep es;have osz:=yS w S ep es;have good:∀ e∈(qN w S ep es).toList,is (kOf is d e) e.2/\e.2∈V:=λe he=>by
  have he':=op.mem_iff.mp he;obtain⟨k,_,q⟩:=Z0.good e he';exact⟨aR ⟨k,q⟩,hV e he'⟩
 have nd0:(qN w S ep es).toList.Pairwise λa b=>∀ k,is k a.2->¬ is k b.2:=(op.pairwise_iff λ{x y} h k hy hx=>h k hx hy).mpr Z0.nd;generalize hoe:(qN w S ep es).toList=oe at *;have hoel:oe.length<=1000:=by rw[op.length_eq,A4];exact hn
 have hks:∀ i v,(oe.map (·.2))[i]? = Ab v->is ((oe.map (kOf is d)).getD i d) v/\v∈V:=λi v hv=>by
  rw[Br] at hv;cases hi:oe[i]? with
  |none=>rw[hi] at hv;cases hv
  |some e =>
   rw[hi] at hv;cases hv;have g:=good e (AM hi);have:(oe.map (kOf is d)).getD i d=kOf is d e:=by rw[Ka,Br,hi];rfl
   rw[this];exact g
 have nd:(oe.map (kOf is d)).Nodup:=by
  unfold Si;rw[Ey];refine Lg (λ{a b} ha hb h e=>?_) nd0;exact h _ (good a ha).1 (e▸(good b hb).1)
 have mem:∀ x,x∈oe.map (kOf is d)↔x∈seen:=λx=>by
  rw[Z0.mem,AW];constructor
  .rintro⟨e,he,rfl⟩
   exact⟨e,op.mem_iff.mp he,(good e he).1⟩
  .rintro⟨e,he,q⟩
   exact⟨e,op.mem_iff.mpr he,kd.inj (good e (op.mem_iff.mpr he)).1 q⟩
 have hlen:(oe.map (·.2)).length=(oe.map (kOf is d)).length:=by simp
 refine Calls.call_function_entry kind_sorted plain_sorted entry_sorted (args_sorted1 _) ?_;unfold EU.«sorted»;refine Af (m:=checkCount "sorted" 1 1 _) (Al ?_);refine Af (d6 hh st ho (by lia) λh1 tk1 kp1 hlt=>?_)
 rw[hoe];refine Af (wpAny_newList ?_ (by rw[Dm,AR];lia))
 have hD:(h1.push (Dv "list" (oe.map (·.2)).toArray 0)).get? h1.objs.size=Ab (Dv "list" (oe.map (·.2)).toArray 0):=AC _ rfl
 have n0:h0.get? h1.objs.size=none:=by
  cases q:h0.get? h1.objs.size with
  |none=>rfl
  |some o=>exact absurd (Ax (hS _ _ q)) (HT.mpr (Ch hlt))
 show Ao _ _ _ _ _ { s with heap:=h1.push (Dv "list" (oe.map (·.2)).toArray 0),toks:=tk1 }
 refine Af (Cp (CP slot_list_sort ⟨_,hD,rfl⟩ entry_list_sort (TB (h0:=h0) (is:=is) kd.ord kd.inj (d:=d) (vs:=oe.map (·.2)) hlen (λi v hv=>(hks i v hv).1) hD (by show A.units+2+8<CZ;lia) (by rw[AR];lia) (λh2=>kd.cmps hlen (λi v hv=>(hks i v hv).1) (λk hk=>hf k ((mem k).mp hk)) h2) (λb o e=>Aj _ (kp1 b o (hS b o e))) n0 λps pm nf=>⟨_,rfl,?_⟩) (args_list_sort _)))
 refine Al ⟨_,rfl,?_⟩;have hz:(h1.push (Dv "list" (oe.map (·.2)).toArray 0)).objs.size=h1.objs.size+1:=size_push' ..
 have old:∀ b o,b≠h1.objs.size->(h1.push (Dv "list" (oe.map (·.2)).toArray 0)).get? b=Ab o->((((h1.push (Dv "list" (oe.map (·.2)).toArray 0)).update h1.objs.size (CT λ_=>#[])).push (Dv "tuple" (oe.map (·.2)).toArray 0)).push (Dv "list" #[] 0)).get? b=Ab o:=λb o hb e =>
  Aj _ (Aj _ ((Bv _ _ (Dw hb)).trans e))
 obtain⟨e1,he1⟩:∃ e1,((h1.push (Dv "list" (oe.map (·.2)).toArray 0)).update h1.objs.size (CT λ_=>#[])).get? h1.objs.size=Ab (Dv "list" #[] e1):=⟨_,Nm hD (λ_=>#[])⟩
 have he6:=Nm (Aj (Dv "list" #[] 0) (Aj (Dv "tuple" (oe.map (·.2)).toArray 0) he1)) (λ_=>(ps.map (·.2)).toArray)
 have pk:(ps.map (·.1)).Perm (oe.map (kOf is d)):=by
  have:=pm.map (·.1)
  rwa [Rq (by lia)] at this
 refine h _ tk1 h1.objs.size _ ps (λb o e=>?_) (Ch hlt) he6 (PL kd.ord nf (pk.nodup_iff.mpr nd) λx=>by rw[pk.mem_iff,mem]) (λp hp=>?_) (by have:=pk.length_eq;rw[AR,AR] at this;lia)
 .have hb:b≠h1.objs.size:=λz=>by
   subst z;exact absurd (Ax e) (HT.mpr (Ch hlt))
  exact(Bv _ _ (Dw hb)).trans (old b o hb (Aj _ (kp1 b o e)))
 .obtain⟨i,e1,e2⟩:=MB (d:=d) hlen (pm.mem_iff.mp hp)
  exact e2▸hks i _ e1
end
end _S
namespace _D
open PySem PySem.Spec PyProof.Rows _L
variable {pins:Aa (Ad × AV)}{α:Aa Ad}{σ:_L.St}
noncomputable def yA:Aa D->Ak (Aa (Aa Am))
 |[]=>Ab []
 |.tup ys::r=>(yI ys).bind λk=>(yA r).map (k::·)
 |_::_=>none
noncomputable def tpD (k:Aa Am):D:=.tup (k.map D.int)
theorem pP:∀ {ds:Aa D} {ks:Aa (Aa Am)},yA ds=Ab ks->ds=ks.map tpD
 |[],ks,h=>by cases h;rfl
 |d::r,ks,h=>by
  cases d with
  |tup ys =>
   obtain⟨k,h1,h2⟩:=Dj.mp (show (yI ys).bind (λk=>(yA r).map (k::·))=Ab ks from h)
   obtain⟨m,h3,rfl⟩:=Bw.mp h2;rw[pP h3,pF h1];rfl
  |_=>cases h
theorem u3 (ks:Aa (Aa Am)):yA (ks.map tpD)=Ab ks:=by
 induction ks with
 |nil=>rfl
 |cons k ks ih =>
  show (yI (k.map D.int)).bind (λk=>(yA (ks.map tpD)).map (k::·))=_
  rw[aM,ih];rfl
noncomputable def vK (xs:Aa D):Ak (Aa D):=match yI xs with
 |some ns=>if (_S.srt _S.ltI ns).length<=1000 then Ab ((_S.srt _S.ltI ns).map D.int) else none
 |none=>match yA xs with
  |some ks=>if ((_S.srt _H.lexLt ks).length<=1000&&ks.all λk=>!k.isEmpty) then Ab ((_S.srt _H.lexLt ks).map tpD) else none
  |none=>none
noncomputable def DX:D->Ak (Aa D)
 |.lst xs=>Ab xs
 |.tup xs=>Ab xs
 |_=>none
theorem XQ {K:Type}{lt':K->K->Ap}(O:_S.Ord lt')(ks:Aa K)(d:K):_S.srt lt' (_S.xU (λi=>ks.getD i d) ks.length)=_S.srt lt' ks:=
 _S.uY O (_S.y6 O _) (_S.y6 O _) λx=>by
  rw[_S.zR O,_S.zR O,_S.vX];constructor
  .rintro⟨i,hi,rfl⟩
   simp[He,hi]
  .intro hx
   obtain⟨i,hi,e⟩:=Bl.mp hx;exact⟨i,hi,by simp[He,hi,e]⟩
section
variable {X:Cx}{e:AH}{fa:DE}{p1 p2 pos1 pos2:CB}
theorem mF:Dt "sorted" = Ab (.builtin "sorted"):=by decide +kernel
theorem fK {prog:Az}{w:AL}:∀ {k:Aa Am} {us:Aa Ac},qK (k.map V.int) us->ItemsAre (A0 prog w) k us
 |[],us,h=>by cases h;exact .nil
 |i::k,us,h=>by
  cases h with
  |cons q t =>
   obtain⟨tk,rfl⟩:=q;exact .cons (Sk _ _ _ _) (fK t)
theorem oC {H P:Hp}{S:Sto}{s:Ag}{d:D}{xs:Aa D}{v:V}{vv:Ac}(I:Inv X pins σ H s)(r:Rel X.K H P α S)(p:Rep X.K P α d v)(q:qJ v vv)(h:DX d=Ab xs) :
  ∃ a vs its,vv=.ref a/\qD X.K P α xs vs/\qK vs its/\(s.heap.IsList a its.toArray\/s.heap.IsTuple a its.toArray)/\xs.length=its.length:=by
 cases d with
 |lst ys =>
  cases h;obtain⟨a,vs,its,n,rfl,_,t,rv,e,l,_⟩:=vE I r p;exact⟨a,vs,its,q,t,rv,.inl ⟨_,e,rfl,n,rfl⟩,l⟩
 |tup ys =>
  cases h;obtain⟨a,vs,its,rfl,_,t,rv,⟨o,e,hc,n,hd⟩,l,_⟩:=uX I r p;exact⟨a,vs,its,q,t,rv,.inr ⟨o,e,hc,n,hd⟩,l⟩
 |_=>cases h
end
section
variable {X:Cx}
noncomputable def lstM (d:D)(S:Sto):Ak (Aa D):=match d with
 |.lst xs=>Ab xs
 |.loc i=>match S[i]? with
  |some (.lst xs)=>Ab xs
  |_=>none
 |_=>none
noncomputable def gD:G2:=λa b S=>match lstM a S,lstM b S with
 |some xs,Ab ys=>if xs.length+ys.length<=lim then .ok (.lst (xs++ys)) S else .bad
 |_,_=>.bad
theorem sN {H P:Hp}{S:Sto}{s:Ag}{d:D}{xs:Aa D}{v:V}(I:Inv X pins σ H s)(r:Rel X.K H P α S)(h:lstM d S=Ab xs)(p:Rep X.K P α d v) :
  ∃ a vs its n,v=.ref a/\qD X.K P α xs vs/\qK vs its/\s.heap.get? a=Ab { cls:=.type "list",data:=.seq its.toArray n } /\ xs.length=its.length:=by
 cases d with
 |lst ys =>
  cases h;obtain⟨a,vs,its,n,e,_,t,rv,h1,l1,_⟩:=vE I r p;exact⟨a,vs,its,n,e,t,rv,h1,l1⟩
 |loc i =>
  simp only[lstM] at h;cases hS:S[i]? with
  |none=>rw[hS] at h;cases h
  |some m =>
   rw[hS] at h;cases m with
   |lst ys =>
    cases h;simp only[Rep] at p;obtain⟨a,rfl,q⟩:=p;obtain⟨vs,z,t⟩:=r.at' i a _ q hS;obtain⟨_,its,n,rv,e⟩:=I.hok a _ z;exact⟨a,vs,its,n,rfl,t,rv,e,by rw[t.length,rv.length]⟩
   |_=>cases h
 |_=>cases h
theorem VT:OpD X (Cs .Add) gD:=by
 intro pins σ H s P α S v u vv uu a b Q I r rv ru pa pb af;unfold gD at af;cases h1:lstM a S with
 |none=>rw[h1] at af;exact An af
 |some xs =>
  cases h2:lstM b S with
  |none=>rw[h1,h2] at af;exact An af
  |some ys =>
   rw[h1,h2] at af;obtain⟨hl,af⟩:=xH (X:=X) af;obtain⟨a,vs,its,n,rfl,t1,rv1,e1,l1⟩:=sN I r h1 pa;obtain⟨b,ws,its2,n2,rfl,t2,rv2,e2,l2⟩:=sN I r h2 pb;cases rv;cases ru;refine Rg e1 e2 ?_ (by rw[AK,AK,<- l1,<- l2,<- zI];exact hl)
   rw[OF];exact lE I r (t1.append t2) (rv1.append rv2) (by rw[Bs];exact hl) af
end
section
variable {X:Cx}{cm:Ap}{k:Ah}{e:AH}{fa:DE}{p1 p2 pos1 pos2:CB}
theorem M3:ZOp X (Cs .Add) gD:=⟨VT⟩
end
end _D
section
namespace _D
open PySem PySem.Spec PyProof.Rows _L
mutual
noncomputable def pyD:D->Ak PyData
 |.non=>Ab .none
 |.bl b=>Ab (.bool b)
 |.int i=>Ab (.int i)
 |.str x=>Ab (.str x)
 |.tup xs=>(X5 xs).map .tuple
 |.lst xs=>(X5 xs).map .list
 |.dct0=>Ab (.dict [])
 |_=>none
noncomputable def X5:Aa D->Ak (Aa PyData)
 |[]=>Ab []
 |d::ds=>(pyD d).bind λx=>(X5 ds).map (x::·)
end
end _D
end
namespace _D
open PySem PySem.Spec PyProof.Rows _L
section
variable {X:Cx}{pins:Aa (Ad × AV)}{σ : _L.St}{H P:Hp}{α : Aa Ad}{S:Sto}{s:Ag}
inductive NewR (X:Cx)(pins:Aa (Ad × AV))(σ : _L.St)(H P:Hp)(α : Aa Ad)(ys:Aa D)(u:Ac)(s':Ag):Prop
 |mk (D:Ad) (vs:Aa V) (e:u=.ref D) (hn:H D=none) (I:Inv X pins σ (upd H D (.lst vs)) s') (rp:qD X.K P α ys vs):NewR X pins σ H P α ys u s'
end
end _D
namespace _L
open PySem PySem.Spec PyProof.Rows
variable {loose:Aa Ar}{mg mb:Ar->Ak Ac}
def LJ (H:Hp):Prop:=∀ b,H b=none\/(∃ o xs,H b=Ab (.frz o (.lst xs)))\/H b=Ab (.tbl #[])
def Tb0 (K:Ai)(H:Hp):Prop:=∀ x∈xF,∀ c T,Bq K x=Ab (c,T)->H T=Ab (.tbl #[])
structure Tabs (K:Ai)(h:A8):Prop where
 at':∀ x∈xF,∀ c T,Bq K x=Ab (c,T)->Od h c T/\h.get? T=Ab (Gq #[]) /\ K.lookup T=none
 inj:∀ x∈xF,∀ y∈xF,∀ c d T,Bq K x=Ab (c,T)->Bq K y=Ab (d,T)->x=y
theorem ZK {P:Az}{w:AL}{K:Ai}{CX:CXT}{k:Ah}{fa a:Ad}{fd:CV}{x:Ar}{sp:Sp}{s₁:Ag}{vs:Aa Ac}{ns:Aa Am}
  (KX:K.In s₁.heap) (hns:s₁.heap.Ns Bd mg) (hb:s₁.heap.Ns IU mb) (hbb:∀ x:Ar,x ≠ "__name__" -> mb x=Dt x) (hlim:s₁.heap.NoLimit) (hg:s₁.gens=#[]) (hbm:JF mg s₁.heap) (tbs:Tabs K s₁.heap)
  (ha:s₁.heap.get? a=Ab { cls:=.type "list",data:=.seq vs.toArray }) (hi:Mt vs ns) (hl:ns.length<=sizeLine) (hr:Room k Kh)
  (F:∀ base:A8,K.In base->base.Ns Bd mg->FnOk P w K mg base CX k fa fd [x] sp) (hbind:∀ (s:Ag) (u:Ac),HZ s fd ⟨[u],[]⟩ [(x,u)])
  (hsp:∀ H:Hp,Tb0 K H->SqX K H a (ns.map V.int)->sp [.ref a] H (λv _=>v=.bl true) λ_ _ _=>CA)
  (hCX:∀ H e s',CX [] H s₁ (λ_ _ _=>CA) e s'->CA) :
  El (Aq P w) Kh (.call (.ref fa) ⟨[.ref a],[]⟩) (λr s'=>r=.ok (.ret (.bool true))/\OldK s₁.heap s'.heap/\s'.os=s₁.os/\HY s'.gens) s₁:=by
 have rv:=oJ hi;have lenV:=hi.length
 let isT:Ad->Prop:=λb=>∃ x∈xF,∃ c,Bq K x=Ab (c,b)
 have tab:∀ b,isT b->s₁.heap.get? b=Ab (Gq #[]) /\ K.lookup b=none:=λb ⟨x,hx,c,h⟩=>(tbs.at' x hx c b h).2;have core:∀ H:Hp,LJ H->Tb0 K H->SqX K H a (ns.map V.int)->HOk P w H s₁.heap->(∀ b,H b≠none->b=a\/isT b)->(H a≠none->K.lookup a=none) ->
   El (Aq P w) Kh (.call (.ref fa) ⟨[.ref a],[]⟩) (λr s'=>r=.ok (.ret (.bool true))/\OldK s₁.heap s'.heap/\s'.os=s₁.os/\HY s'.gens) s₁:=by
  intro H hO hT hS hok hA hK;have base_of:∀ {b:Ad} {o:AV},s₁.heap.get? b=Ab o->H b=none->(jJ s₁.heap H).get? b=Ab o:=λe n=>Z7 e n;have noA:∀ {b:Ad} {o:AV},s₁.heap.get? b=Ab o->o.cls≠.none->(o.cls≠.type "list" \/ ∃ es ep,o.data=.dict es ep)->H b=none:=λ{b o} e c1 c2=>by
   cases q:H b with
   |none=>rfl
   |some u =>
    rcases hA b (by rw[q];simp) with e'|e'
    .subst e'
     rw[ha] at e;cases e;rcases c2 with z|⟨es,ep,d⟩
     .exact absurd rfl z
     .cases d
    .rw[(tab b e').1] at e;cases e
     exact absurd rfl c1
  have noD:∀ {b:Ad} {o:AV} {es:Av DictEntry} {ep:Ah},s₁.heap.get? b=Ab o->o.data=.dict es ep->H b=none:=λ{b o es ep} e d=>by
   cases q:H b with
   |none=>rfl
   |some u =>
    rcases hA b (by rw[q];simp) with e'|e'
    .subst e'
     rw[ha] at e;cases e;cases d
    .rw[(tab b e').1] at e;cases e;cases d
  have nsK:∀ {b:Ad} {m:Ar->Ak Ac},s₁.heap.Ns b m->(jJ s₁.heap H).Ns b m:=λ{b m} ⟨o,es,ep,e,d,r⟩=>⟨o,es,ep,base_of e (noD e d),d,r⟩;have hKb:K.In (jJ s₁.heap H):=λb o e=>base_of (KX b o e) (by
   cases q:H b with
   |none=>rfl
   |some u =>
    rcases hA b (by rw[q];simp) with e'|e'
    .subst e'
     rw[hK (by rw[q];simp)] at e;cases e
    .rw[(tab b e').2] at e;cases e)
  have hM:Mod K mg (jJ s₁.heap H):=by
   refine⟨hKb,nsK hns,⟨mb,nsK hb,hbb⟩,let ⟨mc,h1,h2⟩:=hlim;⟨mc,nsK h1,h2⟩,?_,λx hx c T h=>?_,tbs.inj⟩
   .obtain⟨bm,o,b1,b2,b3,b4,b5⟩:=hbm
    exact⟨bm,o,b1,b2,base_of b3 (noA b3 (by rw[b4];nofun) (.inl (by rw[b4];decide))),b4,b5⟩
   .obtain⟨o,vs,file,tf,flags,tg,inF,text,tt,e1,e2,r⟩:=(tbs.at' x hx c T h).1
    exact⟨o,vs,file,tf,flags,tg,inF,text,tt,base_of e1 (noA e1 (by rw[e2];nofun) (.inl (by rw[e2];decide))),e2,r⟩
  have e0:Env0 P w K mg (jJ s₁.heap H) Kh [] s₁ H:=⟨rfl,hM,λb o e=>VW e,Pr (aJ _ _),trivial,λb hb=>absurd (show b∈([]:Aa Ad) from hb) (by simp),hok,.of_eq hg⟩
  refine EL ((F _ hKb (nsK hns)).run Kh [] s₁ H ⟨[.ref a],[]⟩ [.ref a] [.ref a] _ _ hr e0 (hbind s₁ (.ref a)) (.cons rfl .nil) (hsp H hT hS)) λr s' h=>?_;cases r with
  |error e=>exact(hCX H e s' h).elim
  |ok fl =>
   cases fl with
   |next=>exact An h
   |brk=>exact An h
   |cont=>exact An h
   |ret u =>
    obtain⟨v,H',os,bare,un,hok',r',q⟩:=h;have q':v=.bl true:=q;subst q';obtain rfl:u=Dk true:=r';refine⟨rfl,⟨λb o e=>?_,λb o e=>un.there b o e (by simp)⟩,os,bare⟩
    cases q:H b with
    |none=>exact .inl (un.keep b o e q (by intro z;exact absurd (show b∈([]:Aa Ad) from z) (by simp)) (by simp))
    |some u =>
     rcases hO b with z|⟨ob,xs,z⟩|z
     .rw[q] at z;cases z
     .have z2:=un.frzs b ob _ z
      obtain⟨e1,_⟩:=hok b _ z;obtain⟨e2,_⟩:=hok' b _ z2;rw[e] at e1;cases e1;exact .inl e2
     .obtain⟨more,z2⟩:=un.tbls b _ z
      have e1:s₁.heap.get? b=Ab (Gq #[]):=hok b _ z;have e2:s'.heap.get? b=Ab (Gq (#[] ++ more)):=hok' b _ z2;rw[e] at e1;cases e1;rcases hA b (by rw[q];simp) with e'|⟨x,hx,c,h⟩
      .subst e';rw[ha] at e;cases e
      .exact .inr (.inl ⟨((tbs.at' x hx c b h).1.tab e).isCodeTable,rfl,#[],more,rfl,e2⟩)
 have nT:¬ isT a:=λh=>by
  have z:=(tab a h).1;rw[ha] at z;cases z
 have tT:∀ x∈xF,∀ c T,Bq K x=Ab (c,T)->isT T:=λx hx c T h=>⟨x,hx,c,h⟩;have dec:∀ b,ER (isT b):=λb=>Classical.propDecidable _;cases hk:K.lookup a with
 |some o =>
  have e:=KX a o hk;rw[ha] at e;cases e;refine core (λb=>if isT b then Ab (.tbl #[]) else none) (λb=>?_) (λx hx c T h=>AA (tT x hx c T h)) (.inr ⟨vs,_,hk,by rw[AR];exact hl,rv⟩) (λb u z=>?_) (λb z=>?_) λz=>absurd (AB nT) z
  .by_cases h:isT b
   .exact .inr (.inr (AA h))
   .exact .inl (AB h)
  .by_cases h:isT b
   .have z':=(AA h).symm.trans z
    cases z';exact(tab b h).1
   .have z':=(AB h).symm.trans z
    cases z'
  .by_cases h:isT b
   .exact .inr h
   .exact absurd (AB h) z
 |none =>
  refine core (λb=>if b=a then Ab (.frz { cls:=.type "list",data:=.seq vs.toArray } (.lst (ns.map V.int))) else if isT b then Ab (.tbl #[]) else none) (λb=>?_) (λx hx c T h=>?_) (.inl (.inr ⟨{ cls:=.type "list",data:=.seq vs.toArray },AA rfl⟩)) (λb u z=>?_) (λb z=>?_) λ_=>hk
  .by_cases hb:b=a
   .exact .inr (.inl ⟨_,_,AA hb⟩)
   .by_cases h:isT b
    .exact .inr (.inr ((AB hb).trans (AA h)))
    .exact .inl ((AB hb).trans (AB h))
  .have h':=tT x hx c T h
   exact(AB (λ(z:T=a)=>nT (z▸h'))).trans (AA h')
  .by_cases hb:b=a
   .have z':=(AA hb).symm.trans z
    cases z';subst hb;exact⟨ha,by rw[AR];exact hl,vs,_,rv,ha⟩
   .by_cases h:isT b
    .have z':=((AB hb).trans (AA h)).symm.trans z
     cases z';exact(tab b h).1
    .have z':=((AB hb).trans (AB h)).symm.trans z
     cases z'
  .by_cases hb:b=a
   .exact .inl hb
   .by_cases h:isT b
    .exact .inr h
    .exact absurd ((AB hb).trans (AB h)) z
noncomputable def xZ (q:Az)(K:Ai):Ap:=xF.all λx=>match Bq K x with
 |none=>true
 |some (_,T)=>((recsOf q).find? λe=>e.name == x).isSome&&((K.lookup T).isNone&&xF.all λy=>match Bq K y with
  |none=>true
  |some (_,U)=>x == y||!decide (T=U))
theorem UY {q:Az}{mean:ExcName->Ak Ac}{h:A8}{K:Ai}(T:Top q loose mean mg mb h)(X:K.In h)(c:xZ q K=true):Tabs K h:=by
 unfold xZ at c;have g:∀ x∈xF,∀ d U,Bq K x=Ab (d,U)->((recsOf q).find? λe=>e.name == x).isSome=true/\(K.lookup U).isNone=true/\(xF.all λy=>match Bq K y with
  |none=>true
  |some (_,V)=>x == y||!decide (U=V))=true:=λx hx d U e=>by
  have z:=Bh.mp c x hx;rw[e] at z;simpa only [AF] using z
 refine⟨λx hx d U e=>?_,λx hx y hy d d' U e1 e2=>?_⟩
 .obtain⟨z1,z2,_⟩:=g x hx d U e
  obtain⟨r,hr⟩:=Fb.mp z1;obtain⟨k1,k2⟩:=PySem.W.tab_of T X hr e;exact⟨k1,k2,by simpa using z2⟩
 .have z:=Bh.mp (g x hx d U e1).2.2 y hy
  rw[e2] at z;simpa using z
theorem J7 {l:Sc}{n k:Ah}{q:Az}{loose:Aa Ar}{XP:(Ar->Ak Ac)->A8->Prop}{YP:AL->A8->Prop}{d:DefRec}{K:Params->Ai}{CX:AL->CXT}{sp:AL->Sp}{x:Ar}
  (hn:l.most=Ab n) (hn2:n<=sizeLine) (hdf:d.params.defaults=[]) (hr:Room k Kh) (ht:∀ p,xZ q (K p)=true)
  (hY:∀ (w:AL) (h:A8),YP w h->(K w.params).In h)
  (F:∀ (w:AL) (mg:Ar->Ak Ac) (fa:Ad) (h:A8),(K w.params).In h->h.Ns Bd mg->mg d.name=Ab (.ref fa) ->
   ∃ fd:CV,(∀ (s:Ag) (u:Ac),HZ s fd ⟨[u],[]⟩ [(x,u)]) /\
    ∀ base:A8,(K w.params).In base->base.Ns Bd mg->FnOk l.prog w (K w.params) mg base (CX w) k fa fd [x] (sp w))
  (hsp:∀ (w:AL) (H:Hp) (a:Ad) (ns:Aa Am),ns.length<=n->Tb0 (K w.params) H->SqX (K w.params) H a (ns.map V.int)->sp w [.ref a] H (λv _=>v=.bl true) λ_ _ _=>CA)
  (hCX:∀ (w:AL) (H:Hp) (s:Ag) (e:Ac) (s':Ag),CX w [] H s (λ_ _ _=>CA) e s'->CA) :
  Tt q loose XP YP l.row.toRowW d [] (λf vs=>Sh f vs):=by
 refine _A.attach_call hn hdf λw s₀ s₁ mg mb fa o pm cd doc a vs ns G Y ho hd hcd hmg hobj hints hlen hg=>?_;have KX:=hY w _ Y;obtain⟨fd,hb,hF⟩:=F w mg fa _ KX G.T.g hmg;exact ZK KX G.T.g G.T.b G.T.builtins G.T.nolimit hg (let ⟨bm,ob,b1,b2,b3,b4,b5,b6⟩:=G.T.bmain;⟨bm,ob,b1,b2,b3,b4,b5,b6⟩) (UY G.T KX (ht _)) hobj hints (Ca hlen hn2) hr hF hb (λH hT hS=>hsp w H a ns hlen hT hS) λH e s'=>hCX w H s₁ e s'
end _L
namespace _D
open PySem PySem.Spec PyProof.Rows _L
variable {K:Ai}{mg:Ar->Ak Ac}
theorem FR {h:A8}(X:K.In h)(G:h.Ns Bd mg){x:Ar}{st:CF}{ps:Aa Ar}{f:Ad}{oc:Ac}{od an:Ak Ad}{osl:Av (Ak Ac)}{kV doc pm cdv ct:Ac}
  (a:Co K Bd x=Ab (Ab (.ref f)))
  (l:K.lookup f=Ab ⟨oc,od,.func (Du x x (xT st) (zC st) (qG st) .none kV doc pm an cdv ct),osl⟩) (c:Gp K cdv x=true) (k:CD K (.ref f)=true)
  (hb:∀ (kV doc pm:Ac) (an:Ak Ad) (cdv ct:Ac) (us:Aa Ac),us.length=ps.length->Ms (Du x x (xT st) (zC st) (qG st) .none kV doc pm an cdv ct) ⟨us,[]⟩=pure (ps.zip us)):Src K mg x st ps:=
 have F:=GK (st:=st) l c k
 ⟨f,_,ON X G a,F,F.binds hb⟩
noncomputable def nG (K:Ai)(C:Ad):Ap:=
 decide (HE K (.ref C) "__getattribute__" = Ab (Ab (.builtin "BaseException.__getattribute__")))&&decide (HE K (.ref C) "__getattr__" = Ab none)
 && decide (HE K (.ref C) "__class__" = Ab (Ab (.builtin "object.__class__")))&&decide (O7 K C (.type "object")=Ab true)&&decide (O7 K C (.type "BaseException")=Ab true)
 && (PySem.W.clsIn K C).isSome&&decide (Go K (.ref C) (.type "ValueError")=Ab true)
noncomputable def Q3 (K:Ai):Ap:=
 decide (Pz K (.builtin "object.__class__") "__get__" = Ab (Ab (.builtin "getset_descriptor.__get__")))&&decide (Rx K (.builtin "object.__class__")=Ab true)
noncomputable def JV (K:Ai)(cl:Aa Ad):Ap:=cl.all λC=>cl.all λB=>decide (Go K (.ref C) (.ref B)=Ab (C == B))
theorem JX {cl:Aa Ad}(h1:cl.all (nG K)=true)(h2:Q3 K=true)(h3:JV K cl=true):ClsK K cl:=by
 have g:=h2;unfold Q3 at g;simp only[AF,AY] at g;have k1:∀ C∈cl,nG K C=true:=Bh.mp h1;refine⟨λC hC=>?_,λC hC B hB=>?_,λC hC=>?_⟩
 .have e:=k1 C hC
  unfold nG at e;simp only[AF,AY] at e;obtain⟨⟨⟨⟨⟨⟨e1,e2⟩,e3⟩,e4⟩,e5⟩,e6⟩,e7⟩:=e;exact⟨e1,e2,e3,g.1,g.2,e4,e5,e6⟩
 .have e:=Bh.mp (Bh.mp h3 C hC) B hB
  exact AZ e
 .have e:=k1 C hC
  unfold nG at e;simp only[AF,AY] at e;exact e.2
noncomputable def LW (K:Ai)(cs:Aa Ac)(A:Ad):Ap:=cs.all λv=>decide (Fd K v (.ref A)=Ab true)
noncomputable def LU (K:Ai)(cs:Aa Ad)(A:Ad):Ap:=cs.all λC=>p8 K C A
noncomputable def LV (K:Ai)(cs:Aa Ad):Ap:=cs.all λC=>CD K (.ref C)
def tU (K:Ai):Sp:=λvs H Q E=>Tb0 K H/\∃ a ns,vs=[.ref a]/\SqX K H a (List.map V.int ns)/\ns.length<=63/\∀ H',Q (.bl true) H'
theorem lO {P:Hp}{α:Aa Ad}:∀ ns:Aa Am,qD K P α (ns.map D.int) (ns.map V.int)
 |[]=>.nil
 |n::ns=>.cons (by simp only[Rep]) (lO ns)
noncomputable def noT (H:Hp):Hp:=λb=>match H b with
 |some (.tbl _)=>none
 |u=>u
theorem VH {P:Az}{w:AL}{fa:Ad}{st:CF}{k:Ah}{x:Ar}(hs:Src K mg "law" st [x])(hfa:mg "law" = Ab (.ref fa))
  (hbd:∀ (kV doc pm:Ac) (an:Ak Ad) (cdv ct:Ac) (s:Ag) (v:Ac),HZ s (Du "law" "law" (xT st) (zC st) (qG st) .none kV doc pm an cdv ct) ⟨[v],[]⟩ [(x,v)])
  (hall:∀ base:A8,∃ F,tX P w K mg base true k "law" [x] F/\∀ ns:Aa Am,ns.length<=63->∃ S,F [.lst (ns.map D.int)] [] = .ok (.bl true) S) :
  ∃ fd:CV,(∀ (s:Ag) (v:Ac),HZ s fd ⟨[v],[]⟩ [(x,v)])/\∀ base:A8,K.In base->base.Ns Bd mg->FnOk P w K mg base (CXd P w) k fa fd [x] (tU K):=by
 obtain⟨f,fd,hm,F,hb⟩:=hs;cases hfa.symm.trans hm;refine⟨fd,?_,λbase _ _=>?_⟩
 .obtain⟨oc,od,kV,doc,pm,an,cdv,ct,osl,rfl,_,_⟩:=F.ex
  exact hbd kV doc pm an cdv ct
 .obtain⟨G,⟨f',fd',hm',_,hb',hl,X⟩,hG⟩:=hall base
  cases hm.symm.trans hm';cases hl.one (gH F);refine(X.imp λvs H Q E h=>?_).ok;obtain⟨tb,a,ns,rfl,hS,hl,k⟩:=h;obtain⟨S,e⟩:=hG ns hl;have keep:∀ (b:Ad) (u:HO),H b=Ab u->(∀ ps,u≠.tbl ps)->noT H b=Ab u:=λb u q h=>by
   unfold noT;rw[q];cases u with
   |tbl ps=>exact absurd rfl (h ps)
   |_=>rfl
  have hS':SqX K (noT H) a (List.map V.int ns):=by
   rcases hS with (h|⟨o,h⟩)|h
   .exact .inl (.inl (keep _ _ h λ_ z=>by cases z))
   .exact .inl (.inr ⟨o,keep _ _ h λ_ z=>by cases z⟩)
   .exact .inr h
  have sub:qF (noT H) H:=λb u q=>by
   unfold noT at q;cases z:H b with
   |none=>rw[z] at q;cases q
   |some v =>
    rw[z] at q;cases v with
    |tbl ps=>cases q
    |_=>exact q
  refine⟨rfl,noT H,[],[.lst (ns.map D.int)],[],⟨λx hx c T h=>⟨#[],tb x hx c T h,by unfold noT;rw[tb x hx c T h],by simp,trivial,λpos cv z=>by cases z⟩,sub,rfl,.nil,by simp,by simp,by simp⟩,.cons (sY hS' (lO ns)) .nil,?_⟩
  rw[e];intro v H' P' α' _ _ _ rv;simp only[Rep] at rv;subst rv;exact k H'
theorem L4 {l:Sc}{q:Az}{loose:Aa Ar}{XP:(Ar->Ak Ac)->A8->Prop}{YP:AL->A8->Prop}{d:DefRec}{K:Params->Ai}{k:Ah}{x:Ar}(hn:l.most=Ab 63)(hdf:d.params.defaults=[])(hr:Room k Kh)(ht:∀ p,xZ q (K p)=true)
  (hY:∀ (w:AL) (h:A8),YP w h->(K w.params).In h)
  (F:∀ (w:AL) (mg:Ar->Ak Ac) (fa:Ad) (h:A8),(K w.params).In h->h.Ns Bd mg->mg d.name=Ab (.ref fa) ->
   ∃ fd:CV,(∀ (s:Ag) (u:Ac),HZ s fd ⟨[u],[]⟩ [(x,u)])/\∀ base:A8,(K w.params).In base->base.Ns Bd mg->FnOk l.prog w (K w.params) mg base (CXd l.prog w) k fa fd [x] (tU (K w.params))) :
  Tt q loose XP YP l.row.toRowW d [] (λf vs=>Sh f vs):=
 _L.J7 (n:=63) (k:=k) (x:=x) (CX:=λw=>CXd l.prog w) (sp:=λw=>tU (K w.params)) hn (by decide) hdf hr ht hY F (λ_ _ a ns hl hT hS=>⟨hT,a,ns,rfl,hS,hl,λ_=>rfl⟩) λw H s e s' h=>by
  obtain⟨_,_,_,_,_,_,_,_,_,_,_,_,z⟩:=h;exact z
end _D
namespace _D
open PySem
variable {us:Aa Ac}
theorem us0 (h:us.length=0):us=[]:=IK h
theorem usS {n:Ah}(h:us.length=n+1):∃ a vs,us=a::vs/\vs.length=n:=by
 cases us with
 |nil=>exact absurd h (by simp)
 |cons a vs=>exact⟨a,vs,rfl,by simpa using h⟩
theorem us1 (h:us.length=1):∃ a,us=[a]:=by
 obtain⟨a,vs,rfl,h'⟩:=usS h;exact⟨a,by rw[us0 h']⟩
theorem us2 (h:us.length=2):∃ a b,us=[a,b]:=by
 obtain⟨a,vs,rfl,h'⟩:=usS h;obtain⟨b,rfl⟩:=us1 h';exact⟨a,b,rfl⟩
theorem us3 (h:us.length=3):∃ a b c,us=[a,b,c]:=by
 obtain⟨a,vs,rfl,h'⟩:=usS h;obtain⟨b,c,rfl⟩:=us2 h';exact⟨a,b,c,rfl⟩
end _D
namespace _D
open PySem PySem.Spec PyProof.Rows _L
variable {oc:AV}{us:Aa Ac}{caps:Aa D}{E Q:Ac->Ag->Prop}{c':Ad}{j:Ah}{sc:Cj}{H':Hp}{env:qE}
theorem WO (F:DF):∃ G:DF,G=F:=⟨F,rfl⟩
def sh (F:DF):DF:=Lw (WO F)
theorem xG (F:DF):sh F=F:=Ig (WO F)
noncomputable def isV:Ak Es->Ap
 |some .local => true
 |some .cell=>true
 |some .free=>true
 |_=>false
noncomputable def isL:Ak Es->Ap
 |some .local => true
 |some .cell=>true
 |_=>false
noncomputable def isG:Ak Es->Ap
 |some .globalImplicit=>true
 |_=>false
noncomputable def okN (x:Ar):Ap:=!(x == ("__debug__" : Ar))&&(!(x == ("__classdict__" : Ar))&&!decide (x = "__name__"))
noncomputable def okG (X:Cx)(x:Ar):Ap:=isG (X.env.kindOf x)&&okN x
noncomputable def okB (v:Ac)(x:Ar):Ap:=decide (Dt x=Ab v)
noncomputable def uC (sc:Cj):Aa Ar:=sc.names.filterMap λy=>if isL (Ab y.2) then Ab y.1 else none
noncomputable def wB (sc:Cj):Aa Ar:=(sc.names.filterMap λy=>if isL (Ab y.2)&&!(y.1 == (".0" : Ar)) then Ab y.1 else none)++sc.names.filterMap λy=>if y.2 == .free then Ab y.1 else none
def Ck (b:Ap):Prop:=b=true
theorem ck {b:Ap}(h:b=true:=by kernel_rfl):Ck b:=h
structure DfS (F:DF)(P:Az)(w:AL)(K:Ai)(mg:Ar->Ak Ac)(base:A8)(cm:Ap)(k:Ah)(x:Ar)(n:Ah):Prop where
 get:Def P w K mg base cm k x n F
noncomputable def okT (X:Cx)(m:Ah)(x:Ar):Ap:=decide (X.N[m]? = Ab x)&&(isL (X.env.scope.names.lookup x)&&(decide X.N.Nodup&&(X.fn x||decide (X.env.scope.names.lookup x=Ab .local))))
noncomputable def okP (X:Cx)(m:Ah)(x:Ar):Ap:=decide (X.N[m]? = Ab x)&&decide (X.env.scope.names.lookup x=Ab .local)
noncomputable def tI (scX:Cj)(NX:Aa Ar)(scope:Cj)(cap:Aa (Ak Ah)):Ap:=
 decide (scope.kind=.function)&&(decide (∀ y∈scope.names,y.2=.local -> scope.names.lookup y.1=Ab .local)&&(decide (∀ y∈scope.names,y.2=.cell->scope.names.lookup y.1=Ab .cell)&&(decide (∀ y∈scope.names,y.2=.free->scX.names.lookup y.1=Ab .cell\/scX.names.lookup y.1=Ab .free)
 && (decide (∀ y∈scope.names,y.2=.free->scope.names.lookup y.1=Ab .free)&&(decide (cap.length=(wB scope).length)&&(((cap.zip (wB scope)).all λp=>match p.1 with|none=>true|some i=>NX[i]? == Ab p.2&&scope.names.lookup p.2 == Ab .free)&&decide (wB scope).Nodup))))))
noncomputable def fnB (N P:Aa Ar)(sc:Cj):Ap:=
 decide (sc.kind=.function)&&(decide (sc.isCoroutine=false)&&(decide (sc.isGenerator=false)&&(decide N.Nodup&&(decide (N.take P.length=P)&&(decide (∀ x∈P,sc.names.lookup x=Ab .local \/ sc.names.lookup x=Ab .cell)&&decide (∀ y∈sc.names,y.2≠.free))))))
theorem nH {scX:Cj}{NX:Aa Ar}{scope:Cj}{cap:Aa (Ak Ah)}(h:tI scX NX scope cap=true):CompSc scX NX scope (wB scope) cap:=by
 simp only[tI,AF,AY] at h;obtain⟨a,b,c,d,e,f,g,k⟩:=h;exact⟨a,b,c,d,e,f,g,k⟩
theorem l5 {N P:Aa Ar}(h:fnB N P sc=true):FnScope N P sc:=by
 simp only[fnB,AF,AY] at h;obtain⟨a,b,c,d,e,f,g⟩:=h;exact⟨a,b,c,d,e,f,g⟩
section
variable {X:Cx}{a b c e o elt tg iter:AH}{ifs qM:Aa AH}{f g:DS}{fa:DE}{f2:DI2}{dg:DG}{t:DT}{kk:DK}{gens grest:Aa Bm}{scope:Cj}{cap:Aa (Ak Ah)}{mm:Ap}{l q:Ah}{y z:Ar}{G2':G2}{es:Aa AH}{fA:DA}{x:Ar}{p pos:CB}{cm:Ap}{k n m:Ah}{F:DF}
theorem sE (h:isV (sc.names.lookup x)=true):Vis sc x:=by
 unfold Vis
 revert h
 cases sc.names.lookup x with
 |none=>intro h;cases h
 |some y=>cases y <;> intro h <;> first|cases h;done|exact .inl rfl|exact .inr (.inl rfl)|exact .inr (.inr rfl)
theorem V5 (h:isL (sc.names.lookup x)=true):_L.Loc sc x:=by
 unfold _L.Loc
 revert h
 cases sc.names.lookup x with
 |none=>intro h;cases h
 |some y=>cases y <;> intro h <;> first|cases h;done|exact .inl rfl|exact .inr rfl
theorem uR (h:okN x=true):(x == ("__debug__" : Ar))=false/\(x == ("__classdict__" : Ar))=false/\x ≠ "__name__":=by
 unfold okN at h;rw[AF,AF] at h;exact⟨by simpa using h.1,by simpa using h.2.1,by simpa using h.2.2⟩
theorem xI (h:okG X x=true):Gl X x/\(x == ("__debug__" : Ar))=false/\x ≠ "__name__":=by
 have h:=(AF _ _).mp h;refine⟨?_,(uR h.2).1,(uR h.2).2.2⟩;have z:=h.1;unfold Gl
 revert z
 cases X.env.kindOf x with
 |none=>intro z;cases z
 |some y=>cases y <;> intro z <;> first|cases z;done|rfl
theorem lH (h:okT X m x=true):X.N[m]? = Ab x/\_L.Loc X.env.scope x/\X.N.Nodup/\(X.fn x=true\/X.env.scope.names.lookup x=Ab .local):=by
 simp only[okT,AF,AY,IH] at h;exact⟨h.1,V5 h.2.1,h.2.2⟩
theorem uS (h:okP X m x=true):X.N[m]? = Ab x/\X.env.scope.names.lookup x=Ab .local:=by
 simp only[okP,AF,AY] at h;exact h
theorem W5 (h:Ck (okG X x)):Gl X x:=(xI h).1
theorem aV (h:Ck (decide (X.N[m]? = Ab x)&&(isV (X.env.scope.names.lookup x)&&okN x))):QE X (.Name x pos) (qB m):=by
 unfold Ck at h;simp only[AF,AY] at h;exact FA m h.1 (sE h.2.1) (uR h.2.2).1 (uR h.2.2).2.1
theorem aBt {nm:Bp}(h:Ck (okG X x))(hm:X.mg x=none)(hb:Ck (okB (.type nm) x)):QE X (.Name x pos) (dC (.ty nm)):=
 have h:=xI h
 UA h.1 hm (AZ hb) h.2.2 h.2.1
theorem aCl {C:Ad}(h:Ck (okG X x))(hm:X.mg x=Ab (.ref C)/\CD X.K (.ref C)=true):QE X (.Name x pos) (dC (.obj C)):=
 have h:=xI h
 F2 h.1 hm.1 hm.2 h.2.1
abbrev St1 (X:Cx)(e:AH)(es:Aa AH)(pos:CB):Prop:=A5 (e::es) X.env=(false,eval e X.env)::A5 es X.env/\(Dh pos (A5 es X.env)).any (·.1)=false
theorem aN (G:DfS F X.prog X.w X.K X.mg X.base cm k x n)(hr:RoomC cm k X.A)(hF:Fn1 X)(h:Ck (okG X x))(ha:QA X (e::es) fA)(s:St1 X e es pos):QE X (.Call (.Name x p) (e::es) [] pos) (qU n F fA):=
 have h:=xI h
 qcN G.1 hr hF h.1 ha h.2.1 s.1 s.2
theorem aL (G:DfS F X.prog X.w X.K X.mg X.base cm k x n)(hr:RoomC cm k X.A)(hF:Fn1 X)(h:Ck (okG X x))(ha:QA X (e::es) fA)(s:St1 X e es pos):QE X (.Call (.Name x p) (e::es) [] pos) (qU n (vV F) fA):=
 have h:=xI h
 qcL G.1 hr hF h.1 ha h.2.1 s.1 s.2
theorem aO (G:DfS F X.prog X.w X.K X.mg X.base cm k x n)(hr:RoomC cm k X.A)(h:Ck (okG X x))(ha:QA X (e::es) fA)(s:St1 X e es pos):QE X (.Call (.Name x p) (e::es) [] pos) (qU n (okO F) fA):=
 have h:=xI h
 qcO G.1 hr h.1 ha h.2.1 s.1 s.2
theorem aB {id:Bp}(hc:ZCall X (.builtin id) F)(h:Ck (okG X x))(hm:X.mg x=none)(hb:Ck (okB (.builtin id) x))(ha:QA X (e::es) fA)(s:St1 X e es pos):QE X (.Call (.Name x p) (e::es) [] pos) (qR F fA):=
 have h:=xI h
 X6 hc h.1 hm (AZ hb) ha h.2.2 h.2.1 s.1 s.2
theorem aT {T:Bp}(hc:ZCall X (.type T) F)(h:Ck (okG X x))(hm:X.mg x=none)(hb:Ck (okB (.type T) x))(ha:QA X (e::es) fA)(s:St1 X e es pos):QE X (.Call (.Name x p) (e::es) [] pos) (qR F fA):=
 have h:=xI h
 iN hc h.1 hm (AZ hb) ha h.2.2 h.2.1 s.1 s.2
theorem aC (S:Ck (tI X.env.scope X.N scope cap))(hc:X.calm=true)(hi:QI2 X tg iter f2)(hg:∀ cl C ex s₀ H₀,QG (qQ X (wB scope) scope cl C ex s₀ H₀) tg dg)(ht:∀ cl C ex s₀ H₀,QTs (qQ X (wB scope) scope cl C ex s₀ H₀) ifs t)
  (has:∀ g',(⟨tg,iter,ifs,0⟩::grest:Aa Bm)[0+1]? = Ab g'->g'.is_async=0)
  (he:∀ cl C ex s₀ H₀,QK accL (qQ X (wB scope) scope cl C ex s₀ H₀) (λacc=>zB false elt (⟨tg,iter,ifs,0⟩::grest) scope pos 0 acc (qQ X (wB scope) scope cl C ex s₀ H₀).env) kk) (hs:∀ x,CH iter X.env x=pure x) :
  QE X (.ListComp elt (⟨tg,iter,ifs,0⟩::grest) scope pos) (w8 mm cap f2 dg t kk):=X8 hc (nH S) hi hg ht has he hs
theorem aNm (h:Ck (okT X m x)):QG X (.Name x pos) (gNm m):=
 have h:=lH h
 UF h.2.2.1 h.1 h.2.1 h.2.2.2
theorem aSt {pos':CB}(hs:Nu e (Ab (.Name x pos')) pos.line X.env=pure false)(he:QE X e fa)(h:Ck (okT X m x)):QS X (.Assign [.Name x pos'] e pos) (zF fa (gNm m)):=
 have h:=lH h
 FJ h.2.2.1 he h.1 h.2.1 hs h.2.2.2
theorem aAu {op:HR}{pos':CB}(h:Ck (okT X m x))(he:QE X e fa)(ho:ZIp X op G2'):QS X (.AugAssign (.Name x pos') op e pos) (yP m G2' fa):=
 have h:=lH h
 FG h.2.2.1 he ho h.1 h.2.1 h.2.2.2
theorem aP2 {px py pt:CB} {kt k2 pt2} (h:Ck (decide X.N.Nodup&&(okP X m x&&(okP X l y&&!decide (m=l))))) (hc:X.calm=true) (ha:QA X [a,b] fA)
  (hw:Gx [.Tuple [.Name x px,.Name y py] kt pt] (.Tuple [a,b] k2 pt2) X.env=pure (Ab [x,y])) (hs:Gy [.Tuple [.Name x px,.Name y py] kt pt] (.Tuple [a,b] k2 pt2) pos.line X.env=pure false) :
  QS X (.Assign [.Tuple [.Name x px,.Name y py] kt pt] (.Tuple [a,b] k2 pt2) pos) (fX m l fA):=by
 unfold Ck at h;simp only[AF,AY,HL,E2] at h;exact FI hc h.1 ha (uS h.2.1).1 (uS h.2.2.1).1 h.2.2.2 (uS h.2.1).2 (uS h.2.2.1).2 hw hs
theorem aRs {C:Ad}{np cpos:CB}(h:Ck (okG X x))(hc:X.calm=true)(hF:Fn1 X)(hm:∃ Ae,X.mg x=Ab (.ref C)/\p8 X.K C Ae=true)(ha:QA X (e::qM) fA)(s:St1 X e qM cpos) :
  QS X (.Raise (Ab (.Call (.Name x np) (e::qM) [] cpos)) none pos) (uU (.ref C) fA):=
 have h:=xI h
 let ⟨_,hm,hx⟩:=hm
 XC hc hF h.1 hm hx ha h.2.1 s.1 s.2
theorem aTr {nm:Ar}{body:Aa CF}{b₀:CF}{suite:Aa CF}{np hpos:CB}{cs:Aa Ac}(h:Ck (okG X x&&(okP X m nm&&(decide X.N.Nodup&&decide (X.N.length=n)))))(hF:Fn1 X)(hm:∃ C0,X.mg x=Ab (.ref C0)/\∀ c∈cs,Fd X.K c (.ref C0)=Ab true)(hb:∀ E pn,ZPass (Cx.tryIn X E pn)->QB (Cx.tryIn X E pn) body f)(hs:∀ e,QB (Cx.suite X e) (b₀::suite) g) :
  QS X (.Try body [.ExceptHandler (Ab (.Name x np)) (Ab nm) (b₀::suite) hpos] [] [] pos) (pN n m cs f g):=by
 unfold Ck at h;simp only[AF,AY] at h;obtain⟨C0,hm,hcs⟩:=hm;exact FK hF hb hs (xI h.1).1 hm hcs h.2.2.1 (uS h.2.1).1 (uS h.2.1).2 (xI h.1).2.1 h.2.2.2
end
structure TxS (K:Ai)(mg:Ar->Ak Ac)(tp:Ah->CF)(tab:Aa (Ar × Ah × Aa Ar))(bl:Aa Ar)(clt plt:Aa (Ar × Ad))(cs:Aa Ac)(exl:Aa Ad)(cst:Aa (Ar × Am)):Prop where
 src:∀ (j:Ah) {x:Ar} {i:Ah} {ps:Aa Ar},tab[j]? = Ab (x,i,ps)->Src K mg x (tp i) ps
 nb:∀ {x:Ar},Ck (bl.contains x)->mg x=none
 cl:∀ {x:Ar} {C:Ad},clt.lookup x=Ab C->mg x=Ab (.ref C)/\CD K (.ref C)=true
 rz:∀ {x:Ar} {C:Ad},plt.lookup x=Ab C->∃ Ae,mg x=Ab (.ref C)/\p8 K C Ae=true
 ct:∃ C0,mg "FarError" = Ab (.ref C0)/\∀ c∈cs,Fd K c (.ref C0)=Ab true
 cls:ClsK K exl
 gi:∀ {x:Ar} {v:Am},cst.lookup x=Ab v->∃ t,mg x=Ab (.int v t)
section
variable {K:Ai}{mg:Ar->Ak Ac}{cm:Ap}{tp:Ah->CF}{tab:Aa (Ar × Ah × Aa Ar)}{bl:Aa Ar}{clt plt:Aa (Ar × Ad)}{cs:Aa Ac}{exl:Aa Ad}{cst:Aa (Ar × Am)}{x:Ar}{i m:Ah}{ps:Aa Ar}{F:DF}{g:DS}
theorem dq (P:Az)(w:AL)(base:A8)(k j:Ah)(T:TxS K mg tp tab bl clt plt cs exl cst)(hj:tab[j]? = Ab (x,i,ps))(h:Ck (fnB (uC (qG (tp i))) ps (qG (tp i))&&decide ((uC (qG (tp i))).length=m)))(hF:F=qY m g)
  (hb:∀ (f:Ad) (cdv:Ac) (A:AJ) (outer:Aa E0) (s:Ag) (H:Hp) (E:XK),j6 K x cdv->RoomC cm k (A.deeper (Dp x (qG (tp i)) s.heap.objs.size f cdv)) ->
   QB (cxC cm P w K mg base (uC (qG (tp i))) x (qG (tp i)) f cdv A outer s H E) (zC (tp i)) g):DfS F P w K mg base cm (k+1) x ps.length:=by
 unfold Ck at h;simp only[AF,AY] at h;obtain⟨h,rfl⟩:=h;exact⟨hF▸D0 (T.src j hj) (l5 h) rfl hb⟩
theorem dqP {P:Az}{w:AL}{base:A8}(k j:Ah)(T:TxS K mg tp tab bl clt plt cs exl cst)(hj:tab[j]? = Ab (x,i,ps))(h:Ck (fnB (uC (qG (tp i))) ps (qG (tp i))&&decide ((uC (qG (tp i))).length=m)))
  (hb:∀ (f:Ad) (cdv:Ac) (A:AJ) (outer:Aa E0) (s:Ag) (H:Hp) (E:XK),j6 K x cdv->RoomC cm k (A.deeper (Dp x (qG (tp i)) s.heap.objs.size f cdv)) ->
   QB (cxC cm P w K mg base (uC (qG (tp i))) x (qG (tp i)) f cdv A outer s H E) (zC (tp i)) g):tX P w K mg base cm (k+1) x ps (qY m g):=by
 unfold Ck at h;simp only[AF,AY] at h;obtain⟨h,rfl⟩:=h;exact MK (T.src j hj) (l5 h) rfl hb
end
theorem hv {a b:Prop}(f:a->b)(h:a):b:=f h
inductive SrcF (K:Ai)(x:Ar)(st:CF)(ps:Aa Ar):Prop
 |mk {f:Ad} {oc:Ac} {od an:Ak Ad} {osl:Av (Ak Ac)} {kV doc pm cdv ct:Ac} (a:Co K Bd x=Ab (Ab (.ref f)))
  (l:K.lookup f=Ab ⟨oc,od,.func (Du x x (xT st) (zC st) (qG st) .none kV doc pm an cdv ct),osl⟩) (c:Gp K cdv x=true) (k:CD K (.ref f)=true):SrcF K x st ps
def rP (K:Ai)(tp:Ah->CF):Aa (Ar × Ah × Aa Ar)->Prop
 |[]=>HX
 |(x,i,ps)::t=>SrcF K x (tp i) ps/\rP K tp t
def BdF (tp:Ah->CF):Aa (Ar × Ah × Aa Ar)->Prop
 |[]=>HX
 |(x,i,ps)::t=>(∀ (kV doc pm:Ac) (an:Ak Ad) (cdv ct:Ac) (us:Aa Ac),us.length=ps.length->Ms (Du x x (xT (tp i)) (zC (tp i)) (qG (tp i)) .none kV doc pm an cdv ct) ⟨us,[]⟩=pure (ps.zip us))/\BdF tp t
def rM (K:Ai):Aa (Ar × Ad)->Prop
 |[]=>HX
 |(x,C)::t=>Co K Bd x=Ab (Ab (.ref C))/\rM K t
def rN (K:Ai):Aa (Ar × Am)->Prop
 |[]=>HX
 |(x,v)::t=>(∃ k,Co K Bd x=Ab (Ab (.int v k)))/\rN K t
noncomputable def D6:Ak (Ak Ac)->Ap
 |some none=>true
 |_=>false
section
variable {K:Ai}{h:A8}{mg:Ar->Ak Ac}{tp:Ah->CF}
theorem rE (X:K.In h)(G:h.Ns Bd mg):∀ (tab:Aa (Ar × Ah × Aa Ar)),rP K tp tab->BdF tp tab->∀ (j:Ah) {x:Ar} {i:Ah} {ps:Aa Ar},tab[j]? = Ab (x,i,ps)->Src K mg x (tp i) ps
 |[],_,_,_,_,_,_,e=>by cases e
 |(x,i,ps)::t,H,B,0,_,_,_,e=>by
  cases e;obtain⟨a,l,c,k⟩:=H.1;exact FR X G a l c k B.1
 |(x,i,ps)::t,H,B,j+1,_,_,_,e=>rE X G t H.2 B.2 j e
theorem xP {β:Type}{p:Ar->β->Prop}{x:Ar}{C:β}:∀ {l:Aa (Ar × β)},(∀ y∈l,p y.1 y.2)->l.lookup x=Ab C->p x C
 |[],_,e=>by cases e
 |(y,b)::t,H,e=>by
  rw[Fh] at e;cases q:x == y with
  |true =>
   rw[q] at e;cases e;rw[eq_of_beq q];exact H (y,_) (.head _)
  |false =>
   rw[q] at e;exact xP (λz hz=>H z (.tail _ hz)) e
theorem gA (X:K.In h)(G:h.Ns Bd mg):∀ {l:Aa (Ar × Ad)},rM K l->∀ y∈l,mg y.1=Ab (.ref y.2)
 |(x,C)::t,H,y,hy=>by
  rcases AD.mp hy with rfl|hy
  .exact ON X G H.1
  .exact gA X G H.2 y hy
theorem dS (X:K.In h)(G:h.Ns Bd mg):∀ {l:Aa (Ar × Am)},rN K l->∀ y∈l,∃ k,mg y.1=Ab (.int y.2 k)
 |(x,C)::t,H,y,hy=>by
  rcases AD.mp hy with rfl|hy
  .obtain⟨k,e⟩:=H.1
   exact⟨k,ON X G e⟩
  .exact dS X G H.2 y hy
theorem NY {tab:Aa (Ar × Ah × Aa Ar)}{bl:Aa Ar}{clt plt:Aa (Ar × Ad)}{cs:Aa Ac}{exl:Aa Ad}{cst:Aa (Ar × Am)}{far:Ad}(B:BdF tp tab)(hp:∀ y∈plt,y∈clt)(hf:clt.lookup ("FarError" : Ar)=Ab far)(X:K.In h)(G:h.Ns Bd mg)
  (s:rP K tp tab) (z:(bl.all λx=>D6 (Co K Bd x))=true) (q:rM K clt) (g:rN K cst) (e1:exl.all (nG K)=true) (e2:Q3 K=true) (e3:JV K exl=true) (e4:LW K cs far=true) (e5:LU K (plt.map (·.2)) far=true) (e6:LV K (clt.map (·.2))=true):TxS K mg tp tab bl clt plt cs exl cst where
 src:=rE X G tab s B
 nb:=λ{x} hx=>by
  have e:=Bh.mp z x (by simpa using De.mp hx)
  refine PySem.W.mg_none_of X G ?_
  revert e
  cases Co K Bd x with
  |none=>intro e;cases e
  |some y=>cases y with
   |none=>intro _;rfl
   |some y=>intro e;cases e
 cl:=λh=>⟨xP (p:=λx C=>mg x=Ab (.ref C)) (gA X G q) h,xP (p:=λ_ C=>CD K (.ref C)=true) (λy hy=>Bh.mp e6 y.2 (OO hy)) h⟩
 rz:=λh=>⟨far,xP (p:=λx C=>mg x=Ab (.ref C)) (λy hy=>gA X G q y (hp y hy)) h,xP (p:=λ_ C=>p8 K C far=true) (λy hy=>Bh.mp e5 y.2 (OO hy)) h⟩
 ct:=⟨far,xP (p:=λx C=>mg x=Ab (.ref C)) (gA X G q) hf,λv hv=>AZ (Bh.mp e4 v hv)⟩
 cls:=JX e1 e2 e3
 gi:=λh=>xP (p:=λx v=>∃ k,mg x=Ab (.int v k)) (dS X G g) h
end
structure LamT where
 qual:Ar
 params:ID
 body:AH
 scope:Cj
noncomputable def zY (sc:Cj):Aa Ar:=sc.names.filterMap λy=>if y.2 == .free then Ab y.1 else none
inductive CloAt (h:A8)(H:Hp)(fs:Aa Ad)(L:LamT)(a:Ad)(cv:Aa V):Prop
 |mk (cl:Aa (Ar × Ad)) (pm ctv:Ac) (c:Ad) (oc:AV) (ws:Av Ac) (t:Pv) (o:h.get? a=Ab (Hs "<lambda>" L.qual L.params L.body L.scope cl pm c ctv)) (hc:H c=Ab (.frz oc (.frz oc (.own 0)))) (hd:oc.data=.fields ws) (ht:ws[1]? = Ab (.str L.qual t))
  (inj:∀ x y d,cl.lookup x=Ab d->cl.lookup y=Ab d->x=y) (cel:∀ x d,cl.lookup x=Ab d->H d=none/\∃ v,h.IsCell d v) (has:∀ x,L.scope.names.lookup x=Ab .free->∃ d,cl.lookup x=Ab d)
  (len:cv.length=(zY L.scope).length) (val:∀ (j:Ah) x v,(zY L.scope)[j]? = Ab x->cv[j]? = Ab v->∃ d u,cl.lookup x=Ab d/\qJ v u/\h.IsCell d (Ab u)) (hn:H a=none) (hf:a ∉ fs):CloAt h H fs L a cv
theorem CloAt.at {X:Cx}{pins:Aa (Ad × AV)}{σ:_L.St}{H:Hp}{s:Ag}{L:LamT}{a:Ad}{cv:Aa V}(C:CloAt X.s₀.heap X.H₀ X.fs L a cv)(F:Fn1 X)(I:Inv X pins σ H s):CloAt s.heap H (frs X.stack) L a cv:=by
 obtain⟨cl,pm,ctv,c,oc,ws,t,o,hc,hd,ht,inj,cel,has,len,val,hn,hf⟩:=C;have nx:∀ b,b ∉ X.ex:=λb=>by rw[F.1];simp
 have nf:∀ b o,X.s₀.heap.get? b=Ab o->b ∉ X.fs->b ∉ frs X.stack:=λb o e n z=>(F.mem.mp z).elim (AS (Au (Ax e) I.ok.above)) n;have kc:∀ d v,X.H₀ d=none->X.s₀.heap.IsCell d v->s.heap.IsCell d v:=λd v h1 ⟨o,e,q⟩=>let ⟨_,z⟩:=I.base.any e h1 (nx d);⟨_,z,q⟩
 refine⟨cl,pm,ctv,c,oc,ws,t,I.base.keep a _ o hn hf (nx a),I.base.frzs _ _ _ hc,hd,ht,inj,λx d e=>?_,has,len,λj x v e1 e2=>?_,I.base.free a _ o hn (nx a),nf a _ o hf⟩
 .obtain⟨h1,v,h3⟩:=cel x d e
  obtain⟨ob,e3,q⟩:=id h3;exact⟨I.base.free d ob e3 h1 (nx d),v,kc d v h1 h3⟩
 .obtain⟨d,u,q1,q2,q3⟩:=val j x v e1 e2
  exact⟨d,u,q1,q2,kc d _ (cel x d q1).1 q3⟩
noncomputable def ZG (cm:Ap)(P:Az)(w:AL)(K:Ai)(mg:Ar->Ak Ac)(base:A8)(N:Aa Ar)(L:LamT)(cl:Aa (Ar × Ad))(f:Ad)(cd:Ac)(A:AJ)(outer:Aa E0)(s:Ag)(H:Hp)(E:XK):Cx where
 prog:=P
 w:=w
 K:=K
 mg:=mg
 base:=base
 A:=A.deeper (Gr L.qual L.scope s.heap.objs.size f cd cl)
 N:=N
 s₀:=s
 H₀:=H
 env:=Gr L.qual L.scope s.heap.objs.size f cd cl
 outer:=outer
 stack:=Gr L.qual L.scope s.heap.objs.size f cd cl::outer
 ex:=[]
 calm:=cm
 fn:=λ_=>false
 pn:=[]
 xe:=xeL P w A (Gr L.qual L.scope s.heap.objs.size f cd cl) outer H s E
structure LamSc (L:LamT)(ps:Aa Ar):Prop where
 kind:L.scope.kind=.function
 co:L.scope.isCoroutine=false
 gen:L.scope.isGenerator=false
 nocell:∀ y∈L.scope.names,y.2≠.cell
 par:∀ x∈ps,L.scope.names.lookup x=Ab .local
 one:ps.length<=1
 fr:∀ x∈zY L.scope,L.scope.names.lookup x=Ab .free
def bV (P:Az)(w:AL)(K:Ai)(mg:Ar->Ak Ac)(base:A8)(cm:Ap)(k:Ah)(L:LamT)(n:Ah)(G:Aa D->DF):Prop:=
 ∀ (A:AJ) (outer:Aa E0) (s:Ag) (H:Hp) (us:Aa Ac) (ws cv:Aa V) (a:Ad) (P':Hp) (α : Aa Ad) (S:Sto) (caps ds:Aa D) (Q:VK) (E:XK),RoomC cm k A->Env0 P w K mg base A outer s H->CloAt s.heap H (frs outer) L a cv->Rel K H P' α S ->
  qD K P' α caps cv->qD K P' α ds ws->qK ws us->ds.length=n->spR K P' α (G caps ds S) Q E->El (Aq P w) A (.call (.ref a) ⟨us,[]⟩) (CR (CXd P w) outer P w H s Q E) s
section
variable {P:Az}{w:AL}{K:Ai}{mg:Ar->Ak Ac}{base:A8}{cm:Ap}{L:LamT}{ps:Aa Ar}
theorem V1 {cl:Aa (Ar × Ad)}{f:Ad}{cd:Ac}{A:AJ}{outer:Aa E0}{s:Ag}{H:Hp}{E:XK}{ws cv:Aa V}{h':A8}{tk:Ah}(S:LamSc L ps)(hd:cm=true->A.handled=none)(e0:Env0 P w K mg base A outer s H)
  (inj:∀ x y d,cl.lookup x=Ab d->cl.lookup y=Ab d->x=y) (cel:∀ x d,cl.lookup x=Ab d->H d=none/\∃ v,s.heap.IsCell d v) (has:∀ x,L.scope.names.lookup x=Ab .free->∃ d,cl.lookup x=Ab d)
  (len:cv.length=(zY L.scope).length) (val:∀ (j:Ah) x v,(zY L.scope)[j]? = Ab x->cv[j]? = Ab v->∃ d u,cl.lookup x=Ab d/\qJ v u/\s.heap.IsCell d (Ab u)) (hl:ws.length=ps.length) (r:qK ws us)
  (hns:h'.Ns s.heap.objs.size λy=>(ps.zip us).reverse.lookup y) (hk:∀ b o,s.heap.get? b=Ab o->h'.get? b=Ab o) :
  Inv (ZG cm P w K mg base (ps++zY L.scope) L cl f cd A outer s H E) [] ((ws++cv).map Ab) H { s with heap:=h',toks:=tk }:=by
 have kc:∀ d v,s.heap.IsCell d v->h'.IsCell d v:=λd v ⟨o,e,q⟩=>⟨o,hk d o e,q⟩;have no:∀ b:Ad,b ∉ ([]:Aa Ad):=λb=>by simp
 refine⟨⟨e0.mod,S.kind,rfl,rfl,Ay _,inj,λy hy=>?_,(λy c z=>nomatch z),hd,Iw e0.frames,.inr ⟨rfl,rfl⟩,λb z=>absurd z (no b),e0.bs,e0.bsz,λb _ _=>no b,λb z=>absurd z (no b),e0.funs,e0.frf⟩,
  rfl,e0.bare,Un.kept hk,⟨_,hns,λi y v h1 h2 h3=>?_⟩,λy c h=>?_,e0.hok.fresh (Ay _),λy c h=>(cel y c h).1,λp hp=>absurd (show p∈([]:Aa (Ad × AV)) from hp) (by simp),e0.hok.kept hk,?_⟩
 .rcases hy with hy|hy
  .exact absurd rfl (S.nocell _ (CN hy))
  .exact has y hy
 .have h1:(ps++zY L.scope)[i]? = Ab y:=h1
  rw[Br] at h2;obtain⟨v',h2,e⟩:=Bw.mp h2;cases e;by_cases hi:i<ps.length
  .rw[AO hi] at h1
   rw[AO (by rw[hl];exact hi)] at h2
   obtain⟨u,hu,rv⟩:=r.get h2;refine⟨u,rv,.inl ⟨S.par y (AM h1),?_⟩⟩;have one:=S.one;cases ps with
   |nil=>cases h1
   |cons p t =>
    cases t with
    |cons _ _=>simp at one
    |nil =>
     have i0:i=0:=by simpa using hi
     subst i0;cases us with
     |nil=>cases hu
     |cons u' us =>
      cases h1;cases hu;simp
  .rw[Bb (Fg hi)] at h1
   rw[Bb (by rw[hl];exact Fg hi),hl] at h2
   obtain⟨d,u,q1,q2,q3⟩:=val _ y v h1 h2;exact⟨u,q2,.inr ⟨.inr (S.fr y (AM h1)),d,q1,kc d _ q3⟩⟩
 .obtain⟨_,v,q⟩:=cel y c h
  exact⟨v,kc c v q⟩
 .show _=(ps++zY L.scope).length
  simp[hl,len]
theorem P6 {k:Ah}{fe:DE}(S:LamSc L ps)(hb:∀ (cl:Aa (Ar × Ad)) (pm cdv ctv:Ac) (us:Aa Ac),us.length=ps.length->Ms (Ss "<lambda>" L.qual L.params L.body L.scope cl pm cdv ctv) ⟨us,[]⟩=pure (ps.zip us))
  (hbody:∀ (cl:Aa (Ar × Ad)) (f:Ad) (cd:Ac) (A:AJ) (outer:Aa E0) (s:Ag) (H:Hp) (E:XK),RoomC cm k (A.deeper (Gr L.qual L.scope s.heap.objs.size f cd cl)) ->
   QE (ZG cm P w K mg base (ps++zY L.scope) L cl f cd A outer s H E) L.body fe):bV P w K mg base cm (k+1) L ps.length λcaps ds S=>fe ((ds++caps).map Ab) S:=by
 intro A outer s H us ws cv a P' α St caps ds Q E hr e0 C r rc rd rv hn af;obtain⟨cl,pm,ctv,c,oc,vs,t,o,hc,hd,ht,inj,cel,has,len,val,hna,hf⟩:=C;have af:spR K P' α (fe ((ds++caps).map Ab) St) Q E:=af;have lim:s.heap.NoLimit:=e0.mod.nolimit.keeps λb o e=>(e0.bs b o e).1;have hul:us.length=ps.length:=by rw[<- rv.length,<- rd.length];exact hn
 have hloc:∀ y∈ps.zip us,L.scope.names.lookup y.1=Ab .local:=λy hy=>S.par _ (Hl hy).1;refine PySem.W.kla_callFunE hr.depth o rfl S.co S.gen rfl ⟨c,oc,vs,t,rfl,(e0.hok c _ hc).1,hd,ht⟩ ?_;rw[hb cl pm (.ref c) ctv us hul];refine Al (wpAny_newFunctionEnv S.nocell hloc (λh₁ hns hsb=>?_) S.kind);have hk₁:∀ b o,s.heap.get? b=Ab o->h₁.get? b=Ab o:=λb o e=>hsb.extBut b o (AS (Ax e)) (Aj _ e);refine⟨lim.keeps hk₁,?_⟩;show El _ _ (.expr L.body (Gr L.qual L.scope s.heap.objs.size a (.ref c) cl)) _ _;have I:=V1 (cm:=cm) (f:=a) (cd:=.ref c) (E:=E) (tk:=s.toks+(ps.zip us).length) S hr.hd e0 inj cel has len val (by rw[<- rd.length];exact hn) rv hns hk₁
 have re:qV K P' α ((ws++cv).map Ab) ((ds++caps).map Ab):=by
  have z:=rd.append rc;refine⟨by simp[z.length,rd.length,rc.length],λi d e=>?_⟩
  rw[Br] at e;obtain⟨d',e1,e2⟩:=Bw.mp e;cases e2;obtain⟨v,h1,h2⟩:=z.get e1;exact⟨v,by rw[Br,h1];rfl,h2⟩
 refine PySem.W.kla_codeExpr (Dq ((hbody cl a (.ref c) A outer s H E (hr.deeper _)).1 [] _ _ H Q I ⟨P',α,_,St,r,re,?_⟩) (λu s' q=>?_) λ_ _ y=>y)
 .cases z:fe ((ds++caps).map Ab) St with
  |ok d S'=>rw[z] at af;exact af
  |ex e x S'=>rw[z] at af;exact λu s' q=>nM (A:=A) rfl q λH' P1 α1 r1 e1 e2=>af H' P1 α1 r1 e1 e2
  |bad=>rw[z] at af;exact An af
 .obtain⟨v,H',I',rv',q⟩:=q
  exact⟨v,H',I'.os,I'.bare,I'.base,I'.hok,rv',q⟩
end
open Classical in
def jA (i:Ah)(fa:DA)(a:Ad)(cv:Aa V)(n:Ah)(G:Aa D->DF):DE:=λenv S=>match env[i]? with
 |some (Ab (.clo b vs caps))=>if b=a/\vs=cv then (fa env S).bind λds S1=>if ds.length=n then G caps ds S1 else .bad else .bad
 |_=>.bad
section
variable {X:Cx}{cm:Ap}{k n i:Ah}{x:Ar}{p pos:CB}{e:AH}{es:Aa AH}{fa:DA}{L:LamT}{G:Aa D->DF}{a:Ad}{cv:Aa V}
set_option tactic.hygienic true in
theorem Y2 {S:Sto}{P:Hp}{α:Aa Ad}{Ok:D->Sto->Prop}(h:qH X P α (jA i fa a cv n G env S) Ok):∃ caps,env[i]? = Ab (Ab (.clo a cv caps))/\qH X P α ((fa env S).bind λds S1=>if ds.length=n then G caps ds S1 else .bad) Ok:=by
 unfold jA at h
 split at h
 .rename_i b vs caps e
  obtain⟨⟨rfl,rfl⟩,h1⟩:=xH h;exact⟨caps,e,h1⟩
 .exact An h
theorem D2 {h:A8}{H:Hp}{fs:Aa Ad}(C:CloAt h H fs L a cv):PySem.W.FnAt a h:=by
 obtain⟨cl,pm,ctv,c,oc,ws,t,o,_⟩:=C;exact⟨_,_,_,_,o⟩
theorem Y3 {pins:Aa (Ad × AV)}{σ:_L.St}{H P:Hp}{α:Aa Ad}{s:Ag}{Q:VK}{ws:Aa V}{ds:Aa D}{S:Sto}(LX:bV X.prog X.w X.K X.mg X.base cm k L n G)(hr:RoomC cm k X.A)(F:Fn1 X)(C:CloAt X.s₀.heap X.H₀ X.fs L a cv)
  (I:Inv X pins σ H s) (r:Rel X.K H P α S) (rc:qD X.K P α caps cv) (rp:qD X.K P α ds ws) (rv:qK ws us) (af:qP X P α (if ds.length=n then G caps ds S else .bad) Q):Ao (Aq X.prog X.w) X.A (call (.ref a) us) (EP X pins σ Q) X.xe s:=by
 obtain⟨hn,af⟩:=xH af;exact p5 (λ_=>F) I af (LX X.A X.stack s H us ws cv a P α S caps ds Q _ hr I.env0 (C.at F I) r rc rp rv hn (lS af))
theorem P8 {pins:Aa (Ad × AV)}{σ:_L.St}{H P:Hp}{α:Aa Ad}{s:Ag}(hN:X.N[i]? = Ab x)(hv:Vis X.env.scope x)(hd:(x == ("__debug__" : Ar))=false)(hcd:(x == ("__classdict__" : Ar))=false)
  (I:Inv X pins σ H s) (re:qV X.K P α σ env) (he:env[i]? = Ab (Ab (.clo a cv caps))) (h:∀ s1,Inv X pins σ H s1->qD X.K P α caps cv->Q (.ref a) s1):Ao (Aq X.prog X.w) X.A (eval (.Name x p) X.env) Q X.xe s:=by
 obtain⟨v,e1,rp⟩:=re.2 i _ he;simp only[Rep] at rp;obtain⟨rfl,rc⟩:=rp;refine thn (iH hN hv hd hcd pins s σ H (λv H'=>v=.ref a/\H'=H) I ⟨_,e1,rfl,rfl⟩) λu s1 ⟨v,H1,I1,rv,z1,z2⟩=>?_;subst z1;subst z2;cases (show u=Ba a from rv)
 exact h s1 I1 rc
theorem YA (LX:bV X.prog X.w X.K X.mg X.base cm k L n G)(hr:RoomC cm k X.A)(F:Fn1 X)(C:CloAt X.s₀.heap X.H₀ X.fs L a cv)(hN:X.N[i]? = Ab x)(hv:Vis X.env.scope x)(hd:(x == ("__debug__" : Ar))=false)(hcd:(x == ("__classdict__" : Ar))=false) :
  PE X (.Call (.Name x p) [] [] pos) (tD X (jA i qC a cv n G)):=by
 intro pins s σ H Q I h;obtain⟨P,α,env,S,r,re,af⟩:=h;obtain⟨caps,e1,af⟩:=Y2 af;refine Dl (P8 hN hv hd hcd I re e1 λs1 I1 rc=>?_);exact PySem.W.callWith_F0 (D2 (C.at F I1)) (Y3 (us:=[]) LX hr F C I1 r rc .nil .nil af)
end
theorem dG {i:Ah}{c:Ac}(l:Aa Ac)(h:Hd l):Hd (l++[Eb i,Eb j,c]):=by
 fun_induction Hd l with
 |case1=>simp[Hd,Eb]
 |case2 _ _ _ _ _ qM ih=>simp only[Im,Hd];exact ih h
 |case3=>exact An h
set_option tactic.hygienic true in
theorem cH {pos:CB}{i:Ah}{c v:Ac}(l:Aa Ac)(h:Hd l)(e:IF pos (l++[Eb i,Eb j,c])=Ab v):IF pos l=Ab v\/v=c:=by
 fun_induction Hd l with
 |case1 =>
  simp only[Ez,IF,Eb] at e
  split at e
  .exact .inr (Bg e).symm
  .cases e
 |case2 _ _ _ _ _ qM ih =>
  simp only[Im,IF] at e ⊢
  split at e
  .rename_i hc;rw[AA hc];exact .inl e
  .rename_i hc;rw[AB hc];exact ih h e
 |case3=>exact An h
theorem MOk.at {K:Ai}{H P:Hp}{α:Aa Ad}{a:Ad}(e:H' a=H a):∀ {o:MO},MOk K H P α a o->MOk K H' P α a o
 |.dead,_=>trivial
 |.lst _,⟨vs,q,r⟩=>⟨vs,e.trans q,r⟩
 |.dct _,⟨vs,q,r⟩=>⟨vs,e.trans q,r⟩
 |.ins _ _,⟨dx,vs,q,r⟩=>⟨dx,vs,e.trans q,r⟩
section
variable {X:Cx}{pins:Aa (Ad × AV)}{σ : _L.St}{H P:Hp}{α : Aa Ad}{s:Ag}{S:Sto}{y:Ar}{c T:Ad}
theorem Rel.grown {ps:Av Ac}{ws:Av Ac}{t:Pv}{i:Ah}(r:Rel X.K H P α S)(m:Mod X.K X.mg X.base)(hy:y∈xF)(ht:Bq X.K y=Ab (c,T))(e:H T=Ab (.tbl ps))(pn:P T=none)(an:T ∉ α)(ok:Hd ps.toList)
  (cd:∀ pos cv,IF pos ps.toList=Ab cv->∃ c oc vs t,cv=.ref c/\H c=Ab (.frz oc (.frz oc (.own 0)))/\oc.data=.fields vs/\vs[1]? = Ab (.str (y ++ ".<locals>." ++ "<lambda>") t)) (hn:H c'=none) (hd:oc.data=.fields ws) (hs:ws[1]? = Ab (.str (y ++ ".<locals>." ++ "<lambda>") t)) :
  Rel X.K (upd (upd H T (.tbl (ps++#[Eb i,Eb j,.ref c']))) c' (.frz oc (.frz oc (.own 0)))) P α S:=by
 have ne:T≠c':=qO e hn;have go:∀ b u,b≠T->H b=Ab u->upd (upd H T (.tbl (ps++#[Eb i,Eb j,.ref c']))) c' (.frz oc (.frz oc (.own 0))) b=Ab u:=λb u h q=>by rw[qI (qO q hn),qI h];exact q
 have nT:∀ b∈α,b≠T:=λb h z=>an (z▸h);have nc:∀ (k:Ah) b,α[k]? = Ab b->b≠c':=λk b h z=>r.own k b h (z▸hn);have at':∀ (k:Ah) b,α[k]? = Ab b->upd (upd H T (.tbl (ps++#[Eb i,Eb j,.ref c']))) c' (.frz oc (.frz oc (.own 0))) b=H b:=λk b h=>by rw[qI (nc k b h),qI (nT b (AM h))]
 refine⟨λx hx d U hU=>?_,λb u q=>go b u (λz=>by rw[z,pn] at q;cases q) (r.sub b u q),r.len,r.nd,r.sep,λk b o h1 h2=>MOk.at (at' k b h1) (r.at' k b o h1 h2),λk b h=>by rw[at' k b h];exact r.own k b h⟩
 by_cases hT:U=T
 .subst hT
  cases m.inj x hx y hy d c U hU ht;refine⟨_,by rw[qI ne];exact qT,pn,an,?_,λpos cv q=>?_⟩
  .rw[Bo];exact dG _ ok
  .rw[Bo] at q
   rcases cH _ ok q with q|q
   .obtain⟨d,od,vs,t,a1,a2,a3⟩:=cd pos cv q
    exact⟨d,od,vs,t,a1,go d _ (λz=>by rw[z,e] at a2;cases a2) a2,a3⟩
   .exact⟨c',oc,ws,t,q,qT,hd,hs⟩
 .obtain⟨qs,e1,p1,a1,ok1,cd1⟩:=r.tb x hx d U hU
  exact⟨qs,go U _ hT e1,p1,a1,ok1,λpos cv q=>let ⟨d,od,vs,t,b1,b2,b3⟩:=cd1 pos cv q;⟨d,od,vs,t,b1,go d _ (λz=>by rw[z,e] at b2;cases b2) b2,b3⟩⟩
theorem Inv.pinned {a:Ad}{o:AV}{h':A8}{tk:Ah}(I:Inv X pins σ H' { s with heap:=h'.push o,toks:=tk })(ha:a=h'.objs.size)(hs:s.heap.objs.size<=h'.objs.size)(I0:Inv X pins σ H s)(hn:H' a=none)(hd:∀ v,o.data≠.cell v)(hfr:o.isFreed=false:=by rfl):Inv X ((a,o)::pins) σ H' { s with heap:=h'.push o,toks:=tk }:=by
 refine I.pins_of λp hp=>?_;rcases AD.mp hp with rfl|hp
 .subst ha
  exact⟨AC _ hfr,hn,Ej (Au I0.lt hs),I0.nofs hs,hd⟩
 .exact I.pin p (A3 _ hp)
theorem ZJ {M:Gg}{params:ID}{body:AH}{scope:Cj}{lpos:CB}{cl:Aa (Ar × Ad)}(I:Inv X pins σ H s)(r:Rel X.K H P α S)(hy:y∈xF)(ht:Bq X.K y=Ab (c,T))(hc:X.env.code=.ref c)(hq:X.env.qual=y ++ ".<locals>.")
  (hdef:Sm params X.env=([],[])) (hcl:Lu scope X.env=pure cl)
  (h:∀ (a:Ad) (H':Hp) (s':Ag) (pm ctv:Ac) (c':Ad) (oc:AV) (ws:Av Ac) (t:Pv),Inv X ((a,Hs "<lambda>" (y ++ ".<locals>." ++ "<lambda>") params body scope cl pm c' ctv)::pins) σ H' s'->Rel X.K H' P α S ->
   H' c'=Ab (.frz oc (.frz oc (.own 0)))->oc.data=.fields ws->ws[1]? = Ab (.str (y ++ ".<locals>." ++ "<lambda>") t)->Q (.ref a) s'):Ao M X.A (eval (.Lambda params body scope lpos) X.env) Q E s:=by
 obtain⟨ps,e,pn,an,ok,cd⟩:=r.tb y hy c T ht;have hP:s.heap.get? T=Ab (Gq ps):=I.hok T _ e;have hC:Od s.heap c T:=(I.mod.code y hy c T ht).keeps I.bk;have hg:s.heap.Ns Bd X.mg:=I.mod.glob.keeps I.bk;have hgP:Bd≠T:=λz=>by
  obtain⟨o,es,ep,e1,d1,_⟩:=hg;rw[z,hP] at e1;cases e1;cases d1
 have hb:s.heap.BuiltinsAt X.mg T:=by
  obtain⟨bm,o,b1,b2,b3,b4,b5,b6⟩:=I.mod.bm;have b3':=I.bk _ _ b3;refine⟨bm,o,b1,b2,λz=>?_,λz=>?_,b3',b4,b5,b6⟩
  .obtain⟨o',es,ep,e1,d1,_⟩:=hg
   rw[<- z,b3'] at e1;cases e1;rw[b6] at d1;cases d1
  .rw[z,hP] at b3';cases b3';cases b4
 refine PySem.W.kla_eval hdef ?_;rw[hq];cases hf:IF lpos ps.toList with
 |none =>
  refine PySem.W.kla_makeFunction (mg:=X.mg) hcl I.ok.glob hg hc hC hP ok hf hgP hb λc' ctv h' tk hx hge hlt hrec htb=>?_;obtain⟨c2,oc,ws,t,z,hoc,hd,hs⟩:=hrec;cases z;have hn:H c'=none:=I.hok.fresh hge;have ne:T≠c':=qO e hn;have hsz:s.heap.objs.size<=h'.objs.size:=Ca hge (Ch hlt)
  let o:=Hs "<lambda>" (y ++ ".<locals>." ++ "<lambda>") params body scope cl ((X.mg "__name__").getD .none) c' ctv
  have kp:∀ b u,b≠T->s.heap.get? b=Ab u->(h'.push o).get? b=Ab u:=λb u hb q=>Aj _ (hx b u hb q);have eT:(h'.push o).get? T=Ab (Gq (ps++#[Eb lpos.line,Eb lpos.col,.ref c'])):=Aj _ htb
  let H2:=upd (upd H T (.tbl (ps++#[Eb lpos.line,Eb lpos.col,.ref c']))) c' (.frz oc (.frz oc (.own 0)))
  have go:∀ b u,b≠T->H b=Ab u->H2 b=Ab u:=λb u h q=>by show upd _ _ _ b=_;rw[qI (qO q hn),qI h];exact q
  have go0:∀ b,b≠T->b≠c'->H b=none->H2 b=none:=λb h h' q=>by show upd _ _ _ b=_;rw[qI h',qI h];exact q
  have nT:∀ b,H b=none->b≠T:=λb q z=>by rw[z,e] at q;cases q
  have eH:H2 T=Ab (.tbl (ps++#[Eb lpos.line,Eb lpos.col,.ref c'])):=by show upd _ _ _ T=_;rw[qI ne];exact qT
  have un:Un X.fs [] H H2 s.heap (h'.push o):=by
   refine⟨λb u q n _ _=>kp b u (nT b n) q,λb u q n _ _=>⟨u.slots,kp b u (nT b n) q⟩,λb u q n _=>go0 b (nT b n) (AS (Au (Ax q) hge)) n,λb u q _=>?_,λb xs q=>go b _ (λz=>by rw[z,e] at q;cases q) q,λb u xs q=>go b _ (λz=>by rw[z,e] at q;cases q) q,λb qs q=>?_⟩
   .by_cases hb:b=T
    .rw[hb];exact⟨_,eT⟩
    .exact⟨u,kp b u hb q⟩
   .by_cases hb:b=T
    .rw[hb,e] at q;cases q
     exact⟨_,by rw[hb];exact eH⟩
    .exact⟨#[],by rw[go b _ hb q];simp⟩
  have hok:HOk X.prog X.w H2 (h'.push o):=λb u q=>by
   by_cases hb:b=c'
   .have q':Ab (HO.frz oc (.frz oc (.own 0)))=Ab u:=by rw[<- q,hb];exact qT.symm
    cases q';have z:(h'.push o).get? b=Ab oc:=by rw[hb];exact Aj _ hoc
    exact⟨z,z,_,z⟩
   .by_cases hb2:b=T
    .rw[hb2,eH] at q;cases q
     rw[hb2];exact eT
    .have q':H b=Ab u:=by have q2:upd _ _ _ b=Ab u:=q;rw[qI hb,qI hb2] at q2;exact q2
     refine(I.hok b u q').stay (λd v hd q=>kp d v ?_ q) (λd q=>go d _ (λz=>by rw[z,e] at q;cases q) q) λd xs q=>go d _ (λz=>by rw[z,e] at q;cases q) q
     rcases hd with z|z
     .rw[z];exact hb2
     .intro w;rw[w,e] at z;cases z
  have I2:=I.un (t':=tk) un hok;refine h h'.objs.size H2 _ _ ctv c' oc ws t (Inv.pinned I2 rfl hsz I (go0 _ (λz=>?_) (Ej hlt) (I.hok.fresh hsz)) λv z=>by cases z) (r.grown I.mod hy ht e pn an ok cd hn hd hs) qT hd hs
  rw[<- z] at e;exact absurd (Au (I.hok.lt e) hsz) (CU _)
 |some cv =>
  obtain⟨c',oc,ws,t,rfl,a2,a3,a4⟩:=cd lpos cv hf;refine PySem.W.kla_makeFunctionHit (mg:=X.mg) hcl I.ok.glob hg hc hC hP ok hf hb λctv h' tk hk hsz=>?_;have I2:=I.kept (t':=tk) (h':=h'.push (Hs "<lambda>" (y ++ ".<locals>." ++ "<lambda>") params body scope cl ((X.mg "__name__").getD .none) c' ctv)) λb u q=>Aj _ (hk b u q);exact h h'.objs.size H _ _ ctv c' oc ws t (Inv.pinned I2 rfl hsz I (I.hok.fresh hsz) λv z=>by cases z) r a2 a3 a4
end
noncomputable def p6:Aa Ah->qE->Ak (Aa D)
 |[],_=>Ab []
 |i::r,env=>match env[i]? with
  |some (Ab d)=>(p6 r env).map (d::·)
  |_=>none
set_option tactic.hygienic true in
theorem dP {K:Ai}{P:Hp}{α:Aa Ad}{σ:_L.St}(re:qV K P α σ env):∀ (cap:Aa Ah) (caps:Aa D),p6 cap env=Ab caps->∃ cv,qD K P α caps cv/\cv.length=cap.length/\∀ (j i:Ah) v,cap[j]? = Ab i->cv[j]? = Ab v->σ[i]? = Ab (Ab v)
 |[],caps,h=>by cases h;exact⟨[],.nil,rfl,λj i v e=>by simp at e⟩
 |i::r,caps,h=>by
  unfold p6 at h
  split at h
  .rename_i d e
   obtain⟨ds,h1,rfl⟩:=Bw.mp h;obtain⟨cv,a1,a2,a3⟩:=dP re r ds h1;obtain⟨v,b1,b2⟩:=re.2 i d e;refine⟨v::cv,.cons b2 a1,by simp[a2],λj k w e1 e2=>?_⟩
   cases j with
   |zero=>cases e1;cases e2;exact b1
   |succ j=>exact a3 j k w (by simpa using e1) (by simpa using e2)
  .cases h
open Classical in
def uni (f:Ad->Aa V->Res D):Res D:=if ∀ a cv,f a cv=f 0 [] then f 0 [] else .bad
theorem M0 {f:Ad->Aa V->Res D}{R:Res D}(h:∀ a cv,f a cv=R):uni f=R:=by
 unfold uni;rw[AA λa cv=>(h a cv).trans (h 0 []).symm];exact h 0 []
set_option tactic.hygienic true in
theorem FZ {f:Ad->Aa V->Res D}(h:uni f≠.bad)(a:Ad)(cv:Aa V):f a cv=uni f:=by
 unfold uni at h ⊢
 split at h
 .rename_i z;rw[AA z];exact z a cv
 .exact absurd rfl h
noncomputable def exO (nx:Ap)(R:Res D):Res D:=match nx,R with
 |true,.ex _ _ _=>.bad
 |_,R=>R
def kI (nx:Ap)(cap:Aa Ah)(n N:Ah)(fa:DA)(g:Ad->Aa V->DS):DE:=λenv S=>match p6 cap env with
 |none=>.bad
 |some caps=>(fa env S).bind λds S1=>if ds.length+1=n then exO nx (uni λa cv=>qY N (g a cv) (.clo a cv caps::ds) S1) else .bad
def JH (P:Az)(w:AL)(K:Ai)(mg:Ar->Ak Ac)(base:A8)(cm:Ap)(k kl m:Ah)(x:Ar)(n N:Ah)(g:(Aa D->DF)->Ad->Aa V->DS):Prop:=
 ∃ f fd st Ns ps,ps.length=n/\Ns.length=N/\mg x=Ab (.ref f)/\Fun K x x st f fd/\wM K fd ps [] /\ FnScope Ns ps (qG st)/\∀ (L:LamT) (G:Aa D->DF) (a:Ad) (cv:Aa V),bV P w K mg base cm kl L m G ->
  ∀ (cdv:Ac) (A:AJ) (outer:Aa E0) (s:Ag) (H:Hp) (E:XK),CloAt s.heap H (frs outer) L a cv->RoomC cm k (A.deeper (Dp x (qG st) s.heap.objs.size f cdv))->QB (cxC cm P w K mg base Ns x (qG st) f cdv A outer s H E) (zC st) (g G a cv)
noncomputable def kO (scX:Cj)(NX:Aa Ar)(sc:Cj)(cap:Aa Ah):Ap:=decide ((zY sc).length=cap.length)&&(cap.zip (zY sc)).all λp=>NX[p.1]? == Ab p.2&&(scX.names.lookup p.2 == Ab .cell||scX.names.lookup p.2 == Ab .free)
section
variable {X:Cx}{pins:Aa (Ad × AV)}{σ : _L.St}{H P:Hp}{α : Aa Ad}{s:Ag}{S:Sto}{y x:Ar}{c T:Ad}{params:ID}{body:AH}{scope:Cj}{lpos p pos:CB}{es:Aa AH}{fa:DA}{nx cm:Ap}{k kl m n N:Ah}{cap:Aa Ah}{G:Aa D->DF}{g:(Aa D->DF)->Ad->Aa V->DS}
theorem GD {R:Res D}{Ok:D->Sto->Prop}(h:qH X P α (exO nx R) Ok):R≠.bad/\qH X P α R Ok/\((∃ c x S',R=.ex c x S')->nx=false):=by
 cases R with
 |ok d S'=>exact⟨nofun,by cases nx <;> exact h,λ⟨_,_,_,z⟩=>nomatch z⟩
 |bad=>cases nx <;> exact An h
 |ex c x S' =>
  cases nx with
  |true=>exact An h
  |false=>exact⟨nofun,h,λ_=>rfl⟩
theorem Rel.know {K:Ai}(r:Rel K H P α S)(h:H c'=Ab (.frz oc (.frz oc (.own 0)))):Rel K H (upd P c' (.frz oc (.frz oc (.own 0)))) α S/\qF P (upd P c' (.frz oc (.frz oc (.own 0)))):=by
 have sP:qF P (upd P c' (.frz oc (.frz oc (.own 0)))):=λb u q=>by
  by_cases hb:b=c'
  .have z:=r.sub b u q
   rw[hb,h] at z;cases z;rw[hb];exact qT
  .rw[qI hb];exact q
 refine⟨⟨λx hx d T hT=>let ⟨ps,e,pn,an,ok,cd⟩:=r.tb x hx d T hT;⟨ps,e,(qI λ(z:T=c')=>by rw[z,h] at e;cases e).trans pn,an,ok,cd⟩,λb u q=>?_,r.len,r.nd,λi a o h1 h2 h3=>?_,λi a o h1 h2=>(r.at' i a o h1 h2).mono sP (AG _),r.own⟩,sP⟩
 .by_cases hb:b=c'
  .rw[hb,qT] at q;cases q;rw[hb];exact h
  .rw[qI hb] at q;exact r.sub b u q
 .have hb:a≠c':=by
   rintro rfl;have z:=r.at' i a o h1 h2;cases o with
   |dead=>exact h3 rfl
   |lst ds=>obtain⟨vs,z,_⟩:=z;rw[h] at z;cases z
   |dct kvs=>obtain⟨vs,z,_⟩:=z;rw[h] at z;cases z
   |ins C fs=>obtain⟨dx,vs,z,_⟩:=z;rw[h] at z;cases z
  rw[qI hb];exact r.sep i a o h1 h2 h3
theorem mS {z:Ar × Es}(h:z∈sc.names)(hk:z.2=.free):z.1∈zY sc:=EE.mpr ⟨z,h,by rw[hk];rfl⟩
set_option tactic.hygienic true in
theorem ZW {z:Ar}(h:z∈zY sc):(z,Dr)∈sc.names:=by
 obtain⟨⟨n,k⟩,h1,h2⟩:=EE.mp h
 split at h2
 .rename_i e
  have:k=Dr:=by simpa using e
  cases h2;subst this;exact h1
 .cases h2
theorem fO (hB:kO X.env.scope X.N scope cap=true){j:Ah}{z:Ar}(h:(zY scope)[j]? = Ab z):∃ i,cap[j]? = Ab i/\X.N[i]? = Ab z/\(X.env.scope.names.lookup z=Ab .cell\/X.env.scope.names.lookup z=Ab .free):=by
 simp only[kO,AF,AY] at hB;obtain⟨hl,ha⟩:=hB;have hj:j<cap.length:=by rw[<- hl];exact(AQ.mp h).1
 have e:=As hj;have hz:(cap[j],z)∈cap.zip (zY scope):=Gh.mpr ⟨j,by rw[Kl];exact⟨e,h⟩⟩
 have q:=Bh.mp ha _ hz;simp only[AF,IH,Ls] at q;exact⟨_,e,q.1,q.2⟩
theorem ZI (hB:kO X.env.scope X.N scope cap=true)(ok:X.Ok):Lu scope X.env=pure (xK X.env.cells scope.names []):=jZ λz hz hk=>by
 obtain⟨j,hj⟩:=Gh.mp (mS hz hk);obtain⟨i,_,_,q⟩:=fO hB hj;exact ok.has z.1 q
theorem vD (hB:kO X.env.scope X.N scope cap=true)(ok:X.Ok){z:Ar}{d:Ad}(h:(xK X.env.cells scope.names []).lookup z=Ab d):X.env.cells.lookup z=Ab d:=by
 rcases uA _ _ h with h|⟨hm,hc⟩
 .cases h
 .obtain⟨j,hj⟩:=Gh.mp (mS hm rfl)
  obtain⟨i,_,_,q⟩:=fO hB hj;obtain⟨d',e⟩:=ok.has z q;rw[e,Ic] at hc;rw[e,hc]
theorem JW {a:Ad}{ws:Av Ac}{t:Pv}{pm ctv:Ac}{cv:Aa V}{s':Ag}(hB:kO X.env.scope X.N scope cap=true)(I:Inv X ((a,Hs "<lambda>" (y ++ ".<locals>." ++ "<lambda>") params body scope (xK X.env.cells scope.names []) pm c' ctv)::pins) σ H' s')
  (hc:H' c'=Ab (.frz oc (.frz oc (.own 0)))) (hd:oc.data=.fields ws) (hs:ws[1]? = Ab (.str (y ++ ".<locals>." ++ "<lambda>") t)) (hl:cv.length=cap.length) (hv:∀ (j i:Ah) v,cap[j]? = Ab i->cv[j]? = Ab v->σ[i]? = Ab (Ab v)) :
  CloAt s'.heap H' (frs X.stack) ⟨y ++ ".<locals>." ++ "<lambda>",params,body,scope⟩ a cv:=by
 obtain⟨e1,n1,n2,n3,_⟩:=I.pin _ (A3 _ (.head _));refine⟨_,pm,ctv,c',oc,ws,t,e1,hc,hd,hs,λz z' d h1 h2=>I.ok.inj z z' d (vD hB I.ok h1) (vD hB I.ok h2),λz d h=>⟨I.freeC z d (vD hB I.ok h),I.cell z d (vD hB I.ok h)⟩,λz hz=>vQ _ _ (.inl (CN hz)),?_,λj z v h1 h2=>?_,n1,λz=>?_⟩
 .simp only[kO,AF,AY] at hB
  rw[hl,<- hB.1]
 .obtain⟨i,q1,q2,q3⟩:=fO hB h1
  obtain⟨m,hm,hlk⟩:=I.loc;obtain⟨u,ru,lk⟩:=hlk i z v q2 (hv j i v q1 h2) (q3.elim (λk=>.inr (.inl k)) λk=>.inr (.inr k));rcases lk with⟨kl,_⟩|⟨_,d,hcl,hcell⟩
  .have kl':X.env.scope.names.lookup z=Ab .local:=kl
   rcases q3 with k|k <;> (rw[kl'] at k;cases k)
  .obtain⟨d',hd'⟩:=vQ (cells:=X.env.cells) scope.names [] (.inl (ZW (AM h1)))
   have:=vD hB I.ok hd';rw[hcl] at this;cases this;exact⟨d,u,hd',ru,hcell⟩
 .rcases AD.mp (I.stkSub a z) with z|z
  .exact n2 z
  .exact n3 z
theorem QC (D:JH X.prog X.w X.K X.mg X.base cm k kl m x n N g)(LX:bV X.prog X.w X.K X.mg X.base cm kl ⟨y ++ ".<locals>." ++ "<lambda>",params,body,scope⟩ m G)(hr:RoomC cm (k+1) X.A)(hF:nx=false->Fn1 X)(hg:Gl X x)(hdb:(x == ("__debug__" : Ar))=false)
  (hy:y∈xF) (ht:Bq X.K y=Ab (c,T)) (hc:X.env.code=.ref c) (hq:X.env.qual=y ++ ".<locals>.") (hdef:Sm params X.env=([],[])) (hB:kO X.env.scope X.N scope cap=true) (ha:PA X es (tDA X fa))
  (he:A5 (.Lambda params body scope lpos::es) X.env=(false,eval (.Lambda params body scope lpos) X.env)::A5 es X.env) (hpl:(Dh pos (A5 es X.env)).any (·.1)=false) :
  PE X (.Call (.Name x p) (.Lambda params body scope lpos::es) [] pos) (tD X (kI nx cap n N fa (g G))):=by
 intro pins s σ H Q I h;obtain⟨P,α,env,S,r,re,af⟩:=h;obtain⟨f,fd,st,Ns,ps,hn,hN,hm,F,hb,hS,hbody⟩:=D;subst hn;subst hN;have af:qH X P α (match p6 cap env with
  |none=>.bad
  |some caps=>(fa env S).bind λds S1=>if ds.length+1=ps.length then exO nx (uni λa cv=>qY Ns.length (g G a cv) (.clo a cv caps::ds) S1) else .bad) (OkV X P α Q):=af
 cases hcap:p6 cap env with
 |none=>rw[hcap] at af;exact An af
 |some caps =>
  rw[hcap] at af;obtain⟨cv,rc,hcl,hv⟩:=dP re cap caps hcap;refine Dl (yE I hg hm ?_ hdb);refine Hw (h₀:=X.base) I.ok.mod.kin F.kp ?_ he hpl;rw[he];show Ao _ _ (spliced ((false,eval (.Lambda params body scope lpos) X.env)::Dh pos (A5 es X.env))) _ _ s;refine Fq (ZJ I r hy ht hc hq hdef (ZI hB I.ok) λa H1 s1 pm ctv c' oc ws t I1 r1 hc' hd hs=>?_);obtain⟨rk,sk⟩:=Rel.know r1 hc';refine thn (xM ha I1 rk (re.mono sk (AG _)) (qP.base sk (AG _) af) pos) λus s2 ⟨vs,H2,P2,α2,ds,S2,I2,rv,r2,re2,rp,q1,q2,af2⟩=>⟨I2.kIn,?_⟩;obtain⟨hl,af3⟩:=xH af2;obtain⟨nb,af4,nf⟩:=GD af3;have e1:=FZ nb a cv;rw[<- e1] at af4 nf;have C:=JW hB I2 (r2.sub _ _ (q1 _ _ qT)) hd hs hcl hv;have I3:Inv X pins σ H2 s2:=I2.pins_of λp hp=>I2.pin p (A3 _ (Bc _ hp));obtain⟨oc',od,kV,doc,pm',an,cdv,ct,osl,rfl,lk,hcd⟩:=F.ex;have hz:(Ba a::us).length=ps.length:=by rw[<- hl,rp.length,rv.length];rfl
  have hb':=hb s2 (.ref a::us) I2.kIn (by rw[Di];exact hz)
  rw[Di] at hb';have rc2:=qD.mono (sk.trans q1) q2 _ _ rc;have af5:=qP.base q1 q2 af4;have rv2:qK (V.ref a::vs) (Ba a::us):=.cons rfl rv;exact p5 (λz=>hF (nf z)) I3 af5 (aG lk hcd hS (by rw[<- hz];exact rv2.length) hr I3.env0 hb' rv2 (n8 (hbody _ G a cv LX cdv X.A X.stack s2 H2 _ C (hr.deeper _)).1 r2 (.cons (by simp only[Rep];exact⟨trivial,rc2⟩) rp) (lS af5)))
end
section
variable {X:Cx}{pins:Aa (Ad × AV)}{σ : _L.St}{H P:Hp}{α : Aa Ad}{s:Ag}{S:Sto}
noncomputable def jE:DF:=λds S=>match ds with
 |[d,.tup [.ty b,.ty c]]=>if vF b=true/\vF c=true then match tyD d S with
   |some a=>.ok (.bl (xE a b||xE a c)) S
   |none=>.bad
  else .bad
 |_=>.bad
inductive KitAt (X:Cx)(u:Ac)(t:Ac)(h:A8):Prop
 |mk (Hh:A8->Prop) (Z:PySem.W.KitX X.K u t Hh) (p:Hh h) (ne:u≠.builtin "__main__.__loader__#opaque"):KitAt X u t h
theorem GY {v:V}{u:Ac}{d:D}{a:Bp}(I:Inv X pins σ H s)(r:Rel X.K H P α S)(q:qJ v u)(p:Rep X.K P α d v)(ha:tyD d S=Ab a):KitAt X u (.type a) s.heap:=by
 cases WR r p ha with
 |tup p' ws e sq ea =>
  subst e ea;cases (show u=Ba p' from q)
  obtain⟨its,rv',⟨o,h1,h2,_⟩,_⟩:=I.tuple sq;exact⟨_,Hv,⟨o,h1,h2⟩,λz=>nomatch z⟩
 |lst p' ws e sq ea =>
  subst e ea;cases (show u=Ba p' from q)
  obtain⟨its,rv',⟨o,_,h1,h2,_⟩,_⟩:=I.list sq;exact⟨_,ES,⟨o,h1,h2⟩,λz=>nomatch z⟩
 |of ty =>
  cases ty with
  |non=>cases (show u=Bj from q);exact⟨_,Qb,Ev,λz=>nomatch z⟩
  |bl y=>cases (show u=Dk y from q);exact⟨_,Qc,Ev,λz=>nomatch z⟩
  |int i=>obtain⟨t,q⟩:=(show ∃ t,u=IA i t from q);cases q;exact⟨_,Qy,Ev,λz=>nomatch z⟩
  |str y=>obtain⟨t,q⟩:=(show ∃ t,u=No y t from q);cases q;exact⟨_,Qz,Ev,λz=>nomatch z⟩
  |flt y=>cases d <;> first|(exact nn ha)|(simp only[Rep] at p;cases p;done)|(simp only[Rep] at p;obtain⟨_,p⟩:=p;cases p.1;done)|(simp only[Rep] at p;obtain⟨_,_,p⟩:=p;cases p.1;done)
  |@lst b xs ea =>
   cases (show u=Ba b from q)
   obtain⟨_,_,n,_,h1⟩:=(show z9 X.prog X.w H s.heap b (.lst xs) from I.hok b _ ea)
   exact⟨_,ES,⟨_,h1,rfl⟩,λz=>nomatch z⟩
  |@frz b ob xs ea =>
   cases (show u=Ba b from q)
   obtain⟨_,_,_,n,_,h1⟩:=(show z9 X.prog X.w H s.heap b (.frz ob (.lst xs)) from I.hok b _ ea)
   exact⟨_,ES,⟨_,h1,rfl⟩,λz=>nomatch z⟩
  |@tup b xs ea =>
   cases (show u=Ba b from q)
   obtain⟨_,_,_,p⟩:=(show z9 X.prog X.w H s.heap b (.tup xs) from I.hok b _ ea)
   obtain⟨o,h1,h2,_⟩:=p;exact⟨_,Hv,⟨o,h1,h2⟩,λz=>nomatch z⟩
  |@dK b kvs ea =>
   cases (show u=Ba b from q)
   obtain⟨_,_,vs,_,p⟩:=(show z9 X.prog X.w H s.heap b (.dK kvs) from I.hok b _ ea)
   obtain⟨o,es,ep,h1,h2,_⟩:=p;exact⟨_,HI,⟨o,h1,h2.1⟩,λz=>nomatch z⟩
  |@dT b kvs ea =>
   cases (show u=Ba b from q)
   obtain⟨_,_,xs,_,o,es,ep,h1,h2,_⟩:=(show z9 X.prog X.w H s.heap b (.dT kvs) from I.hok b _ ea)
   exact⟨_,HI,⟨o,h1,h2.1⟩,λz=>nomatch z⟩
set_option tactic.hygienic true in
theorem Z9 {ds:Aa D}{Ok:D->Sto->Prop}(h:qH X P α (jE ds S) Ok):∃ d b c a,ds=[d,.tup [.ty b,.ty c]]/\vF b=true/\vF c=true/\tyD d S=Ab a/\Ok (.bl (xE a b||xE a c)) S:=by
 unfold jE at h
 split at h
 .rename_i d b c
  obtain⟨⟨h1,h2⟩,h⟩:=xH h
  split at h
  .rename_i a ha
   exact⟨d,b,c,a,rfl,h1,h2,ha,h⟩
  .exact An h
 .exact An h
theorem Y0:wN X (.builtin "isinstance") jE:=by
 intro pins σ H s P α S vs us ds Q I r rv rp af;obtain⟨d,b,c,a,rfl,hb,hc,ha,ok⟩:=Z9 af;obtain⟨v,w,u,x,rfl,rfl,p,p',q,q'⟩:=gM rp rv;simp only[Rep] at p';obtain⟨tp,ws,rfl,sq,t⟩:=p';obtain⟨w1,ws1,rfl,z1,t⟩:=t.cons_inv;obtain⟨w2,ws2,rfl,z2,t⟩:=t.cons_inv;cases t.nil_inv;simp only[Rep] at z1 z2;subst z1 z2;cases (show x=Ba tp from q')
 obtain⟨its,rvi,⟨o,h1,h2,n,h3⟩,_⟩:=I.tuple (xD r.sub sq);obtain⟨i1,i2,rfl,y1,y2⟩:=tW rvi;cases (show i1=Eu b from y1)
 cases (show i2=Eu c from y2)
 obtain⟨Hh,Z,hp,ne⟩:=GY I r q p ha;obtain⟨oc,od,odt,osl⟩:=o;cases h2;cases h3;have k1:=fM (K:=X.K) (lV ha) hb;have k2:=fM (K:=X.K) (lV ha) hc;refine PySem.W.kia_tup (its:=[.type b,.type c]) (b:=xE a b||xE a c) Z I.kIn hp h1 ?_ ne λtk=>⟨.bl _,H,I.tok tk,rfl,xr ok r (by simp only[Rep])⟩
 cases z:xE a b with
 |true=>rw[z] at k1;simp only[Op,k1];rfl
 |false =>
  rw[z] at k1;cases z':xE a c with
  |true=>rw[z'] at k2;simp only[Op,k1,k2];rfl
  |false=>rw[z'] at k2;simp only[Op,k1,k2];rfl
end
noncomputable def okV (X:Cx)(i:Ah)(x:Ar):Ap:=decide (X.N[i]? = Ab x)&&(isV (X.env.scope.names.lookup x)&&okN x)
noncomputable def pH (fe:DE):Aa D->DF:=λcaps ds S=>fe ((ds++caps).map Ab) S
noncomputable def ZH (sc:Cj)(ps:Aa Ar):Ap:=decide (sc.kind=.function)&&(decide (sc.isCoroutine=false)&&(decide (sc.isGenerator=false)&&(decide (∀ y∈sc.names,y.2≠.cell)&&(decide (∀ x∈ps,sc.names.lookup x=Ab .local)&&decide (∀ x∈zY sc,sc.names.lookup x=Ab .free)))))
structure LmX (G:Aa D->DF)(P:Az)(w:AL)(K:Ai)(mg:Ar->Ak Ac)(base:A8)(cm:Ap)(k:Ah)(L:LamT)(n:Ah):Prop where
 get:bV P w K mg base cm k L n G
structure DfL (g:(Aa D->DF)->Ad->Aa V->DS)(P:Az)(w:AL)(K:Ai)(mg:Ar->Ak Ac)(base:A8)(cm:Ap)(k kl m:Ah)(x:Ar)(n N:Ah):Prop where
 get:JH P w K mg base cm k kl m x n N g
structure ClA (X:Cx)(L:LamT)(a:Ad)(cv:Aa V):Prop where
 get:CloAt X.s₀.heap X.H₀ X.fs L a cv
structure LmK (X:Cx)(y:Ar):Prop where
 get:y∈xF/\j6 X.K y X.env.code/\X.env.qual=y ++ ".<locals>." /\ ∃ c T,Bq X.K y=Ab (c,T)
section
variable {X:Cx}{cm nx:Ap}{k kl m n N i:Ah}{x y:Ar}{p pos lpos:CB}{e:AH}{es:Aa AH}{fA:DA}{fe:DE}{L:LamT}{G:Aa D->DF}{a:Ad}{cv:Aa V}{g:(Aa D->DF)->Ad->Aa V->DS}{Fs:FnL}{cap:Aa Ah}{params:ID}{body:AH}{scope:Cj}
theorem B9 (h:Ck (okV X i x)):X.N[i]? = Ab x/\Vis X.env.scope x/\(x == ("__debug__" : Ar))=false/\(x == ("__classdict__" : Ar))=false:=by
 unfold Ck okV at h;simp only[AF,AY] at h;exact⟨h.1,sE h.2.1,(uR h.2.2).1,(uR h.2.2).2.1⟩
theorem aK0 (LX:LmX G X.prog X.w X.K X.mg X.base cm k L n)(C:ClA X L a cv)(hr:RoomC cm k X.A)(F:Fn1 X)(h:Ck (okV X i x)):QE X (.Call (.Name x p) [] [] pos) (jA i qC a cv n G):=
 have h:=B9 h
 ⟨YA LX.1 hr F C.1 h.1 h.2.1 h.2.2.1 h.2.2.2⟩
theorem DD {ps:Aa Ar}{q:Ar}(h:Ck (ZH scope ps))(one:ps.length<=1):LamSc ⟨q,params,body,scope⟩ ps:=by
 unfold Ck at h;simp only[ZH,AF,AY] at h;obtain⟨a,b,c,d,e,f⟩:=h;exact⟨a,b,c,d,e,one,f⟩
theorem LL (D:DfL g X.prog X.w X.K X.mg X.base cm k (kl+1) 0 x n N)(M:LmK X y)(hr:RoomC cm (k+1) X.A)(hF:nx=false->Fn1 X)(h:Ck (okG X x&&kO X.env.scope X.N scope cap))(hs:Ck (ZH scope []))(hdef:Sm params X.env=([],[]))
  (hb:∀ (q:Ar) (b:AH) (cl:Aa (Ar × Ad)) (pm cdv ctv:Ac),Ms (Ss "<lambda>" q params b scope cl pm cdv ctv) ⟨[],[]⟩ = pure [])
  (hbody:∀ (cl:Aa (Ar × Ad)) (f:Ad) (cd:Ac) (A:AJ) (outer:Aa E0) (s:Ag) (H:Hp) (E:XK),RoomC cm kl (A.deeper (Gr (y ++ ".<locals>." ++ "<lambda>") scope s.heap.objs.size f cd cl)) ->
   QE (ZG cm X.prog X.w X.K X.mg X.base ([] ++ zY scope) ⟨y ++ ".<locals>." ++ "<lambda>",params,body,scope⟩ cl f cd A outer s H E) body fe)
  (ha:QA X es fA) (s:St1 X (.Lambda params body scope lpos) es pos):QE X (.Call (.Name x p) (.Lambda params body scope lpos::es) [] pos) (kI nx cap n N fA (g (pH fe))):=by
 unfold Ck at h;rw[AF] at h;obtain⟨m1,m2,m3,c,T,m4⟩:=M.1;have hg:=xI h.1;exact⟨QC D.1 (P6 (ps:=[]) (DD hs (by decide)) (λcl pm cdv ctv us hl=>by cases us with|nil=>exact hb _ _ _ _ _ _|cons _ _=>cases hl) hbody) hr hF hg.1 hg.2.1 m1 m4 (m2 c T m4) m3 hdef h.2 ha.1 s.1 s.2⟩
theorem ClA.tr {pn:Aa (Ad × AV)}(h:ClA X L a cv):ClA (Cx.tryIn X E pn) L a cv:=⟨h.1⟩
theorem lmK {ls:Aa Ar}(h:(ls.all λy=>(Bq X.K y).isSome)=true)(hc:j6 X.K y X.env.code)(hy:Ck (ls.contains y&&xF.contains y))(hq:X.env.qual=y ++ ".<locals>."):LmK X y:=by
 unfold Ck at hy;rw[AF] at hy;obtain⟨⟨c,T⟩,e⟩:=Fb.mp (Bh.mp h y (by simpa using hy.1))
 exact⟨by simpa using hy.2,hc,hq,c,T,e⟩
theorem oQ:ZCall X (.builtin "isinstance") jE:=⟨Y0⟩
end
section
variable {P:Az}{w:AL}{K:Ai}{mg:Ar->Ak Ac}{base:A8}{cm:Ap}{tp:Ah->CF}{tab:Aa (Ar × Ah × Aa Ar)}{bl:Aa Ar}{clt plt:Aa (Ar × Ad)}{cs:Aa Ac}{exl:Aa Ad}{cst:Aa (Ar × Am)}{x:Ar}{i:Ah}{ps:Aa Ar}{N:Ah}
theorem dqL {g:(Aa D->DF)->Ad->Aa V->DS}(P:Az)(w:AL)(base:A8)(k kl m j:Ah)(T:TxS K mg tp tab bl clt plt cs exl cst)(hj:tab[j]? = Ab (x,i,ps))(h:Ck (fnB (uC (qG (tp i))) ps (qG (tp i))&&decide ((uC (qG (tp i))).length=N)))
  (hb:∀ (L:LamT) (G:Aa D->DF) (a:Ad) (cv:Aa V),LmX G P w K mg base cm kl L m->∀ (f:Ad) (cdv:Ac) (A:AJ) (outer:Aa E0) (s:Ag) (H:Hp) (E:XK),ClA (cxC cm P w K mg base (uC (qG (tp i))) x (qG (tp i)) f cdv A outer s H E) L a cv->RoomC cm k (A.deeper (Dp x (qG (tp i)) s.heap.objs.size f cdv)) ->
   QB (cxC cm P w K mg base (uC (qG (tp i))) x (qG (tp i)) f cdv A outer s H E) (zC (tp i)) (g G a cv)):DfL g P w K mg base cm k kl m x ps.length N:=by
 unfold Ck at h;simp only[AF,AY] at h;obtain⟨h,rfl⟩:=h;obtain⟨f,fd,hm,F,hbd⟩:=T.src j hj;exact⟨f,fd,tp i,_,ps,rfl,rfl,hm,F,hbd,l5 h,λL G a cv LX cdv A outer s H E C hr=>hb L G a cv ⟨LX⟩ f cdv A outer s H E ⟨C⟩ hr⟩
end
section
variable {X:Cx}{pins:Aa (Ad × AV)}{σ : _L.St}{H P:Hp}{α : Aa Ad}{s:Ag}{S:Sto}
noncomputable def GM:D->Aa D->Sto->Res D:=λa ds S=>match a,ds with
 |.loc i,[.int k]=>vY S i λxs=>if 0<=k/\k<1000000 then (match xs[k.toNat]? with|some d=>.ok d (S.set i (.lst (xs.eraseIdx k.toNat)))|none=>.bad) else .bad
 |_,_=>.bad
end
noncomputable def hZ:D->Sto->Ak (Aa D)
 |.lst xs,_=>Ab xs
 |.tup xs,_=>Ab xs
 |.loc n,S=>match S[n]? with
  |some (.lst xs)=>Ab xs
  |_=>none
 |_,_=>none
noncomputable def vS (mu:Ap)(f:DE):DE:=λenv S=>(f env S).bind λd S1=>match (hZ d S1).bind vK with
 |some ys=>if mu then .ok (.loc S1.length) (S1++[.lst ys]) else .ok (.lst ys) S1
 |none=>.bad
section
variable {X:Cx}{pins:Aa (Ad × AV)}{σ : _L.St}{H P:Hp}{α : Aa Ad}{S:Sto}{s:Ag}
theorem gW {K:Type}{is:K->Ac->Prop}{hash:K->Am}{lt':K->K->Ap}{d:K}{Fit:K->Prop}(kd:_S.Kind X.prog X.w is hash lt' d Fit s.heap)(ad:_S.AddS X.prog X.w is hash s.heap)(hc:X.calm=true)(hu:X.A.units+64<CZ)(I:Inv X pins σ H s)(r:Rel X.K H P α S){a:Ad}{its:Aa Ac}
  (ha:s.heap.IsList a its.toArray\/s.heap.IsTuple a its.toArray) (ks:Aa K) (hl:ks.length=its.length) (hk:∀ i v,its[i]? = Ab v->is (ks.getD i d) v) (hn:(_S.srt lt' ks).length<=1000) (hf:∀ k∈ks,Fit k) (enc:K->D)
  (back:∀ k v,is k v->v∈its->∃ vv,qJ vv v/\Rep X.K P α (enc k) vv) {E:Ac->Ag->Prop} :
  Ao (Aq X.prog X.w) X.A (call (.type "set") [.ref a]) (λu s1=>Ao (Aq X.prog X.w) X.A (call (.builtin "sorted") [u]) (NewR X pins σ H P α ((_S.srt lt' ks).map enc)) E s1) E s:=by
 have hsz:its.toArray.size=ks.length:=by rw[AK,hl]
 have mem:∀ k,k∈_S.srt lt' ks↔k∈ks:=λk=>_S.zR kd.ord k ks;have inn:∀ i,i<ks.length->ks.getD i d∈ks:=λi hi=>by simp[He,hi]
 refine _S.rX (U:=_S.srt lt' ks) ad (I.ok.hd hc) li ha (λi=>ks.getD i d) (λi v hv=>hk i v (by simpa using hv)) li (λi hi=>(mem _).mpr (inn i (by rw[<- hsz];exact hi))) λh1 tk1 Z kp=>?_
 have seen:∀ k∈_S.xU (λi=>ks.getD i d) its.toArray.size,k∈ks:=λk hk'=>by
  obtain⟨i,hi,rfl⟩:=_S.vX.mp hk';exact inn i (by rw[<- hsz];exact hi)
 have I1:Inv X pins σ H { s with heap:=h1,toks:=tk1 }:=I.kept kp
 refine _S.bR (s:={ s with heap:=h1,toks:=tk1 }) kd (I.ok.hd hc) li kp Z (λk hk'=>hf k (seen k hk')) (U:=_S.srt lt' ks) li (λk hk'=>(mem k).mpr (seen k hk')) λh2 tk2 D c ps kp2 hD hob hps hp hpl=>?_
 rw[hsz,XQ kd.ord] at hps;have vv:∀ (ps:Aa (K × Ac)),(∀ p∈ps,is p.1 p.2/\p.2∈its)->∃ vs,qK vs (ps.map (·.2))/\qD X.K P α ((ps.map (·.1)).map enc) vs:=by
  intro ps
  induction ps with
  |nil=>exact λ_=>⟨[],.nil,.nil⟩
  |cons p ps ih =>
   intro h;obtain⟨vs,a1,a2⟩:=ih λq hq=>h q (by simp[hq])
   obtain⟨v,b1,b2⟩:=back p.1 p.2 (h p (by simp)).1 (h p (by simp)).2
   exact⟨v::vs,.cons b1 a1,.cons b2 a2⟩
 obtain⟨vs,a1,a2⟩:=vv ps λp hpm=>by simpa using hp p hpm
 rw[hps] at a2;have nd:([(D,HO.lst vs)].map (·.1)).Nodup:=by simp
 have I2:Inv X pins σ (uG H [(D,HO.lst vs)]) { s with heap:=h2,toks:=tk2 }:=Inv.laidL (s:={ s with heap:=h1,toks:=tk1 }) (L:=[(D,HO.lst vs)]) (t':=tk2) I1 kp2 (λp hpm=>by
  have:p=(D,HO.lst vs):=by simpa using hpm
  subst this;exact hD) λp hpm=>by
  have:p=(D,HO.lst vs):=by simpa using hpm
  subst this;refine⟨?_,ps.map (·.2),c,a1,hob⟩
  have:=a1.length;rw[AR] at this;rw[this,Dm]
  lia
 exact⟨D,vs,rfl,I1.hok.fresh hD,I2,a2⟩
set_option tactic.hygienic true in
theorem UR {d:D}{xs:Aa D}{v:V}{vv:Ac}(I:Inv X pins σ H s)(r:Rel X.K H P α S)(p:Rep X.K P α d v)(q:qJ v vv)(h:hZ d S=Ab xs) :
  ∃ a vs its,vv=.ref a/\qD X.K P α xs vs/\qK vs its/\(s.heap.IsList a its.toArray\/s.heap.IsTuple a its.toArray)/\xs.length=its.length:=by
 cases d with
 |lst ys=>exact oC I r p q h
 |tup ys=>exact oC I r p q h
 |loc n =>
  have hS:S[n]? = Ab (.lst xs):=by
   have h:(match S[n]? with|some (.lst xs)=>Ab xs|_=>none)=Ab xs:=h
   split at h
   .rename_i e;cases h;exact e
   .cases h
  simp only[Rep] at p;obtain⟨a,rfl,ha⟩:=p;cases (show vv=Ba a from q)
  obtain⟨vs,z,t⟩:=r.at' n a _ ha hS;obtain⟨its,rv,p,hz⟩:=I.list (SqL.of z);exact⟨a,vs,its,rfl,t,rv,.inl p.isList,by rw[t.length,rv.length]⟩
 |_=>cases h
end
section
variable {X:Cx}{e:AH}{fa:DE}{p1 p2 pos1 pos2:CB}{mu:Ap}
set_option tactic.hygienic true in
theorem d8 (hc:X.calm=true)(hu:X.A.units+64<CZ)(hg:Gl X "sorted")(hm:X.mg "sorted" = none)(hg2:Gl X "set")(hm2:X.mg "set" = none)(ha:PE X e (tD X fa))(he:A5 [e] X.env=(false,eval e X.env)::A5 [] X.env:=by rfl) :
  PE X (.Call (.Name "sorted" p1) [.Call (.Name "set" p2) [e] [] pos2] [] pos1) (tD X (vS mu fa)):=by
 intro pins s σ H Q I h;obtain⟨P,α,env,S,r,re,af⟩:=h;refine Dl (yK I hg hm mF ?_);refine Fo ?_ rfl rfl;refine Fq ?_;refine Call_ (yK I hg2 hm2 oX (EC ?_ he rfl));rw[he];refine Fq (thn (zJ ha I r re af) λvv s1 ⟨v,H1,P1,α1,d,S1,G1,af1⟩=>HJ ?_);cases hq:(hZ d S1).bind vK with
 |none=>simp only[hq] at af1;exact An af1
 |some ys =>
   simp only[hq] at af1;obtain⟨xs,hd,hs⟩:=Dj.mp hq;obtain⟨a,vs,its,rfl,t1,rv1,e1,l1⟩:=UR G1.inv G1.rel G1.rep G1.val hd;have main:Ao (Aq X.prog X.w) X.A (call (.type "set") [.ref a]) (λu s1=>Ao (Aq X.prog X.w) X.A (call (.builtin "sorted") [u]) (NewR X pins σ H1 P1 α1 ys) X.xe s1) X.xe s1:=by
    unfold vK at hs;cases hi:yI xs with
    |some ns =>
     rw[hi] at hs;dsimp only at hs
     split at hs
     .rename_i hlt
      cases hs;have:=pF hi;subst this;have:=vT t1;subst this;refine gW (d:=0) (_S.T6 X.prog X.w s1.heap) (_S.JL s1.heap) hc hu G1.inv G1.rel e1 ns (by simpa using l1) (λi u hu'=>?_) hlt (λ_ _=>trivial) D.int λk u hk _=>?_
      .have hi:Mt its ns:=by simpa using eJ rv1
       obtain⟨t,rfl⟩:=Su hi i u hu';exact Sk _ _ _ _
      .obtain⟨t,rfl⟩:=_S.xV hk
       exact⟨.int k,⟨t,rfl⟩,by simp only[Rep]⟩
     .cases hs
    |none =>
     rw[hi] at hs;dsimp only at hs;cases ht:yA xs with
     |none=>rw[ht] at hs;cases hs
     |some ks =>
      rw[ht] at hs;dsimp only at hs
      split at hs
      .rename_i hlt
       cases hs;have hlt':=CI.mp hlt;have:=pP ht;subst this;have at':∀ (i:Ah) (u:Ac),its[i]? = Ab u->∃ b,u=.ref b/\Mb (A0 X.prog X.w) s1.heap (ks.getD i []) b/\∃ vv,qJ vv u/\Rep X.K P1 α1 (tpD (ks.getD i [])) vv:=λi u hu'=>by
        have hii:i<its.length:=(AQ.mp hu').1;have hik:i<ks.length:=by rw[AR] at l1;lia
        obtain⟨v,p,q,_⟩:=vB t1 rv1 (j:=i) (by rw[AK];exact hii)
        have hd:(ks.map tpD).getD i D.non=tpD (ks.getD i []):=by simp[He,hik]
        rw[hd] at p;have hu2:its.toArray[i]'(by rw[AK];exact hii)=u:=by
         rw[As hii] at hu';simpa using hu'
        rw[hu2] at q;obtain⟨b,ws,us,rfl,sq,t,rv,⟨o,ho,hcl,m,hd⟩,_,_⟩:=uX G1.inv G1.rel (show Rep X.K P1 α1 (.tup ((ks.getD i []).map D.int)) v from p)
        cases (show u=Ba b from q)
        have:=vT t;subst this;exact⟨b,rfl,⟨o,us.toArray,m,ho,hcl,hd,by simpa using fK rv⟩,.ref b,rfl,p⟩
       refine gW (d:=[]) (_S.eO X.prog X.w s1.heap) (_S.cF s1.heap) hc hu G1.inv G1.rel e1 ks (by simpa using l1) (λi u hu'=>?_) (AZ hlt'.1) (λk hk=>?_) tpD λk u hk hm'=>?_
       .obtain⟨b,rfl,q,_⟩:=at' i u hu'
        exact⟨b,rfl,q⟩
       .have:=Bh.mp hlt'.2 k hk
        intro z;subst z;cases this
       .obtain⟨i,hi',rfl⟩:=Bl.mp hm'
        obtain⟨b,eb,q,w,rw',pw⟩:=at' i _ (As hi');have:k=ks.getD i []:=_S.isT.inj hk ⟨b,eb,q⟩;rw[this];exact⟨w,rw',pw⟩
      .cases hs
   refine thn main λu s2 h2=>HJ (thn h2 λu' s3 ⟨D,vs',e,hn,I',rp'⟩=>?_);subst e;cases mu with
   |true=>exact⟨.ref D,_,I',rfl,gI G1.rel hn rp' λv' H' P' α' r' e1 e2 rp=>af1 v' H' P' α' r' (G1.same.trans e1) (G1.pre.trans e2) rp⟩
   |false=>exact⟨.ref D,_,I',rfl,wG G1.rel hn rp' λv' H' P' α' r' e1 e2 rp=>af1 v' H' P' α' r' (G1.same.trans e1) (G1.pre.trans e2) rp⟩
end
section
variable {X:Cx}{cm:Ap}{k:Ah}{e:AH}{fa:DE}{p1 p2 pos1 pos2:CB}{mu:Ap}
theorem dE (hc:X.calm=true)(hr:RoomC cm k X.A)(hg:Gl X "sorted")(hm:X.mg "sorted" = none)(hg2:Gl X "set")(hm2:X.mg "set" = none)(ha:QE X e fa)(he:A5 [e] X.env=(false,eval e X.env)::A5 [] X.env:=by rfl) :
  QE X (.Call (.Name "sorted" p1) [.Call (.Name "set" p2) [e] [] pos2] [] pos1) (vS mu fa):=⟨d8 hc hr.units hg hm hg2 hm2 ha.1 he⟩
end
end _D
section
end
namespace _D
open PySem PySem.Spec PyProof.Rows _L
noncomputable def pW (d:D)(S:Sto):Ak (Aa (Key × D)):=match d with
 |.loc n=>match S[n]? with
  |some (.dct kvs)=>Ab kvs
  |_=>none
 |_=>none
noncomputable def pC:G2:=λa b S=>match pW a S,jM b with
 |some kvs,Ab k=>match w5 kvs k with
  |some d=>.ok d S
  |none=>.bad
 |_,_=>.bad
section
variable {X:Cx}{pins:Aa (Ad × AV)}{σ : _L.St}{H P:Hp}{α : Aa Ad}{S:Sto}{s:Ag}
set_option tactic.hygienic true in
theorem cX (r:Rel X.K H P α S){d:D}{kvs:Aa (Key × D)}{v:V}(h:pW d S=Ab kvs)(p:Rep X.K P α d v):∃ a ws,v=.ref a/\H a=Ab (.dK ws)/\KVs X.K P α kvs ws:=by
 unfold pW at h
 split at h
 .split at h
  .rename_i hS
   cases h;simp only[Rep] at p;obtain⟨b,rfl,q⟩:=p;obtain⟨ws,z,t⟩:=r.at' _ b _ q hS;exact⟨b,ws,rfl,z,t⟩
  .cases h
 .cases h
set_option tactic.hygienic true in
theorem KB {o i:AH}{fo fi:DE}{pos:CB}(hu:X.A.units+1<CZ)(ho:PE X o (tD X fo))(hi:PE X i (tD X fi))(hs:oV i:=by intro _ _;rfl):PE X (.Subscript o i pos) (tD X (d2 pC fo fi)):=by
 intro pins s σ H Q I h;obtain⟨P,α,env,S,r,re,af⟩:=h;refine UW PySem.F.slot_dict_getitem.lookup hs (thn (zJ ho I r re af) λvv s1 ⟨v,H1,P1,α1,a,S1,G1,af1⟩=>?_);refine thn (zJ hi G1.inv G1.rel G1.env (P:=P1) (α:=α1) (Ok:=OkV X P1 α1 Q) (g:=λy S2=>pC a y S2) (qP.base G1.same G1.pre af1)) λuu s2 ⟨u,H2,P2,α2,b,S2,G2,af2⟩=>?_;have pa:=Rep.mono G2.same G2.pre _ _ G1.rep;have pb:=G2.rep;have I2:=G2.inv;have r2:=G2.rel;have af3:=qP.base G2.same G2.pre af2;unfold pC at af3
 split at af3
 .rename_i kvs k hd hk
  split at af3
  .rename_i d hv
   obtain⟨p,ws,rfl,z,t⟩:=cX r2 hd pa;have ei:=lC hk pb;subst ei;cases (show vv=Ba p from G1.val)
   obtain⟨w,h1,h2⟩:=(fN t).1 d hv;have g:j7 H2 p (kV k) (Ab w):=.inl ⟨_,k,.inl z,rfl,h1.symm⟩;exact⟨d9 I2 g,cU hu I2 g G2.val λw' s3 I3 rw'=>⟨w,H2,I3,rw',xr af3 r2 h2⟩⟩
  .exact An af3
 .exact An af3
end
end _D
section
end
section
end
namespace _D
open PySem PySem.Spec PyProof.Rows _L
variable {E Q:Ac->Ag->Prop}
inductive AccT {K:Type}(w:AL)(hash:K->Am)(enc:K->D)(Kf:Ai)(P:Hp)(α : Aa Ad)(ds:Aa D)(o:AV):Prop
 |mk (es:Av (Am × Ac)) (ep:Ah) (t:CK) (ks:Aa K) (kv:Aa (K × Ac)) (ho:o=_S.setO es ep t) (T:_S.TabT t es) (led:t.led=_S.zT w) (hds:ds=ks.map enc) (hes:es.toList=kv.map λp=>(hash p.1,p.2)) (nd:(kv.map (·.1)).Nodup) (mem:∀ k,k∈kv.map (·.1)↔k∈ks) (rp:∀ p∈kv,∃ v,qJ v p.2/\Rep Kf P α (enc p.1) v):AccT w hash enc Kf P α ds o
section
variable {K:Type}{w:AL}{hash:K->Am}{enc:K->D}{Kf:Ai}{P P1:Hp}{α α1:Aa Ad}{ds:Aa D}{o:AV}
theorem AccT.mono (e:qF P P1)(h:α<+:α1)(a:AccT w hash enc Kf P α ds o):AccT w hash enc Kf P1 α1 ds o:=by
 obtain⟨es,ep,t,ks,kv,h1,h2,h3,h4,h5,h6,h7,h8⟩:=a;exact⟨es,ep,t,ks,kv,h1,h2,h3,h4,h5,h6,h7,λp hp=>let ⟨v,a,b⟩:=h8 p hp;⟨v,a,Rep.mono e h _ _ b⟩⟩
theorem AccT.cell (a:AccT w hash enc Kf P α ds o):∀ v,o.data≠.cell v:=by
 obtain⟨es,ep,t,ks,kv,rfl,_⟩:=a;intro v z;cases z
end
@[reducible] def accS {K:Type}(w:AL)(hash:K->Am)(enc:K->D):Acc:=⟨true,AccT w hash enc,AccT.mono,AccT.cell⟩
noncomputable def vC (chk:Aa D->Ap)(fe:DE):DK:=λenv S acc=>(fe env S).bind λx S1=>if chk (acc++[x])=true then .ok (env,acc++[x]) S1 else .bad
structure SKd (Y:Cx){K:Type}(is:A8->K->Ac->Prop)(hash:K->Am)(enc:K->D)(lt:K->K->Ap)(d:K)(Fit:K->Prop)(chk:Aa D->Ap):Prop where
 ad:∀ h,_S.AddS Y.prog Y.w (is h) hash h
 kd:∀ h,_S.Kind Y.prog Y.w (is h) hash lt d Fit h
 up:∀ {pins:Aa (Ad × AV)} {σ : _L.St} {H P:Hp} {s:Ag} {α : Aa Ad} {S:Sto} {k:K} {v:V} {u:Ac},Inv Y pins σ H s->Rel Y.K H P α S->qJ v u->Rep Y.K P α (enc k) v->is s.heap k u
 inj:∀ {a b:K},enc a=enc b->a=b
 ck:∀ {ds:Aa D},chk ds=true->∃ ks:Aa K,ds=ks.map enc/\(_S.srt lt ks).length<=1000/\∀ k∈ks,Fit k
section
variable {Y:Cx}{K:Type}{is:A8->K->Ac->Prop}{hash:K->Am}{enc:K->D}{lt:K->K->Ap}{d:K}{Fit:K->Prop}{chk:Aa D->Ap}{pins:Aa (Ad × AV)}{σ : _L.St}{H P:Hp}{s:Ag}{α : Aa Ad}{S:Sto}{acc:Ad}{es:Av (Am × Ac)}{ep:Ah}{t:CK}{ks:Aa K}{kv:Aa (K × Ac)}{V:Aa Ac}
theorem rB (Z:SKd Y is hash enc lt d Fit chk)(I:Inv Y pins σ H s)(r:Rel Y.K H P α S)(ho:s.heap.get? acc=Ab (_S.setO es ep t))(T:_S.TabT t es)(led:t.led=_S.zT Y.w)(hes:es.toList=kv.map λp=>(hash p.1,p.2))(nd:(kv.map (·.1)).Nodup)(mem:∀ k,k∈kv.map (·.1)↔k∈ks)(rp:∀ p∈kv,∃ v,qJ v p.2/\Rep Y.K P α (enc p.1) v)(hV:∀ p∈kv,p.2∈V) :
  _S.SetK (is s.heap) hash acc (_S.zT Y.w) V ks.reverse s.heap:=by
 have up:∀ p∈kv,is s.heap p.1 p.2:=λp hp=>let ⟨v,a,b⟩:=rp p hp;Z.up I r a b
 have inj:=@(Z.kd s.heap).inj;refine⟨⟨es,ep,t,ho,⟨λe he=>?_,?_,λk=>?_⟩,T,led,λe he=>?_⟩⟩
 .rw[hes] at he
  obtain⟨p,hp,rfl⟩:=AW.mp he;exact⟨p.1,rfl,up p hp⟩
 .rw[hes,Ey]
  exact(Ey.mp nd).imp_of_mem λ{a b} ha hb hne k h1 h2=>hne ((inj (up a ha) h1).trans (inj h2 (up b hb)))
 .rw[Gw,<- mem k]
  constructor
  .intro h
   obtain⟨p,hp,rfl⟩:=AW.mp h;exact⟨(hash p.1,p.2),by rw[hes];exact AW.mpr ⟨p,hp,rfl⟩,up p hp⟩
  .rintro⟨e,he,q⟩
   rw[hes] at he;obtain⟨p,hp,rfl⟩:=AW.mp he;exact AW.mpr ⟨p,hp,inj (up p hp) q⟩
 .rw[hes] at he
  obtain⟨p,hp,rfl⟩:=AW.mp he;exact hV p hp
theorem WV {h0:A8}{seen:Aa K}(inj:∀ {k k':K} {v:Ac},is h0 k v->is h0 k' v->k=k')(Z0:_S.Set0 (is h0) hash es seen)(T:_S.TabT t es)(led:t.led=_S.zT Y.w)(hm:∀ e∈es.toList,e.2∈V)(hV:∀ u∈V,∃ k v,qJ v u/\Rep Y.K P α (enc k) v/\is h0 k u)(hs:∀ k,k∈seen↔k∈ks) :
  AccT Y.w hash enc Y.K P α (ks.map enc) (_S.setO es ep t):=by
 by_cases hd:∃ d:K,HX
 .obtain⟨d,_⟩:=hd
  have gk:∀ e∈es.toList,is h0 (_S.kOf (is h0) d e) e.2:=λe he=>_S.aR (let ⟨k,_,q⟩:=Z0.good e he;⟨k,q⟩)
  refine⟨es,ep,t,ks,es.toList.map λe=>(_S.kOf (is h0) d e,e.2),rfl,T,led,rfl,?_,?_,λk=>?_,λp hp=>?_⟩
  .rw[Fn]
   conv=>lhs;rw[<- Um es.toList]
   refine Ja λe he=>?_;obtain⟨k,e1,q⟩:=Z0.good e he;show e=(hash (_S.kOf (is h0) d e),e.2);rw[inj (gk e he) q,<- e1]
  .rw[Fn,Si,Ey]
   exact Z0.nd.imp_of_mem λ{a b} ha hb h z=>h _ (gk a ha) (by
    have z:_S.kOf (is h0) d a=_S.kOf (is h0) d b:=z;rw[z];exact gk b hb)
  .rw[Fn,<- hs k,Z0.mem k]
   constructor
   .intro h
    obtain⟨e,he,rfl⟩:=AW.mp h;exact⟨e,he,gk e he⟩
   .rintro⟨e,he,q⟩
    exact AW.mpr ⟨e,he,inj (gk e he) q⟩
  .obtain⟨e,he,rfl⟩:=AW.mp hp
   obtain⟨k,v,a,b,c⟩:=hV e.2 (hm e he);exact⟨v,a,by dsimp only;rw[inj (gk e he) c];exact b⟩
 .have e0:es.toList=[]:=by
   cases q:es.toList with
   |nil=>rfl
   |cons e l =>
    obtain⟨k,_⟩:=Z0.good e (by rw[q];exact .head _)
    exact absurd ⟨k,trivial⟩ hd
  have k0:ks=[]:=by
   cases ks with
   |nil=>rfl
   |cons k l=>exact absurd ⟨k,trivial⟩ hd
  subst k0;exact⟨es,ep,t,[],[],rfl,T,led,rfl,e0,HG,λk=>Iff.rfl,λp hp=>by cases hp⟩
end
theorem oZ {prog:Az}{w:AL}{A:AJ}{s:Ag}{S:Ad}{x:Ac}{es:Av (Am × Ac)}{ep:Ah}{t:CK}(ho:s.heap.get? S=Ab (_S.setO es ep t))(h:Ao (Aq prog w) A.in1 (OS S x) (λ_ s'=>Q .none s') E s):Ao (Aq prog w) A (call (.builtin "set.add") [.ref S,x]) Q E s:=by
 refine CP F.slot_set_add ⟨_,ho,rfl⟩ F.entry_set_add ?_ (F.args_set_add_2 _ _);unfold EU.«set.add» Tc;simp only[List.isEmpty_nil,bind_assoc];unfold Tx;refine Af (Al ?_)
 try dsimp only
 refine Af (Al ?_)
 try dsimp only
 refine Af (thn h λb s' q=>?_);show Ao _ _ (ret Bj) _ _ _;exact Al ⟨_,rfl,q⟩
theorem VN {prog:Az}{w:AL}{A:AJ}{E:Ac->Ag->Prop}{s:Ag}(h:Q (.ref s.heap.objs.size) { s with heap:=s.heap.push (_S.set0 w) }) : Ao (Aq prog w) A (newSet (.type "set")) Q E s:=by
 unfold newSet OJ;refine Af (Af (E7 (Al ?_)));dsimp only;simp only[newObj];exact Af (Rk (Al h))
section
variable {Y:Cx}{K:Type}{is:A8->K->Ac->Prop}{hash:K->Am}{enc:K->D}{lt:K->K->Ap}{d:K}{Fit:K->Prop}{chk:Aa D->Ap}{elt:AH}{gens:Aa Bm}{scope:Cj}{pos:CB}{k:Ah}{fe:DE}
set_option tactic.hygienic true in
theorem X2 (hx:Y.xe=λ_ _=>CA)(hu:Y.A.units+64<CZ)(hlast:gens[k+1]? = none)(Z:SKd Y is hash enc lt d Fit chk)(he:PE Y elt (tD Y fe)):PK (accS Y.w hash enc) Y (λacc=>zB true elt gens scope pos k acc Y.env) (vC chk fe):=by
 intro pins P1 α1 acc env env' S S' ds ds' s hacc ⟨σ,H,P,α,o,st⟩ run;show Ao _ _ (zB true elt gens scope pos k (.ref acc) Y.env) _ _ s;unfold zB;rw[hlast];dsimp only[emX];unfold vC at run;cases q3:fe env S with
 |bad=>rw[q3] at run;cases run
 |ex c z S'=>rw[q3] at run;cases run
 |ok d5 S5 =>
  rw[q3,Res.bind_ok] at run
  split at run
  .rename_i hck
   cases run;have fA:=hacc H st.acn;have I1:=_D.Inv.pin1 st.inv fA st.at' ((accS Y.w hash enc).cell st.acc);refine Af (uF (hx▸BM he I1 st.rel st.env q3) λu5 s5 ⟨v5,H5,P5,α5,G5⟩=>Af (Gz ?_));obtain⟨J4,J5⟩:=_D.Inv.pinned1 G5.inv;have J1:=G5.inv.unpinned;have sacc:AccT Y.w hash enc Y.K P5 α5 ds o:=AccT.mono G5.same G5.pre st.acc;obtain⟨es,ep,t,ks,kv,rfl,T,led,hds,hes,nd,mem,rp⟩:=sacc;obtain⟨ks',e1,e2,e3⟩:=Z.ck hck;obtain⟨l1,l2,rfl,m1,m2⟩:=List.map_eq_append_iff.mp e1.symm;obtain⟨k0,rfl,rfl⟩:∃ k0,l2=[k0]/\enc k0=d5:=by
    match l2,m2 with
    |[k0],m2=>exact⟨k0,rfl,by simpa using m2⟩
   have hks:l1=ks:=by
    have:l1.map enc=ks.map enc:=m1.trans hds;exact Jp (λa b h=>Z.inj h) |>.mp this
   subst hks;have is0:=Z.up J1 G5.rel G5.val G5.rep;have ord:=(Z.kd s5.heap).ord;have SK:=rB (V:=kv.map (·.2)++[u5]) Z J1 G5.rel J4 T led hes nd mem rp λp hp=>AT _ (AW.mpr ⟨p,hp,rfl⟩)
   refine Af (oZ J4 ((Z.ad s5.heap).add (U:=_S.srt lt (l1++[k0])) (show Y.A.units+1<CZ by lia) (λ_ _ e=>e) SK is0 (A3 _ (.head _)) e2 (λk' hk=>(_S.zR ord _ _).mpr (AT _ (Gw.mp hk))) ((_S.zR ord _ _).mpr (by simp)) λb h' tk htk sb SK'=>?_))
   obtain⟨es',ep',t',ho',Z0',T',led',hm'⟩:=SK';have fA5:=hacc H5 J5;have keep:∀ b o,b≠acc->s5.heap.get? b=Ab o->h'.get? b=Ab o:=λb o hb e=>(sb.2 b hb).trans e;have I6:=J1.turned (t':=tk) keep J5 fA5.2.1 fA5.2.2.2.1 fA5.2.2.2.2.1 fA5.2.2.2.2.2;refine Al ⟨σ,H5,P5,α5,_,I6,G5.rel,G5.env,st.same.trans G5.same,st.pre.trans G5.pre,λb hb=>(by simp at hb),J5,ho',?_⟩
   have fin:AccT Y.w hash enc Y.K P5 α5 ((l1++[k0]).map enc) (_S.setO es' ep' t'):=WV (h0:=s5.heap) (λa b=>(Z.kd s5.heap).inj a b) Z0' T' led' hm' (λu hu=>by
    rcases AX.mp hu with hu|hu
    .obtain⟨p,hp,rfl⟩:=AW.mp hu
     obtain⟨v,a,b⟩:=rp p hp;exact⟨p.1,v,a,b,Z.up J1 G5.rel a b⟩
    .rw[Bf.mp hu]
     exact⟨k0,v5,G5.val,G5.rep,is0⟩) λk=>by simp[or_comm]
   rw[EQ,<- hds] at fin;exact fin
  .cases run
end
noncomputable def xZ (ds:Aa D):Ap:=match yA ds with
 |some ks=>decide ((_S.srt _H.lexLt ks).length<=1000)&&ks.all λk=>!k.isEmpty
 |none=>false
theorem skT (Y:Cx):SKd Y (λh=>_S.isT Y.prog Y.w h) (A7 (A0 Y.prog Y.w)) tpD _H.lexLt [] (·≠[]) xZ where
 ad:=_S.cF
 kd:=_S.eO _ _
 up:=λ{pins σ H P s α S k v u} I r q p=>by
  obtain⟨b,ws,us,rfl,sq,t,rv,⟨o,ho,hcl,m,hd⟩,_,_⟩:=uX I r (show Rep Y.K P α (.tup (k.map D.int)) v from p)
  cases (show u=Ba b from q)
  have:=vT t;subst this;exact⟨b,rfl,o,us.toArray,m,ho,hcl,hd,by simpa using fK rv⟩
 inj:=λ{a b} h=>by
  have h1:a.map D.int=b.map D.int:=D.tup.inj h;exact(Jp λx y e=>D.int.inj e).mp h1
 ck:=λ{ds} h=>by
  unfold xZ at h;cases q:yA ds with
  |none=>rw[q] at h;cases h
  |some ks =>
   rw[q] at h;have h':=CI.mp h;refine⟨ks,pP q,AZ h'.1,λk hk z=>?_⟩;have:=Bh.mp h'.2 k hk;subst z;cases this
noncomputable def eD (f:Aa D->Sto->Res D)(r:Res (qE × Aa D)):Res D:=match r with
 |.ok p S2=>f p.2 S2
 |_=>.bad
def tL (f:Aa D->Sto->Res D)(cap:Aa (Ak Ah))(fi:DI2)(g:DG)(t:DT)(k:DK):DE:=λenv S=>(fi env S).bind λp S1=>eD f (goL p.1 g t k p.2 (zW cap env) S1 [])
noncomputable def uO (mu:Ap)(ds:Aa D)(S:Sto):Res D:=if xZ ds=true then (match yA ds with|some ks=>(match mu with|true=>.ok (.loc S.length) (S++[.lst ((_S.srt _H.lexLt ks).map tpD)])|false=>.ok (.lst ((_S.srt _H.lexLt ks).map tpD)) S)|none=>.bad) else .bad
section
variable {X:Cx}{K:Type}{is:A8->K->Ac->Prop}{hash:K->Am}{enc:K->D}{lt:K->K->Ap}{d:K}{Fit:K->Prop}{chk:Aa D->Ap}{elt tg iter:AH}{ifs:Aa AH}{scope:Cj}{pos:CB}{N':Aa Ar}{cap:Aa (Ak Ah)}{fi:DI2}{g:DG}{t:DT}{kk:DK}{qM:Aa Bm}
inductive SetEnd (X:Cx){K:Type}(hash:K->Am)(enc:K->D)(pins:Aa (Ad × AV))(σ : _L.St)(P1:Hp)(α1:Aa Ad)(ds:Aa D)(SF:Sto)(acc:Ad)(s:Ag):Prop
 |mk (H' P':Hp) (α' : Aa Ad) (o:AV) (I:Inv X pins σ H' s) (r:Rel X.K H' P' α' SF) (e1:qF P1 P') (e2:α1<+:α') (ho:s.heap.get? acc=Ab o) (a:AccT X.w hash enc X.K P' α' ds o):SetEnd X hash enc pins σ P1 α1 ds SF acc s
theorem US {pins:Aa (Ad × AV)}{σ σ':_L.St}{H2:Hp}{s2 s':Ag}{fp:Aa Ad}{acc C:Ad}{P1:Hp}{α1:Aa Ad}{H' P':Hp}{α':Aa Ad}{envF:qE}{SF:Sto}{ds:Aa D}{o:AV}{cl:Aa (Ar × Ad)}(I2:Inv X pins σ H2 s2)
  (hf:∀ b∈fp,zO X pins H2 b) (hC:s2.heap.objs.size<=C) (hne:acc≠C) (st:TurnSt (accS X.w hash enc) (qQ X N' scope cl C fp s2 H2) [] P1 α1 fp acc envF SF ds s' σ' H' P' α' o)
  {h':A8} (sb:DL C s'.heap h'):SetEnd X hash enc pins σ P1 α1 ds SF acc { s' with heap:=h' }:=by
 have kC:∀ b o,b≠C->s'.heap.get? b=Ab o->h'.get? b=Ab o:=λb o hb e=>(sb.2 b hb).trans e;have nC:∀ b o,s2.heap.get? b=Ab o->b≠C:=λb o e=>AS (Au (Ax e) hC);have base:Un (frs X.stack) fp H2 H' s2.heap s'.heap:=st.inv.base;have un:Un (frs X.stack) fp H2 H' s2.heap h':=by
  refine⟨λb ob q hn hb hx=>kC b ob (nC b ob q) (base.keep b ob q hn hb hx),λb ob q hn hb hx=>?_,base.free,λb ob q hx=>?_,base.tups,base.frzs,base.tbls⟩
  .obtain⟨sl,e⟩:=base.slot b ob q hn hb hx
   exact⟨sl,kC b _ (nC b ob q) e⟩
  .obtain⟨o',e⟩:=base.there b ob q hx
   exact⟨o',kC b o' (nC b ob q) e⟩
 have hok':HOk X.prog X.w H' h':=mO st.inv.hok st.inv.free kC;refine⟨H',P',α',o,?_,st.rel,st.same,st.pre,kC acc o hne st.at',st.acc⟩;exact I2.call' (s':={ s' with heap:=h' }) (ch:=fp) (st.inv.os) un hok' st.inv.bare λb hb=>by
  obtain⟨_,h1,h2,h3,h4,h5⟩:=hf b hb;exact⟨h3,h1,h4,h5⟩
theorem XI {f:Aa D->Sto->Res D}{pins:Aa (Ad × AV)}{s:Ag}{σ:_L.St}{H P:Hp}{α:Aa Ad}{env:qE}{S0:Sto}{Q:VK}{Qp:Ac->Ag->Prop}(hc:X.calm=true)(S:CompSc X.env.scope X.N scope N' cap)(hi:PI X tg iter (tDI2 X fi))
  (hg:∀ cl C ex s₀ H₀,PG (qQ X N' scope cl C ex s₀ H₀) tg (tDG (qQ X N' scope cl C ex s₀ H₀) g))
  (ht:∀ cl C ex s₀ H₀,PTs (qQ X N' scope cl C ex s₀ H₀) ifs t) (has:∀ g',(⟨tg,iter,ifs,0⟩::qM:Aa Bm)[0+1]? = Ab g'->g'.is_async=0) (he:∀ cl C ex s₀ H₀,PK (accS X.w hash enc) (qQ X N' scope cl C ex s₀ H₀) (λacc=>zB true elt (⟨tg,iter,ifs,0⟩::qM) scope pos 0 acc (qQ X N' scope cl C ex s₀ H₀).env) kk)
  (I:Inv X pins σ H s) (r:Rel X.K H P α S0) (re:qV X.K P α σ env) (af:qH X P α (tL f cap fi g t kk env S0) (OkV X P α Q)) (hs:∀ x,CH iter X.env x=pure x)
  (hQ:∀ acc s' P1 α1 ds SF,qF P P1->α<+:α1->SetEnd X hash enc pins σ P1 α1 ds SF acc s'->qH X P α (f ds SF) (OkV X P α Q)->Qp (.ref acc) s') :
  Ao (Aq X.prog X.w) X.A (eval (.SetComp elt (⟨tg,iter,ifs,0⟩::qM) scope pos) X.env) Qp X.xe s:=by
 rw[arm_eval_SetComp];have af':qH X P α ((fi env S0).bind λp S1=>eD f (goL p.1 g t kk p.2 (zW cap env) S1 [])) (OkV X P α Q):=af;refine Ld (use:=none) rfl hs (dR S I.ok) S.kind S.names ?_;refine thn (hi pins s σ H (λJ H1=>∃ (P1:Hp) (α1:Aa Ad) (p:Ak (Ah × MO) × Aa _D.D) (S1:Sto),Rel X.K H1 P1 α1 S1/\qF P P1/\α<+:α1/\ItD2 X.K J P1 α1 p.1 p.2/\qH X P α (eD f (goL p.1 g t kk p.2 (zW cap env) S1 [])) (OkV X P α Q)) I ⟨P,α,env,S0,r,re,?_⟩) λxv s1 h1=>thn h1 λitv s2 h2=>?_
 .cases q:fi env S0 with
  |bad=>rw[q] at af';exact af'
  |ex c x S'=>rw[q] at af';exact af'
  |ok p S1=>rw[q] at af';exact λJ H1 P1 α1 r1 e1 e2 it=>⟨P1,α1,p,S1,r1,e1,e2,it,af'⟩
 obtain⟨it,fp,tn,J,H2,rfl,I2,T,st0,hf,P1,α1,p,S1,r1,e1,e2,hit,af1⟩:=h2;cases run:goL p.1 g t kk p.2 (zW cap env) S1 [] with
 |bad=>rw[run] at af1;exact An af1
 |ex c x S'=>rw[run] at af1;exact An af1
 |ok q SF =>
  obtain⟨envF,ds⟩:=q;rw[run] at af1;refine VN (gR (B:=accS X.w hash enc) (o0:=_S.set0 X.w) (RR:=λacc C=>compPost (Aq X.prog X.w) X.A X.xe none Qp acc C) hc S has hg ht he I2 r1 (re.mono e1 e2) T st0 hf hit run ⟨_,_,_,[],[],rfl,_S.kY X.w,rfl,rfl,rfl,HG,λ_=>Iff.rfl,λp hp=>by cases hp⟩ rfl ?_)
  intro acc C s' hA ⟨m,hm⟩ hC hne ⟨cl,σf,Hf,Pf,αf,of,stf⟩;exact⟨m,hm,λh' sb=>hQ _ _ _ _ _ _ e1 e2 (US I2 hf hC hne stf sb) af1⟩
set_option tactic.hygienic true in
theorem eB {mu:Ap}{p1 pos1:CB}(hc:X.calm=true)(hu:X.A.units+64<CZ)(hg0:Gl X "sorted")(hm0:X.mg "sorted" = none)(S:CompSc X.env.scope X.N scope N' cap)(hi:PI X tg iter (tDI2 X fi))
  (hg:∀ cl C ex s₀ H₀,PG (qQ X N' scope cl C ex s₀ H₀) tg (tDG (qQ X N' scope cl C ex s₀ H₀) g))
  (ht:∀ cl C ex s₀ H₀,PTs (qQ X N' scope cl C ex s₀ H₀) ifs t) (has:∀ g',(⟨tg,iter,ifs,0⟩::qM:Aa Bm)[0+1]? = Ab g'->g'.is_async=0) (he:∀ cl C ex s₀ H₀,PK (accS X.w (A7 (A0 X.prog X.w)) tpD) (qQ X N' scope cl C ex s₀ H₀) (λacc=>zB true elt (⟨tg,iter,ifs,0⟩::qM) scope pos 0 acc (qQ X N' scope cl C ex s₀ H₀).env) kk)
  (hs:∀ x,CH iter X.env x=pure x):PE X (.Call (.Name "sorted" p1) [.SetComp elt (⟨tg,iter,ifs,0⟩::qM) scope pos] [] pos1) (tD X (tL (uO mu) cap fi g t kk)):=by
 intro pins s σ H Q I h;obtain⟨P,α,env,S0,r,re,af⟩:=h;refine Dl (yK I hg0 hm0 mF ?_);refine Fo ?_ rfl rfl;refine Fq ?_;refine XI (f:=uO mu) hc S hi hg ht has he I r re af hs λacc s' P1 α1 ds SF e1 e2 ⟨H',P',α',o,I',r',e1',e2',ho,a⟩ af1=>HJ ?_;obtain⟨es,ep,t,ks,kv,rfl,T,led,hds,hes,nd,mem,rp⟩:=a;unfold uO at af1
 split at af1
 .rename_i hck
  obtain⟨ks',k1,k2,k3⟩:=(skT X).ck hck;have hkk:ks'=ks:=(Jp λa b h=>(skT X).inj h).mp (k1.symm.trans hds);subst hkk;rw[hds,u3] at af1;have kd:=_S.eO X.prog X.w s'.heap;have SK:=rB (V:=kv.map (·.2)) (skT X) I' r' ho T led hes nd mem rp λp hp=>AW.mpr ⟨p,hp,rfl⟩
  have hsr:_S.srt _H.lexLt ks'.reverse=_S.srt _H.lexLt ks':=_S.uY kd.ord (_S.y6 kd.ord _) (_S.y6 kd.ord _) λx=>by rw[_S.zR kd.ord,_S.zR kd.ord,Gw]
  refine _S.bR kd (I'.ok.hd hc) li (λ_ _ e=>e) SK (λk hk=>k3 k (Gw.mp hk)) (U:=_S.srt _H.lexLt ks') k2 (λk hk=>(_S.zR kd.ord k _).mpr (Gw.mp hk)) λh2 tk2 D c ps kp2 hD hob hps hp hpl=>?_;rw[hsr] at hps;have vv:∀ (ps:Aa (Aa Am × Ac)),(∀ p∈ps,_S.isT X.prog X.w s'.heap p.1 p.2/\p.2∈kv.map (·.2))->∃ vs,qK vs (ps.map (·.2))/\qD X.K P' α' ((ps.map (·.1)).map tpD) vs:=by
   intro ps
   induction ps with
   |nil=>exact λ_=>⟨[],.nil,.nil⟩
   |cons p ps ih =>
    intro h;obtain⟨vs,a1,a2⟩:=ih λq hq=>h q (by simp[hq])
    obtain⟨b1,b2⟩:=h p (by simp)
    obtain⟨q,hq,e⟩:=AW.mp b2;obtain⟨v,c1,c2⟩:=rp q hq;have:p.1=q.1:=kd.inj b1 (e▸(skT X).up I' r' c1 c2);have d1:qJ v p.2:=e▸c1;have d2:Rep X.K P' α' (tpD p.1) v:=by rw[this];exact c2
    exact⟨v::vs,.cons d1 a1,.cons d2 a2⟩
  obtain⟨vs,a1,a2⟩:=vv ps hp;rw[hps] at a2;have I2:Inv X pins σ (uG H' [(D,HO.lst vs)]) { s' with heap:=h2,toks:=tk2 }:=Inv.laidL (s:=s') (L:=[(D,HO.lst vs)]) (t':=tk2) I' kp2 (λp hpm=>by
   have:p=(D,HO.lst vs):=by simpa using hpm
   subst this;exact hD) λp hpm=>by
   have:p=(D,HO.lst vs):=by simpa using hpm
   subst this;refine⟨?_,ps.map (·.2),c,a1,hob⟩
   have:=a1.length;rw[AR] at this;rw[this,Dm]
   lia
  have hn:=I'.hok.fresh hD;cases mu with
  |true=>exact⟨.ref D,_,I2,rfl,gI r' hn a2 λv' H3 P3 α3 r3 q1 q2 rp3=>af1 v' H3 P3 α3 r3 ((e1.trans e1').trans q1) ((e2.trans e2').trans q2) rp3⟩
  |false=>exact⟨.ref D,_,I2,rfl,wG r' hn a2 λv' H3 P3 α3 r3 q1 q2 rp3=>af1 v' H3 P3 α3 r3 ((e1.trans e1').trans q1) ((e2.trans e2').trans q2) rp3⟩
 .exact An af1
end
section
variable {X Y:Cx}{elt tg iter:AH}{ifs:Aa AH}{scope:Cj}{pos:CB}{cap:Aa (Ak Ah)}{f2:DI2}{dg:DG}{t:DT}{kk:DK}{grest gens:Aa Bm}{k n:Ah}{fe:DE}{cm:Ap}
theorem XB {w:AL}{pg:Az}(hw:Y.w=w)(hp:Y.prog=pg)(hx:Y.xe=λ_ _=>CA)(hlast:gens[k+1]? = none)(hr:RoomC cm n Y.A)(he:QE Y elt fe):QK (accS w (A7 (A0 pg w)) tpD) Y (λacc=>zB true elt gens scope pos k acc Y.env) (vC xZ fe):=by
 subst hw hp;exact⟨X2 hx hr.units hlast (skT Y) he.1⟩
theorem UE {mu:Ap}{p1 pos1:CB}(S:Ck (tI X.env.scope X.N scope cap))(hc:X.calm=true)(hr:RoomC cm n X.A)(hg0:Gl X "sorted")(hm0:X.mg "sorted" = none)(hi:QI2 X tg iter f2)(hg:∀ cl C ex s₀ H₀,QG (qQ X (wB scope) scope cl C ex s₀ H₀) tg dg)(ht:∀ cl C ex s₀ H₀,QTs (qQ X (wB scope) scope cl C ex s₀ H₀) ifs t)
  (has:∀ g',(⟨tg,iter,ifs,0⟩::grest:Aa Bm)[0+1]? = Ab g'->g'.is_async=0)
  (he:∀ cl C ex s₀ H₀,QK (accS X.w (A7 (A0 X.prog X.w)) tpD) (qQ X (wB scope) scope cl C ex s₀ H₀) (λacc=>zB true elt (⟨tg,iter,ifs,0⟩::grest) scope pos 0 acc (qQ X (wB scope) scope cl C ex s₀ H₀).env) kk) (hs:∀ x,CH iter X.env x=pure x) :
  QE X (.Call (.Name "sorted" p1) [.SetComp elt (⟨tg,iter,ifs,0⟩::grest) scope pos] [] pos1) (tL (uO mu) cap f2 dg t kk):=
 ⟨eB hc hr.units hg0 hm0 (nH S) hi.1 (λcl C ex s H=>(hg cl C ex s H).1) (λcl C ex s H=>(ht cl C ex s H).1) has (λcl C ex s H=>(he cl C ex s H).1) hs⟩
end
noncomputable def v9:D->Aa D->Sto->Res D:=λa ds S=>match a,ds with
 |.loc i,[]=>vY S i λxs=>.ok .non (S.set i (.lst xs.reverse))
 |_,_=>.bad
section
variable {X:Cx}{P:Hp}{α : Aa Ad}
theorem lP {K:Ai}:∀ {ds:Aa D} {vs:Aa V},qD K P α ds vs->qD K P α ds.reverse vs.reverse
 |[],vs,r=>by rw[r.nil_inv];exact .nil
 |d::ds,vs,r=>by
  obtain⟨w,ws,rfl,r1,r2⟩:=r.cons_inv;rw[HQ,HQ];exact(lP r2).append (.cons r1 .nil)
theorem lY:∀ {vs:Aa V} {us:Aa Ac},qK vs us->qK vs.reverse us.reverse
 |_,_,.nil=>.nil
 |_,_,.cons a r=>by
  rw[HQ,HQ];exact(lY r).append (.cons a .nil)
set_option tactic.hygienic true in
theorem eV:MtD X "list.reverse" v9:=by
 intro pins σ H s P α S v vv vs us a ds Q I r rv p rvs rps af;unfold v9 at af
 split at af
 .rename_i i
  obtain⟨xs,hS,ok⟩:=vG af;cases rps.nil_inv;cases rvs;simp only[Rep] at p;obtain⟨l,rfl,q⟩:=p;cases (show vv=Ba l from rv)
  obtain⟨ws,z,t⟩:=r.at' i l _ q hS;obtain⟨hz,its,n,r1,e⟩:=I.hok l _ z;have hsz:its.length<=sizeLine:=by rw[<- r1.length];exact hz
  refine Lq F.slot_list_reverse ⟨_,e,rfl⟩ F.entry_list_reverse (F.args_list_reverse_1 _) (Pg l its.toArray n (by rw[AK];exact hsz)) ⟨e,?_⟩
  refine⟨.non,_,I.lset (its':=its.reverse) z e (by simp) (lY r1) (by rw[List.length_reverse];exact hz),rfl,?_⟩
  exact xr ok (r.put (m':=.lst xs.reverse) q hS (by intro z;cases z) ⟨ws.reverse,qT,lP t⟩) (by simp only[Rep])
 .exact An af
theorem tB:ZMt X "list.reverse" v9:=⟨eV⟩
end
noncomputable def fF:G2:=λa b S=>match pW b S,jM a with
 |some kvs,Ab k=>.ok (.bl (w5 kvs k).isSome) S
 |_,_=>.bad
section
variable {X:Cx}
set_option tactic.hygienic true in
theorem B3 (hu:X.A.units+1<CZ):OpD X (Cb .In) fF:=by
 intro pins σ H s P α S v u vv uu a b Q I r rv ru pa pb af;unfold fF at af
 split at af
 .rename_i kvs k hd hk
  obtain⟨p,ws,rfl,z,t⟩:=cX r hd pb;have ei:=lC hk pa;subst ei;cases (show uu=Ba p from ru)
  obtain⟨k1,k2⟩:=fN (k:=k) t;have g:j7 H p (kV k) (w6 ws k):=.inl ⟨_,k,.inl z,rfl,rfl⟩;refine LZ hu I g rv λs' I'=>⟨.bl _,H,I',rfl,?_⟩;cases hv:w5 kvs k with
  |none=>rw[hv] at af;rw[k2 hv];exact xr af r (by simp only[Rep];rfl)
  |some d =>
   obtain⟨w',e1,e2⟩:=k1 d hv;rw[hv] at af;rw[e1];exact xr af r (by simp only[Rep];rfl)
 .exact An af
end
section
variable {X:Cx}{cm:Ap}{k:Ah}{o i:AH}{fo fi:DE}{pos:CB}
theorem F6 (hr:RoomC cm k X.A)(ho:QE X o fo)(hi:QE X i fi)(hs:oV i:=by intro _ _;rfl):QE X (.Subscript o i pos) (d2 pC fo fi):=⟨KB (hu1 hr) ho.1 hi.1 hs⟩
end
section
variable {X:Cx}{cm:Ap}{k:Ah}{e ei ek:AH}{fe fi fk:DE}{p2 pos:CB}
theorem L7 (hr:RoomC cm k X.A):ZOp X (Cb .In) fF:=⟨B3 (hu1 hr)⟩
end
end _D
namespace _D
open PySem
variable {kvs:Aa (_L.Key × D)}{ds:Aa D}{v:Ac}{n p:Ah}{f1:DE}{F:DF}{S1 S':Sto}{env':qE}
def Ok {β:Type}(r:Res β)(Q:β->Sto->Prop):Prop:=∃ d S,r=.ok d S/\Q d S
theorem qW {β:Type}{r:Res β}{Q:β->Sto->Prop}{d:β}{S:Sto}(h:r=.ok d S)(q:Q d S):Ok r Q:=⟨d,S,h,q⟩
theorem lB {fe:DE}{env:qE}{S:Sto}{acc:Aa D}{x:D}(h:fe env S=.ok x S1)(hl:acc.length<lim):xW fe env S acc=.ok (env,acc++[x]) S1:=by
 unfold xW;rw[h];simp[Res.bind,hl]
theorem mJ {cap:Aa (Ak Ah)}{fi:DI2}{g:DG}{t:DT}{k:DK}{env:qE}{S:Sto}{o:Ak (Ah × MO)}{items:Aa D}(h:fi env S=.ok (o,items) S1)(e:goL o g t k items (zW cap env) S1 [] = .ok (env',ds) S'):w8 false cap fi g t k env S=.ok (.lst ds) S':=by
 unfold w8;rw[h];simp only[Res.bind,e,mkM];rfl
theorem dX {α β:Type}(sel:α->Ap)(val:α->β)(l:Aa α) : (l.flatMap λd=>if sel d then [val d] else []) = (l.filter sel).map val:=by
 induction l with
 |nil=>rfl
 |cons d l ih =>
  rw[EW,ih];cases h:sel d <;> simp[h]
theorem goT {α:Type}{enc:α->D}{o:Ak (Ah × MO)}{g:DG}{t:DT}{k:DK}(out:α->Aa D)(C:qE->Sto->Prop)(hC:∀ env S,C env S->stn o S) :
  ∀ (xs:Aa α) (env:qE) (S:Sto) (acc:Aa D),C env S->acc.length+(xs.flatMap out).length<=lim ->
  (∀ x∈xs,∀ env S acc,C env S->acc.length+(out x).length<=lim->∃ env1 S1 b S2,g (enc x) env S=.ok env1 S1/\t env1 S1=.ok b S2/\((b=false/\out x=[]/\C env1 S2)\/(b=true/\∃ env3 S3,k env1 S2 acc=.ok (env3,acc++out x) S3/\C env3 S3))) ->
  ∃ env' S',goL o g t k (xs.map enc) env S acc=.ok (env',acc++xs.flatMap out) S'/\C env' S'
 |[],env,S,acc,h,hl,_=>⟨env,S,by simp[goL,wI.mpr (hC _ _ h)],h⟩
 |x::xs,env,S,acc,h,hl,step=>by
  rw[EW,Bs] at hl;obtain⟨env1,S1,b,S2,e1,e2,r⟩:=step x (Cf ..) env S acc h om;have hst:=wI.mpr (hC _ _ h);rcases r with⟨rfl,h0,h2⟩|⟨rfl,env3,S3,e3,h3⟩
  .obtain⟨env',S',e,q⟩:=goT out C hC xs env1 S2 acc h2 om λd hd=>step d (Bc _ hd)
   refine⟨env',S',?_,q⟩;simp only[Bu,goL,hst,Cc,e1,e2,Res.bind,AI,Ci,EW,h0,Ez];exact e
  .obtain⟨env',S',e,q⟩:=goT out C hC xs env3 S3 (acc++out x) h3 (by rw[Bs];omega) λd hd=>step d (Bc _ hd)
   refine⟨env',S',?_,q⟩;simp only[Bu,goL,hst,Cc,e1,e2,Res.bind,e3,EW];rw[e,Be]
section
variable {α β:Type}{enc:α->D}{enc2:β->D}{cap:Aa (Ak Ah)}{fi:DI2}{g:DG}{t:DT}{fe:DE}{env:qE}{S S0:Sto}{o:Ak (Ah × MO)}{xs:Aa α}
theorem MW (hst:stn o S)(sel:α->Ap)(val:α->D)(C:qE->Prop)(h0:C env)(hl:xs.length<=lim)
  (step:∀ x∈xs,∀ env,C env->∃ env1,g (enc x) env S=.ok env1 S/\C env1/\t env1 S=.ok (sel x) S/\(sel x=true->fe env1 S=.ok (val x) S)) :
  ∃ env',goL o g t (xW fe) (xs.map enc) env S [] = .ok (env',(xs.filter sel).map val) S:=by
 have lf:(xs.flatMap λd=>if sel d then [val d] else []).length<=lim:=by
  rw[dX,AR];exact Ca (List.length_filter_le _ _) hl
 obtain⟨env',S',e,_,q⟩:=goT (enc:=enc) (o:=o) (g:=g) (t:=t) (k:=xW fe) (λd=>if sel d then [val d] else []) (λenv S'=>C env/\S'=S) (λ_ _ h=>h.2▸hst) xs env S [] ⟨h0,rfl⟩ (by simpa using lf) (λd hd env S' acc hC hl=>by
  obtain⟨hc,rfl⟩:=hC;obtain⟨env1,e1,c1,e2,k⟩:=step d hd env hc;refine⟨env1,S',sel d,S',e1,e2,?_⟩;cases hs:sel d with
  |false=>exact .inl ⟨rfl,by simp,c1,rfl⟩
  |true =>
   refine .inr ⟨rfl,env1,S',?_,c1,rfl⟩;simp only[Cc];exact lB (k hs) (by simp only[hs,Cc,Nt] at hl;omega))
 subst q;refine⟨env',?_⟩;rw[e,Ez,dX]
theorem Y4 (h:fi env S=.ok (o,xs.map enc) S)(hst:stn o S)(sel:α->Ap)(val:α->D)(C:qE->Prop)(h0:C (zW cap env))(hl:xs.length<=lim)
  (step:∀ x∈xs,∀ env,C env->∃ env1,g (enc x) env S=.ok env1 S/\C env1/\t env1 S=.ok (sel x) S/\(sel x=true->fe env1 S=.ok (val x) S)) :
  w8 false cap fi g t (xW fe) env S=.ok (.lst ((xs.filter sel).map val)) S:=by
 obtain⟨env',e⟩:=MW hst sel val C h0 hl step;exact mJ h e
end
theorem W1 {env:qE}{S:Sto}{a:D}(h1:f1 env S=.ok a S1):qU 1 F (qA f1 (qC)) env S=F [a] S1:=by
 simp only[qU,qA,qC,h1,Res.bind,Bk,IE,Cc]
theorem MC {f2 f3:DE}{env:qE}{S S2 S3:Sto}{a b c:D}(h1:f1 env S=.ok a S1)(h2:f2 env S1=.ok b S2)(h3:f3 env S2=.ok c S3):qU 3 F (qA f1 (qA f2 (qA f3 (qC)))) env S=F [a,b,c] S3:=by
 simp only[qU,qA,qC,h1,h2,h3,Res.bind,Bk,IE,Cc]
theorem K2 {env:qE}{S:Sto}{a:D}(h1:f1 env S=.ok a S1):qA f1 (qC) env S=.ok [a] S1:=by
 simp only[qA,qC,h1,Res.bind]
theorem oK {env:qE}{i:Ah}{d:D}{S:Sto}(h:env[i]? = Ab (Ab d)):qB i env S=.ok d S:=by simp only[qB,h]
theorem cL {α:Type}(p:α->Ap)(l:Aa α) : zP (l.map λx=>D.bl (p x))=Ab (l.map p):=by
 induction l with
 |nil=>rfl
 |cons x l ih =>
  show (zP (l.map λx=>D.bl (p x))).map (p x::·)=_
  rw[ih];rfl
section
variable {β γ:Type}{env:qE}{S:Sto}
theorem qZ {r:Res β}{k:β->Sto->Res γ}{Q:γ->Sto->Prop}(h:Ok r λd S1=>Ok (k d S1) Q):Ok (r.bind k) Q:=by
 obtain⟨d,S1,rfl,h⟩:=h;exact h
theorem wU {r:Res β}{d:β}(h:Ok r λd' S'=>d'=d/\S'=S):r=.ok d S:=by
 obtain⟨_,_,e,rfl,rfl⟩:=h;exact e
theorem zE {r:Res β}{Q Q':β->Sto->Prop}(h:Ok r Q)(k:∀ d S,Q d S->Q' d S):Ok r Q':=by
 obtain⟨d,S,e,q⟩:=h;exact⟨d,S,e,k d S q⟩
variable {Q:D->Sto->Prop}{f g:DE}{fa:DA}{o:G2}{i j:Ah}
theorem o_c {d:D}(h:Q d S):Ok (dC d env S) Q:=⟨_,_,rfl,h⟩
theorem o_v {d:D}(e:env[i]? = Ab (Ab d))(h:Q d S):Ok (qB i env S) Q:=⟨_,_,oK e,h⟩
theorem o_2 (h:Ok (f env S) λa S1=>Ok (g env S1) λb S2=>Ok (o a b S2) Q):Ok (d2 o f g env S) Q:=qZ (zE h λ_ _=>qZ)
theorem WI {Q:Aa D->Sto->Prop}(h:Q [] S):Ok (qC env S) Q:=⟨_,_,rfl,h⟩
theorem uQ {Q:Aa D->Sto->Prop}(h:Ok (f env S) λa S1=>Ok (fa env S1) λas S2=>Q (a::as) S2):Ok (qA f fa env S) Q:=qZ (zE h λ_ _ k=>qZ (zE k λ_ _ q=>⟨_,_,rfl,q⟩))
theorem R6 (h:Ok (fa env S) λas S1=>as.length<=lim/\Q (.tup as) S1):Ok (x9 fa env S) Q:=qZ (zE h λ_ _ k=>⟨_,_,AA k.1,k.2⟩)
theorem TQ (h:Ok (fa env S) λas S1=>as.length<=lim/\Q (.lst as) S1):Ok (xC fa env S) Q:=qZ (zE h λ_ _ k=>⟨_,_,AA k.1,k.2⟩)
theorem SO (h:Ok (fa env S) λas S1=>as.length<=lim/\Q (.loc S1.length) (S1++[.lst as])):Ok (pU fa env S) Q:=qZ (zE h λ_ _ k=>⟨_,_,AA k.1,k.2⟩)
theorem SV (h:Q (.loc S.length) (S++[.dct []])) : Ok (rZ env S) Q:=⟨_,_,rfl,h⟩
theorem SM (h:Q .dct0 S):Ok (tJ env S) Q:=⟨_,_,rfl,h⟩
theorem iC (h:Ok (fa env S) λas S1=>as.length=n/\Ok (F as S1) Q):Ok (qU n F fa env S) Q:=qZ (zE h λ_ _ k=>by rw[AA k.1];exact k.2)
theorem SZ {as:Aa D}(h:Ok (F as S) Q):Ok (okO F as S) Q:=by
 obtain⟨d,S1,e,q⟩:=h;exact⟨d,S1,B8 e,q⟩
theorem RE (h:Ok (fa env S) λas S1=>Ok (F as S1) Q):Ok (qR F fa env S) Q:=qZ h
theorem SU {a b:Am}(h:Q (.int (a+b)) S):Ok (zS (.int a) (.int b) S) Q:=⟨_,_,rfl,h⟩
theorem wQ {a b:Aa D}(l:a.length+b.length<=lim)(h:Q (.lst (a++b)) S):Ok (zS (.lst a) (.lst b) S) Q:=⟨_,_,AA l,h⟩
theorem R5 {a b:Am}(h:Q (.int (a-b)) S):Ok (xN (.int a) (.int b) S) Q:=⟨_,_,rfl,h⟩
theorem SY {a b:Am}(l : -(2 ^ 64)<a/\a<2 ^ 64)(h:Q (.int (a*b)) S):Ok (zZ (.int a) (.int b) S) Q:=by
 refine⟨_,_,?_,h⟩;unfold zZ i2;rw[nE];unfold nB;simp only[l,and_self,Fj,TW,Cc]
theorem SX {a b:Am}(l:0<b)(h:Q (.int (a % b)) S):Ok (jG (.int a) (.int b) S) Q:=by
 refine⟨_,_,?_,h⟩;unfold jG i2;simp[l]
theorem SW {a b:Am}(l:0<b/\b<1073741824)(h:Q (.int (a/b)) S):Ok (pB (.int a) (.int b) S) Q:=by
 refine⟨_,_,?_,h⟩;unfold pB i2 JR;simp[l]
theorem RL {a b:Am}(h:Q (.bl (decide (a<b))) S):Ok (gLt (.int a) (.int b) S) Q:=⟨_,_,rfl,h⟩
theorem RK {a b:Am}(h:Q (.bl (decide (a<=b))) S):Ok (gLe (.int a) (.int b) S) Q:=⟨_,_,rfl,h⟩
theorem RJ {a b:Am}(h:Q (.bl (decide (b<a))) S):Ok (gGt (.int a) (.int b) S) Q:=⟨_,_,rfl,h⟩
theorem RH {a b:Am}(h:Q (.bl (decide (b<=a))) S):Ok (gGe (.int a) (.int b) S) Q:=⟨_,_,rfl,h⟩
theorem PP {a b:Am}(h:Q (.bl (decide (a=b))) S):Ok (gEq (.int a) (.int b) S) Q:=⟨_,_,by kernel_rfl!,h⟩
theorem RM {a b:Am}(h:Q (.bl (!decide (a=b))) S):Ok (gNe (.int a) (.int b) S) Q:=⟨_,_,by kernel_rfl!,h⟩
theorem eW {a:Aa D}{k:Am}{d:D}(e:_L.atI a k=Ab d)(h:Q d S):Ok (gIx (.lst a) (.int k) S) Q:=⟨d,S,by show _D.vI (_L.atI a k) S=_;rw[e];rfl,h⟩
theorem SN {a:Aa D}(h:Q (.int a.length) S):Ok (jF [.lst a] S) Q:=⟨_,_,rfl,h⟩
theorem WE (h:Ok (f env S) λd S1=>∃ b,d=.bl b/\(b=true->Ok (g env S1) Q)/\(b=false->Q (.bl false) S1)):Ok (p9 f g env S) Q:=qZ (zE h λd S1 ⟨b,e,k1,k2⟩=>by
 subst e;cases b with
 |true=>exact k1 rfl
 |false=>exact⟨_,_,rfl,k2 rfl⟩)
theorem RP {fl fh:DO}(h:Ok (f env S) λd S1=>Ok (fl env S1) λlo S2=>Ok (fh env S2) λhi S3=>Ok (gSl d lo hi S3) Q):Ok (dSl f fl fh env S) Q:=qZ (zE h λ_ _ k=>qZ (zE k λ_ _=>qZ))
theorem R4 {a:Aa D}{lo hi:Ak Am}(h:Q (.lst (yX a lo hi)) S):Ok (gSl (.lst a) lo hi S) Q:=⟨_,_,rfl,h⟩
theorem RF {Q:Ak Am->Sto->Prop}(h:Ok (f env S) λd S1=>∃ k,d=.int k/\Q (Ab k) S1):Ok (yY f env S) Q:=qZ (zE h λ_ _ ⟨_,e,q⟩=>by subst e;exact⟨_,_,rfl,q⟩)
theorem RD {T:Bp}{m:D->Aa D->Sto->Res D}(h:Ok (f env S) λa S1=>tyD a S1=Ab T/\Ok (fa env S1) λas S2=>Ok (m a as S2) Q):Ok (dBm T m f fa env S) Q:=qZ (zE h λ_ _ k=>by rw[k.1,AA (by simp)];exact qZ k.2)
theorem PM {a b:D}{xs ys:Aa D}(e1:lstM a S=Ab xs)(e2:lstM b S=Ab ys)(l:xs.length+ys.length<=lim)(h:Q (.lst (xs++ys)) S):Ok (gD a b S) Q:=⟨_,_,by unfold gD;rw[e1,e2];exact AA l,h⟩
theorem WG {xs:Aa D}{d:D}(e:S[i]? = Ab (.lst xs))(l:xs.length<lim)(h:Q .non (S.set i (.lst (xs++[d])))):Ok (wK (.loc i) [d] S) Q:=by
 refine⟨_,_,?_,h⟩;show (match S[i]? with|some (.lst xs)=>(if xs.length<lim then Res.ok D.non (S.set i (.lst (xs++[d]))) else .bad)|_=>.bad)=_
 rw[e];exact AA l
variable {Q:Ap->Sto->Prop}{t u:DT}
theorem DJ (h:Ok (f env S) λd S1=>∃ b,yQ d S1=Ab b/\Q b S1):Ok (dTr f env S) Q:=qZ (zE h λd S1 ⟨b,e,k⟩=>by
 rw[e];exact⟨_,_,rfl,k⟩)
theorem PQ (h:Ok (t env S) λb S1=>Q (!b) S1):Ok (vR t env S) Q:=qZ (zE h λ_ _ k=>⟨_,_,rfl,k⟩)
theorem R7 (h:Q true S):Ok (wF env S) Q:=⟨_,_,rfl,h⟩
theorem WJ (h:Ok (t env S) λb S1=>(b=true->Q true S1)/\(b=false->Ok (u env S1) Q)):Ok (nP t u env S) Q:=qZ (zE h λb S1 k=>by
 cases b with
 |true=>exact⟨_,_,rfl,k.1 rfl⟩
 |false=>exact k.2 rfl)
theorem JP {xs:Aa D}{a:Ah}(h:a<xs.length):_L.atI xs (a:Am)=Ab xs[a]:=by
 have e:_L.ixN xs.length (a:Am)=Ab a:=by simp[_L.ixN];lia
 simp[_L.atI,e,h]
theorem uM (S:Sto)(m:MO):(S++[m])[S.length]? = Ab m:=by simp
theorem XJ (S:Sto)(m m':MO):(S++[m]).set S.length m'=S++[m']:=by simp
theorem cA {xs:Aa D}(h:S[j]? = Ab (.lst xs)):tyD (.loc j) S=Ab "list":=by
 show (match S[j]? with|some (.lst _)=>Ab "list" | some (.dct _)=>Ab "dict" | _=>none)=_
 rw[h]
theorem T7 {xs:Aa D}(h:S[j]? = Ab (.lst xs)):lstM (.loc j) S=Ab xs:=by
 show (match S[j]? with|some (.lst xs)=>Ab xs|_=>none)=_
 rw[h]
theorem WH {Q:D->Sto->Prop}{a:Aa D}{k:Ah}(h:k<a.length)(q:∀ d∈a,Q d S):Ok (gIx (.lst a) (.int (k:Am)) S) Q:=eW (JP h) (q _ (Lv h))
theorem VS {Q:Aa D->Sto->Prop}(h:Ok (f env S) λd S1=>∃ ds,w9 d=Ab ds/\Q ds S1):Ok (uN f env S) Q:=qZ (zE h λd S1 ⟨ds,e,k⟩=>⟨ds,S1,by rw[e];rfl,k⟩)
theorem TX {Q:Aa D->Sto->Prop}(h:Ok (fa env S) λas S1=>∃ ds,kW as=Ab ds/\Q ds S1):Ok (kK fa env S) Q:=qZ (zE h λd S1 ⟨ds,e,k⟩=>⟨ds,S1,by rw[e];rfl,k⟩)
theorem NL (n:Ah)(h:n<=1000000):kW [.int (n:Am)]=Ab ((Bt n).map λ(i:Ah)=>D.int (i:Am)):=by
 unfold kW;have : -(2 ^ 62)<=(n:Am)/\(n:Am)<2 ^ 62:=⟨by lia,by lia⟩
 refine(AA this).trans ?_;unfold xR;rw[Ee]
 congr 2
 funext i
 rw[Int.zero_add]
theorem SQ {Q:Aa D->Sto->Prop}(h:Ok (f env S) λd S1=>∃ k:Am,d=.int k/\0<=k/\k<=1000000/\Q ((Bt k.toNat).map λ(i:Ah)=>D.int (i:Am)) S1):Ok (kK (qA f qC) env S) Q:=TX (uQ (zE h λ_ _ ⟨k,e,h0,h1,q⟩=>WI ⟨_,by
 have:=NL k.toNat li;rw[Int.toNat_of_nonneg h0] at this;rw[e,this],q⟩))
theorem jQ {Q:D->Sto->Prop}{xs:Aa D}{k:Am}{d:D}(e:S[i]? = Ab (.lst xs))(e':_L.atI xs k=Ab d)(h:Q d S):Ok (gIx (.loc i) (.int k) S) Q:=by
 refine⟨d,S,?_,h⟩;show (match S[i]? with|some (.lst xs)=>_D.vI (_L.atI xs k) S|_=>.bad)=_
 rw[e];show _D.vI (_L.atI xs k) S=_;rw[e'];rfl
theorem R0 {Q:D->Sto->Prop}{xs:Aa D}{k:Ah}(e:S[i]? = Ab (.lst xs))(hk:k<xs.length)(hb:k<1000000)(h:Q xs[k] (S.set i (.lst (xs.eraseIdx k)))):Ok (GM (.loc i) [.int (k:Am)] S) Q:=by
 refine⟨_,_,?_,h⟩;show vY S i (λxs=>if 0<=(k:Am)/\(k:Am)<1000000 then (match xs[(k:Am).toNat]? with|some d=>Res.ok d (S.set i (.lst (xs.eraseIdx (k:Am).toNat)))|none=>.bad) else .bad)=_
 unfold vY;rw[e];show (if 0<=(k:Am)/\(k:Am)<1000000 then _ else _)=_
 rw[AA ⟨by lia,by lia⟩,Ee,As hk]
theorem PV {Q:IV->Sto->Prop}{d:D}{n:Am}(e:S[i]? = Ab (.dct kvs))(hl:kvs.length<lim)(h:Q () (S.set i (.dct (uE kvs (.inl n) d)))):Ok (wA (.loc i) (.int n) d S) Q:=by
 refine⟨_,_,?_,h⟩;show (match S[i]? with|some (.dct kvs)=>(match jM (.int n) with|some k=>(if kvs.length<lim then Res.ok () (S.set i (.dct (uE kvs k d))) else .bad)|none=>.bad)|_=>pD (.loc i) (.int n) d S)=_
 rw[e];exact AA hl
theorem iE {Q:IV->Sto->Prop}{xs:Aa D}{d:D}{n:Am}(e:S[i]? = Ab (.lst xs))(e':_L.ixN xs.length n=Ab j)(h:Q () (S.set i (.lst (xs.set j d)))):Ok (wA (.loc i) (.int n) d S) Q:=by
 refine⟨_,_,?_,h⟩;simp[wA,pD,e,e']
theorem cY (h:S[i]? = Ab (.dct kvs)):pW (.loc i) S=Ab kvs:=by
 show (match S[i]? with|some (.dct kvs)=>Ab kvs|_=>none)=_
 rw[h]
theorem TK {Q:D->Sto->Prop}{n:Am}(e:S[i]? = Ab (.dct kvs))(h:Q (.bl (w5 kvs (.inl n)).isSome) S):Ok (fF (.int n) (.loc i) S) Q:=⟨_,_,by unfold fF;rw[cY e];rfl,h⟩
theorem TN {Q:D->Sto->Prop}{n:Am}{d:D}(e:S[i]? = Ab (.dct kvs))(e':w5 kvs (.inl n)=Ab d)(h:Q d S):Ok (pC (.loc i) (.int n) S) Q:=by
 refine⟨d,S,?_,h⟩;unfold pC;rw[cY e];show (match w5 kvs (.inl n) with|some d=>Res.ok d S|none=>.bad)=_
 rw[e']
theorem D9 {xs:Aa D}(h:env[i]? = Ab (Ab (.loc j)))(e:S[j]? = Ab (.lst xs)):dIt (qB i) env S=.ok (Ab (j,.lst xs),xs) S:=by
 unfold dIt;rw[oK h];show (match S[j]? with|some (.lst xs)=>Res.ok (Ab (j,MO.lst xs),xs) S|_=>.bad)=_
 rw[e]
theorem l0 {α:Type}(f:α->β):∀ l:Aa α,l.flatMap (λx=>[f x])=l.map f
 |[]=>rfl
 |x::l=>by rw[EW,l0 f l];rfl
theorem iD {α:Type}{enc:α->D}{o:Ak (Ah × MO)}{cap:Aa (Ak Ah)}{fi:DI2}{tg:DG}{fe:DE}{Q:D->Sto->Prop}(xs:Aa α)(val:α->D)(C:qE->Sto->Prop)(hi:fi env S=.ok (o,xs.map enc) S1)(h0:C (zW cap env) S1)(hl:xs.length<=lim)(hst:∀ env S,C env S->stn o S)
  (step:∀ x∈xs,∀ env S,C env S->Ok (tg (enc x) env S) λenv1 S1=>Ok (t env1 S1) λb S2=>b=true/\Ok (fe env1 S2) λd S3=>d=val x/\C env1 S3) (q:∀ env' S',C env' S'->Q (.lst (xs.map val)) S'):Ok (w8 false cap fi tg t (xW fe) env S) Q:=by
 have fm:=l0 val xs;obtain⟨env',S',e,c⟩:=goT (enc:=enc) (o:=o) (g:=tg) (t:=t) (k:=xW fe) (λx=>[val x]) C hst xs (zW cap env) S1 [] h0 (by rw[fm,AR];simpa using hl) (λx hx env S acc hC hl=>by
  obtain⟨env1,S1,e1,b,S2,e2,rfl,d,S3,e3,rfl,c3⟩:=step x hx env S hC;exact⟨env1,S1,true,S2,e1,e2,.inr ⟨rfl,env1,S3,lB e3 (by simp at hl;lia),c3⟩⟩)
 rw[fm,Ez] at e;exact⟨_,_,mJ hi e,q env' S' c⟩
theorem WD {α:Type}{Q:D->Sto->Prop}{l:Aa α}{p:α->Ap}(h:Q (.bl (l.all p)) S):Ok (fD false [.lst (l.map λx=>.bl (p x))] S) Q:=by
 refine⟨_,_,?_,h⟩;show (match (w9 (.lst (l.map λx=>D.bl (p x)))).bind zP with|some bs=>Res.ok (D.bl (bs.all id)) S|none=>.bad)=_
 rw[show (w9 (.lst (l.map λx=>D.bl (p x)))).bind zP=Ab (l.map p) from cL p l]
 simp only[IR];rfl
theorem sO {f:D->Ak D}{xs:Aa D}(h:∀ x∈xs,f x=Ab x):mapO f xs=Ab xs:=by
 induction xs with
 |nil=>rfl
 |cons x xs ih=>simp[mapO,h x (Cf ..),ih λy hy=>h y (Bc _ hy)]
theorem XG {xs:Aa D}(e:S[i]? = Ab (.lst xs))(h:∀ x∈xs,wX 19 S x=Ab x):wX nR S (.loc i)=Ab (.lst xs):=by
 show (match S[i]? with|some (.lst xs)=>(mapO (wX 19 S) xs).map D.lst|_=>none)=_
 rw[e];show (mapO (wX 19 S) xs).map D.lst=_;rw[sO h];rfl
theorem RO {Q:qE->Sto->Prop}{h:G3}{d:D}(k:Ok (f env S) λa S1=>Ok (g env S1) λb S2=>Ok (h a b d S2) λ_ S3=>Q env S3):Ok (gSb f g h d env S) Q:=qZ (zE k λ_ _ k=>qZ (zE k λ_ _ k=>qZ (zE k λ_ _ q=>⟨_,_,rfl,q⟩)))
variable {Q:qE->Sto->Prop}
theorem RN {d:D}(h:Q (env.set i (Ab d)) S):Ok (gNm i d env S) Q:=⟨_,_,rfl,h⟩
theorem RQ {gs:DGs}{xs:Aa D}(h:xs.length=n/\Ok (gs xs env S) Q):Ok (gTp n gs (.tup xs) env S) Q:=by
 obtain⟨d,S1,e,q⟩:=h.2;exact⟨d,S1,by show (if xs.length=n then gs xs env S else .bad)=_;rw[AA h.1];exact e,q⟩
theorem RI (h:Q env S):Ok (jI [] env S) Q:=⟨_,_,rfl,h⟩
theorem RG {t:DG}{gs:DGs}{x:D}{xs:Aa D}(h:Ok (t x env S) λenv1 S1=>Ok (gs xs env1 S1) Q):Ok (xO t gs (x::xs) env S) Q:=qZ h
def Wo (P:Out->Prop)(o:Out):Prop:=P o
def hJ (g:DS)(P:Out->Prop):Out->Prop
 |.nx env S=>P (g env S)
 |o=>P o
noncomputable def cD (b:Ap)(f g:DS):DS:=match b with
 |true=>f
 |false=>g
def D1 (Q:D->Sto->Prop):Out->Prop
 |.rt d S=>Q d S
 |.nx _ S=>Q .non S
 |_=>CA
def W9 {α:Type}(I:Aa α -> qE->Sto->Prop)(xs:Aa α)(P:Out->Prop):Out->Prop
 |.nx env S=>I xs env S
 |.ct env S=>I xs env S
 |.bk env S=>P (.nx env S)
 |o=>P o
variable {P:Out->Prop}{sf sg:DS}{fi:DI}{tg:DG}{d:D}
theorem L3 (h:Wo (hJ sg P) (sf env S)):Wo P (qS sf sg env S):=by
 unfold qS;unfold Wo at h ⊢;cases e:sf env S <;> rw[e] at h <;> exact h
theorem RT (h:Wo P (sg env S)):Wo (hJ sg P) (.nx env S):=h
theorem RU (h:Wo P (.rt d S)):Wo (hJ sg P) (.rt d S):=h
theorem SS (h:Wo P (.nx env S)):Wo P (zK env S):=h
theorem jV {r:Res β}{k:β->Sto->Out}(h:Ok r λd S1=>Wo P (k d S1)):Wo P (r.toS env k):=by
 obtain⟨d,S1,rfl,h⟩:=h;exact h
theorem R8 (h:Ok (f env S) λd S1=>Ok (tg d env S1) λenv' S2=>Wo P (.nx env' S2)):Wo P (zF f tg env S):=jV (zE h λ_ _=>jV)
theorem SR (h:Ok (f env S) λ_ S1=>Wo P (.nx env S1)):Wo P (xY f env S):=jV h
theorem RB (h:Ok (f env S) λd S1=>Wo P (.rt d S1)):Wo P (zA f env S):=jV h
theorem RA (h:Ok (fa env S) λds S1=>∃ a b,ds=[a,b]/\Wo P (.nx ((env.set i (Ab a)).set j (Ab b)) S1)):Wo P (fX i j fa env S):=jV (zE h λ_ _ ⟨_,_,e,q⟩=>by subst e;exact q)
theorem RS (h:Ok (t env S) λb S1=>Wo P (cD b sf sg env S1)):Wo P (sIf t sf sg env S):=jV (zE h λb S1 q=>by cases b <;> exact q)
theorem w_t (h:Wo P (sf env S)):Wo P (cD true sf sg env S):=h
theorem w_f (h:Wo P (sg env S)):Wo P (cD false sf sg env S):=h
theorem R9 {b:Ap}(h:Wo P (cD b sg sf env S)):Wo P (cD (!b) sf sg env S):=by cases b <;> exact h
theorem yT {p:Prop}[ER p](h1:p->Wo P (sf env S))(h2:¬ p->Wo P (sg env S)):Wo P (cD (decide p) sf sg env S):=by
 by_cases h:p
 .rw[CC h];exact h1 h
 .rw[Cq h];exact h2 h
theorem NZ (h:Ok (fi env S) λds S1=>Wo P (vW tg sf ds env S1)):Wo P (jU fi tg sf env S):=jV h
theorem yN {α:Type}{enc:α->D}(I:Aa α -> qE->Sto->Prop)(turn:∀ x xs env S,I (x::xs) env S->Ok (tg (enc x) env S) λenv1 S1=>Wo (W9 I xs P) (sf env1 S1))(last:∀ env S,I [] env S->Wo P (.nx env S)) :
  ∀ {xs:Aa α} {env:qE} {S:Sto},I xs env S->Wo P (vW tg sf (xs.map enc) env S)
 |[],env,S,h=>last env S h
 |x::xs,env,S,h=>by
  obtain⟨env1,S1,e1,h1⟩:=turn x xs env S h;rw[Bu,vW];unfold Wo at h1 ⊢;simp only[e1,Res.toS];cases e2:sf env1 S1 with
  |nx env2 S2=>rw[e2] at h1;exact yN I turn last h1
  |ct env2 S2=>rw[e2] at h1;exact yN I turn last h1
  |bk env2 S2=>rw[e2] at h1;exact h1
  |rt d2 S2=>rw[e2] at h1;exact h1
  |ex c2 x2 env2 S2=>rw[e2] at h1;exact h1
  |bad=>rw[e2] at h1;exact h1
def whQ (I:Ah->qE->Sto->Prop)(n:Ah)(P:Out->Prop):Out->Prop
 |.nx env S=>∃ m,m<n/\I m env S
 |.ct env S=>∃ m,m<n/\I m env S
 |.bk env S=>P (.nx env S)
 |o=>P o
theorem J0 (I:Ah->qE->Sto->Prop)(turn:∀ n env S,I n env S->Ok (t env S) λb S1=>(b=true->Wo (whQ I n P) (sf env S1))/\(b=false->Wo P (.nx env S1))){n:Ah}(hn:n<big)(h:I n env S):Wo P (bO t sf env S):=by
 have key:∀ N n env S,n<N->I n env S->Wo P (yO t sf N env S):=by
  intro N
  induction N with
  |zero=>intro n env S h;lia
  |succ N ih =>
   intro n env S h hI;obtain⟨b,S1,e1,k1,k2⟩:=turn n env S hI;unfold yO;rw[e1];cases b with
   |false=>exact k2 rfl
   |true =>
    have k:=k1 rfl;unfold Wo at k ⊢;simp only[Res.toS,Cc];cases e2:sf env S1 with
    |nx env2 S2=>rw[e2] at k;obtain⟨m,hm,hI2⟩:=k;exact ih m env2 S2 li hI2
    |ct env2 S2=>rw[e2] at k;obtain⟨m,hm,hI2⟩:=k;exact ih m env2 S2 li hI2
    |bk env2 S2=>rw[e2] at k;exact k
    |rt d2 S2=>rw[e2] at k;exact k
    |ex c2 x2 env2 S2=>rw[e2] at k;exact k
    |bad=>rw[e2] at k;exact k
 exact key big n env S hn h
theorem oM {I:Ah->qE->Sto->Prop}(m:Ah)(hm:m<n)(h:I m env S):Wo (whQ I n P) (.nx env S):=⟨m,hm,h⟩
theorem o9 {x:D}(hs:y7 n ds=env)(h:sf env S=.ex v x env' S'):qY n sf ds S=.ex v x S':=by
 subst hs;unfold qY;rw[h];rfl
theorem GE {x:D}(h:f env S=.ex v x S'):qS (xY f) sg env S=.ex v x env S':=by
 simp only[qS,xY,h,Res.toS]
theorem MY {x:D}(h:t env S=.ok true S1)(k:sf env S1=.ex v x env' S'):sIf t sf sg env S=.ex v x env' S':=by
 simp only[sIf,h,Res.toS,Cc];exact k
theorem u7 {α:Type}{I:Aa α -> qE->Sto->Prop}{xs:Aa α}(h:I xs env S):Wo (W9 I xs P) (.nx env S):=h
theorem zL {Q:D->Sto->Prop}(hs:y7 n ds=env)(h:Wo (D1 Q) (sf env S)):Ok (qY n sf ds S) Q:=by
 subst hs;unfold qY;unfold Wo at h;cases e:sf (y7 n ds) S <;> rw[e] at h <;> first|exact⟨_,_,rfl,h⟩|exact An h
end
abbrev Pt:=Am × Am
noncomputable def ptD (p:Pt):D:=.tup [.int p.1,.int p.2]
noncomputable def kP (p:Pt):Aa Am:=[p.1,p.2]
noncomputable def pK (k:Aa Am):Pt:=(k.getD 0 0,k.getD 1 0)
theorem bI (ps:Aa Pt):ps.map ptD=(ps.map kP).map tpD:=by
 rw[Fn];rfl
noncomputable def wZ (ps:Aa Pt):Aa Pt:=(_S.srt _H.lexLt (ps.map kP)).map pK
theorem dN {ks:Aa (Aa Am)}{ps:Aa Pt}(h:∀ k∈ks,k∈ps.map kP):ks.map tpD=(ks.map pK).map ptD/\(ks.map pK).map kP=ks:=by
 have e:∀ k∈ks,kP (pK k)=k:=λk hk=>by
  obtain⟨p,_,rfl⟩:=AW.mp (h k hk);rfl
 have e2:(ks.map pK).map kP=ks:=by
  rw[Fn]
  conv=>rhs;rw[<- Um ks]
  exact Ja e
 exact⟨by rw[bI,e2],e2⟩
theorem oE (ps:Aa Pt):∀ k∈_S.srt _H.lexLt (ps.map kP),k∈ps.map kP:=λk hk=>(_S.zR _S.uD k _).mp hk
theorem l8 {K:Type}(lt':K->K->Ap)(x:K):∀ l:Aa K,(_S.vA lt' x l).length<=l.length+1
 |[]=>by simp[_S.vA]
 |y::l=>by
  have:=l8 lt' x l;unfold _S.vA
  split
  .simp
  .split <;> simp <;> omega
theorem fY {K:Type}(lt':K->K->Ap):∀ l:Aa K,(_S.srt lt' l).length<=l.length
 |[]=>by simp[_S.srt]
 |x::l=>by
  have h1:=l8 lt' x (_S.srt lt' l);have h2:=fY lt' l;rw[_S.srt,Bk];omega
theorem XO (ps:Aa Pt):(wZ ps).length<=ps.length:=by
 unfold wZ;rw[AR];exact Ca (fY _ _) (by simp)
theorem dF (ps:Aa Pt)(hl:ps.length<=1000):vK (ps.map ptD)=Ab ((wZ ps).map ptD):=by
 unfold vK wZ;rw[<- (dN (oE ps)).1];cases ps with
 |nil=>rfl
 |cons p ps =>
  have h0:yI ((p::ps).map ptD)=none:=rfl;rw[h0,bI,u3];have h2:(((p::ps).map kP).all λk=>!k.isEmpty)=true:=by
   rw[IR,Bh];intro q _;rfl
  have h1:(_S.srt _H.lexLt ((p::ps).map kP)).length<=1000:=Ca (fY _ _) (by rw[AR];exact hl)
  exact AA (by rw[h2,CC h1];rfl)
theorem DH {Q:D->Sto->Prop}{f:DE}{env:qE}{S:Sto}(h:Ok (f env S) λd S1=>∃ ps:Aa Pt,hZ d S1=Ab (ps.map ptD)/\ps.length<=1000/\Q (.lst ((wZ ps).map ptD)) S1):Ok (vS false f env S) Q:=qZ (zE h λd S1 ⟨ps,e,l,q⟩=>⟨_,_,by rw[e,Option.bind_some,dF ps l];rfl,q⟩)
def InB (B:Am)(q:Pt):Prop:=-B<=q.1/\q.1<=B /\ -B<=q.2/\q.2<=B
instance (B:Am)(q:Pt):ER (InB B q):=by unfold InB;exact inferInstance
def vM (S:Sto)(p:Ah):Prop:=∃ v f:Am,S[p]? = Ab (.lst [.int v,.int f])
theorem U2 {S:Sto}(h:vM S p)(e:S<+:S'):vM S' p:=by
 obtain⟨v0,f0,hp⟩:=h;obtain⟨r,rfl⟩:=e;exact⟨v0,f0,by rw[AO (AQ.mp hp).1];exact hp⟩
structure Kp (p:Ah)(S S':Sto):Prop where
 pen:vM S' p
 len:S.length<=S'.length
 same:∀ m,m<S.length->m≠p->S'[m]? = S[m]?
theorem Kp.trans {S S2:Sto}(a:Kp p S S1)(b:Kp p S1 S2):Kp p S S2:=⟨b.pen,Ca a.len b.len,λm hm hp=>(b.same m (Au hm a.len) hp).trans (a.same m hm hp)⟩
theorem Kp.set {j:Ah}{S:Sto}(h:Kp p S S')(hj:S.length<=j)(m:MO)(hp:p≠j):Kp p S (S'.set j m):=by
 obtain⟨v,f,e⟩:=h.pen;exact⟨⟨v,f,by rw[By (Dw hp)];exact e⟩,by rw[Ry];exact h.len,λi hi hn=>by rw[By om];exact h.same i hi hn⟩
end _D
local macro_rules|`(tactic|array_get_dec)=>`(tactic| first | (with_reducible first | apply _D.L3 | apply _D.RT | apply _D.R8 | apply _D.o_2 | apply _D.o_c | apply _D.uQ | apply _D.WI | apply _D.SU | apply _D.R5 | apply _D.R6 | apply _D.TQ | apply _D.iC | apply _D.RE | apply _D.SZ | apply _D.DJ | apply _D.PQ | apply _D.RS | apply _D.w_t | apply _D.w_f | apply _D.R9 | apply _D.SS | apply _D.SR | apply _D.RB | apply _D.RU | apply _D.RA | apply _D.NZ | apply _D.RL | apply _D.RK | apply _D.RJ | apply _D.RH | apply _D.PP | apply _D.RM | apply _D.SN | apply _D.SO | apply _D.RP | apply _D.R4 | apply _D.RF | apply _D.RD | apply _D.SV | apply _D.RQ | apply _D.RG | apply _D.RI | apply _D.R7 | apply _D.SM | apply _D.RO | apply _D.VS | apply _D.SQ) | ((with_reducible apply _D.o_v); exact rfl) | ((with_reducible apply _D.RN); dsimp only [List.set_cons_succ, List.set_cons_zero]) | ((with_reducible (first | apply _D.SY | apply _D.SX | apply _D.SW)); omega) | ((with_reducible apply And.intro); (first | exact rfl | exact Nat.le_of_ble_eq_true rfl)) | ((with_reducible apply Exists.intro); (with_reducible apply And.intro); exact rfl) | ((with_reducible apply Exists.intro); (with_reducible apply Exists.intro); (with_reducible apply And.intro); exact rfl; dsimp only [List.set_cons_succ, List.set_cons_zero]) | ((with_reducible apply Exists.intro); (with_reducible apply Exists.intro); (with_reducible apply Exists.intro); (with_reducible apply And.intro); exact rfl; dsimp only [List.set_cons_succ, List.set_cons_zero]))
local macro_rules|`(tactic|rfl')=>`(tactic| repeat array_get_dec)
namespace _D
open PySem
def Pn (d:D):Prop:=∃ p,pyD d=Ab p
noncomputable def inR (a b:Am):D->Ap
 |.int i=>decide (a<=i/\i<=b)
 |_=>false
noncomputable def isW:D->Ap
 |.int _=>true
 |_=>false
noncomputable def isT:D->Ap
 |.tup _=>true
 |_=>false
theorem VR {Q:D->Sto->Prop}{fa fb fc:DE}{env:qE}{S:Sto}{a b c:Am}(h1:fa env S=.ok (.int a) S)(h2:fb env S=.ok (.int b) S)(h3:fc env S=.ok (.int c) S)(q:Q (.bl (decide (a<=b/\b<=c))) S):Ok (kJ gLe gLe fa fb fc env S) Q:=by
 refine⟨_,_,?_,q⟩;unfold kJ;rw[h1,Res.bind_ok,h2,Res.bind_ok];show (match yQ (.bl (decide (a<=b))) S with|some true=>(fc env S).bind λw S4=>gLe (.int b) w S4|some false=>Res.ok (.bl (decide (a<=b))) S|none=>.bad)=_
 by_cases h:a<=b
 .rw[CC h]
  show (fc env S).bind _=_;rw[h3];simp only[h,true_and];rfl
 .rw[Cq h,Cq λz=>h z.1]
  rfl
theorem iJ {S S':Sto}(h:∀ m,m<S.length->S'[m]? = S[m]?):S<+:S':=by
 rw[Ll];intro i hi;rw[h i hi,As hi]
end _D
namespace _K
open PySem PySem.Spec PyProof.Rows _L _D
noncomputable def top (i:Ah):CF:=Iq.main.body.getD i (.Pass ⟨0,0,0,0⟩)
structure Cl where
 (FarError NoPoint NoLot NoNumber NoCircle NoMarks NoFars NoText NoLine NoDeed Alike TooMany:Ad)
noncomputable def x8 (c:Cl):Aa Ad:=[c.NoPoint,c.NoLot,c.NoNumber,c.NoCircle,c.NoMarks,c.NoFars,c.NoText,c.NoLine,c.NoDeed,c.Alike,c.TooMany]
noncomputable def kD (c:Cl):Aa Ac:=[.ref c.NoPoint,.ref c.NoLot,.ref c.NoNumber,.ref c.NoCircle,.ref c.NoMarks,.ref c.NoFars,.ref c.NoText,.ref c.NoLine,.ref c.NoDeed]
noncomputable abbrev clt (c:Cl):Aa (Ar × Ad):=[("FarError",c.FarError),("NoPoint",c.NoPoint),("NoLot",c.NoLot),("NoNumber",c.NoNumber),("NoCircle",c.NoCircle),("NoMarks",c.NoMarks),("NoFars",c.NoFars),("NoText",c.NoText),("NoLine",c.NoLine),("NoDeed",c.NoDeed),("Alike",c.Alike),("TooMany",c.TooMany)]
noncomputable abbrev plt (c:Cl):Aa (Ar × Ad):=[("NoPoint",c.NoPoint),("NoLot",c.NoLot),("NoNumber",c.NoNumber),("NoCircle",c.NoCircle),("NoMarks",c.NoMarks),("NoFars",c.NoFars),("NoText",c.NoText),("NoLine",c.NoLine),("NoDeed",c.NoDeed)]
noncomputable abbrev cst:Aa (Ar × Am):=[]
noncomputable abbrev bl:Aa Ar:=["ValueError","all","bool","int","isinstance","len","list","range","set","sorted","str","tuple","zip"]
noncomputable abbrev tab:Aa (Ar × Ah × Aa Ar):=[("is_whole",14,["thing"]),("is_within",15,["thing","least","most"]),("need_within",16,["thing","least","most"]),("above_root",18,["number"]),("sum_ways",19,["number"]),("circle",21,["number"]),("_law_kinds",23,["_law_e"]),("_law_refused",24,["_law_call"]),("_law_same",25,["_law_found","_law_due"]),("_law_cell",26,["_law_script","_law_k"]),("_law_pen",27,["_law_cell_here"]),("_law_draw",28,["_law_pen_here","_law_many"]),("_law_no_number",29,["_law_pen_here","_law_low","_law_high"]),("_law_circle",30,["_law_number"]),("_law_rich",31,["_law_pen_here","_law_most"]),("_law_right",32,["_law_number"]),("law",33,["_law_script"])]
abbrev Txt (K:Ai)(mg:Ar->Ak Ac)(c:Cl):Prop:=TxS K mg top tab bl (clt c) (plt c) (kD c) (x8 c) cst
noncomputable abbrev GZ:Aa Ar:=["law"]
@[reducible] def b_is_whole:DS:=zA (p9 (qR zV (qA (qB 0) (qA (dC (.ty "int")) (qC)))) (Q8 (qR zV (qA (qB 0) (qA (dC (.ty "bool")) (qC))))))
@[irreducible] def S_is_whole:DF:=sh (qY 1 b_is_whole)
theorem jX:S_is_whole=qY 1 b_is_whole:=by delta S_is_whole;exact xG _
@[reducible] def b_is_within:DS:=zA (p9 (qU 1 S_is_whole (qA (qB 0) (qC))) (kJ gLe gLe (qB 1) (qB 0) (qB 2)))
@[irreducible] def S_is_within:DF:=sh (qY 3 b_is_within)
theorem uL:S_is_within=qY 3 b_is_within:=by delta S_is_within;exact xG _
@[reducible] def b_need_within (c:Cl):DS:=sIf (vR (dTr (qU 3 S_is_within (qA (qB 0) (qA (qB 1) (qA (qB 2) (qC))))))) (uU (.ref c.NoNumber) (qA (tK [dC (.str "a whole number from "),d1 uB (qB 1),dC (.str " to "),d1 uB (qB 2),dC (.str " is needed")]) (qC))) (zK)
@[irreducible] def S_need_within (c:Cl):DF:=sh (qY 3 (b_need_within c))
theorem wC (c:Cl):S_need_within c=qY 3 (b_need_within c):=by delta S_need_within;exact xG _
@[reducible] def b_above_root:DS:=zA (d2 l7 (dC (.int 1)) (d2 pB (d2 zS (nO "int" tP (qB 0)) (dC (.int 1))) (dC (.int 2))))
@[irreducible] def S_above_root:DF:=sh (qY 1 b_above_root)
theorem vP:S_above_root=qY 1 b_above_root:=by delta S_above_root;exact xG _
@[reducible] def b_sum_ways (c:Cl):DS:=qS (xY (qU 3 (S_need_within c) (qA (qB 0) (qA (dC (.int 0)) (qA (d2 v8 (dC (.int 10)) (dC (.int 9))) (qC)))))) (qS (zF (pU (qC)) (gNm 1)) (qS (zF (dC (.int 0)) (gNm 2)) (qS (zF (qU 1 S_above_root (qA (qB 0) (qC))) (gNm 3)) (qS (bO (dTr (d2 gLe (qB 2) (qB 3))) (qS (zF (d2 zS (d2 zZ (qB 2) (qB 2)) (d2 zZ (qB 3) (qB 3))) (gNm 4)) (qS (sIf (dTr (d2 gEq (qB 4) (qB 0))) (xY (dBm "list" wK (qB 1) (qA (x9 (qA (qB 2) (qA (qB 3) (qC)))) (qC)))) (zK)) (sIf (dTr (d2 gGt (qB 4) (qB 0))) (yP 3 xN (dC (.int 1))) (yP 2 pZ (dC (.int 1))))))) (zA (qB 1))))))
@[irreducible] def S_sum_ways (c:Cl):DF:=sh (qY 5 (b_sum_ways c))
theorem jY (c:Cl):S_sum_ways c=qY 5 (b_sum_ways c):=by delta S_sum_ways;exact xG _
@[reducible] def b_circle (c:Cl):DS:=qS (xY (qU 3 (S_need_within c) (qA (qB 0) (qA (dC (.int 0)) (qA (d2 v8 (dC (.int 10)) (dC (.int 6))) (qC)))))) (qS (zF (qU 1 (S_sum_ways c) (qA (qB 0) (qC))) (gNm 1)) (qS (zF (d2 gD (qB 1) (w8 false [none,none] (dIt (qB 1)) (gTp 2 (xO (gNm 0) (xO (gNm 1) (jI)))) (wF) (xW (x9 (qA (qB 1) (qA (qB 0) (qC))))))) (gNm 2)) (zA (tL (uO true) [none,none,none,none] (dIt (qB 2)) (gTp 2 (xO (gNm 0) (xO (gNm 1) (jI)))) (wF) (kIn (dIt (x9 (qA (d1 fG (qB 0)) (qA (qB 0) (qC))))) (gNm 2) (wF) (kIn (dIt (x9 (qA (d1 fG (qB 1)) (qA (qB 1) (qC))))) (gNm 3) (wF) (vC xZ (x9 (qA (qB 2) (qA (qB 3) (qC)))))))))))
@[irreducible] def S_circle (c:Cl):DF:=sh (qY 3 (b_circle c))
theorem u9 (c:Cl):S_circle c=qY 3 (b_circle c):=by delta S_circle;exact xG _
@[reducible] def b__law_kinds (c:Cl):DS:=qS (zF (xC (qA (qR (zH (x8 c)) (qA (qB 0) (qA (dC (.obj c.NoPoint)) (qC)))) (qA (qR (zH (x8 c)) (qA (qB 0) (qA (dC (.obj c.NoLot)) (qC)))) (qA (qR (zH (x8 c)) (qA (qB 0) (qA (dC (.obj c.NoNumber)) (qC)))) (qC))))) (gNm 1)) (qS (zF (d2 zS (qB 1) (xC (qA (qR (zH (x8 c)) (qA (qB 0) (qA (dC (.obj c.NoCircle)) (qC)))) (qA (qR (zH (x8 c)) (qA (qB 0) (qA (dC (.obj c.NoMarks)) (qC)))) (qA (qR (zH (x8 c)) (qA (qB 0) (qA (dC (.obj c.NoFars)) (qC)))) (qC)))))) (gNm 1)) (qS (zF (d2 zS (qB 1) (xC (qA (qR (zH (x8 c)) (qA (qB 0) (qA (dC (.obj c.NoText)) (qC)))) (qA (qR (zH (x8 c)) (qA (qB 0) (qA (dC (.obj c.NoLine)) (qC)))) (qA (qR (zH (x8 c)) (qA (qB 0) (qA (dC (.obj c.NoDeed)) (qC)))) (qC)))))) (gNm 1)) (qS (zF (d2 zS (qB 1) (xC (qA (qR (zH (x8 c)) (qA (qB 0) (qA (dC (.obj c.Alike)) (qC)))) (qA (qR (zH (x8 c)) (qA (qB 0) (qA (dC (.obj c.TooMany)) (qC)))) (qC))))) (gNm 1)) (qS (sIf (nP (vR (dTr (qR (zH (x8 c)) (qA (qB 0) (qA (dC (.ty "ValueError")) (qC)))))) (dTr (d2 gNe (dBm "list" b0 (qB 1) (qA (dC (.bl true)) (qC))) (dC (.int 1))))) (zA (dC (.str "other"))) (zK)) (qS (sIf (dTr (qR (zH (x8 c)) (qA (qB 0) (qA (dC (.obj c.Alike)) (qC))))) (zA (x9 (qA (dC (.str "alike")) (qA (kH) (qA (kH) (qA (kH) (qA (kH) (qC)))))))) (zK)) (qS (sIf (dTr (qR (zH (x8 c)) (qA (qB 0) (qA (dC (.obj c.TooMany)) (qC))))) (zA (x9 (qA (dC (.str "many")) (qA (kH) (qA (kH) (qC)))))) (zK)) (qS (zF (xC (qA (dC (.str "point")) (qA (dC (.str "lot")) (qA (dC (.str "number")) (qA (dC (.str "circle")) (qA (dC (.str "marks")) (qA (dC (.str "fars")) (qA (dC (.str "text")) (qA (dC (.str "line")) (qA (dC (.str "deed")) (qC))))))))))) (gNm 2)) (zA (d2 gIx (qB 2) (dBm "list" b7 (qB 1) (qA (dC (.bl true)) (qC))))))))))))
@[irreducible] def S__law_kinds (c:Cl):DF:=sh (qY 3 (b__law_kinds c))
theorem vN (c:Cl):S__law_kinds c=qY 3 (b__law_kinds c):=by delta S__law_kinds;exact xG _
@[reducible] def b__law_refused (c:Cl)(G:Aa D->DF)(a:Ad)(cv:Aa V):DS:=qS (pN 2 1 (kD c) (xY (jA 0 (qC) a cv 0 G)) (zA (qU 1 (S__law_kinds c) (qA (qB 1) (qC))))) (zA (dC (.str "told")))
@[reducible] def b__law_same (S__law_same:DF):DS:=qS (sIf (dTr (d2 gIs (qB 1) (dC .non))) (zA (d2 gIs (qB 0) (dC .non))) (zK)) (qS (sIf (dTr (qR jE (qA (qB 1) (qA (x9 (qA (dC (.ty "list")) (qA (dC (.ty "tuple")) (qC)))) (qC))))) (qS (sIf (dTr (d2 gNe (qR zV (qA (qB 1) (qA (dC (.ty "list")) (qC)))) (qR zV (qA (qB 0) (qA (dC (.ty "list")) (qC)))))) (zA (dC (.bl false))) (zK)) (qS (sIf (nP (dTr (d2 gNe (qR zV (qA (qB 1) (qA (dC (.ty "tuple")) (qC)))) (qR zV (qA (qB 0) (qA (dC (.ty "tuple")) (qC)))))) (dTr (d2 gNe (qR jF (qA (qB 0) (qC))) (qR jF (qA (qB 1) (qC)))))) (zA (dC (.bl false))) (zK)) (zA (qR (fD false) (qA (w8 false [none,none] (bH (eA (qA (qB 0) (qA (qB 1) (qC))))) (gTp 2 (xO (gNm 0) (xO (gNm 1) (jI)))) (wF) (xW (qU 2 (okO S__law_same) (qA (qB 0) (qA (qB 1) (qC)))))) (qC)))))) (zK)) (qS (sIf (dTr (qR zV (qA (qB 1) (qA (dC (.ty "str")) (qC))))) (zA (p9 (qR zV (qA (qB 0) (qA (dC (.ty "str")) (qC)))) (d2 gEq (qB 0) (qB 1)))) (zK)) (qS (sIf (dTr (d2 gNe (qR zV (qA (qB 0) (qA (dC (.ty "bool")) (qC)))) (qR zV (qA (qB 1) (qA (dC (.ty "bool")) (qC)))))) (zA (dC (.bl false))) (zK)) (zA (p9 (qR zV (qA (qB 0) (qA (dC (.ty "int")) (qC)))) (d2 gEq (qB 0) (qB 1)))))))
def bP:Ah->DF
 |0=>λ_ _=>.bad
 |n+1=>qY 2 (b__law_same (bP n))
@[irreducible] def S__law_same:DF:=sh (bP 4)
theorem uK:S__law_same=bP 4:=by delta S__law_same;exact xG _
@[reducible] def b__law_cell:DS:=qS (sIf (dTr (d2 gLt (qB 1) (qR jF (qA (qB 0) (qC))))) (zA (d2 gIx (qB 0) (qB 1))) (zK)) (zA (dC (.int 0)))
@[irreducible] def S__law_cell:DF:=sh (qY 2 b__law_cell)
theorem uH:S__law_cell=qY 2 b__law_cell:=by delta S__law_cell;exact xG _
@[reducible] def b__law_pen:DS:=zA (pU (qA (qB 0) (qA (qR eG (qA (d2 gGe (qB 0) (d2 v8 (dC (.int 10)) (dC (.int 18)))) (qC))) (qC))))
@[irreducible] def S__law_pen:DF:=sh (qY 1 b__law_pen)
theorem jW:S__law_pen=qY 1 b__law_pen:=by delta S__law_pen;exact xG _
@[reducible] def b__law_draw:DS:=qS (sIf (dTr (d2 gEq (d2 gIx (qB 0) (dC (.int 1))) (dC (.int 1)))) (qS (zF (d2 jG (d2 gIx (qB 0) (dC (.int 0))) (qB 1)) (gNm 2)) (qS (zF (d2 pB (d2 gIx (qB 0) (dC (.int 0))) (qB 1)) (gSb (qB 0) (dC (.int 0)) wA)) (zA (qB 2)))) (zK)) (qS (zF (d2 jG (d2 zS (d2 zZ (d2 jG (d2 gIx (qB 0) (dC (.int 0))) (dC (.int 2147483629))) (dC (.int 48271))) (dC (.int 11))) (dC (.int 2147483629))) (gSb (qB 0) (dC (.int 0)) wA)) (zA (d2 jG (d2 pB (d2 jG (d2 zS (d2 zZ (d2 gIx (qB 0) (dC (.int 0))) (d2 gIx (qB 0) (dC (.int 0)))) (d2 zZ (dC (.int 40692)) (d2 gIx (qB 0) (dC (.int 0))))) (dC (.int 2147483647))) (dC (.int 8))) (qB 1))))
@[irreducible] def S__law_draw:DF:=sh (qY 3 b__law_draw)
theorem uI:S__law_draw=qY 3 b__law_draw:=by delta S__law_draw;exact xG _
@[reducible] def b__law_no_number:DS:=qS (zF (xC (qA (d2 xN (qB 1) (dC (.int 1))) (qA (d2 zS (qB 2) (dC (.int 1))) (qA (d2 xN (d2 xN (dC (.int 0)) (qB 2)) (dC (.int 1))) (qA (d2 zS (d2 zS (qB 2) (dC (.int 1))) (qU 2 S__law_draw (qA (qB 0) (qA (d2 v8 (dC (.int 10)) (dC (.int 9))) (qC))))) (qA (dC (.bl true)) (qC))))))) (gNm 3)) (qS (zF (d2 zS (qB 3) (xC (qA (dC (.bl false)) (qC)))) (gNm 3)) (zA (d2 gIx (d2 zS (qB 3) (xC (qA (dC .non) (qA (dC (.str "1")) (qA (x9 (qA (dC (.int 1)) (qC))) (qA (xC (qA (dC (.int 1)) (qC))) (qA (tJ) (qA (d2 v8 (dC (.int 10)) (dC (.int 29))) (qC))))))))) (qU 2 S__law_draw (qA (qB 0) (qA (dC (.int 12)) (qC)))))))
@[irreducible] def S__law_no_number:DF:=sh (qY 4 b__law_no_number)
theorem yB:S__law_no_number=qY 4 b__law_no_number:=by delta S__law_no_number;exact xG _
@[reducible] def b__law_circle:DS:=qS (fX 1 2 (qA (rZ) (qA (xC (qC)) (qC)))) (qS (jU (kK (qA (dC (.int 1001)) (qC))) (gNm 3) (zF (qB 3) (gSb (qB 1) (d2 zZ (qB 3) (qB 3)) wA))) (qS (jU (kK (qA (dC (.int 1001)) (qC))) (gNm 4) (sIf (dTr (d2 fF (d2 xN (qB 0) (d2 zZ (qB 4) (qB 4))) (qB 1))) (qS (zF (d2 pC (qB 1) (d2 xN (qB 0) (d2 zZ (qB 4) (qB 4)))) (gNm 5)) (qS (zF (d2 zS (qB 2) (xC (qA (x9 (qA (qB 4) (qA (qB 5) (qC)))) (qA (x9 (qA (d2 xN (dC (.int 0)) (qB 4)) (qA (qB 5) (qC)))) (qA (x9 (qA (qB 4) (qA (d2 xN (dC (.int 0)) (qB 5)) (qC)))) (qC)))))) (gNm 2)) (zF (d2 zS (qB 2) (xC (qA (x9 (qA (d2 xN (dC (.int 0)) (qB 4)) (qA (d2 xN (dC (.int 0)) (qB 5)) (qC)))) (qC)))) (gNm 2)))) (zK))) (zA (vS false (qB 2)))))
@[irreducible] def S__law_circle:DF:=sh (qY 6 b__law_circle)
theorem yV:S__law_circle=qY 6 b__law_circle:=by delta S__law_circle;exact xG _
@[reducible] def b__law_rich:DS:=qS (zF (dC (.int 1)) (gNm 2)) (qS (jU (kK (qA (d2 zS (dC (.int 1)) (qU 2 S__law_draw (qA (qB 0) (qA (dC (.int 6)) (qC))))) (qC))) (gNm 3) (qS (zF (d2 gIx (xC (qA (dC (.int 2)) (qA (dC (.int 5)) (qA (dC (.int 13)) (qA (dC (.int 17)) (qA (dC (.int 4)) (qA (dC (.int 9)) (qA (dC (.int 5)) (qA (dC (.int 29)) (qC)))))))))) (qU 2 S__law_draw (qA (qB 0) (qA (dC (.int 8)) (qC))))) (gNm 4)) (sIf (dTr (d2 gLe (d2 zZ (qB 2) (qB 4)) (qB 1))) (zF (d2 zZ (qB 2) (qB 4)) (gNm 2)) (zK)))) (zA (qB 2)))
@[irreducible] def S__law_rich:DF:=sh (qY 5 b__law_rich)
theorem uJ:S__law_rich=qY 5 b__law_rich:=by delta S__law_rich;exact xG _
@[reducible] def b__law_right (c:Cl):DS:=qS (zF (qU 1 S__law_circle (qA (qB 0) (qC))) (gNm 1)) (qS (jU (kK (qA (dC (.int 2)) (qC))) (gNm 2) (qS (zF (qU 1 (S_circle c) (qA (qB 0) (qC))) (gNm 3)) (qS (sIf (vR (dTr (qU 2 (vV S__law_same) (qA (qB 3) (qA (qB 1) (qC)))))) (zA (dC (.bl false))) (zK)) (qS (xY (dBm "list" wK (qB 3) (qA (x9 (qC)) (qC)))) (xY (nO "list" v9 (qB 3))))))) (zA (dC (.bl true))))
@[irreducible] def S__law_right (c:Cl):DF:=sh (qY 4 (b__law_right c))
theorem vO (c:Cl):S__law_right c=qY 4 (b__law_right c):=by delta S__law_right;exact xG _
@[reducible] def b_law (c:Cl):DS:=qS (sIf (vR (dTr (qR (fD false) (qA (w8 false [none] (dIt (x9 (qA (dC (.int 0)) (qA (dC (.int 1)) (qA (dC (.int 2)) (qA (dC (.int 3)) (qA (dC (.int 25)) (qA (dC (.int 325)) (qA (d2 v8 (dC (.int 10)) (dC (.int 6))) (qA (dC (.int 999999)) (qA (dC (.int 801125)) (qC)))))))))))) (gNm 0) (wF) (xW (qU 1 (okO (S__law_right c)) (qA (qB 0) (qC))))) (qC))))) (zA (dC (.bl false))) (zK)) (qS (jU (uN (d2 zS (xC (qA (qU 2 S__law_cell (qA (qB 0) (qA (dC (.int 0)) (qC)))) (qC))) (dSl (qB 0) (yY (dC (.int 1))) (yY (dC (.int 6)))))) (gNm 2) (qS (zF (qU 1 S__law_pen (qA (qB 2) (qC))) (gNm 3)) (qS (fX 4 5 (qA (qU 2 S__law_draw (qA (qB 3) (qA (dC (.int 700)) (qC)))) (qA (qU 2 S__law_draw (qA (qB 3) (qA (dC (.int 700)) (qC)))) (qC)))) (qS (zF (xC (qA (d2 zS (d2 zZ (qB 4) (qB 4)) (d2 zZ (qB 5) (qB 5))) (qA (qU 2 S__law_rich (qA (qB 3) (qA (d2 v8 (dC (.int 10)) (dC (.int 6))) (qC)))) (qA (qU 2 S__law_draw (qA (qB 3) (qA (dC (.int 200)) (qC)))) (qC))))) (gNm 6)) (qS (jU (uN (d2 zS (qB 6) (xC (qA (qU 2 S__law_draw (qA (qB 3) (qA (d2 zS (d2 v8 (dC (.int 10)) (dC (.int 6))) (dC (.int 1))) (qC)))) (qC))))) (gNm 1) (sIf (vR (dTr (qU 1 (S__law_right c) (qA (qB 1) (qC))))) (zA (dC (.bl false))) (zK))) (qS (zF (qU 3 S__law_no_number (qA (qB 3) (qA (dC (.int 0)) (qA (d2 v8 (dC (.int 10)) (dC (.int 6))) (qC))))) (gNm 7)) (sIf (dTr (d2 gNe (kI false [7] 1 2 (qC) (b__law_refused c (pH (qU 1 (S_circle c) (qA (qB 0) (qC)))))) (dC (.str "number")))) (zA (dC (.bl false))) (zK)))))))) (zA (dC (.bl true))))
end _K
namespace _K
open PySem _D
variable {cl:Aa Ad}{acc:Aa D}{ps fd:Aa Pt}{C:Ad}{i:Ah}{d:D}{Q:D->Sto->Prop}{P:Out->Prop}{S:Sto}{env:qE}
theorem UM (h:Pn d)(S:Sto):S_is_whole [d] S=.ok (.bl (isW d)) S:=by
 rw[jX];obtain⟨p,h⟩:=h;cases d <;> first|kernel_rfl!|simp[pyD] at h
theorem lL (h:Pn d)(a b:Am)(S:Sto):S_is_within [d,.int a,.int b] S=.ok (.bl (inR a b d)) S:=by
 rw[uL];refine wU (zL (env:=[Ab d,Ab (.int a),Ab (.int b)]) rfl ?_);rfl';refine WE ?_;rfl';refine qW (UM h S) ⟨_,rfl,λe=>?_,λe=>?_⟩
 .cases d with
  |int i=>exact VR rfl rfl rfl ⟨rfl,rfl⟩
  |_=>cases e
 .cases d <;> first|exact⟨rfl,rfl⟩|cases e
theorem sQ (c:Cl){i a b:Am}(S:Sto)(h:a<=i/\i<=b):S_need_within c [.int i,.int a,.int b] S=.ok .non S:=by
 rw[wC];refine wU (zL (env:=[Ab (.int i),Ab (.int a),Ab (.int b)]) rfl ?_);rfl';refine qW (lL ⟨.int i,rfl⟩ a b S) ?_;rw[show inR a b (.int i)=true from CC h]
 rfl';exact⟨rfl,rfl⟩
theorem aF (a:Am)(S:Sto)(h:a.natAbs.log2<1920):uB (.int a) S=.ok (.str (toString a)) S:=by
 unfold uB;simp only[h,Cc]
noncomputable def PF (a b:Am):Aa Ar:=[Hb++("a whole number from " : Ar),Hb++("a whole number from " : Ar)++((toString a:Bp):Ar),Hb++("a whole number from " : Ar)++((toString a:Bp):Ar)++(" to " : Ar),Hb++("a whole number from " : Ar)++((toString a:Bp):Ar)++(" to " : Ar)++((toString b:Bp):Ar),Hb++("a whole number from " : Ar)++((toString a:Bp):Ar)++(" to " : Ar)++((toString b:Bp):Ar)++(" is needed" : Ar)]
noncomputable def WB (a b:Am):Ap:=decide (a.natAbs.log2<1920)&&decide (b.natAbs.log2<1920)&&(PF a b).all λm=>decide (m.length<=lim)
theorem kN {out y:Ar}{p:DE}{ps:Aa DE}{S1:Sto}(h:p env S=.ok (.str y) S1)(hl:(out++y).length<=lim):jL out (p::ps) env S=jL (out++y) ps env S1:=by
 show ((p env S).bind λd S1=>match d with|.str y=>if (out++y).length<=lim then jL (out++y) ps env S1 else .bad|_=>.bad)=_
 rw[h];exact AA hl
theorem UN {v:Ac}{f:DE}{y:Ar}(h:f env S=.ok (.str y) S):uU v (qA f (qC)) env S=.ex v .non env S:=by
 unfold uU;rw[K2 h];show (if ([D.str y]:Aa D).length<=lim then Out.ex v D.non env S else Out.bad)=_
 exact AA (Cz rfl)
theorem VM (c:Cl){d:D}{a b:Am}(S:Sto)(hm:WB a b=true)(h:Pn d)(k:inR a b d=false):S_need_within c [d,.int a,.int b] S=.ex (.ref c.NoNumber) .non S:=by
 simp only[WB,PF,Km,List.all_nil,AF,Tk,AY] at hm;obtain⟨⟨la,lb⟩,j1,j2,j3,j4,j5⟩:=hm;have hj:tK [dC (.str "a whole number from "),d1 uB (qB 1),dC (.str " to "),d1 uB (qB 2),dC (.str " is needed")] [Ab d,Ab (.int a),Ab (.int b)] S=.ok (.str (Hb++("a whole number from " : Ar)++((toString a:Bp):Ar)++(" to " : Ar)++((toString b:Bp):Ar)++(" is needed" : Ar))) S:=
  (kN rfl j1).trans ((kN (aF a S la) j2).trans ((kN rfl j3).trans ((kN (aF b S lb) j4).trans ((kN rfl j5).trans (AA j5)))))
 rw[wC];refine o9 (env:=[Ab d,Ab (.int a),Ab (.int b)]) (env':=[Ab d,Ab (.int a),Ab (.int b)]) rfl ?_;refine MY (wU (PQ (DJ (iC (uQ (o_v rfl (uQ (o_v rfl (uQ (o_v rfl (WI ⟨rfl,qW ((lL h a b S).trans (by rw[k])) ⟨_,rfl,rfl,rfl⟩⟩))))))))))) ?_
 exact UN hj
theorem yL {p:Ah}{m:Am}(h:vM S p)(hm:0<m/\m<1073741824)(q:∀ (r:Ah) S1,Kp p S S1->(r:Am)<m->Q (.int r) S1):Ok (S__law_draw [.loc p,.int m] S) Q:=by
 have fin:∀ r v f:Am,0<=r->r<m->Q (.int r) (S.set p (.lst [.int v,.int f])):=λr v f h0 h1=>by
  obtain⟨r,rfl⟩:=Int.eq_ofNat_of_zero_le h0;obtain⟨v0,f0,e⟩:=h;have hpl:=(AQ.mp e).1;exact q r _ ⟨⟨v,f,by simp[hpl]⟩,by simp,λi hi hn=>By (Dw hn)⟩ h1
 obtain⟨v,f,e⟩:=h;have hpl:=(AQ.mp e).1;rw[uI];refine zL (env:=[Ab (.loc p),Ab (.int m),none]) rfl ?_;rfl';refine jQ e (d:=.int f) rfl ?_;rfl';refine yT (λz=>?_) λz=>?_
 .rfl'
  refine jQ e (d:=.int v) rfl ?_;rfl';refine jQ e (d:=.int v) rfl ?_;rfl';refine iE e rfl ?_;rfl';exact fin _ _ _ (Ho _ om) (Fu _ hm.1)
 .rfl'
  refine jQ e (d:=.int v) rfl ?_;have hv:=Ho v (show (2147483629:Am)≠0 by omega)
  have hv':=Fu v (show (0:Am)<2147483629 by omega)
  rfl';have hw:=Ho (v % 2147483629*48271+11) (show (2147483629:Am)≠0 by omega)
  have hw':=Fu (v % 2147483629*48271+11) (show (0:Am)<2147483629 by omega)
  generalize (v % 2147483629*48271+11) % 2147483629=w at hw hw';refine iE e rfl ?_;have e2:(S.set p (MO.lst [.int w,.int f]))[p]? = Ab (.lst [.int w,.int f]):=by simp[hpl]
  rfl';refine jQ e2 (d:=.int w) rfl ?_;rfl';refine jQ e2 (d:=.int w) rfl ?_;rfl';refine jQ e2 (d:=.int w) rfl ?_;rfl';exact fin _ _ _ (Ho _ om) (Fu _ hm.1)
theorem TR {x:Am}(q:∀ p S1,vM S1 p->Q (.loc p) S1):Ok (S__law_pen [.int x] S) Q:=by
 rw[jW];refine zL (env:=[Ab (.int x)]) rfl ?_;rfl';refine qW (d:=.int 1000000000000000000) rfl ?_;rfl';refine qW (d:=.int (b01 (decide (1000000000000000000<=x)))) rfl ?_;rfl';exact q _ _ ⟨_,_,uM _ _⟩
theorem TF (nd:cl.Nodup){i j:Ah}{a b:Ad}(ha:cl[i]? = Ab a)(hb:cl[j]? = Ab b)(h:i≠j):(a == b)=false:=by
 rw[IT];rintro rfl;obtain⟨h1,e1⟩:=AQ.mp ha;obtain⟨h2,e2⟩:=AQ.mp hb;exact h ((Lo nd).mp (e1.trans e2.symm))
theorem TL {B:Ad}(hC:C∈cl)(hB:B∈cl)(q:Q (.bl (C == B)) S):Ok (zH cl [.exn (.ref C),.obj B] S) Q:=by
 refine⟨_,_,?_,q⟩;show (if (cl.contains C&&cl.contains B)=true then Res.ok (D.bl (C == B)) S else .bad)=_
 rw[De.mpr hC,De.mpr hB];rfl
theorem TM (hC:C∈cl)(q:Q (.bl true) S):Ok (zH cl [.exn (.ref C),.ty "ValueError"] S) Q:=by
 refine⟨_,_,?_,q⟩;show (if (cl.contains C&&(("ValueError" : Bp) == "ValueError"))=true then Res.ok (D.bl true) S else .bad)=_
 rw[De.mpr hC];rfl
theorem TC (nd:cl.Nodup){i j:Ah}{a b:Ad}(ha:cl[i]? = Ab a)(hb:cl[j]? = Ab b):decide (i=j)=(a == b):=by
 by_cases h:i=j
 .subst h
  cases ha.symm.trans hb;rw[CC rfl,Do]
 .rw[Cq h,TF nd ha hb h]
theorem fL (c:Cl)(nd:(x8 c).Nodup)(S:Sto):S__law_kinds c [.exn (.ref c.NoNumber)] S=.ok (.str "number") S:=by
 have s:∀ {Q:D->Sto->Prop} (j:Ah) {B:Ad},(x8 c)[j]? = Ab B->Q (.bl (decide (2=j))) S->Ok (zH (x8 c) [.exn (.ref c.NoNumber),.obj B] S) Q:=λj B h q=>TL (AM (i:=2) rfl) (AM h) (TC nd (i:=2) rfl h▸q);rw[vN];refine wU (zL (env:=[Ab (.exn (.ref c.NoNumber)),none,none]) rfl ?_);rfl';refine s 0 rfl ?_;rfl';refine s 1 rfl ?_;rfl';refine s 2 rfl ?_;rfl';refine s 3 rfl ?_;rfl';refine s 4 rfl ?_;rfl';refine s 5 rfl ?_;rfl';refine wQ (Cz rfl) ?_;rfl';refine s 6 rfl ?_;rfl';refine s 7 rfl ?_;rfl';refine s 8 rfl ?_;rfl';refine wQ (Cz rfl) ?_;rfl';refine s 9 rfl ?_;rfl';refine s 10 rfl ?_;rfl';refine wQ (Cz rfl) ?_;rfl';refine WJ ?_;rfl';refine TM (AM (i:=2) rfl) ?_;rfl';refine⟨(λe=>by cases e),λ_=>?_⟩
 rfl';refine qW (d:=.int 1) (S:=S) (by kernel_rfl!) ?_
 rfl';refine yT (λ_=>?_) λe=>absurd rfl e;rfl';refine s 9 rfl ?_;rfl';refine yT (λe=>absurd e (by decide)) λ_=>?_
 rfl';refine s 10 rfl ?_;rfl';refine yT (λe=>absurd e (by decide)) λ_=>?_
 rfl';refine qW (d:=.int 2) (S:=S) (by kernel_rfl!) ?_
 exact eW (d:=.str "number") rfl ⟨rfl,rfl⟩
noncomputable def sq (b:Ap)(ws:Aa D):D:=match b with
 |true=>.tup ws
 |false=>.lst ws
theorem XW (ws:Aa D):vL ws ws=ws.map λx=>D.tup [x,x]:=by
 induction ws with
 |nil=>rfl
 |cons w ws ih=>exact congrArg (D.tup [w,w]::·) ih
theorem lQ (F:DF)(b:Ap)(ws:Aa D)(S:Sto)(hw:ws.length<=lim)(ih:∀ x∈ws,F [x,x] S=.ok (.bl true) S):qY 2 (b__law_same F) [sq b ws,sq b ws] S=.ok (.bl true) S:=by
 have t1:zV [sq b ws,.ty "list"] S=.ok (.bl (!b)) S:=by cases b <;> kernel_rfl!
 have t2:zV [sq b ws,.ty "tuple"] S=.ok (.bl b) S:=by cases b <;> kernel_rfl!
 have t3:jE [sq b ws,.tup [.ty "list",.ty "tuple"]] S=.ok (.bl true) S:=by cases b <;> kernel_rfl!
 have l:jF [sq b ws] S=.ok (.int ws.length) S:=by cases b <;> rfl
 have n:∀ x:Ap,gNe (.bl x) (.bl x) S=.ok (.bl false) S:=λx=>by cases x <;> rfl
 have hz:bH (eA (qA (qB 0) (qA (qB 1) (qC)))) [Ab (sq b ws),Ab (sq b ws)] S=.ok (none,ws.map λx=>D.tup [x,x]) S:=by
  rw[<- XW];cases b <;> rfl
 refine wU (zL (env:=[Ab (sq b ws),Ab (sq b ws)]) rfl ?_);rfl';refine qW (d:=.bl false) (S:=S) (by cases b <;> rfl) ?_
 rfl';refine qW t3 ?_;rfl';refine qW t1 ?_;rfl';refine qW t1 ?_;rfl';refine qW (n _) ?_;rfl';refine WJ ?_;rfl';refine qW t2 ?_;rfl';refine qW t2 ?_;rfl';refine qW (n _) ?_;rfl';refine⟨(λe=>by cases e),λ_=>?_⟩
 rfl';refine qW l ?_;rfl';refine qW l ?_;rfl';refine yT (λ_=>?_) λe=>absurd rfl e;rfl';refine iD ws (λ_=>.bl true) (λenv S'=>S'=S/\∃ a b,env=[a,b]) hz ⟨rfl,none,none,rfl⟩ hw (λ_ _ _=>trivial) (λx hx env S' ⟨e1,a,b,e2⟩=>?_) λenv S' ⟨e1,_⟩=>?_
 .subst e1 e2
  rfl';exact qW (ih x hx) ⟨rfl,rfl,_,_,rfl⟩
 .subst e1
  rfl';exact WD (p:=λ_=>true) ⟨by simp,rfl⟩
theorem gN (F:DF){d:D}(S:Sto)(h1:gIs d .non S=.ok (.bl false) S)(h2:jE [d,.tup [.ty "list",.ty "tuple"]] S=.ok (.bl false) S)(h3:zV [d,.ty "str"] S=.ok (.bl false) S){b:Ap}(h4:zV [d,.ty "bool"] S=.ok (.bl b) S)(h5:zV [d,.ty "int"] S=.ok (.bl true) S)(h6:gEq d d S=.ok (.bl true) S):qY 2 (b__law_same F) [d,d] S=.ok (.bl true) S:=by
 refine wU (zL (env:=[Ab d,Ab d]) rfl ?_);rfl';refine qW h1 ?_;rfl';refine qW h2 ?_;rfl';refine qW h3 ?_;rfl';refine qW h4 ?_;rfl';refine qW h4 ?_;rfl';refine qW (d:=.bl false) (S:=S) (by cases b <;> rfl) ?_
 rfl';refine WE ?_;rfl';refine qW h5 ⟨_,rfl,λ_=>?_,λe=>by cases e⟩
 rfl';exact qW h6 ⟨rfl,rfl⟩
def okD:Ah->D->Prop
 |n+1,.tup xs=>xs.length<=lim/\∀ x∈xs,okD n x
 |n+1,.lst xs=>xs.length<=lim/\∀ x∈xs,okD n x
 |_,.int _=>HX
 |_,.bl _=>HX
 |_,_=>CA
theorem oA:∀ (n:Ah) (d:D) (S:Sto),okD n d->bP (n+1) [d,d] S=.ok (.bl true) S:=by
 intro n
 induction n with
 |zero =>
  intro d S h;cases d with
  |int i=>exact gN _ S rfl (by kernel_rfl!) (by kernel_rfl!) (b:=false) (by kernel_rfl!) (by kernel_rfl!) (wU (PP ⟨by rw[CC rfl],rfl⟩))
  |bl b=>exact gN _ S rfl (by kernel_rfl!) (by kernel_rfl!) (b:=true) (by kernel_rfl!) (by kernel_rfl!) (by cases b <;> rfl)
  |_=>exact An h
 |succ n ih =>
  intro d S h;cases d with
  |tup ws=>exact lQ _ true ws S h.1 λx hx=>ih x S (h.2 x hx)
  |lst ws=>exact lQ _ false ws S h.1 λx hx=>ih x S (h.2 x hx)
  |int i=>exact gN _ S rfl (by kernel_rfl!) (by kernel_rfl!) (b:=false) (by kernel_rfl!) (by kernel_rfl!) (wU (PP ⟨by rw[CC rfl],rfl⟩))
  |bl b=>exact gN _ S rfl (by kernel_rfl!) (by kernel_rfl!) (b:=true) (by kernel_rfl!) (by kernel_rfl!) (by cases b <;> rfl)
  |_=>exact An h
theorem FM (S:Sto)(h:okD 3 d):S__law_same [d,d] S=.ok (.bl true) S:=by
 rw[uK];exact oA 3 d S h
theorem LY {a:Ad}{cv:Aa _L.V}{G:Aa D->DF}{caps:Aa D}(h:env[i]? = Ab (Ab (.clo a cv caps))):jA i (qC) a cv 0 G env S=G caps [] S:=by
 unfold jA;rw[h];show (if a=a/\cv=cv then _ else _)=_
 rw[AA ⟨rfl,rfl⟩];rfl
theorem TU {c:Cl}{wd:Ar}{cap:Aa Ah}{fe:DE}(hC:(kD c).contains (.ref C)=true)(hk:∀ S,S__law_kinds c [.exn (.ref C)] S=.ok (.str wd) S){caps:Aa D}(h:p6 cap env=Ab caps){x:D}(e:fe (caps.map Ab) S=.ex (.ref C) x S)(q:Q (.str wd) S):Ok (kI false cap 1 2 (qC) (b__law_refused c (pH fe)) env S) Q:=by
 refine⟨_,_,?_,q⟩;unfold kI;rw[h];show (if 0+1=1 then exO false (uni λa cv=>qY 2 (b__law_refused c (pH fe) a cv) [.clo a cv caps] S) else .bad)=_
 rw[AA rfl,M0 (R:=.ok (.str wd) S) λa cv=>?_]
 .rfl
 .have e':jA 0 (qC) a cv 0 (pH fe) [Ab (.clo a cv caps),none] S=.ex (.ref C) x S:=(LY rfl).trans (by unfold pH;exact e)
  refine wU (zL (env:=[Ab (.clo a cv caps),none]) rfl ?_);refine L3 ?_;have k:pN 2 1 (kD c) (xY (jA 0 (qC) a cv 0 (pH fe))) (zA (qU 1 (S__law_kinds c) (qA (qB 1) (qC)))) [Ab (.clo a cv caps),none] S=.rt (.str wd) S:=by
   unfold pN xY;rw[e'];simp only[Res.toS,hC,Cc];have z:qU 1 (S__law_kinds c) (qA (qB 1) (qC)) ((EB 2 none).set 1 (Ab (.exn (.ref C)))) S=.ok (.str wd) S:=(W1 rfl).trans (hk S);simp only[zA,z,Res.toS]
  rw[k];exact⟨rfl,rfl⟩
theorem UK (ns:Aa Am)(hl:ns.length<=63)(k:Am){Q:Aa D->Sto->Prop}{env:qE}{S:Sto}(h0:env[0]? = Ab (Ab (.lst (ns.map D.int))))(q:∀ ms:Aa Am,Q (ms.map D.int) S):Ok (uN (d2 zS (xC (qA (qU 2 S__law_cell (qA (qB 0) (qA (dC (.int 0)) (qC)))) (qC))) (dSl (qB 0) (yY (dC (.int 1))) (yY (dC (.int k))))) env S) Q:=by
 have hc:∃ x:Am,S__law_cell [.lst (ns.map D.int),.int 0] S=.ok (.int x) S:=by
  rw[uH];cases ns with
  |nil=>exact⟨0,wU (zL (env:=[Ab (.lst []),Ab (.int 0)]) rfl (by rfl';exact⟨rfl,rfl⟩))⟩
  |cons n ns =>
   refine⟨n,wU (zL (env:=[Ab (.lst ((n::ns).map D.int)),Ab (.int 0)]) rfl ?_)⟩;rfl';refine yT (λ_=>?_) λe=>absurd (by rw[AR,Bk];omega) e
   rfl';exact eW (JP (a:=0) (by simp)) ⟨rfl,rfl⟩
 obtain⟨x,hx⟩:=hc;refine VS (o_2 (TQ (uQ (iC (uQ (o_v h0 ?_))))));rfl';refine qW hx ?_;rfl';refine o_v h0 ?_;rfl';have hm:yX (ns.map D.int) (Ab 1) (Ab k)=((ns.drop (_H.sIx (ns.map D.int).length 0 (Ab 1))).take (_H.sIx (ns.map D.int).length (ns.map D.int).length (Ab k)-_H.sIx (ns.map D.int).length 0 (Ab 1))).map D.int:=by
  unfold yX;rw[List.map_take,List.map_drop]
 rw[hm];refine wQ ?_ ⟨_,rfl,q (x::_)⟩;rw[AR,Dz,Gv];show 1+_<=lim;unfold lim;omega
noncomputable def y9:Aa (Ah × Ah)->Aa (Ah × Ah)
 |p::q::r=>(q.1-p.1,p.2-q.2)::y9 (q::r)
 |_=>[]
structure ChC (n:Ah)(l:Aa (Ah × Ah)):Prop where
 on:∀ p∈l,p.1*p.1+p.2*p.2=n
 up:l.Pairwise λp q=>p.1<q.1
theorem ChC.tl {n:Ah}{p:Ah × Ah}{l:Aa (Ah × Ah)}(h:ChC n (p::l)):ChC n l:=⟨λq hq=>h.on q (.tail _ hq),(Cg.mp h.up).2⟩
theorem ChC.down {n:Ah}{l:Aa (Ah × Ah)}(h:ChC n l){p q:Ah × Ah}(hp:p∈l)(hq:q∈l)(hlt:p.1<q.1):q.2<p.2:=by
 have e1:=h.on p hp;have e2:=h.on q hq;have h1:p.1*p.1<q.1*q.1:=EK hlt (Ch hlt) li;refine Rr λz=>?_;have:=Fe z z
 lia
theorem kX:∀ {l:Aa (Ah × Ah)} {s:Ah × Ah},s∈y9 l->∃ a∈l,∃ b∈l,s=(b.1-a.1,a.2-b.2)/\(l.Pairwise (λp q=>p.1<q.1)->a.1<b.1)
 |p::q::r,s,h=>by
  rcases AD.mp (show s∈(q.1-p.1,p.2-q.2)::y9 (q::r) from h) with h|h
  .exact⟨p,.head _,q,.tail _ (.head _),h,λu=>(Cg.mp u).1 q (.head _)⟩
  .obtain⟨a,ha,b,hb,e,u⟩:=kX h
   exact⟨a,.tail _ ha,b,.tail _ hb,e,λw=>u (Cg.mp w).2⟩
 |[],_,h=>by cases h
 |[_],_,h=>by cases h
theorem ZU {x y u v X Y n:Am}(h1:x*x+y*y=n)(h2:(x+u)*(x+u)+(y-v)*(y-v)=n)(h3:X*X+Y*Y=n)(h4:(X+u)*(X+u)+(Y-v)*(Y-v)=n)(hu:0<u)(hv:0<v)(hx:x<X)(hy:Y<y):CA:=by
 have e:u*(X-x)=v*(Y-y):=by grind
 have p1:=Uo hu (show 0<X-x by lia)
 have p2:=Uo hv (show 0<y-Y by lia)
 have e2:v*(Y-y) = -(v*(y-Y)):=by grind
 lia
theorem lT {n:Ah}:∀ {l:Aa (Ah × Ah)},ChC n l->(y9 l).Nodup
 |[],_=>HG
 |[_],_=>HG
 |p::q::r,h=>by
  refine Fx.mpr ⟨λhm=>?_,lT h.tl⟩;obtain⟨a,ha,b,hb,e,u⟩:=kX hm;have hu:=u h.tl.up;have hpq:=(Cg.mp h.up).1 q (.head _);have hpa:=(Cg.mp h.up).1 a ha;have d1:=h.down (.head _) (.tail _ (.head _)) hpq;have d2:=h.tl.down ha hb hu;have d3:=h.down (.head _) (.tail _ ha) hpa;injection e with e1 e2
  have o1:=h.on p (.head _);have o2:=h.on q (.tail _ (.head _));have o3:=h.on a (.tail _ ha);have o4:=h.on b (.tail _ hb);refine ZU (x:=p.1) (y:=p.2) (u:=(q.1-p.1:Ah)) (v:=(p.2-q.2:Ah)) (X:=a.1) (Y:=a.2) (n:=n) (by exact_mod_cast o1) ?_ (by exact_mod_cast o3) ?_ li li li li
  .rw[show (p.1:Am)+((q.1-p.1:Ah):Am)=q.1 by lia,show (p.2:Am)-((p.2-q.2:Ah):Am)=q.2 by lia]
   exact_mod_cast o2
  .rw[show (a.1:Am)+((q.1-p.1:Ah):Am)=b.1 by lia,show (a.2:Am)-((p.2-q.2:Ah):Am)=b.2 by lia]
   exact_mod_cast o4
noncomputable def szN (s:Ah × Ah):Ah:=s.1+s.2
theorem t8 {n X:Ah}:∀ {l:Aa (Ah × Ah)} {p:Ah × Ah},ChC n (p::l)->(∀ q∈p::l,q.1<=X)->((y9 (p::l)).map szN).sum+p.1<=X+p.2
 |[],p,h,hX=>by
  have:=hX p (.head _);show 0+p.1<=X+p.2
  lia
 |q::r,p,h,hX=>by
  have ih:=t8 h.tl λz hz=>hX z (.tail _ hz);have hpq:=(Cg.mp h.up).1 q (.head _);have d1:=h.down (.head _) (.tail _ (.head _)) hpq;show (szN (q.1-p.1,p.2-q.2)+((y9 (q::r)).map szN).sum)+p.1<=X+p.2;show (q.1-p.1+(p.2-q.2)+_)+p.1<=_
  lia
theorem t7:∀ (l:Aa (Ah × Ah)),l.length<=(y9 l).length+1
 |[]=>by simp
 |[_]=>by simp
 |p::q::r=>by
  have:=t7 (q::r);show (q::r).length+1<=(y9 (q::r)).length+1+1
  lia
theorem oF {n:Ah}{l:Aa (Ah × Ah)}(h:ChC n l){s:Ah × Ah}(hs:s∈y9 l):0<s.1/\0<s.2:=by
 obtain⟨a,ha,b,hb,rfl,u⟩:=kX hs;have:=u h.up;have:=h.down ha hb this;dsimp only
 lia
theorem gO {α:Type}[Np α](w:α->Ah):∀ (L G:Aa α),L.Nodup->(∀ s∈L,w s≠0->s∈G)->(L.map w).sum<=(G.map w).sum
 |[],G,_,_=>Dn _
 |s::L,G,nd,h=>by
  obtain⟨n1,n2⟩:=Fx.mp nd;rw[Bu,Io];by_cases z:w s=0
  .rw[z,Ea]
   exact gO w L G n2 λx hx=>h x (.tail _ hx)
  .have hm:=h s (.head _) z
   have ih:=gO w L (G.erase s) n2 λx hx hz=>(Iy (λ(e:x=s)=>n1 (e▸hx))).mpr (h x (.tail _ hx) hz);have:=((List.perm_cons_erase hm).map w).sum_nat;rw[Bu,Io] at this
   lia
noncomputable def bG (s:Ah × Ah):Ah:=19-szN s
noncomputable def W6:Aa (Ah × Ah):=(Bt 18).flatMap λa=>(Bt 18).map λb=>(a+1,b+1)
theorem Z6:(W6.map bG).sum=969:=kd
theorem sI:∀ L:Aa (Ah × Ah),19*L.length<=(L.map szN).sum+(L.map bG).sum
 |[]=>by simp
 |s::L=>by
  have:=sI L;rw[Bu,Bu,Io,Io,Bk];unfold bG at this ⊢
  lia
theorem cO {n:Ah}{l:Aa (Ah × Ah)}(h:ChC n l)(hn:n<=1000000):l.length<=157:=by
 have sq:∀ {z:Ah},z*z<=1000000->z<=1000:=λ{z} hz=>Fg λw=>by
  have:=Fe (show 1001<=z from w) (show 1001<=z from w)
  lia
 cases l with
 |nil=>exact Dn _
 |cons p l =>
  have hp:=h.on p (.head _);have hp2:p.2<=1000:=sq li;have s1:=t8 (X:=1000) h λq hq=>sq (by have:=h.on q hq;lia)
  have s2:=sI (y9 (p::l));have s3:=gO bG (y9 (p::l)) W6 (lT h) λs hs hw=>by
   obtain⟨a,b⟩:=oF h hs;unfold bG szN at hw;refine Ip.mpr ⟨s.1-1,Cw.mpr li,AW.mpr ⟨s.2-1,Cw.mpr li,?_⟩⟩;refine Prod.ext ?_ ?_
   .show s.1-1+1=s.1
    lia
   .show s.2-1+1=s.2
    lia
  rw[Z6] at s3;have s4:=t7 (p::l)
  lia
noncomputable def sqs (n:Ah):Aa (_L.Key × D):=(Bt n).map λ(i:Ah)=>(.inl ((i:Am)*(i:Am)),.int (i:Am))
theorem oD {a b:Ah}(h:(a:Am)*(a:Am)=(b:Am)*(b:Am)):a=b:=by
 have h':a*a=b*b:=by exact_mod_cast h
 rcases Kt a b with z|z|z
 .exact absurd h' (AS (EK z (Ch z) li))
 .exact z
 .exact absurd h'.symm (AS (EK z (Ch z) li))
theorem UV (n:Ah):uE (sqs n) (.inl ((n:Am)*(n:Am))) (.int (n:Am))=sqs (n+1):=by
 unfold uE;rw[AB]
 .unfold sqs
  rw[List.range_succ,EQ];rfl
 .intro h
  obtain⟨kv,hk,e⟩:=List.any_eq_true.mp h;obtain⟨i,hi,rfl⟩:=AW.mp hk;have e:=AZ e;injection e with e
  have:=oD e;have:=Cw.mp hi
  lia
theorem XN {n:Ah}{f:Am}(h:w5 (sqs n) (.inl f)=Ab d):∃ i:Ah,i<n/\d=.int (i:Am)/\f=(i:Am)*(i:Am):=by
 unfold w5 at h;obtain⟨kv,h1,rfl⟩:=Bw.mp h;have h2:=List.find?_some h1;obtain⟨i,hi,rfl⟩:=AW.mp (List.mem_of_find?_eq_some h1);have h2:=AZ h2;injection h2 with h2
 exact⟨i,Cw.mp hi,rfl,h2.symm⟩
theorem UU {n:Ah}(hi:i<n):(w5 (sqs n) (.inl ((i:Am)*(i:Am)))).isSome=true:=by
 unfold w5;rw[Kg,List.find?_isSome];exact⟨_,AW.mpr ⟨i,Cw.mpr hi,rfl⟩,by simp⟩
noncomputable def tO (a b:Ah):Aa Pt:=[((a:Am),(b:Am)),(0-(a:Am),(b:Am)),((a:Am),0-(b:Am)),(0-(a:Am),0-(b:Am))]
theorem l6 {a b:Ah}{z:Pt}:z∈tO a b↔z.1.natAbs=a/\z.2.natAbs=b:=by
 obtain⟨x,y⟩:=z;simp only[tO,AD,Cu,EO,Tu]
 lia
def OnC (n:Ah)(ps:Aa Pt):Prop:=∀ z:Pt,z∈ps↔z.1.natAbs*z.1.natAbs+z.2.natAbs*z.2.natAbs=n
theorem VX {n:Ah}{qs:Aa Pt}(h1:OnC n ps)(h2:OnC n qs):wZ ps=wZ qs:=by
 have:_S.srt _H.lexLt (ps.map kP)=_S.srt _H.lexLt (qs.map kP):=_S.uY _S.uD (_S.y6 _S.uD _) (_S.y6 _S.uD _) λk=>by
  rw[_S.zR _S.uD,_S.zR _S.uD,AW,AW];constructor
  .rintro⟨p,hp,rfl⟩
   exact⟨p,(h2 p).mpr ((h1 p).mp hp),rfl⟩
  .rintro⟨p,hp,rfl⟩
   exact⟨p,(h1 p).mpr ((h2 p).mp hp),rfl⟩
 unfold wZ;rw[this]
theorem aX {c n:Ah}(h:c*c<=n)(hn:n<=1000000):c<=1000:=Fg λw=>by
 have:=Fe (show 1001<=c from w) (show 1001<=c from w)
 lia
structure CdC (n i:Ah)(l:Aa (Ah × Ah)):Prop where
 ch:ChC n l
 lt:∀ p∈l,p.1<i
 all:∀ x y:Ah,x<i->x*x+y*y=n->(x,y)∈l
theorem ZV {n:Ah}{N:Am}(eN:N=(n:Am))(hn:n<=1000000)(q:∀ (ps:Aa Pt) S',S<+:S'->OnC n ps->ps.length<=628->Q (.lst ((wZ ps).map ptD)) S'):Ok (S__law_circle [.int N] S) Q:=by
  rw[yV];refine zL (env:=[Ab (.int N),none,none,none,none,none]) rfl ?_;rfl';refine⟨by lia,by lia,?_⟩
  refine yN (xs:=Bt 1001) (λxs env S'=>∃ (i:Ah) (e3:Ak D),i+xs.length=1001/\xs=Up i (1001-i)/\env=[Ab (.int N),Ab (.loc S.length),Ab (.lst []),e3,none,none]/\S'=S++[.dct (sqs i)]) ?_ ?_ ⟨0,_,by simp,by rw[Ox],rfl,rfl⟩
  · rintro x xs _ _ ⟨i,e3,hl,hx,rfl,rfl⟩
    have hi:i<1001:=by simp at hl;lia
    rw[show 1001-i=(1001-(i+1))+1 by lia,Rt] at hx
    injection hx with h1 h2
    subst h1;rfl';refine PV (uM _ _) (by unfold sqs;rw[AR,Qn];unfold lim;lia) ?_
    rw[XJ,UV];rfl';exact u7 ⟨x+1,_,by simp at hl;lia,h2,rfl,rfl⟩
  · rintro _ _ ⟨i,e3,hl,hx,rfl,rfl⟩
    have hi:i=1001:=by simpa using hl
    subst hi;have hS:=uM S (.dct (sqs 1001));have hp:S<+:S++[.dct (sqs 1001)]:=Fp _ _;generalize S++[.dct (sqs 1001)]=T at hS hp;rfl';refine⟨by lia,by lia,?_⟩
    refine yN (xs:=Bt 1001) (λxs env S'=>∃ (i:Ah) (l:Aa (Ah × Ah)) (fd:Aa Pt) (e4 e5:Ak D),i+xs.length=1001/\xs=Up i (1001-i)/\env=[Ab (.int N),Ab (.loc S.length),Ab (.lst (fd.map ptD)),e3,e4,e5]/\S'=T/\fd=l.flatMap (λp=>tO p.1 p.2)/\fd.length=4*l.length/\CdC n i l) ?_ ?_ ⟨0,[],[],_,_,by simp,by rw[Ox],rfl,rfl,rfl,rfl,⟨⟨(λ_ h=>by cases h),.nil⟩,(λ_ h=>by cases h),λx y h=>by lia⟩⟩
    · rintro x xs _ _ ⟨i,l,fd,e4,e5,hl,hx,rfl,rfl,hf,hc,hd⟩
      have hi:i<1001:=by simp at hl;lia
      rw[show 1001-i=(1001-(i+1))+1 by lia,Rt] at hx
      injection hx with h1 h2
      subst h1;have few:=cO hd.ch hn;rfl';refine TK hS ?_;rfl';cases hv:w5 (sqs 1001) (.inl (N-(x:Am)*(x:Am))) with
      |none =>
        rfl';refine u7 ⟨x+1,l,fd,_,_,by simp at hl;lia,h2,rfl,rfl,hf,hc,⟨hd.ch,λp hp=>by have:=hd.lt p hp;lia,λa b ha e=>?_⟩⟩
        by_cases z:a<x
        · exact hd.all a b z e
        · exfalso
          have z:a=x:=by lia
          subst z;have h3:=UU (n:=1001) (i:=b) (by have:=aX (c:=b) (n:=n) li hn;lia)
          rw[show N-(a:Am)*(a:Am)=(b:Am)*(b:Am) by rw[eN,<- e];push_cast;lia] at hv
          rw[hv] at h3;cases h3
      |some d =>
        obtain⟨y,hy,rfl,e⟩:=XN hv;have e2:x*x+y*y=n:=by
          have:((x*x+y*y:Ah):Am)=(n:Am):=by push_cast;lia
          exact_mod_cast this
        refine w_t ?_;rfl';refine TN hS hv ?_;rfl';refine wQ (by rw[AR];show _+3<=lim;unfold lim;lia) ?_
        rfl';refine wQ (by rw[Bs,AR];show _+3+1<=lim;unfold lim;lia) ?_
        rfl';refine u7 ⟨x+1,l++[(x,y)],fd++tO x y,_,_,by simp at hl;lia,h2,by rw[EQ,Be];rfl,rfl,by rw[List.flatMap_append,<- hf];simp,by rw[Bs,Bs,hc];show _+4=4*(_+1);lia,⟨⟨λp hp=>?_,?_⟩,λp hp=>?_,λa b ha e3=>?_⟩⟩
        · rcases AX.mp hp with hp|hp
          · exact hd.ch.on p hp
          · rw[Bf.mp hp]
            exact e2
        · rw[Bz]
          refine⟨hd.ch.up,HC _ _,λa ha b hb=>?_⟩;rw[Bf.mp hb];exact hd.lt a ha
        · rcases AX.mp hp with hp|hp
          · have:=hd.lt p hp;lia
          · rw[Bf.mp hp]
            exact Ep _
        · by_cases z:a<x
          · exact AT _ (hd.all a b z e3)
          · have z:a=x:=by lia
            subst z;have:b=y:=oD (by exact_mod_cast (show b*b=y*y by lia))
            rw[this];exact A3 _ (.head _)
    · rintro _ _ ⟨i,l,fd,e4,e5,hl,hx,rfl,rfl,hf,hc,hd⟩
      have hi:i=1001:=by simpa using hl
      subst hi;have few:=cO hd.ch hn;rfl';refine DH ?_;rfl';refine⟨by lia,q fd _ hp (λz=>?_) li⟩
      rw[hf,Ip];constructor
      · rintro⟨p,hp,hz⟩
        obtain⟨a,b⟩:=l6.mp hz;rw[a,b];exact hd.ch.on p hp
      · intro e
        exact⟨(z.1.natAbs,z.2.natAbs),hd.all _ _ (by have:=aX (c:=z.1.natAbs) (n:=n) li hn;lia) e,l6.mpr ⟨rfl,rfl⟩⟩
theorem NQ (i:Am)(S:Sto)(h:0<=i/\i<=1000000):l7 (.int 1) (.int i) S=.ok (.int (2 ^ i.toNat)) S:=by
 unfold l7 i2 oY;have:(Int.natAbs 1)<2 ^ 64:=by decide
 simp[h,this]
theorem WY (n:Am)(h:0<=n/\n<=1000000000):Fi n<=30/\n<2 ^ (Fi n):=by
 unfold Fi;by_cases z:n=0
 .subst z;simp
 .have hz:(n == 0)=false:=by simp[z]
  rw[hz];obtain⟨m,rfl⟩:∃ m:Ah,n=m:=⟨n.toNat,by omega⟩
  have hm:m≠0:=by omega
  simp only[AI,Ci,Int.natAbs_natCast];refine⟨?_,?_⟩
  .have:m.log2<30:=(Nat.log2_lt hm).mpr om
   omega
  .have:=@Nat.lt_log2_self m
   exact_mod_cast this
theorem YZ (B:Ah)(n:Am)(hB:B<=30/\n<2 ^ B):∃ q T:Ah,((B:Am)+1)/2=q/\q<=15/\(2:Am) ^ q=T/\T<=32768/\n<(T:Am)*T:=by
 refine⟨(B+1)/2,2 ^ ((B+1)/2),by omega,by omega,by push_cast;rfl,?_,?_⟩
 .have:(2:Ah) ^ ((B+1)/2)<=2 ^ 15:=Oy (by decide) om
  exact this
 .have:(2:Ah) ^ B<=2 ^ ((B+1)/2)*2 ^ ((B+1)/2):=by rw[<- Nat.pow_add];exact Oy (by decide) om
  have h2:(2:Am) ^ B<=((2 ^ ((B+1)/2):Ah):Am)*((2 ^ ((B+1)/2):Ah):Am):=by exact_mod_cast this
  omega
theorem M1 {a b:Am}(e:env[i]? = Ab (Ab (.int a)))(h:Wo P (.nx (env.set i (Ab (.int (a+b)))) S)):Wo P (yP i pZ (dC (.int b)) env S):=by
 have:yP i pZ (dC (.int b)) env S=.nx (env.set i (Ab (.int (a+b)))) S:=by
  unfold yP;rw[e];rfl
 rw[this];exact h
theorem M2 {a b:Am}(e:env[i]? = Ab (Ab (.int a)))(h:Wo P (.nx (env.set i (Ab (.int (a-b)))) S)):Wo P (yP i _D.xN (dC (.int b)) env S):=by
 have:yP i _D.xN (dC (.int b)) env S=.nx (env.set i (Ab (.int (a-b)))) S:=by
  unfold yP;rw[e];rfl
 rw[this];exact h
theorem PU {n:Am}(h:0<=n/\n<=1000000000)(q:∀ T:Ah,T<=32768->n<(T:Am)*T->Q (.int T) S):Ok (S_above_root [.int n] S) Q:=by
 obtain⟨k,T,h1,h2,h3,h4,h5⟩:=YZ _ n (WY n h);rw[vP];refine zL (env:=[Ab (.int n)]) rfl ?_;rfl';refine qW (d:=.int (Fi n)) (S:=S) rfl ?_;rfl';rw[h1];refine qW (NQ (k:Am) S ⟨by lia,by lia⟩) ?_
 rw[Ee,h3];rfl';exact q T h4 h5
theorem L0 {sg:DS}{o:Out}(R:qE->Sto->Prop)(h:∀ P':Out->Prop,(∀ env S,R env S->Wo P' (.nx env S))->Wo P' o)(k:∀ env S,R env S->Wo P (sg env S)):Wo (hJ sg P) o:=h _ k
noncomputable def wD (p:Ah × Ah):D:=.tup [.int p.1,.int p.2]
def Wy (n:Ah)(W:Aa (Ah × Ah)):Prop:=∀ a b:Ah,(a,b)∈W↔a<=b/\a*a+b*b=n
structure Kw (n:Ah)(S:Sto)(W:Aa (Ah × Ah))(S':Sto):Prop where
 at':S'[S.length]? = Ab (.lst (W.map wD))
 pre:∀ m,m<S.length->S'[m]? = S[m]?
 on:∀ p∈W,p.1<=p.2/\p.1*p.1+p.2*p.2=n
theorem NS {a b:Ah}(h:a<b):a*a<b*b:=EK h (Ch h) li
theorem NR {a b:Ah}(h:a*a<b*b):a<b:=Rr λz=>by
 have:=Fe z z
 lia
theorem PX (c:Cl){S:Sto}{n:Ah}{N:Am}(eN:N=(n:Am))(hn:n<=1000000)(q:∀ W S',S<+:S'->S'[S.length]? = Ab (.lst (W.map wD))->Wy n W->W.length<=40000->Q (.loc S.length) S'):Ok (S_sum_ways c [.int N] S) Q:=by
 rw[jY];refine zL (env:=[Ab (.int N),none,none,none,none]) rfl ?_;rfl';refine qW (d:=.int 1000000000) rfl ?_;rfl';refine qW (sQ c S li) ?_;rfl';refine PU li λT hT hT2=>?_;rfl';refine J0 (λm env S'=>∃ (a:Ah) (b:Am) (W:Aa (Ah × Ah)) (e4:Ak D),env=[Ab (.int N),Ab (.loc S.length),Ab (.int a),Ab (.int b),e4]/\m=(b+1-a).toNat/\(a:Am)<=b+1/\b<=32768/\W.length<=a/\Kw n S W S'/\∀ x y:Ah,x<=y->x*x+y*y=n->(x,y)∈W\/a<=x/\(y:Am)<=b) ?_ (n:=(T+1)) (by rw[JQ];lia) ⟨0,T,[],_,rfl,by lia,by lia,by lia,Dn _,⟨uM _ _,(λm hm=>AO hm),λp hp=>by cases hp⟩,λx y _ e=>.inr ⟨Dn _,?_⟩⟩
 .rintro m _ S' ⟨a,b,W,e4,rfl,rfl,hab,hb,hl,g,al⟩
  rfl';refine⟨λz=>?_,λz=>?_⟩
  .have z:=AZ z
   obtain⟨b,rfl⟩:∃ k:Ah,b=k:=⟨b.toNat,by lia⟩
   have hlt:=(AQ.mp g.at').1;have eT:(a:Am)*a+(b:Am)*b=((a*a+b*b:Ah):Am):=by push_cast;rfl
   rfl';rw[eT];refine L0 (λenv S2=>∃ W',env=[Ab (.int N),Ab (.loc S.length),Ab (.int a),Ab (.int b),Ab (.int ((a*a+b*b:Ah):Am))]/\W'.length<=a+1/\(a*a+b*b≠n->W'.length<=a)/\Kw n S W' S2/\∀ x y:Ah,x<=y->x*x+y*y=n->(x,y)∈W'\/a<=x/\y<=b/\¬ (x=a/\y=b)) (λP' hP=>?_) ?_
   .refine yT (λw=>?_) λw=>?_
    .have w:a*a+b*b=n:=by rw[eN] at w;exact_mod_cast w
     rfl';refine⟨cA g.at',?_⟩;rfl';refine WG g.at' (by rw[AR];unfold lim;lia) ?_
     refine hP _ _ ⟨W++[(a,b)],rfl,by rw[Bs];show _+1<=_;lia,(λk=>absurd w k),⟨?_,λm hm=>?_,λp hp=>?_⟩,λx y hxy e=>?_⟩
     .rw[CJ hlt,EQ]
      rfl
     .rw[By li]
      exact g.pre m hm
     .rcases AX.mp hp with hp|hp
      .exact g.on p hp
      .rw[Bf.mp hp]
       exact⟨by dsimp only;lia,w⟩
     .rcases al x y hxy e with h|⟨h1,h2⟩
      .exact .inl (AT _ h)
      .by_cases k:x=a/\y=b
       .rw[k.1,k.2]
        exact .inl (A3 _ (.head _))
       .exact .inr ⟨h1,by lia,k⟩
    .have w:¬ a*a+b*b=n:=λk=>w (by rw[eN,k])
     rfl';refine hP _ _ ⟨W,rfl,by lia,λ_=>hl,g,λx y hxy e=>?_⟩
     rcases al x y hxy e with h|⟨h1,h2⟩
     .exact .inl h
     .refine .inr ⟨h1,by lia,λk=>w ?_⟩
      rw[<- k.1,<- k.2];exact e
   .rintro _ S2 ⟨W',rfl,hl',hl2,g',al'⟩
    rfl';refine yT (λw=>?_) λw=>?_
    .have w:n<a*a+b*b:=by rw[eN] at w;exact_mod_cast w
     refine M2 rfl ?_;have hb0:0<b:=by
      refine Fv λk=>?_;subst k;have:a=0:=by lia
      subst this
      lia
     refine oM ((b:Am)-1+1-a).toNat li ⟨a,(b:Am)-1,W',_,rfl,rfl,by lia,by lia,hl2 li,g',λx y hxy e=>?_⟩
     rcases al' x y hxy e with h|⟨h1,h2,h3⟩
     .exact .inl h
     .refine .inr ⟨h1,?_⟩
      have:y≠b:=λk=>by
       subst k;have:=Fe h1 h1
       lia
      lia
    .have w:a*a+b*b<=n:=by
      refine Fg λk=>w ?_;rw[eN]
      exact_mod_cast k
     refine M1 rfl ?_;refine oM ((b:Am)+1-((a+1:Ah):Am)).toNat li ⟨a+1,b,W',_,rfl,rfl,by lia,by lia,hl',g',λx y hxy e=>?_⟩
     rcases al' x y hxy e with h|⟨h1,h2,h3⟩
     .exact .inl h
     .refine .inr ⟨?_,by lia⟩
      have:x≠a:=λk=>by
       subst k;have k2:y≠b:=λk2=>h3 ⟨rfl,k2⟩;have:=NS (show y<b by lia)
       lia
      lia
  .have z:=Pe z
   rfl';refine q W S' (iJ g.pre) g.at' (λx y=>⟨λh=>g.on _ h,λ⟨h1,h2⟩=>?_⟩) li;rcases al x y h1 h2 with h|h
   .exact h
   .lia
 .have h1:(y*y:Ah)<T*T:=by
   have:((y*y:Ah):Am)<((T*T:Ah):Am):=by
    push_cast
    push_cast at hT2
    have:((x*x+y*y:Ah):Am)=(n:Am):=by rw[e]
    push_cast at this
    have:=Int.mul_nonneg (Ph x) (Ph x)
    lia
   exact_mod_cast this
  have:=NR h1
  lia
theorem goP {α:Type}{enc:α->D}{o:Ak (Ah × MO)}{g:DG}{t:DT}{k:DK}(out:α->Aa D)(C:qE->Sto->Prop)(A:Aa D->Prop)(hC:∀ env S,C env S->stn o S) :
  ∀ (xs:Aa α) (env:qE) (S:Sto) (acc:Aa D),C env S->A acc ->
  (∀ x∈xs,∀ env S acc,C env S->A acc->∃ env1 S1,g (enc x) env S=.ok env1 S1/\t env1 S1=.ok true S1/\∃ env3 S3,k env1 S1 acc=.ok (env3,acc++out x) S3/\C env3 S3/\A (acc++out x)) ->
  ∃ env' S',goL o g t k (xs.map enc) env S acc=.ok (env',acc++xs.flatMap out) S'/\C env' S'/\A (acc++xs.flatMap out)
 |[],env,S,acc,h,ha,_=>⟨env,S,by simp[goL,wI.mpr (hC _ _ h)],h,by simpa using ha⟩
 |x::xs,env,S,acc,h,ha,step=>by
  obtain⟨env1,S1,e1,e2,env3,S3,e3,h3,a3⟩:=step x (Cf ..) env S acc h ha;obtain⟨env',S',e,c,a⟩:=goP out C A hC xs env3 S3 (acc++out x) h3 a3 λy hy=>step y (Bc _ hy);rw[Be] at e a;refine⟨env',S',?_,c,a⟩;simp only[Bu,goL,wI.mpr (hC _ _ h),Cc,e1,e2,Res.bind,e3,EW];exact e
theorem PH {α:Type}[Np α] : ∀ {L G:Aa α},L.Nodup->(∀ s∈L,s∈G)->L.length<=G.length
 |L,G,nd,h=>by
  have:=gO (λ_:α=>1) L G nd λs hs _=>h s hs;have e:∀ l:Aa α,(l.map λ_=>1).sum=l.length:=λl=>by
   induction l with
   |nil=>rfl
   |cons a l ih=>rw[Bu,Io,ih,Bk,Mf]
  rwa [e,e] at this
def AcP (fd:Aa Pt)(acc:Aa D):Prop:=∃ ps:Aa Pt,acc=ps.map ptD/\∀ z∈ps,z∈fd
theorem cP (hl:fd.length<=628)(h:∀ z∈ps,z∈fd):xZ (ps.map ptD)=true:=by
 unfold xZ;rw[bI,u3];have h1:(_S.srt _H.lexLt (ps.map kP)).length<=1000:=by
  refine Ca (PH (G:=fd.map kP) ((_S.y6 _S.uD _).imp λ{a b} k e=>?_) λk hk=>?_) (by rw[AR];lia)
  .subst e
   rw[_S.uD.irr] at k;cases k
  .obtain⟨p,hp,rfl⟩:=AW.mp ((_S.zR _S.uD _ _).mp hk)
   exact AW.mpr ⟨p,h p hp,rfl⟩
 show (decide (_<=1000)&&_)=true;rw[CC h1,Ts,IR];exact Bh.mpr λ_ _=>rfl
noncomputable def kZ (x:Am)(b:Ah):Aa Pt:=[(x,-(b:Am)),(x,(b:Am))]
noncomputable def w4 (p:Ah × Ah):Aa Pt:=kZ (-(p.1:Am)) p.2++kZ p.1 p.2
theorem bY {p:Ah × Ah}{z:Pt}:z∈w4 p↔z.1.natAbs=p.1/\z.2.natAbs=p.2:=by
 obtain⟨x,y⟩:=z;simp only[w4,kZ,Im,Ez,AD,Cu,EO,Tu]
 lia
theorem cE {z:Pt}(h:AcP fd acc)(hz:z∈fd):AcP fd (acc++[ptD z]):=by
 obtain⟨ps,rfl,hp⟩:=h;refine⟨ps++[z],by rw[EQ];rfl,λy hy=>?_⟩
 rcases AX.mp hy with hy|hy
 .exact hp y hy
 .rw[Bf.mp hy]
  exact hz
theorem YR {z:Pt}{fe:DE}(hl:fd.length<=628)(h:AcP fd acc)(hz:z∈fd)(e:fe env S=.ok (ptD z) S):vC xZ fe env S acc=.ok (env,acc++[ptD z]) S:=by
 obtain⟨ps,e1,hp⟩:=cE h hz;unfold vC;rw[e,Res.bind_ok,AA];rw[e1];exact cP hl hp
noncomputable abbrev kqC:DK:=vC xZ (x9 (qA (qB 2) (qA (qB 3) (qC))))
abbrev kqB:DK:=kIn (dIt (x9 (qA (d1 fG (qB 1)) (qA (qB 1) (qC))))) (gNm 3) (wF) kqC
abbrev kqA:DK:=kIn (dIt (x9 (qA (d1 fG (qB 0)) (qA (qB 0) (qC))))) (gNm 2) (wF) kqB
theorem T4 (hl:fd.length<=628)(p:Ah × Ah)(x:Am)(hx:∀ z∈kZ x p.2,z∈fd)(e3:Ak D)(S:Sto)(acc:Aa D)(ha:AcP fd acc):∃ e3',kqB [Ab (.int p.1),Ab (.int p.2),Ab (.int x),e3] S acc=.ok ([Ab (.int p.1),Ab (.int p.2),Ab (.int x),e3'],acc++(kZ x p.2).map ptD) S/\AcP fd (acc++(kZ x p.2).map ptD):=by
 obtain⟨env',S',e,⟨⟨e3',h1⟩,h2⟩,a⟩:=goP (enc:=D.int) (o:=none) (g:=gNm 3) (t:=wF) (k:=kqC) (λy=>[ptD (x,y)]) (λenv S'=>(∃ e3,env=[Ab (.int p.1),Ab (.int p.2),Ab (.int x),e3])/\S'=S) (AcP fd) (λ_ _ _=>trivial) [-(p.2:Am),(p.2:Am)] [Ab (.int p.1),Ab (.int p.2),Ab (.int x),e3] S acc ⟨⟨_,rfl⟩,rfl⟩ ha λy hy env S' acc ⟨⟨e3,h1⟩,h2⟩ ha=>by
  subst h1 h2;have hz:((x,y):Pt)∈fd:=hx _ (by
   simp only[AD,Cu,EO] at hy;rcases hy with rfl|rfl
   .exact .head _
   .exact .tail _ (.head _))
  exact⟨_,S',rfl,rfl,_,S',YR hl ha hz rfl,⟨⟨_,rfl⟩,rfl⟩,cE ha hz⟩
 subst h1 h2;exact⟨e3',e,a⟩
theorem T3 (hl:fd.length<=628)(p:Ah × Ah)(hx:∀ z∈w4 p,z∈fd)(e2 e3:Ak D)(S:Sto)(acc:Aa D)(ha:AcP fd acc):∃ e2' e3',kqA [Ab (.int p.1),Ab (.int p.2),e2,e3] S acc=.ok ([Ab (.int p.1),Ab (.int p.2),e2',e3'],acc++(w4 p).map ptD) S/\AcP fd (acc++(w4 p).map ptD):=by
 obtain⟨env',S',e,⟨⟨e2',e3',h1⟩,h2⟩,a⟩:=goP (enc:=D.int) (o:=none) (g:=gNm 2) (t:=wF) (k:=kqB) (λx=>(kZ x p.2).map ptD) (λenv S'=>(∃ e2 e3,env=[Ab (.int p.1),Ab (.int p.2),e2,e3])/\S'=S) (AcP fd) (λ_ _ _=>trivial) [-(p.1:Am),(p.1:Am)] [Ab (.int p.1),Ab (.int p.2),e2,e3] S acc ⟨⟨_,_,rfl⟩,rfl⟩ ha λx hy env S' acc ⟨⟨e2,e3,h1⟩,h2⟩ ha=>by
  subst h1 h2;obtain⟨e3',f1,f2⟩:=T4 hl p x (λz hz=>hx z (by
   simp only[AD,Cu,EO] at hy;rcases hy with rfl|rfl
   .exact AT _ hz
   .exact A3 _ hz)) e3 S' acc ha
  exact⟨_,S',rfl,rfl,_,S',f1,⟨⟨_,_,rfl⟩,rfl⟩,f2⟩
 subst h1 h2;have ec:[-(p.1:Am),(p.1:Am)].flatMap (λx=>(kZ x p.2).map ptD)=(w4 p).map ptD:=by
  unfold w4;rw[EQ];simp
 rw[ec] at e a;exact⟨e2',e3',e,a⟩
theorem K0 {n:Ah}{W:Aa (Ah × Ah)}(h:Wy n W):OnC n ((W++W.map Tv).flatMap w4):=λz=>by
 rw[Ip];constructor
 .rintro⟨p,hp,hz⟩
  obtain⟨a,b⟩:=bY.mp hz;rw[a,b];rcases AX.mp hp with hp|hp
  .exact((h _ _).mp hp).2
  .obtain⟨q,hq,rfl⟩:=AW.mp hp
   have:=((h _ _).mp hq).2;show q.2*q.2+q.1*q.1=n
   lia
 .intro e
  rcases Nat.le_total z.1.natAbs z.2.natAbs with k|k
  .exact⟨(z.1.natAbs,z.2.natAbs),AT _ ((h _ _).mpr ⟨k,e⟩),bY.mpr ⟨rfl,rfl⟩⟩
  .exact⟨(z.1.natAbs,z.2.natAbs),A3 _ (AW.mpr ⟨(z.2.natAbs,z.1.natAbs),(h _ _).mpr ⟨k,by lia⟩,rfl⟩),bY.mpr ⟨rfl,rfl⟩⟩
theorem PN (c:Cl){S:Sto}{n:Ah}{N:Am}(eN:N=(n:Am))(hn:n<=1000000){fd:Aa Pt}(ho:OnC n fd)(hl:fd.length<=628)(q:∀ j S',S<+:S'->S.length<=j->S'[j]? = Ab (.lst ((wZ fd).map ptD))->Q (.loc j) S'):Ok (S_circle c [.int N] S) Q:=by
 rw[u9];refine zL (env:=[Ab (.int N),none,none]) rfl ?_;rfl';refine qW (d:=.int 1000000) rfl ?_;rfl';refine qW (sQ c S li) ?_;rfl';refine PX c eN hn λW S1 p1 h1 hW hWl=>?_;rfl';refine qW (Y4 (xs:=W) (enc:=wD) (D9 rfl h1) h1 (λ_=>true) (λp=>wD p.swap) (λenv=>∃ a b,env=[a,b]) ⟨none,none,rfl⟩ (by unfold lim;lia) λp hp env ⟨a,b,e⟩=>?_) ?_
 .subst e
  exact⟨_,rfl,⟨_,_,rfl⟩,rfl,λ_=>rfl⟩
 rw[List.filter_eq_self.mpr λ_ _=>rfl];refine PM (T7 h1) rfl (by rw[AR,AR];unfold lim;lia) ?_
 have eC:W.map wD++W.map (λp=>wD p.swap)=(W++W.map Tv).map wD:=by
  rw[EQ,Fn];rfl
 rw[eC];have hon:=K0 hW;generalize W++W.map Tv=C at hon;have hin:∀ p∈C,∀ z∈w4 p,z∈fd:=λp hp z hz=>(ho z).mpr ((hon z).mp (Ip.mpr ⟨p,hp,hz⟩));rfl';obtain⟨env',S',e,⟨_,h2⟩,ps,ea,hps⟩:=goP (enc:=wD) (o:=none) (g:=gTp 2 (xO (gNm 0) (xO (gNm 1) (jI)))) (t:=wF) (k:=kqA) (λp=>(w4 p).map ptD) (λenv S'=>(∃ e0 e1 e2 e3,env=[e0,e1,e2,e3])/\S'=S1) (AcP fd) (λ_ _ _=>trivial) C [none,none,none,none] S1 [] ⟨⟨_,_,_,_,rfl⟩,rfl⟩ ⟨[],rfl,λ_ h=>by cases h⟩ λp hp env S' acc ⟨⟨e0,e1,e2,e3,h1⟩,h2⟩ ha=>by
  subst h1 h2;obtain⟨e2',e3',f1,f2⟩:=T3 hl p (hin p hp) e2 e3 S' acc ha;exact⟨_,S',rfl,rfl,_,S',f1,⟨⟨_,_,_,_,rfl⟩,rfl⟩,f2⟩
 rw[h2] at e;have ef:C.flatMap (λp=>(w4 p).map ptD)=(C.flatMap w4).map ptD:=by rw[List.map_flatMap]
 rw[Ez,ef] at e;have hck:xZ ((C.flatMap w4).map ptD)=true:=cP hl λz hz=>(ho z).mpr ((hon z).mp hz);refine qZ (qW (d:=(none,C.map wD)) (S:=S1) rfl ?_);show Ok (eD (uO true) (goL none _ wF kqA (C.map wD) [none,none,none,none] S1 [])) _;rw[e];refine qW (d:=.loc S1.length) (S:=S1++[.lst ((wZ (C.flatMap w4)).map ptD)]) ?_ ?_
 .show (if xZ ((C.flatMap w4).map ptD)=true then (match yA ((C.flatMap w4).map ptD) with|some ks=>Res.ok (D.loc S1.length) (S1++[MO.lst ((_S.srt _H.lexLt ks).map tpD)])|none=>.bad) else .bad)=_
  rw[AA hck,bI,u3];dsimp only;rw[(dN (oE _)).1];rfl
 .rw[VX hon ho]
  exact q S1.length _ (p1.trans (Fp ..)) p1.length_le (uM _ _)
theorem VP (c:Cl){d:D}(S:Sto)(h:Pn d)(k:inR 0 1000000 d=false):S_circle c [d] S=.ex (.ref c.NoNumber) .non S:=by
 rw[u9];exact o9 (env:=[Ab d,none,none]) rfl (GE ((MC (a:=d) (b:=.int 0) (c:=.int 1000000) rfl rfl rfl).trans (VM c S (kd) h k)))
def NoN (a b:Am)(d:D):Prop:=Pn d/\inR a b d=false
theorem dD {p:Ah}{a b:Am}(hab : -1000000000<=a/\a<=b/\b<=1000000000/\0<=b /\ -b-1<a)(h:vM S p):Ok (S__law_no_number [.loc p,.int a,.int b] S) λd S1=>NoN a b d/\Kp p S S1:=by
 rw[yB];refine zL (env:=[Ab (.loc p),Ab (.int a),Ab (.int b),none]) rfl ?_;rfl';refine qW (d:=.int 1000000000) rfl ?_;rfl';refine yL h li λw S1 k1 hw=>?_;rfl';refine wQ (Cz rfl) ?_;rfl';refine qW (d:=.int 100000000000000000000000000000) rfl ?_;rfl';refine wQ (Cz rfl) ?_;rfl';refine yL k1.pen li λw2 S2 k2 hw2=>?_;rfl';refine WH (show w2<12 by lia) λd hd=>?_
 rfl';refine⟨?_,k1.trans k2⟩;have io:∀ i:Am,¬ (a<=i/\i<=b)->NoN a b (.int i):=λi h=>⟨⟨.int i,rfl⟩,Cq h⟩;simp only[Im,Ez,AD,Cu,EO] at hd;rcases hd with rfl|rfl|rfl|rfl|rfl|rfl|rfl|rfl|rfl|rfl|rfl|rfl
 .exact io _ li
 .exact io _ li
 .exact io _ li
 .exact io _ li
 .exact⟨⟨_,rfl⟩,rfl⟩
 .exact⟨⟨_,rfl⟩,rfl⟩
 .exact⟨⟨_,rfl⟩,rfl⟩
 .exact⟨⟨_,rfl⟩,rfl⟩
 .exact⟨⟨_,rfl⟩,rfl⟩
 .exact⟨⟨_,rfl⟩,rfl⟩
 .exact⟨⟨_,rfl⟩,rfl⟩
 .exact io _ li
theorem UL {j:Ah}{f:Aa Pt}(hf:f.length<=1000){S:Sto}(h:S[j]? = Ab (.lst (f.map ptD))):vV S__law_same [.loc j,.lst (f.map ptD)] S=.ok (.bl true) S:=by
 have e:∀ (n:Ah),∀ x∈f.map ptD,wX (n+2) S x=Ab x:=λn x hx=>by
  obtain⟨r,_,rfl⟩:=AW.mp hx;rfl
 have e1:=XG h (e 17);have e2:wX nR S (.lst (f.map ptD))=Ab (.lst (f.map ptD)):=by
  show (mapO (wX 19 S) (f.map ptD)).map D.lst=_;rw[sO (e 17)];rfl
 have e3:mapO (wX nR S) [.loc j,.lst (f.map ptD)]=Ab [.lst (f.map ptD),.lst (f.map ptD)]:=by
  simp only[mapO,e1,e2]
 unfold vV;rw[e3];show eQ (S__law_same [.lst (f.map ptD),.lst (f.map ptD)] (jB S)) S=_;have ok:okD 3 (.lst (f.map ptD)):=by
  refine⟨by rw[AR];unfold lim;lia,λx hx=>?_⟩
  obtain⟨r,hr,rfl⟩:=AW.mp hx;refine⟨Cz rfl,λx hx=>?_⟩;simp only[AD,Cu,EO] at hx;rcases hx with rfl|rfl <;> trivial
 rw[FM (jB S) ok];rfl
theorem TJ {T:Bp}{m:D->Aa D->Sto->Res D}{f:DE}(h:Ok (f env S) λa S1=>tyD a S1=Ab T/\Ok (m a [] S1) Q):Ok (nO T m f env S) Q:=qZ (zE h λ_ _ k=>by rw[k.1,AA (by simp)];exact k.2)
theorem TV {xs:Aa D}(e:S[i]? = Ab (.lst xs))(h:Q .non (S.set i (.lst xs.reverse))):Ok (v9 (.loc i) [] S) Q:=by
 refine⟨_,_,?_,h⟩;show vY S i (λxs=>Res.ok D.non (S.set i (.lst xs.reverse)))=_;unfold vY;rw[e]
theorem sR (c:Cl){S:Sto}{n:Ah}{N:Am}(eN:N=(n:Am))(hn:n<=1000000)(q:∀ S',S<+:S'->Q (.bl true) S'):Ok (S__law_right c [.int N] S) Q:=by
 rw[vO];refine zL (env:=[Ab (.int N),none,none,none]) rfl ?_;rfl';refine ZV eN hn λfd S1 p1 ho hl=>?_;rfl';refine⟨by lia,by lia,?_⟩
 refine yN (λ(_:Aa Ah) env S'=>S<+:S'/\∃ e2 e3,env=[Ab (.int N),Ab (.lst ((wZ fd).map ptD)),e2,e3]) ?_ ?_ ⟨p1,_,_,rfl⟩
 .rintro x xs _ S2 ⟨p2,e2,e3,rfl⟩
  have hlen:=Ca (XO fd) hl;rfl';refine PN c eN hn ho hl λj S3 p3 h3 e3=>?_;have hj:=(AQ.mp e3).1;rfl';refine qW (UL li e3) ?_;rfl';refine⟨cA e3,?_⟩;rfl';refine WG e3 (by rw[AR];unfold lim;lia) ?_
  have e4:(S3.set j (MO.lst ((wZ fd).map ptD++[.tup []])))[j]? = Ab (.lst ((wZ fd).map ptD++[.tup []])):=CJ hj;rfl';refine TJ ?_;rfl';refine⟨cA e4,?_⟩;refine TV e4 ?_;rfl';refine u7 ⟨iJ λm hm=>?_,_,_,rfl⟩;have:m<S2.length:=Au hm p2.length_le;rw[By li,By li,Ll.mp (p2.trans p3) m hm,As hm]
 .rintro _ S2 ⟨p2,e2,e3,rfl⟩
  rfl';exact q S2 p2
theorem PR {p:Ah}(h:vM S p)(q:∀ (n:Ah) S1,Kp p S S1->n<=1000000->Q (.int n) S1):Ok (S__law_rich [.loc p,.int 1000000] S) Q:=by
 rw[uJ];refine zL (env:=[Ab (.loc p),Ab (.int 1000000),none,none,none]) rfl ?_;rfl';refine yL h li λr S1 k1 h1=>?_;rfl';refine⟨by lia,by lia,?_⟩
 refine yN (λ_ env S'=>∃ (n:Ah) (e3 e4:Ak D),env=[Ab (.loc p),Ab (.int 1000000),Ab (.int n),e3,e4]/\Kp p S S'/\n<=1000000) ?_ ?_ ⟨1,_,_,rfl,k1,by decide⟩
 .rintro x xs _ S' ⟨n,e3,e4,rfl,K,hn⟩
  rfl';refine yL K.pen li λr S2 k2 h2=>?_;rfl';refine WH (show r<8 by lia) λd hd=>?_
  obtain⟨f,hf,rfl⟩:=AW.mp (show d∈[2,5,13,17,4,9,5,29].map λ(f:Ah)=>D.int f from hd)
  have e:(n:Am)*(f:Am)=((n*f:Ah):Am):=by push_cast;rfl
  rfl';refine yT (λz=>?_) λz=>?_
  .rfl'
   exact u7 ⟨n*f,_,_,by rw[e],K.trans k2,by lia⟩
  .rfl'
   exact u7 ⟨n,_,_,rfl,K.trans k2,hn⟩
 .rintro _ S' ⟨n,e3,e4,rfl,K,hn⟩
  rfl';exact q n S' K hn
noncomputable def nD (n:Ah):D:=.int (n:Am)
theorem ZL (c:Cl)(nd:(x8 c).Nodup)(ns:Aa Am)(hl:ns.length<=63):∃ S,qY 8 (b_law c) [.lst (ns.map D.int)] [] = .ok (.bl true) S:=by
 have key:Ok (qY 8 (b_law c) [.lst (ns.map D.int)] []) λd _=>d=.bl true:=by
  refine zL (env:=[Ab (.lst (ns.map D.int)),none,none,none,none,none,none,none]) rfl ?_;unfold b_law;array_get_dec;array_get_dec;array_get_dec;array_get_dec;array_get_dec;array_get_dec;refine iD (enc:=nD) (o:=none) (S1:=[]) [0,1,2,3,25,325,1000000,999999,801125] (λ_=>.bl true) (λenv _=>∃ a,env=[a]) rfl ⟨none,rfl⟩ (Cz rfl) (λ_ _ _=>trivial) (λn hn env S ⟨a,e⟩=>?_) λenv S _=>?_
  .subst e
   have hn:n<=1000000:=by
    have:([0,1,2,3,25,325,1000000,999999,801125].all λn=>Nat.ble n 1000000)=true:=by decide
    exact Cz (Bh.mp this n hn)
   unfold nD;rfl';exact sR c rfl hn λS' _=>⟨rfl,_,rfl⟩
  rfl';refine WD (p:=λ_:Ah=>true) ?_;rw[show ([0,1,2,3,25,325,1000000,999999,801125].all λ_:Ah=>true)=true from rfl]
  array_get_dec;array_get_dec;array_get_dec;array_get_dec;array_get_dec;array_get_dec;refine NZ (UK ns hl 6 rfl λms=>?_);refine yN (λ_ env _=>∃ e1 e2 e3 e4 e5 e6 e7,env=[Ab (.lst (ns.map D.int)),e1,e2,e3,e4,e5,e6,e7]) ?_ ?_ ⟨_,_,_,_,_,_,_,rfl⟩
  .rintro y xs _ S ⟨e1,e2,e3,e4,e5,e6,e7,rfl⟩
   rfl';refine TR λp S0 p0=>?_;rfl';refine yL p0 li λr1 S1 k1 h1=>?_;rfl';refine yL k1.pen li λr2 S2 k2 h2=>?_;rfl';refine qW (d:=.int 1000000) rfl ?_;rfl';refine PR k2.pen λr3 S3 k3 h3=>?_;rfl';refine yL k3.pen li λr4 S4 k4 h4=>?_;rfl';refine qW (d:=.int 1000000) rfl ?_;rfl';refine yL k4.pen li λr5 S5 k5 h5=>?_;rfl';refine wQ (Cz rfl) ?_;rfl';have b1:r1*r1<=700*700:=Fe li li;have b2:r2*r2<=700*700:=Fe li li;have el:([.int ((r1:Am)*(r1:Am)+(r2:Am)*(r2:Am)),.int (r3:Am),.int (r4:Am)]++[.int (r5:Am)]:Aa D)=[r1*r1+r2*r2,r3,r4,r5].map nD:=by
    show _=[D.int ((r1*r1+r2*r2:Ah):Am),.int (r3:Am),.int (r4:Am),.int (r5:Am)]
    push_cast
    rfl
   rw[el];refine yN (λl env S'=>(∀ n∈l,n<=1000000)/\vM S' p/\∃ e1,env=[Ab (.lst (ns.map D.int)),e1,Ab (.int y),Ab (.loc p),Ab (.int r1),Ab (.int r2),Ab (.lst [.int ((r1:Am)*(r1:Am)+(r2:Am)*(r2:Am)),.int (r3:Am),.int (r4:Am)]),e7]) ?_ ?_ ⟨?_,k5.pen,_,rfl⟩
   .rintro n l _ S6 ⟨hx,pp,e1,rfl⟩
    unfold nD;rfl';refine sR c rfl (hx n (.head _)) λS7 p7=>?_;rfl';exact u7 ⟨λn h=>hx n (.tail _ h),U2 pp p7,_,rfl⟩
   .rintro _ S6 ⟨_,pp,e1,rfl⟩
    rfl';refine qW (d:=.int 1000000) rfl ?_;rfl';refine zE (dD (a:=0) (b:=1000000) li pp) λbd S7 ⟨hbd,k7⟩=>?_;rfl';refine TU (by rw[De];simp[kD]) (fL c nd) (caps:=[bd]) rfl ((W1 (a:=bd) rfl).trans (VP c S7 hbd.1 hbd.2)) ?_
    rfl';refine qW (d:=.bl false) (S:=S7) (by kernel_rfl!) ?_
    rfl';exact u7 ⟨_,_,_,_,_,_,_,rfl⟩
   .intro n hn
    simp only[AD,Cu,EO] at hn;rcases hn with rfl|rfl|rfl|rfl <;> lia
  .rintro _ S ⟨e1,e2,e3,e4,e5,e6,e7,rfl⟩
   rfl';exact rfl
 obtain⟨d,S',e,rfl⟩:=key;exact⟨S',e⟩
end _K
namespace _K
open PySem PySem.Spec PyProof.Rows _L _D
variable {mg:Ar->Ak Ac}
theorem wR {P:Az}{w:AL}{K:Ai}{base:A8}{c:Cl}(T:Txt K mg c){k:Ah}{F:DF}(d:DfS F P w K mg base true k "_law_same" 2):DfS (qY 2 (b__law_same F)) P w K mg base true (k+1) "_law_same" 2:=by
 refine dq P w base k 8 T rfl ck rfl ?_
 intros
 repeat' first
  |with_reducible exact ck
  |((with_reducible show QE _ _ _);with_reducible first|apply aV|apply WK|apply iP|apply aBt|apply aO|(apply aB;first|apply WU|apply WT|apply WS|apply oQ)|apply aC|apply iR|apply iO|apply iQ|apply iM)
  |((with_reducible show _=_);first|exact T.nb ck|exact uP _|exact rfl|with_unfolding_all rfl)
  |((with_reducible show ZOp _ _ _);with_reducible first|apply M4|apply M9|apply M6)
  |((with_reducible show RoomC _ _ _);first|assumption|exact RoomC.mono (by assumption)|exact RoomC.mono (RoomC.any (by assumption))|exact RoomC.mark (by assumption) _|exact RoomC.mono (RoomC.mark (by assumption) _))
  |((with_reducible show St1 _ _ _ _);exact⟨rfl,rfl⟩)
  |((with_reducible show DfS _ _ _ _ _ _ _ _ _ _);assumption)
  |with_reducible first|apply iL|apply bL|apply gL|apply sT|apply iK|apply iW|(apply WM;first|apply bN|apply tS)|apply iX|apply bN|apply tS|apply aNm|apply iS|apply lK|apply sU|apply iU|apply iT|apply sW|apply sV|apply iV|apply WL|apply W5
  |((with_reducible apply aSt);case hs=>exact rfl)
  |((with_reducible show ClA _ _ _ _);first|assumption|exact ClA.tr (by assumption))
  |((with_reducible show LmX _ _ _ _ _ _ _ _ _ _);assumption)
  |((with_reducible show DfL _ _ _ _ _ _ _ _ _ _ _ _ _);assumption)
  |((with_reducible show ZF _ _ _ _);first|apply aFn|apply aFn0)
  |exact λ_=>⟨rfl,rfl,rfl⟩
  |(intro h;cases h;done)
  |((with_reducible show ZPass _);first|assumption|exact rK)
  |exact⟨rfl,rfl⟩
  |exact⟨rfl,rfl,rfl⟩
  |apply bL
  |apply gL
  |(intros;rfl)
  |(intro _ h;cases h <;> rfl)
  |decide
  |intro _
theorem VG {P:Az}{w:AL}{K:Ai}{base:A8}{c:Cl}(T:Txt K mg c)(nd:(x8 c).Nodup)(hT:(GZ.all λy=>(Bq K y).isSome)=true):∃ F,tX P w K mg base true 8 "law" ["_law_script"] F/\∀ ns:Aa Am,ns.length<=63->∃ S,F [.lst (ns.map D.int)] [] = .ok (.bl true) S:=by
 refine hv (λ_=>?_) (dq (cm:=true) P w base 0 0 T rfl ck (jX) ?_);refine hv (λ_=>?_) (dq (cm:=true) P w base 1 1 T rfl ck (uL) ?_);refine hv (λ_=>?_) (dq (cm:=true) P w base 2 2 T rfl ck (wC c) ?_);refine hv (λ_=>?_) (dq (cm:=true) P w base 0 3 T rfl ck (vP) ?_);refine hv (λ_=>?_) (dq (cm:=true) P w base 3 4 T rfl ck (jY c) ?_);refine hv (λ_=>?_) (dq (cm:=true) P w base 4 5 T rfl ck (u9 c) ?_);refine hv (λ_=>?_) (dq (cm:=false) P w base 0 6 T rfl ck (vN c) ?_);refine hv (λ_=>?_) (dqL (cm:=true) (g:=b__law_refused c) (N:=2) P w base 6 6 0 7 T rfl ck ?_);have s0:DfS (bP 0) P w K mg base true 0 "_law_same" 2:=⟨YF (T.src 8 rfl)⟩;have d__law_same:DfS S__law_same P w K mg base true 4 "_law_same" 2:=uK▸wR T (wR T (wR T (wR T s0)));refine hv (λ_=>?_) (dq (cm:=true) P w base 0 9 T rfl ck (uH) ?_);refine hv (λ_=>?_) (dq (cm:=true) P w base 0 10 T rfl ck (jW) ?_);refine hv (λ_=>?_) (dq (cm:=true) P w base 0 11 T rfl ck (uI) ?_);refine hv (λ_=>?_) (dq (cm:=true) P w base 1 12 T rfl ck (yB) ?_);refine hv (λ_=>?_) (dq (cm:=true) P w base 0 13 T rfl ck (yV) ?_);refine hv (λ_=>?_) (dq (cm:=true) P w base 1 14 T rfl ck (uJ) ?_);refine hv (λ_=>?_) (dq (cm:=true) P w base 5 15 T rfl ck (vO c) ?_);refine⟨_,dqP 7 16 T rfl ck ?_,ZL c nd⟩
 all_goals
  intros
  repeat' first
   |with_reducible exact ck
   |((with_reducible show QE _ _ _);with_reducible first|apply aV|apply F5|apply WK|apply F9|apply iP|apply aBt|apply aCl|apply aL|apply aO|apply aN|apply UE|(apply aB;first|apply WU|apply WT|apply WS|apply oQ|apply M7)|(apply aT;first|apply L8)|apply aC|apply iR|apply F7|apply UD|apply F6|apply ND|apply X9|apply NF|apply iO|apply X7|apply F8|apply NG|apply iQ|apply iM|apply UC|apply F4|apply UB|apply F3|apply dE|(apply bM;(case slot=>apply Jj);(case' hm=>first|apply oP))|(apply kU;(case slot=>apply Jj);(case' hm=>first|apply oP))|(apply bM;(case slot=>apply Lm);(case' hm=>first|apply d0))|(apply kU;(case slot=>apply Lm);(case' hm=>first|apply d0))|(apply bM;(case slot=>apply HA);(case' hm=>first|apply rH))|(apply kU;(case slot=>apply HA);(case' hm=>first|apply rH))|(apply bM;(case slot=>apply HB);(case' hm=>first|apply rJ))|(apply kU;(case slot=>apply HB);(case' hm=>first|apply rJ))|(apply bM;(case slot=>apply La);(case' hm=>first|apply tB))|(apply kU;(case slot=>apply La);(case' hm=>first|apply tB))|apply F1)
   |((with_reducible show _=_);first|exact T.nb ck|with_reducible apply Nn|with_reducible apply Mk|with_reducible apply Jk|with_reducible apply Ln|with_reducible apply Ml|with_reducible apply Mm|with_reducible apply Lb|exact uP _|exact rfl|with_unfolding_all rfl)
   |((with_reducible show ZOp _ _ _);with_reducible first|apply L5|apply M3|apply LH|apply LA|apply L6|apply L9|apply LC|apply LG|apply SL|apply SJ|apply SH|apply SG|apply M4|apply M9|apply M6|apply L7)
   |((with_reducible show RoomC _ _ _);first|assumption|exact RoomC.mono (by assumption)|exact RoomC.mono (RoomC.any (by assumption))|exact RoomC.mark (by assumption) _|exact RoomC.mono (RoomC.mark (by assumption) _))
   |((with_reducible show St1 _ _ _ _);exact⟨rfl,rfl⟩)
   |((with_reducible show DfS _ _ _ _ _ _ _ _ _ _);assumption)
   |with_reducible first|apply iL|apply bL|apply gL|apply sT|apply iK|apply aK0|apply UH|apply UG|apply FE|apply FL|apply iW|(apply WM;first|apply bN|apply tS)|apply iX|apply bN|apply tS|apply aNm|apply iS|apply FB|apply lK|apply sU|apply FD|apply XA|apply iU|apply iT|apply FC|apply sW|apply XB|apply sV|apply NH|apply iV|apply WL|apply UI|apply FH|apply XD|apply aAu|apply aP2|apply aRs|apply aTr|apply LB|apply SI|apply M5|apply M8|apply LD|apply W5|apply Nn|apply Mk|apply Jk|apply Ln|apply Ml|apply Mm|apply Lb
   |((with_reducible apply aSt);case hs=>exact rfl)
   |with_reducible apply FF
   |exact T.cls
   |exact T.cl (by kernel_rfl)
   |exact T.rz (by kernel_rfl)
   |exact T.ct
   |((with_reducible apply LL);(case D=>assumption))
   |((with_reducible show ClA _ _ _ _);first|assumption|exact ClA.tr (by assumption))
   |((with_reducible show LmX _ _ _ _ _ _ _ _ _ _);assumption)
   |((with_reducible show DfL _ _ _ _ _ _ _ _ _ _ _ _ _);assumption)
   |((with_reducible show LmK _ _);refine lmK hT (by assumption) ?_ rfl)
   |((with_reducible show ZF _ _ _ _);first|apply aFn|apply aFn0)
   |exact λ_=>⟨rfl,rfl,rfl⟩
   |(intro h;cases h;done)
   |((with_reducible show ZPass _);first|assumption|exact rK)
   |exact⟨rfl,rfl⟩
   |exact⟨rfl,rfl,rfl⟩
   |apply bL
   |apply gL
   |decide
   |(intros;rfl)
   |(intro _ h;cases h <;> rfl)
   |intro _
end _K
namespace _K
open PySem PySem.Spec PyProof.Rows _L _D
variable {K:Ai}
theorem bdf:BdF top tab:=by
 repeat (refine⟨?_,?_⟩;(intro _ _ _ _ _ _ us h;first|(obtain⟨_,rfl⟩:=us1 h;rfl)|(obtain⟨_,_,rfl⟩:=us2 h;rfl)|(obtain⟨_,_,_,rfl⟩:=us3 h;rfl)))
 exact trivial
theorem MD {C0 C1 C2 C3 C4 C5 C6 C7 C8 C9 C10 C11:Ad}(q0:Co K Bd "FarError" = Ab (Ab (.ref C0)))(q1:Co K Bd "NoPoint" = Ab (Ab (.ref C1)))(q2:Co K Bd "NoLot" = Ab (Ab (.ref C2)))(q3:Co K Bd "NoNumber" = Ab (Ab (.ref C3)))(q4:Co K Bd "NoCircle" = Ab (Ab (.ref C4)))(q5:Co K Bd "NoMarks" = Ab (Ab (.ref C5)))(q6:Co K Bd "NoFars" = Ab (Ab (.ref C6)))(q7:Co K Bd "NoText" = Ab (Ab (.ref C7)))(q8:Co K Bd "NoLine" = Ab (Ab (.ref C8)))(q9:Co K Bd "NoDeed" = Ab (Ab (.ref C9)))(q10:Co K Bd "Alike" = Ab (Ab (.ref C10)))(q11:Co K Bd "TooMany" = Ab (Ab (.ref C11))):rM K (clt ⟨C0,C1,C2,C3,C4,C5,C6,C7,C8,C9,C10,C11⟩):=⟨q0,q1,q2,q3,q4,q5,q6,q7,q8,q9,q10,q11,trivial⟩
theorem ME:rN K cst:=trivial
theorem P7 {P:Az}{w:AL}{mg:Ar->Ak Ac}{c:Cl}{fa:Ad}(T:Txt K mg c)(nd:(x8 c).Nodup)(hT:(GZ.all λy=>(Bq K y).isSome)=true)(hfa:mg "law" = Ab (.ref fa)) :
  ∃ fd:CV,(∀ (s:Ag) (v:Ac),HZ s fd ⟨[v],[]⟩ [("_law_script",v)])/\∀ base:A8,K.In base->base.Ns Bd mg->FnOk P w K mg base (CXd P w) 8 fa fd ["_law_script"] (tU K):=
 VH (T.src 16 rfl) hfa (λkV doc pm an cdv ct s v=>.of_eq rfl) λbase=>VG T nd hT
end _K
theorem PySem.W.Fast.tw10636931126874291276 : True := trivial
theorem PySem.W.Fast.tw3826461868261321960 : True := trivial
theorem PySem.W.Fast.tw11904731149977253103 : True := trivial
theorem PySem.W.Fast.tw15906863773227933703 : True := trivial
theorem PySem.W.Fast.tw11551358829328331981 : True := trivial
theorem PySem.W.Fast.tw295971161675877452 : True := trivial
theorem PySem.W.Fast.tw11056487314208181838 : True := trivial
theorem PySem.W.Fast.tw1006200562869246634 : True := trivial
theorem PySem.W.Fast.tw9182140383929110421 : True := trivial
theorem PySem.W.Fast.tw7995580576999331418 : True := trivial
theorem PySem.W.Fast.tw8010805540341701645 : True := trivial
theorem PySem.W.Fast.tw14600383377203480231 : True := trivial
theorem PySem.W.Fast.tw16591539444362214898 : True := trivial
theorem PySem.W.Fast.tw11132964576152774506 : True := trivial
theorem PySem.W.Fast.tw6344280067202760236 : True := trivial
theorem PySem.W.Fast.tw1168515781205808579 : True := trivial
theorem PySem.W.Fast.tw1390688142237422547 : True := trivial
theorem PySem.W.Fast.tw13683144333656218331 : True := trivial
theorem PySem.W.Fast.tw15758579273542418311 : True := trivial
theorem PySem.W.Fast.tw16198422478162631094 : True := trivial
theorem PySem.W.Fast.tw8666698614228036363 : True := trivial
theorem PySem.W.Fast.tw13502444471745935876 : True := trivial
theorem PySem.W.Fast.tw16937272314500512716 : True := trivial
theorem PySem.W.Fast.tw4993800828326264582 : True := trivial
theorem PySem.W.Fast.tw5933630942816845121 : True := trivial
theorem PySem.W.Fast.tw14693687095303145575 : True := trivial
theorem PySem.W.Fast.tw7748214596193054168 : True := trivial
theorem PySem.W.Fast.tw18110853798717087222 : True := trivial
theorem PySem.W.Fast.tw12016323907072363206 : True := trivial
theorem PySem.W.Fast.tw4329998071422879197 : True := trivial
theorem PySem.W.Fast.tw6686104320595977191 : True := trivial
theorem PySem.W.Fast.tw7121396559846646171 : True := trivial
theorem PySem.W.Fast.tw1897115180967520193 : True := trivial
theorem PySem.W.Fast.tw13479031252551384300 : True := trivial
theorem PySem.W.Fast.tw12240694419428492040 : True := trivial
theorem PySem.W.Fast.tw9815399422646678503 : True := trivial
theorem PySem.W.Fast.tw3304930229480534510 : True := trivial
theorem PySem.W.Fast.tw18048722479262875633 : True := trivial
theorem PySem.W.Fast.tw13599804880855322450 : True := trivial
theorem PySem.W.Fast.tw3176484569649949599 : True := trivial
theorem PySem.W.Fast.tw5841960442941196429 : True := trivial
theorem PySem.W.Fast.tw14055652813484422227 : True := trivial
theorem PySem.W.Fast.tw1634885263242898957 : True := trivial
theorem PySem.W.Fast.tw9940882069422410976 : True := trivial
theorem PySem.W.Fast.tw7563955125055934211 : True := trivial
theorem PySem.W.Fast.tw5565887239204696980 : True := trivial
theorem PySem.W.Fast.tw16598051538747697321 : True := trivial
theorem PySem.W.Fast.tw3364804600630445329 : True := trivial
theorem PySem.W.Fast.tw15505131834149106041 : True := trivial
theorem PySem.W.Fast.tw2755455494916360131 : True := trivial
theorem PySem.W.Fast.tw7778542178455951078 : True := trivial
theorem PySem.W.Fast.tw208018143166955978 : True := trivial
theorem PySem.W.Fast.tw1339072068987555655 : True := trivial
theorem PySem.W.Fast.tw6219604903019984400 : True := trivial
theorem PySem.W.Fast.tw6492212084787274969 : True := trivial
theorem PySem.W.Fast.tw15042008857858353668 : True := trivial
theorem PySem.W.Fast.tw17404235801400345085 : True := trivial
theorem PySem.W.Fast.tw8945755666484669197 : True := trivial
theorem PySem.W.Fast.tw12768519319133776424 : True := trivial
theorem PySem.W.Fast.tw6789981142502600376 : True := trivial
theorem PySem.W.Fast.tw17049338468844143550 : True := trivial
theorem PySem.W.Fast.tw15202305457851979204 : True := trivial
theorem PySem.W.Fast.tw8203805138231924432 : True := trivial
theorem PySem.W.Fast.tw15205987634083789378 : True := trivial
theorem PySem.W.Fast.tw8413217851916944982 : True := trivial
theorem PySem.W.Fast.tw12627092986595331560 : True := trivial
theorem PySem.W.Fast.tw10316412678934004997 : True := trivial
open PySem PySem.W PyProof.Rows
set_option maxRecDepth 100000 in
set_option maxHeartbeats 0 in
theorem PySem.Challenge.cw_fewdistances_k60_circles_of_whole_points_holds : PySem.Challenge.rw_fewdistances_k60_circles_of_whole_points.Holds := by
 w_on;o_law;k_head;(case hw=>w_witness2)
 k_fill
 refine _D.L4 (l:=Ir) (k:=8) (x:="_law_script") rfl rfl ⟨rfl,by decide,by decide,rfl⟩ (λ_=>by kernel_rfl) (λw h Y=>PySem.W.km_in_of Y) ?F
 case F =>
  intro w mg fa h KX G hmg
  refine' _K.P7 (_D.NY _K.bdf ?hp rfl KX G ?s ?z (_K.MD ?q0 ?q1 ?q2 ?q3 ?q4 ?q5 ?q6 ?q7 ?q8 ?q9 ?q10 ?q11) (_K.ME ) ?e1 ?e2 ?e3 ?e4 ?e5 ?e6) ?nd ?hT hmg
  (case s=>(repeat (refine' ⟨_D.SrcF.mk ?a ?l ?c ?k,?_⟩;(case a=>k_is);(case l=>k_is);(case c=>k_is);(case k=>k_is)));exact trivial)
  (case z=>rfl)
  (case q0=>k_is)
  (case q1=>k_is)
  (case q2=>k_is)
  (case q3=>k_is)
  (case q4=>k_is)
  (case q5=>k_is)
  (case q6=>k_is)
  (case q7=>k_is)
  (case q8=>k_is)
  (case q9=>k_is)
  (case q10=>k_is)
  (case q11=>k_is)
  (case hp=>intro y hy;revert hy;simp;grind)
  (case e1=>rfl)
  (case e2=>rfl)
  (case e3=>rfl)
  (case e4=>rfl)
  (case e5=>rfl)
  (case e6=>rfl)
  (case nd=>decide)
  (case hT=>rfl)
