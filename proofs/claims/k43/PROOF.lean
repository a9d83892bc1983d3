import PyProof.Rows.All
import Wide.All
import OpenK.AllK
import Wide.FinOn
import Lean
import PyProof.EqAt
import PyProof.EqKinds
import PyProof.TupleCall
import KE.KLam
import KE.KTryMore
import KE.KIsAll
import PyProof.NeKinds
import PyProof.Rows.CountFlat
import PyProof.Rows.FStr
import PyProof.ZipIter
import PyProof.EnumMake
import PyProof.EnumStmt
import KE.KDictLaws
import PyProof.DictWalks
import PyProof.Rows.SetFrom
import PyProof.SumWalkG
import PyProof.Rows.SumGenD
import PyProof.SeqI2
import KE.KItemsList
import PyProof.SetKind
import PyProof.TupleKey
import KE.KSortTup
import PyProof.ReprRoads
import PyProof.ReprBulk
import PyProof.TupleOfSeq
import PyProof.WalkInts
import PyProof.SeqI3
import PyProof.Rows.RuleDivmod
import PyProof.ListRange
import KE.KPairComp
import KE.KMinKey
import PyProof.Rows.CallKwBuiltin
import KE.KDictList
import PyProof.DictTruth
import PySem.Challenge.RW_fewdistances_k43_fars_of_grids
set_option Elab.async false
set_option linter.all false
set_option maxRecDepth 100000
set_option maxHeartbeats 0
set_option tactic.hygienic false
set_option bootstrap.genMatcherCode false
set_option genSizeOf false
set_option compiler.extract_closed false
open Array renaming length_toList->AN,toList_append->Bh,getD_eq_getD_getElem?->Cq,getElem?_toList->Cu,size_extract->DQ,getD->DY,toList_push->Ef,toList_extract->Eg,toList_reverse->EJ,perm_iff_toList_perm->HJ,toList->Lp,toList_inj->Mb
open BEq renaming rfl->Ob
open Bool renaming and_eq_true->Az,noConfusion->Bb,false_eq_true->Bu,and_eq_true_iff->CQ,false_ne_true->Dy,not_eq_true'->Gf,or_eq_true->IT,and_true->Ku,false_and->Ni,true_or->NE
open Classical renaming choose_spec->Ji,choose->LZ
open False renaming elim->Al
open ForInStep renaming yield->E1
open Int renaming le_trans->Cd,le_of_lt->Ds,toNat_natCast->D9,le_refl->DU,emod_lt_of_pos->Fp,sub_zero->Fw,emod_nonneg->Hn,zero_add->L4,add_comm->L5,max_eq_right->Md,le_max_right->Me,max_eq_left->Mv,le_max_left->Mw,not_lt->Nd,mul_nonneg->Nn,le_total->NO,mul_pos->NW
open List renaming getElem?_eq_getElem->Ao,mem_cons->A8,getElem?_eq_some_iff->AE,prefix_refl->AF,size_toArray->AG,mem_append_right->AI,all_eq_true->AJ,append_assoc->AM,map_cons->AQ,mem_cons_of_mem->AS,length_cons->AV,length_map->AW,mem_map->AZ,getElem?_append_left->Be,replicate->Bf,mem_iff_getElem->Bl,mem_append->Bq,getElem?_set_ne->Bs,getElem?_set_self->By,not_mem_nil->Cb,mem_append_left->Cc,getElem?_append_right->Ch,mem_of_getElem?->Cj,pairwise_append->Cn,getD_eq_getElem?_getD->Cy,mem_cons_self->Cz,mem_singleton->CA,contains_iff_mem->CK,nodup_cons->CO,length_append->CP,getElem?_map->CV,map_map->Dl,replicate_succ->Dp,length_take->Du,drop_eq_getElem_cons->Dv,extract_eq_take_drop->Dx,find?_cons->D7,length_nil->D8,length_eq_zero_iff->DC,range->DD,getElem_mem->DM,append_nil->Ea,flatten_cons->Ed,pairwise_iff_getElem->Ee,mem_range->Ej,lookup_cons->Em,map_congr_left->Eo,zip_cons_cons->Ex,perm_append_comm->E9,pairwise_map->EC,filter_cons->EK,filterMap_cons->EL,getD->ET,reverse_append->EV,mem_filter->EY,lookup->Fd,forIn_cons->Fe,nil_append->Fh,mem_filterMap->Fm,prefix_append->Fn,getElem?_replicate->Ft,pairwise_mergeSort->Fx,forIn_nil->Gc,flatMap_cons->Gg,take_of_length_le->Gk,drop_of_length_le->Gm,length_drop->Gr,any_cons->Gs,getElem?_eq_none->Gv,mem_iff_getElem?->Gz,take_append_drop->Hc,of_mem_zip->Hi,foldl_cons->Hj,length->HD,getElem?_zip_eq_some->HY,getElem?_take_of_lt->Ig,prefix_iff_getElem?->Il,getElem_inj->Im,zipIdx_cons->Ir,map_fst_zip->Iu,ext_getElem->Iw,pairwise_singleton->ID,getElem?_cons_succ->IE,drop_eq_nil_of_le->IQ,range_succ_eq_map->IS,find?_cons_of_neg->IU,length_zip->IZ,length_filter_le->Jf,countP_mono_left->Jj,singleton_append->Jk,nodup_nil->Jx,reverse_reverse->Kf,mergeSort_perm->Kw,mem_map_of_mem->Kz,lookup_append->Ln,map_nil->Ls,getElem_drop->LJ,getElem_take->LK,countP_cons->Ma,map_snd_zip->Mc,cons_append->Mf,any_eq_true->Mm,length_set->Mq,zipIdx_nil->Ms,foldl->Nb,take_zero->Nm,all_cons->Ny,zipWith->NL
open List.Pairwise renaming nil->HW
open List.Perm renaming append_right->E2,append_left->E8,trans->Hm,refl->H0
open Nat renaming le_refl->Au,lt_of_lt_of_le->Ax,ne_of_lt->AX,le_trans->Bn,lt_irrefl->Bw,le_of_lt->CD,pos_of_ne_zero->Dd,lt_of_le_of_ne->D2,add_le_add_left->DJ,le_of_ble_eq_true->DV,add_sub_cancel_left->Et,zero_add->Eu,eq_zero_of_not_pos->E4,add_lt_of_lt_sub'->EA,one_pos->EB,lt_trans->EH,not_lt->ES,sub_lt->EW,zero_le->Fc,le_succ->Fg,lt_of_le_of_lt->Fo,ne_of_gt->Fq,le_add_right->Ha,lt_of_succ_lt->Ia,sub_pos_of_lt->Ib,min_self->IA,le_antisymm->IW,add_le_of_le_sub'->Jl,le_of_sub_eq_zero->Jm,lt_sub_of_add_lt->Kc,add_le_add_right->Ke,add_sub_cancel'->Kx,add_comm->Lu,le_of_eq->Lz,sub_self->L0,add_zero->L3,lt_succ_of_lt->LL,succ_ne_self->Mj,succ_le_succ->Mn,noConfusion->Mr,add_le_add->Nl,lt_or_ge->NM,add_mul->NY
open Nat.succ renaming inj->NF
open Ne renaming symm->Cf
open Option renaming some->Ab,isSome_iff_exists->Eh,bind_eq_some_iff->Es,map_eq_some_iff->E0,isSome_some->Lj,getD_none->LU,getD_some->LW,none->NS
open Option.some renaming inj->Bg
open Or renaming inr->No,inl->NT
open PyProof.Rows renaming wpS_bind->Av,wpS_pure->A4,Keyed->A7,slot_tuple_getitem->Ct,wpS_forRange->Cw,SortSt->CL,envOfC->Dg,seqObj->Di,wpS_mono->Dq,callWith_type1->DN,wpS_modify->DZ,SortKind->Fi,wpS_get->Fz,subscriptTail_builtinR->Gi,AllBare->Gp,callWith_builtin1->Hd,wpS_lift->HL,IntsAre->HS,subscriptTail->HT,isBoolOf->IV,gallopOf->IX,get?_update_seq->IY,IsTup->Jb,entry_tuple_getitem->Km,Subscript_->Kn,args_tuple_getitem->Lh,slot_tuple_getitem->Li,callWith_kw->Mk,kws_cons->My,lt_int->Oc
open PyProof.Rows.IsTup renaming new->Oe
open PyProof.Rows.SortSt renaming mk'->Bd
open PySem renaming Value->Ac,Addr->Ad,wpAny_bind->Af,Shared->Ag,wpAny_pure->An,Str->Ap,wpAny->Ar,model->As,starEach->A3,Program->A6,Expr->AA,Around->AB,Heap->AC,World->AK,mainGlobals->AO,Obj->AR,argBest->Bc,wpAny_seqItems->Bm,compareOp->Bt,wpAny_tryCatch->Bv,wpAny_holding->Bx,Scope->Cg,binaryOp->Co,Stmt->Cs,codeAny_builtin->CB,plainId_quiet->CC,Pos->CG,wpAny_field->CH,wpAny_newObj_type->CI,FuncData->CN,wpAny_letGo->CS,mem_of_lookup->CU,bootBuiltins->CW,cLine->CZ,assignEach->Df,wpAny_callSpecial?_slot->Dj,Comprehension->Dk,backTo->Dm,wpAny_mono->Dn,wpAny_updateSeq->Dr,cellsFrom->Dt,NameKind->Dz,wpAny_Call_Name_kw->D0,wpAny_rule->D3,rawInt->D4,foldedSetIterable->D5,sizeLine_eq->DB,codeAny->DH,wpAny_call_entry->DL,wpAny_setField_rec->DP,sysModules->DW,Env->El,IsPair->Ew,letOwnedTupleGo->Ey,Model->E6,wpAny_pyIter_list->E7,behindInMarks->EM,Arguments->EO,TriplesOk->ER,attributeBase->EU,Sem->EZ,wpAny_passesOwn->Fa,sliceBounds->Fb,getItem->Fv,recursionLimit->Gb,wpAny_truthy_bool->Ge,BindsTo->Gq,wpAny_of_eq->Gw,wpAny_attempt->Gx,wpAny_updateSeq_pair->He,wpAny_execs_nil->Hg,codeAmong->Hk,call_meetsIn->Ho,builtinsNs->Hu,Builtin->Hv,IsZip->Hz,tupleKind_room_in1->H9,wpAny_pyIter_tuple->HB,wpAny_newFunctionEnv_cells->HE,IsPart->HF,bindArgs->HK,intItems->HM,tupleKind->HN,valueAt->HU,callerA->HV,wpAny_onRaise->HZ,noFill_tuple_add->Io,closureFor->Ip,call_meets->Iq,wpAny_Call_method0_late->IF,Tok->IM,PassesOwn->Jc,Result->Jd,codeAny_call_function->Je,swapsWith->Jg,numAt->Jn,argsOk->Jo,newFunctionEnv->Jv,wpAny_loadName_local->Jy,codeAny_call_builtin->Kb,wpAny_Name->Kh,bindL->Kj,bindC->Kk,seq_tuple_add->Kl,atKey->Ko,standAt->Kq,wpAny_call->Kr,evalArgs_none->La,pyNext->Lb,wpAny_Constant_int->Ld,concat_meets->Lq,wpAny_typeOf->Lr,codeAny_mono->Lv,CmpOp->L7,wpAny_sequenceKey->LA,slot_list_getitem->LB,ClassData->LC,noteFrame->LD,setFlight->LG,pushCells->LI,wpAny_execs_cons->LP,pyIter->LQ,seqIndex_of->LS,checkBuiltinCall->LV,wpAny_pyIter_zip->LY,pushCells_keeps->Mt,typeIs_int->Na,call->Nc,defaultsOf->Ng,setItem->Nu,seqIndex?->Nw,Keyword->N6,Walks->NA,Within->NC,isTrue->NH
open PySem.Around renaming under_plainId->Ce,frames_deeper->Jz
open PySem.Builtin.Builtins renaming bindParams->EG
open PySem.Builtin.Getset_descriptor renaming descrCheckInstance->IK,descrNameAndClass->IR,descrGetter->Ks,descrGet->Ly
open PySem.Builtin.List renaming listTooLong->Fl,listUpdate->NN
open PySem.Builtin.ObjectAttr renaming bindTo->HX,dataDescriptor?->Lx,getOf->NB,find->NG
open PySem.Builtin.Range renaming rangeSize->ND
open PySem.Builtin.Slice renaming slicePlaces->Ec,sliceAdjust->EQ,sliceApplied->HG,slicePartIndex->Mz,sliceFields->Nv
open PySem.Builtin.SmallTypes renaming nextOf->Bp,ownedTupleIsFree->Dc,ownedTupleHandOut->Ff
open PySem.Builtin.Tuple renaming tupleExact->Ei,tupleItemsOf->HH,tupleCompareSizes->Mi,tupleIsExact->Nq
open PySem.Calls renaming callWith_builtin->Gj,spliced_cons->HA,Name_function_global->HC,spliced_nil->HR,evalArgs_plain->Ka
open PySem.Challenge renaming pw_fewdistances_k43_fars_of_grids->Ic,rw_fewdistances_k43_fars_of_grids->Ie
open PySem.F renaming plain_max_loop->AU,plain_min_loop->Cp,entry_max_loop->CT,slot_tuple_iterator_next->DR,plainAttrs_dict->Ev,entry_min_loop->E5,args_tuple_add_2->Fk,entry_tuple_add->Fu,slot_tuple_add->Gh,slot_dict_get->Gu,slot_zip_next->Hl,args_tuple_iterator_next_1->Hx,entry_tuple_iterator_next->Hy,excBase_ValueError->HI,slot_dict_values->Ik,args_dict_get_3->Ix,attr_ValueError->Iy,slot_list_count->IB,slot_list_index->IC,slot_dict_items->IG,plainAttrs_list->IH,type_list_count->II,type_list_index->IJ,entry_dict_get->IP,slot_dict_pop->Jp,type_dict_get->Jq,type_dict_pop->Jr,args_zip_next_1->LH,plain_max->LN,entry_max->LO,entry_zip_next->LX,kind_max->Ml,slot_int_rmul->Mu
open PySem.Heap renaming get?_push_of_some->Aj,lt_size->Ay,get?_update_other->A9,get?_push_size->AD,get?_update_self->CJ,size_push->CM,SameBut->Er,FlyingW->Hq,MadeExcOf->Ju,IsTuple->NK,ExtBut->NU,IsList->NV,HeldW->Oa
open PySem.Heap.IsSliceOf renaming new->Od
open PySem.Heap.SameBut renaming update->Kv
open PySem.MeetsSeq renaming list_index->N7,EqGives->NP
open PySem.NameKind renaming free->Dw,cell->Gy
open PySem.Obj renaming mapSeq->Do,data_mapFields->Lo
open PySem.SeqAt renaming EqAt->Nz
open PySem.SeqAt.EqAt renaming bool_bool->Np,same->N5,int_int->NI,of_refs->NJ
open PySem.SetTable renaming Probe->N8
open PySem.Shared renaming heap->Jh
open PySem.Str renaming ofString->Bo,empty->EN
open PySem.Value renaming ref->AL,none->Bi,bool->De,type->Hs,int->Ja,str->L6,isStrOf->Nt,builtin->Nx,isInt->NQ,float->NR
open PySem.W renaming Frag->Ah,tabIn->Bj,nsIn->Br,kia_one->Bz,keepIn->Ci,fnOf->CY,exmOne->Ek,cellsFrom_some->Ez,kitOne->ED,codeIn->EE,tabObj->EF,kla_obj->Fj,findIn->Ga,hideAll->Hf,methodObj->HP,kitx_list->HQ,nsMap_none_of_in->Ih,instObj->IN,CodeHd->Js,lookIn->Jt,kla_fn->Jw,hideAll_get->Kg,mroIn->Ki,mg_of->Ky,of_hideAll->Lc,kitx_tuple->Lf,codeRec_of->Lg,callWith_K->Ll,isNs_of_in->Lm,looks_findIn->Lw,specialIn->L8,kitx_dict->L9,plainGet->LR,takesIn->Mp,OpenLaw->Mx,nsOkIn->Nj,WalkO->N9
open PySem.W.Looks renaming ld->Og
open PySem.W.WData renaming int->Of
open PySem.W.WShape renaming has->NZ
open PySem.Walks renaming list->Nh
open Sum renaming inl->Gn,inr->IL
open Sum.inl renaming inj->Go
open True renaming intro->DX
open _root_ renaming List->Aa,Nat->Ai,Option->Ak,Int->Am,Bool->Aq,if_neg->Aw,if_pos->A0,Array->A5,of_decide_eq_true->AH,decide_eq_false->AT,decide_eq_true->AY,decide_eq_true_eq->Ba,String->Bk,if_true->Ca,False->CF,beq_self_eq_true->Dh,of_decide_eq_false->D1,if_false->D6,or_false->Eb,decide_true->En,Decidable->Ep,decide_false->EI,decide_eq_false_iff_not->Fy,StateT->Hb,beq_eq_false_iff_ne->Hr,True->Ht,beq_iff_eq->Hw,Unit->H8,not_or->Nr
noncomputable section
theorem om {p:Prop}(h:p:=by omega):p:=h
theorem li {p:Prop}(h:p:=by lia):p:=h
theorem kd {p:Prop}[Ep p](h:p:=by decide +kernel):p:=h
section
namespace _L
open PySem PySem.Spec PyProof.Rows
abbrev Key:=Sum Am Ap
noncomputable def uU:Key->Ac->Aq
 |.inl k,v=>NQ k v
 |.inr x,v=>Nt x v
noncomputable def M3 (w:AK):Key->Am
 |.inl k=>hashInt k
 |.inr x=>hashStr w x
theorem zK:∀ {k:Key} {v:Ac},uU k v=true->(∃ i t,k=Gn i/\v=Ja i t)\/(∃ x t,k=IL x/\v=L6 x t)
 |.inl i,v,h=>by
  obtain⟨t,e⟩:=Value.isInt_shape (k:=i) (v:=v) h;exact .inl ⟨i,t,rfl,e⟩
 |.inr x,v,h=>by
  obtain⟨t,e⟩:=Value.isStrOf_shape (x:=x) (v:=v) h;exact .inr ⟨x,t,rfl,e⟩
theorem rW (i:Am)(t:IM):uU (.inl i) (.int i t)=true:=by simp[uU,NQ]
theorem rX (x:Ap)(t:IM):uU (.inr x) (.str x t)=true:=by simp[uU,Nt]
theorem UK (a b:Am):decide ((Gn a:Key)=Gn b)=(a == b):=by
 by_cases e:a=b
 .subst e;simp
 .have h:¬ (Gn a:Key)=Gn b:=λq=>e (Go q)
  rw[AT h];exact(Hr.mpr e).symm
theorem UN (a b:Ap):decide ((IL a:Key)=IL b)=decide (a=b):=by
 by_cases e:a=b
 .subst e;simp
 .have h:¬ (IL a:Key)=IL b:=λq=>e (Sum.inr.inj q)
  rw[AT h,AT e]
theorem UL (a:Am)(b:Ap):decide ((Gn a:Key)=IL b)=false:=AT (λq=>nomatch q)
theorem UM (a:Ap)(b:Am):decide ((IL a:Key)=Gn b)=false:=AT (λq=>nomatch q)
noncomputable def qZ (prog:A6)(w:AK):PySem.KeyKind prog w Key where
 is:=uU
 hash:=M3 w
 inj:=λv a b ha hb=>by
  rcases zK ha with⟨i,t,rfl,rfl⟩|⟨x,t,rfl,rfl⟩
  .rcases zK hb with⟨j,u,rfl,e⟩|⟨y,u,rfl,e⟩
   .injection e with e1 _;rw[e1]
   .exact nomatch e
  .rcases zK hb with⟨j,u,rfl,e⟩|⟨y,u,rfl,e⟩
   .exact nomatch e
   .injection e with e1 _;rw[e1]
 byValue:=λk v h=>by
  rcases zK h with⟨i,t,rfl,rfl⟩|⟨x,t,rfl,rfl⟩ <;> rfl
 pyHash:=λhv h=>by
  rcases zK hv with⟨i,t,rfl,rfl⟩|⟨x,t,rfl,rfl⟩
  .exact wpAny_pyHash_int h
  .exact wpAny_pyHash_str h
 eqBool:=λhu hv h=>by
  rcases zK hu with⟨i,t,rfl,rfl⟩|⟨x,t,rfl,rfl⟩
  .rcases zK hv with⟨j,u,rfl,rfl⟩|⟨y,u,rfl,rfl⟩
   .rw[UK] at h;exact wpAny_eqBool_int h
   .rw[UL] at h;exact SeqAt.EqAt.int_str i t y u _ _ _ _ h
  .rcases zK hv with⟨j,u,rfl,rfl⟩|⟨y,u,rfl,rfl⟩
   .rw[UM] at h;exact SeqAt.EqAt.str_int x t j u _ _ _ _ h
   .rw[UN] at h;exact wpAny_eqBool_str h
 «strs»:=λk x t v h=>by
  rcases zK h with⟨i,u,rfl,e⟩|⟨y,u,rfl,e⟩
  .exact nomatch e
  .injection e with e1 _
   subst e1;cases v <;> rfl
theorem nI (prog:A6)(w:AK)(i:Am)(t:IM):(qZ prog w).is (.inl i) (.int i t)=true:=rW i t
theorem nJ (prog:A6)(w:AK)(x:Ap)(t:IM):(qZ prog w).is (.inr x) (.str x t)=true:=rX x t
end _L
namespace _L
open PySem PySem.Spec PyProof.Rows
inductive V where
 |non|bl (b:Aq)|int (i:Am)|str (x:Ap)|byt (b:A5 UInt8)|flt (b:UInt64)|ref (a:Ad)|ty (n:Bk)
 deriving DecidableEq
def qI:V->Ac->Prop
 |.non,u=>u=Bi
 |.bl b,u=>u=De b
 |.int i,u=>∃ t,u=Ja i t
 |.str x,u=>∃ t,u=L6 x t
 |.byt b,u=>∃ t,u=Value.bytes b t
 |.flt b,u=>∃ t,u=NR b t
 |.ref a,u=>u=AL a
 |.ty n,u=>u=Hs n
abbrev qL:Aa V->Aa Ac->Prop:=Paired qI
theorem qL.length {xs:Aa V}{us:Aa Ac}(r:qL xs us):xs.length=us.length:=Paired.length r
theorem qL.get:∀ {xs:Aa V} {us:Aa Ac} {i:Ai} {x:V},qL xs us->xs[i]? = Ab x->∃ u,us[i]? = Ab u/\qI x u
 |_,_,_,_,.nil,e=>by simp at e
 |_,_,0,_,.cons r _,e=>by simp at e;subst e;exact⟨_,rfl,r⟩
 |_,_,i+1,x,.cons _ t,e=>by
  obtain⟨u,h1,h2⟩:=qL.get (i:=i) (x:=x) t (by simpa using e)
  exact⟨u,by simpa using h1,h2⟩
theorem qL.set {x:V}{u:Ac}(r:qI x u):∀ {xs:Aa V} {us:Aa Ac} (i:Ai),qL xs us->qL (xs.set i x) (us.set i u)
 |_,_,_,.nil=>.nil
 |_,_,0,.cons _ t=>.cons r t
 |_,_,i+1,.cons q t=>.cons q (qL.set r i t)
theorem qL.append {xs ys:Aa V}{us ws:Aa Ac}(h:qL xs us)(s:qL ys ws):qL (xs++ys) (us++ws):=by
 induction h with
 |nil=>exact s
 |cons r t ih=>exact .cons r ih
theorem qL.take:∀ {xs:Aa V} {us:Aa Ac} (n:Ai),qL xs us->qL (xs.take n) (us.take n)
 |_,_,0,_=>.nil
 |_,_,_+1,.nil=>.nil
 |_,_,n+1,.cons r t=>.cons r (qL.take n t)
theorem qL.drop:∀ {xs:Aa V} {us:Aa Ac} (n:Ai),qL xs us->qL (xs.drop n) (us.drop n)
 |_,_,0,r=>r
 |_,_,_+1,.nil=>.nil
 |_,_,n+1,.cons _ t=>qL.drop n t
def wY:Ak V->Ak Ac->Prop
 |some v,Ab u=>qI v u
 |none,none=>Ht
 |_,_=>CF
def KV {κ : Type}:Aa (κ × V)->Aa (κ × Ac)->Prop:=Paired λ(p:κ × V) (q:κ × Ac)=>p.1=q.1/\qI p.2 q.2
noncomputable def kV:Key->V
 |.inl i=>.int i
 |.inr x=>.str x
inductive HO where
  |lst (xs:Aa V)
  |tup (xs:Aa V)
  |dK (kvs:Aa (Key × V))|dT (kvs:Aa (Aa Key × V))
  |set (S:Am->Aq) (n:Ai)
  |ins (C dx:Ad) (fs:Aa (Ap × V))
  |own (x:Ad)
  |xd (fs:Aa (Ap × V))
  |met (f x:Ad)
  |rng (lo hi:Am)
  |frz (o:AR) (u:HO)
  |tbl (ps:A5 Ac)
  |ext (φ : AC->Prop)
abbrev Hp:=Ad->Ak HO
noncomputable def upd (H:Hp)(a:Ad)(o:HO):Hp:=λb=>if b=a then Ab o else H b
theorem qS {H:Hp}{a:Ad}{o:HO}:upd H a o a=Ab o:=by unfold upd;rw[A0 rfl]
theorem qG {H:Hp}{a b:Ad}{o:HO}(h:b≠a):upd H a o b=H b:=by unfold upd;rw[Aw h]
theorem B5 {H:Hp}{a b:Ad}{o u:HO}(h:H a=Ab o)(h':H b=Ab u)(d:o≠u):a≠b:=by
 intro e;subst e;rw[h] at h';exact d (Bg h')
theorem qN {H:Hp}{a b:Ad}{o:HO}(h:H a=Ab o)(h':H b=none):a≠b:=by
 intro e;subst e;rw[h] at h';cases h'
section
variable (P:A6)(w:AK)
def z9 (H:Hp)(h:AC)(a:Ad):HO->Prop
 |.lst xs=>xs.length<=sizeLine/\∃ (its:Aa Ac) (n:Ai),qL xs its/\h.get? a=Ab { cls:=.type "list",data:=.seq its.toArray n }
 |.tup xs=>xs.length<=sizeLine/\∃ its:Aa Ac,qL xs its/\Jb h a its.toArray
 |.dK kvs=>kvs.length<=sizeLine/\(a == DW)=false/\∃ vs,KV kvs vs/\h.DictOf (qZ P w) a vs
 |.dT kvs=>kvs.length<=sizeLine/\(a == DW)=false/\∃ xs:Aa (Aa Key × Ad × Ac),
   Paired (λ(p:Aa Key × V) (q:Aa Key × Ad × Ac)=>p.1=q.1/\H q.2.1=Ab (.tup (p.1.map kV))/\qI p.2 q.2.2) kvs xs /\
   ∃ o es ep,h.get? a=Ab o/\o.ExactDict/\o.data=.dict es ep/\es.toList=xs.map (entryOfKey (HN (qZ P w)))/\(xs.map (·.1)).Nodup
 |.set S n=>h.SetOf (intKind P w) a S n
 |.ins C dx fs=>H dx=Ab (.own a)/\fs.length<=1000/\dx≠a/\h.get? a=Ab (IN C dx) /\
   ∃ mA,h.Ns1 dx mA/\(∀ f,wY (fs.lookup f) (mA f))/\NC mA (fs.map (·.1))
 |.own _=>∃ o,h.get? a=Ab o
 |.xd fs=>∃ mA,h.Ns1 a mA/\∀ f,wY (fs.lookup f) (mA f)
 |.rng lo hi=>∃ t u v,h.get? a=Ab { cls:=.type "range",data:=.fields #[.int lo t,.int hi u,.int 1 v] }
 |.frz o u=>h.get? a=Ab o/\z9 H h a u
 |.tbl ps=>h.get? a=Ab { cls:=.none,data:=.fields ps }
 |.met f x=>h.get? a=Ab (HP (.ref f) (.ref x))
 |.ext φ => φ h/\(∃ o,h.get? a=Ab o)/\∀ h1 h2:AC,φ h1->(∀ o,h1.get? a=Ab o->h2.get? a=Ab o)->φ h2
def HOk (H:Hp)(h:AC):Prop:=∀ a o,H a=Ab o->z9 P w H h a o
end
section
variable {P:A6}{w:AK}{H H':Hp}{h h':AC}{a:Ad}{o:HO}
theorem z9.lt (x:z9 P w H h a o):a<h.objs.size:=by
 cases o with
 |lst xs=>obtain⟨_,_,_,_,e⟩:=x;exact Ay e
 |tup xs=>obtain⟨_,_,_,p⟩:=x;exact p.lt
 |dK kvs=>obtain⟨_,_,_,_,o,_,_,e,_⟩:=x;exact Ay e
 |dT kvs=>obtain⟨_,_,_,_,o,_,_,e,_⟩:=x;exact Ay e
 |set S n=>obtain⟨o,_,_,_,e,_⟩:=x;exact Ay e
 |ins C dx fs=>obtain⟨_,_,_,e,_⟩:=x;exact Ay e
 |own y=>obtain⟨_,e⟩:=x;exact Ay e
 |xd fs=>obtain⟨_,⟨_,_,_,e,_⟩,_⟩:=x;exact Ay e
 |rng lo hi=>obtain⟨_,_,_,e⟩:=x;exact Ay e
 |frz ob u=>obtain⟨e,_⟩:=x;exact Ay e
 |tbl ps=>exact Ay (show h.get? a=Ab _ from x)
 |met f y=>exact Ay (show h.get? a=Ab _ from x)
 |ext φ => obtain⟨_,⟨_,e⟩,_⟩:=x;exact Ay e
theorem Paired.mapP {α β:Type}{F G:α->β->Prop}{l₁:Aa α}{l₂:Aa β}(h:Paired F l₁ l₂)(f:∀ a b,F a b->G a b):Paired G l₁ l₂:=by
 induction h with
 |nil=>exact .nil
 |cons r t ih=>exact .cons (f _ _ r) ih
theorem z9.stay (x:z9 P w H h a o)(k:∀ b u,(b=a\/H b=Ab (.own a))->h.get? b=Ab u->h'.get? b=Ab u)
  (ho:∀ b,H b=Ab (.own a)->H' b=Ab (.own a)) (ht:∀ b xs,H b=Ab (.tup xs)->H' b=Ab (.tup xs)):z9 P w H' h' a o:=by
 induction o with
 |lst xs=>obtain⟨z,its,n,r,e⟩:=x;exact⟨z,its,n,r,k _ _ (.inl rfl) e⟩
 |tup xs=>obtain⟨z,its,r,ob,e,c⟩:=x;exact⟨z,its,r,ob,k _ _ (.inl rfl) e,c⟩
 |dK kvs=>obtain⟨z,y,vs,r,ob,es,ep,e,c⟩:=x;exact⟨z,y,vs,r,ob,es,ep,k _ _ (.inl rfl) e,c⟩
 |dT kvs =>
  obtain⟨z,y,xs,r,ob,es,ep,e,c⟩:=x;exact⟨z,y,xs,Paired.mapP r λp q z=>⟨z.1,ht _ _ z.2.1,z.2.2⟩,ob,es,ep,k _ _ (.inl rfl) e,c⟩
 |set S n=>obtain⟨ob,es,ep,t,e,c⟩:=x;exact⟨ob,es,ep,t,k _ _ (.inl rfl) e,c⟩
 |ins C dx fs =>
  obtain⟨d,z,ne,e,mA,⟨od,es,ep,e2,c⟩,r⟩:=x;exact⟨ho _ d,z,ne,k _ _ (.inl rfl) e,mA,⟨od,es,ep,k _ _ (.inr d) e2,c⟩,r⟩
 |own y=>obtain⟨ob,e⟩:=x;exact⟨ob,k _ _ (.inl rfl) e⟩
 |xd fs=>obtain⟨mA,⟨od,es,ep,e,c⟩,r⟩:=x;exact⟨mA,⟨od,es,ep,k _ _ (.inl rfl) e,c⟩,r⟩
 |rng lo hi=>obtain⟨t,u,v,e⟩:=x;exact⟨t,u,v,k _ _ (.inl rfl) e⟩
 |frz ob u ih=>obtain⟨e,q⟩:=x;exact⟨k _ _ (.inl rfl) e,ih q⟩
 |tbl ps =>
  have e:h.get? a=Ab { cls:=.none,data:=.fields ps }:=x;show h'.get? a=Ab { cls:=.none,data:=.fields ps };exact k a _ (.inl rfl) e
 |met f y =>
  have e:h.get? a=Ab (HP (.ref f) (.ref y)):=x;show h'.get? a=Ab (HP (.ref f) (.ref y));exact k a _ (.inl rfl) e
 |ext φ => obtain⟨p,⟨o,e⟩,st⟩:=x;exact⟨st _ _ p λo q=>k _ _ (.inl rfl) q,⟨o,k _ _ (.inl rfl) e⟩,st⟩
theorem HOk.lt (x:HOk P w H h)(e:H a=Ab o):a<h.objs.size:=(x a o e).lt
theorem HOk.fresh (x:HOk P w H h)(e:h.objs.size<=a):H a=none:=by
 cases q:H a with
 |none=>rfl
 |some u=>exact absurd (Ax (x.lt q) e) (Bw _)
theorem HOk.kept (x:HOk P w H h)(k:∀ b u,h.get? b=Ab u->h'.get? b=Ab u):HOk P w H h':=λa o e =>
 (x a o e).stay (λb u _ q=>k b u q) (λ_ q=>q) λ_ _ q=>q
theorem HOk.laid (x:HOk P w H h)(k:∀ b u,h.get? b=Ab u->h'.get? b=Ab u)(hp:h.objs.size<=a)(new:z9 P w (upd H a o) h' a o):HOk P w (upd H a o) h':=λb u e=>by
 have hn:=x.fresh hp;by_cases hb:b=a
 .subst hb;rw[qS] at e;cases e;exact new
 .rw[qG hb] at e
  exact(x b u e).stay (λc v _ q=>k c v q) (λc q=>by rw[qG (qN q hn)];exact q) λc xs q=>by rw[qG (qN q hn)];exact q
end
def Rd (H:Hp)(a:Ad)(u:HO):Prop:=H a=Ab u\/∃ o,H a=Ab (.frz o u)
theorem Rd.of {H:Hp}{a:Ad}{u:HO}(h:H a=Ab u):Rd H a u:=.inl h
theorem Rd.ok {P:A6}{w:AK}{H:Hp}{h:AC}{a:Ad}{u:HO}(r:Rd H a u)(x:HOk P w H h):z9 P w H h a u:=by
 rcases r with r|⟨o,r⟩
 .exact x a u r
 .obtain⟨_,q⟩:=x a _ r
  exact q
def Mut:Ak HO->Prop
 |some (.lst _)=>Ht
 |some (.dK _)=>Ht
 |some (.dT _)=>Ht
 |some (.set _ _)=>Ht
 |some (.ins _ _ _)=>Ht
 |some (.ext _)=>Ht
 |_=>CF
section
variable {P:A6}{w:AK}{H:Hp}{h h':AC}{x e:Ad}{o':HO}
theorem HOk.write (ok:HOk P w H h)(mu:Mut (H x))(he:e=x\/H e=Ab (.own x))(k:∀ b u,b≠e->h.get? b=Ab u->h'.get? b=Ab u)(heo:∃ u,h'.get? e=Ab u)
  (new:z9 P w (upd H x o') h' x o'):HOk P w (upd H x o') h':=λb u q=>by
 have nown:∀ c y,H c=Ab (.own y)->c≠x:=λc y r z=>by subst z;rw[r] at mu;exact mu
 have ntup:∀ c xs,H c=Ab (.tup xs)->c≠x:=λc xs r z=>by subst z;rw[r] at mu;exact mu
 by_cases hb:b=x
 .subst hb;rw[qS] at q;cases q;exact new
 .rw[qG hb] at q
  by_cases hbe:b=e
  .have q':H b=Ab (.own x):=by
    rcases he with z|z
    .exact absurd (hbe.trans z) hb
    .rw[hbe];exact z
   rw[q] at q';cases q';obtain⟨v,hv⟩:=heo;exact⟨v,by rw[hbe];exact hv⟩
  .refine(ok b u q).stay (λc v hc r=>k c v ?_ r) (λc r=>by rw[qG (nown c b r)];exact r) λc xs r=>by rw[qG (ntup c xs r)];exact r
   rcases hc with rfl|hc
   .exact hbe
   .rintro rfl
    rcases he with z|z
    .exact nown c b hc z
    .rw[hc] at z;cases z;exact hb rfl
end
structure Un (fs ex:Aa Ad)(H H':Hp)(h h':AC):Prop where
 keep:∀ b o,h.get? b=Ab o->H b=none->b ∉ fs->b ∉ ex->h'.get? b=Ab o
 slot:∀ b o,h.get? b=Ab o->H b=none->b∈fs->b ∉ ex->∃ sl,h'.get? b=Ab { o with slots:=sl }
 free:∀ b o,h.get? b=Ab o->H b=none->b ∉ ex->H' b=none
 there:∀ b o,h.get? b=Ab o->b ∉ ex->∃ o',h'.get? b=Ab o'
 tups:∀ b xs,H b=Ab (.tup xs)->H' b=Ab (.tup xs)
 frzs:∀ b o u,H b=Ab (.frz o u)->H' b=Ab (.frz o u)
 tbls:∀ b ps,H b=Ab (.tbl ps)->∃ more,H' b=Ab (.tbl (ps++more))
section
variable {fs fs' ex ex':Aa Ad}{H H1 H2:Hp}{h h1 h2 h':AC}{a x e:Ad}{o:HO}
theorem Un.any (u:Un fs ex H H1 h h1){b:Ad}{ob:AR}(q:h.get? b=Ab ob)(n:H b=none)(hx:b ∉ ex):∃ sl,h1.get? b=Ab { ob with slots:=sl }:=by
 by_cases hb:b∈fs
 .exact u.slot b ob q n hb hx
 .exact⟨ob.slots,u.keep b ob q n hb hx⟩
theorem Un.kept (k:∀ b u,h.get? b=Ab u->h'.get? b=Ab u):Un fs ex H H h h':=
 ⟨λb ob q _ _ _=>k b ob q,λb ob q _ _ _=>⟨ob.slots,k b ob q⟩,λ_ _ _ n _=>n,λb ob q _=>⟨ob,k b ob q⟩,λ_ _ q=>q,λ_ _ _ q=>q,λ_ ps q=>⟨#[],by rw[q];simp⟩⟩
theorem Un.refl:Un fs ex H H h h:=Un.kept λ_ _ q=>q
theorem Un.laid (k:∀ b u,h.get? b=Ab u->h'.get? b=Ab u)(hp:h.objs.size<=a)(hn:H a=none):Un fs ex H (upd H a o) h h' where
 keep:=λb u q _ _ _=>k b u q
 slot:=λb u q _ _ _=>⟨u.slots,k b u q⟩
 free:=λb u q n _=>by rw[qG (AX (Ax (Ay q) hp))];exact n
 there:=λb u q _=>⟨u,k b u q⟩
 tups:=λb xs q=>by rw[qG (qN q hn)];exact q
 frzs:=λb u xs q=>by rw[qG (qN q hn)];exact q
 tbls:=λb ps q=>⟨#[],by rw[qG (qN q hn),q];simp⟩
theorem Un.write (mu:Mut (H x))(he:e=x\/H e=Ab (.own x))(k:∀ b u,b≠e->h.get? b=Ab u->h'.get? b=Ab u)(heo:∃ u,h'.get? e=Ab u):Un fs ex H (upd H x o) h h':=by
 have hx:∀ b,H b=none->b≠x:=λb n z=>by subst z;rw[n] at mu;exact mu
 have hb:∀ b,H b=none->b≠e:=λb n z=>by
  subst z;rcases he with r|r
  .exact hx b n r
  .rw[n] at r;cases r
 have hm:∀ b u,H b=Ab u->¬ Mut (Ab u)->b≠x:=λb u q nm z=>by subst z;rw[q] at mu;exact nm mu
 refine⟨λb u q n _ _=>k b u (hb b n) q,λb u q n _ _=>⟨u.slots,k b u (hb b n) q⟩,λb u q n _=>by rw[qG (hx b n)];exact n,λb u q _=>?_,
  λb xs q=>by rw[qG (hm b _ q λz=>z)];exact q,λb u xs q=>by rw[qG (hm b _ q λz=>z)];exact q,λb ps q=>⟨#[],by rw[qG (hm b _ q λz=>z),q];simp⟩⟩
 by_cases hbe:b=e
 .subst hbe;exact heo
 .exact⟨u,k b u hbe q⟩
end
noncomputable def trk (h:AC)(H:Hp):Aa Ad:=(DD h.objs.size).filter λa=>(H a).isSome
noncomputable def uN (h:AC)(H:Hp):AC:=Hf h (trk h H)
theorem rQ (h:AC)(H:Hp):(uN h H).objs.size=h.objs.size:=PySem.W.hideAll_size _ _
theorem iH {h:AC}{H:Hp}{b:Ad}{o:AR}(e:h.get? b=Ab o)(n:H b=none):(uN h H).get? b=Ab o:=
 Kg _ e λhm=>by
  have q:(H b).isSome=true:=(EY.mp hm).2;rw[n] at q;simp at q
theorem WC {h:AC}{H:Hp}{b:Ad}{o:AR}(e:(uN h H).get? b=Ab o):h.get? b=Ab o/\H b=none:=by
 have e':h.get? b=Ab o:=Lc (trk h H) e;refine⟨e',?_⟩;cases q:H b with
 |none=>rfl
 |some x =>
  have hm:b∈trk h H:=EY.mpr ⟨Ej.mpr (Ay e'),by simp[q]⟩
  have z:(uN h H).get? b=none:=PySem.W.hideAll_none (trk h H) hm;rw[z] at e;cases e
end _L
namespace _L
open PySem PySem.Spec PyProof.Rows
variable {g':A5 GenState}{ch:Aa Ad}{E:Ac->Ag->Prop}{t':Ai}{d':Drawn}{M:E6}{Q:H8->Ag->Prop}
noncomputable def xJ:Aa Ap:=["law","_law_right","by_hull","pair_bound","hub","greatest_often"]
def YS (mg:Ap->Ak Ac)(h:AC):Prop:=∃ bm o,mg "__builtins__" = Ab (.ref bm)/\bm≠Hu/\h.get? bm=Ab o/\o.cls=.type "module" /\ o.dict=Ab Hu/\o.data=.plain
structure Mod (K:Ah)(mg:Ap->Ak Ac)(base:AC):Prop where
 kin:K.In base
 glob:base.Ns AO mg
 blt:∃ mb,base.Ns Hu mb/\∀ x:Ap,x ≠ "__name__" -> mb x=CW x
 nolimit:base.NoLimit
 bm:YS mg base
 code:∀ x∈xJ,∀ c T,Bj K x=Ab (c,T)->Js base c T
 inj:∀ x∈xJ,∀ y∈xJ,∀ c d T,Bj K x=Ab (c,T)->Bj K y=Ab (d,T)->x=y
structure Cx where
 prog:A6
 w:AK
 K:Ah
 mg:Ap->Ak Ac
 base:AC
 A:AB
 N:Aa Ap
 s₀:Ag
 H₀:Hp
 env:El
 outer:Aa El
 stack:Aa El
 ex:Aa Ad
 fn:Ap->Aq
 calm:Aq
 pn:Aa (Ad × AR)
 xe:Ac->Ag->Prop
noncomputable def frs (l:Aa El):Aa Ad:=l.filterMap (·.frame)
abbrev Cx.fs (X:Cx):Aa Ad:=frs X.outer
def Vis (sc:Cg)(x:Ap):Prop:=sc.names.lookup x=Ab .local \/ sc.names.lookup x=Ab .cell\/sc.names.lookup x=Ab .free
def Loc (sc:Cg)(x:Ap):Prop:=sc.names.lookup x=Ab .local \/ sc.names.lookup x=Ab .cell
def YU (env:El)(h:AC)(m:Ap->Ak Ac)(x:Ap)(u:Ac):Prop:=
 (env.kindOf x=Ab .local /\ m x=Ab u)\/((env.kindOf x=Ab .cell\/env.kindOf x=Ab .free)/\∃ c,env.cells.lookup x=Ab c/\h.IsCell c (Ab u))
structure Cx.Ok (X:Cx):Prop where
 mod:Mod X.K X.mg X.base
 kind:X.env.scope.kind=.function
 glob:X.env.globals=AO
 blt:X.env.builtins=Hu
 above:X.s₀.heap.objs.size<=X.env.locals
 inj:∀ x y c,X.env.cells.lookup x=Ab c->X.env.cells.lookup y=Ab c->x=y
 has:∀ x,(X.env.kindOf x=Ab .cell\/X.env.kindOf x=Ab .free)->∃ c,X.env.cells.lookup x=Ab c
 cab:∀ x c,X.fn x=true->X.env.cells.lookup x=Ab c->X.s₀.heap.objs.size<=c
 hd:X.calm=true->X.A.handled=none
 frames:X.A.frames=Ab X.stack
 stk:X.stack=X.outer\/(X.stack=X.env::X.outer/\X.env.frame=Ab X.env.locals)
 exf:∀ b∈X.ex,b≠X.env.locals/\∀ x c,X.env.cells.lookup x=Ab c->c≠b
 bs:∀ b o,X.base.get? b=Ab o->X.s₀.heap.get? b=Ab o/\X.H₀ b=none
 bsz:X.base.objs.size<=X.s₀.heap.objs.size
 noex:∀ b o,X.base.get? b=Ab o->b ∉ X.ex
 exfs:∀ b∈X.ex,b ∉ X.fs
 funs:X.s₀.heap.FunFrames X.base X.outer
 frf:∀ b∈X.fs,X.H₀ b=none
structure Inv (X:Cx)(pins:Aa (Ad × AR))(σ : Aa (Ak V))(H:Hp)(s:Ag):Prop where
 ok:X.Ok
 os:s.os=X.s₀.os
 bare:Gp s.gens
 base:Un X.fs X.ex X.H₀ H X.s₀.heap s.heap
 loc:∃ m,s.heap.Ns X.env.locals m/\∀ (i:Ai) (x:Ap) (v:V),X.N[i]? = Ab x->σ[i]? = Ab (Ab v)->Vis X.env.scope x->∃ u,qI v u/\YU X.env s.heap m x u
 cell:∀ x c,X.env.cells.lookup x=Ab c->∃ v,s.heap.IsCell c v
 free:H X.env.locals=none
 freeC:∀ x c,X.env.cells.lookup x=Ab c->H c=none
 pin:∀ p∈X.pn++pins,s.heap.get? p.1=Ab p.2/\H p.1=none/\p.1≠X.env.locals/\p.1 ∉ X.fs/\∀ v,p.2.data≠.cell v
 hok:HOk X.prog X.w H s.heap
 len:σ.length=X.N.length
section
variable {X:Cx}{pins:Aa (Ad × AR)}{σ : Aa (Ak V)}{H H':Hp}{s:Ag}{h':AC}
theorem Cx.Ok.nofr (ok:X.Ok){b:Ad}{o:AR}(e:X.base.get? b=Ab o):b ∉ X.fs:=λhb=>by
 have:=(ok.funs.mem hb).1;rw[e] at this;cases this
theorem Inv.bs (I:Inv X pins σ H s):∀ b o,X.base.get? b=Ab o->s.heap.get? b=Ab o/\H b=none:=λb o e =>
 ⟨I.base.keep b o (I.ok.bs b o e).1 (I.ok.bs b o e).2 (I.ok.nofr e) (I.ok.noex b o e),I.base.free b o (I.ok.bs b o e).1 (I.ok.bs b o e).2 (I.ok.noex b o e)⟩
theorem Inv.bk (I:Inv X pins σ H s):∀ b o,X.base.get? b=Ab o->s.heap.get? b=Ab o:=λb o e=>(I.bs b o e).1
theorem Inv.mod (I:Inv X pins σ H s):Mod X.K X.mg X.base:=I.ok.mod
theorem Inv.kIn (I:Inv X pins σ H s):X.K.In s.heap:=I.ok.mod.kin.keeps I.bk
theorem Inv.nolimit (I:Inv X pins σ H s):s.heap.NoLimit:=I.ok.mod.nolimit.keeps I.bk
theorem Inv.lt (I:Inv X pins σ H s):X.env.locals<s.heap.objs.size:=let ⟨_,hn,_⟩:=I.loc;hn.lt
theorem Inv.sz (I:Inv X pins σ H s):X.s₀.heap.objs.size<=s.heap.objs.size:=Bn I.ok.above (CD I.lt)
theorem Inv.nofs (I:Inv X pins σ H s){a:Ad}(h:s.heap.objs.size<=a):a ∉ X.fs:=λhb=>by
 obtain⟨_,o,ho,_⟩:=I.ok.funs.mem hb;exact absurd (Ax (Ay ho) (Bn I.sz h)) (Bw _)
theorem Inv.cne (I:Inv X pins σ H s):∀ x c,X.env.cells.lookup x=Ab c->c≠X.env.locals:=λx c e z=>by
 obtain⟨v,o,ho,hd⟩:=I.cell x c e;obtain⟨m,⟨o',es,ep,ho',hd',_⟩,_⟩:=I.loc;rw[z,ho'] at ho;cases ho;rw[hd'] at hd;cases hd
theorem Inv.funs (I:Inv X pins σ H s):s.heap.FunFrames X.base X.outer:=by
 have all:∀ (l:Aa El),(∀ b∈frs l,b∈X.fs)->X.s₀.heap.FunFrames X.base l->s.heap.FunFrames X.base l:=by
  intro l
  induction l with
  |nil=>intro _ _;trivial
  |cons env r ih =>
   intro hs hl;obtain⟨hk,⟨L,o,hf,hn,ho,hd⟩,hr⟩:=hl;have hL:L∈X.fs:=hs L (by unfold frs;rw[EL,hf];exact Cz)
   obtain⟨sl,e⟩:=I.base.slot L o ho (I.ok.frf L hL) hL λz=>I.ok.exfs L z hL;exact⟨hk,⟨L,_,hf,hn,e,hd⟩,ih (λb hb=>hs b (by unfold frs;rw[EL,hf];exact AS _ hb)) hr⟩
 exact all X.outer (λ_ hb=>hb) I.ok.funs
theorem Inv.stack (I:Inv X pins σ H s):s.heap.FunFrames X.base X.stack:=by
 rcases I.ok.stk with e|⟨e,hf⟩
 .rw[e];exact I.funs
 .rw[e]
  obtain⟨m,hn,_⟩:=I.loc;refine .cons (by rw[I.ok.kind];decide) hf hn ?_ I.funs
  exact Heap.get?_none_of_le (Bn I.ok.bsz I.ok.above)
theorem Inv.stkSub (I:Inv X pins σ H s):∀ b∈frs X.stack,b∈X.env.locals::X.fs:=λb hb=>by
 rcases I.ok.stk with e|⟨e,hf⟩
 .rw[e] at hb;exact AS _ hb
 .rw[e] at hb
  unfold frs at hb;rw[EL,hf] at hb;exact hb
theorem Inv.stkFree (I:Inv X pins σ H s):∀ b∈frs X.stack,H b=none:=λb hb=>by
 rcases A8.mp (I.stkSub b hb) with e|hb
 .rw[e];exact I.free
 .obtain⟨_,o,ho,_⟩:=I.ok.funs.mem hb
  exact I.base.free b o ho (I.ok.frf b hb) λz=>I.ok.exfs b z hb
theorem Inv.step {g':A5 GenState}{t':Ai}{d':Drawn}(I:Inv X pins σ H s)
  (hch:∀ b∈ch,(b∈X.ex\/X.s₀.heap.objs.size<=b)/\b≠X.env.locals/\(∀ x c,X.env.cells.lookup x=Ab c->c≠b)/\∀ p∈X.pn++pins,p.1≠b)
  (keep:∀ b o,b≠X.env.locals->b ∉ X.fs->b ∉ ch->s.heap.get? b=Ab o->H b=none->h'.get? b=Ab o)
  (slot:∀ b o,b≠X.env.locals->b∈X.fs->b ∉ ch->s.heap.get? b=Ab o->H b=none->∃ sl,h'.get? b=Ab { o with slots:=sl }) (free:∀ b o,b ∉ ch->s.heap.get? b=Ab o->H b=none->H' b=none)
  (there:∀ b o,b ∉ ch->s.heap.get? b=Ab o->∃ o',h'.get? b=Ab o')
  (tups:∀ b xs,H b=Ab (.tup xs)->H' b=Ab (.tup xs)) (frzs:∀ b o u,H b=Ab (.frz o u)->H' b=Ab (.frz o u)) (tbls:∀ b ps,H b=Ab (.tbl ps)->∃ more,H' b=Ab (.tbl (ps++more)))
  (ns:∀ m,s.heap.Ns X.env.locals m->h'.Ns X.env.locals m) (hok:HOk X.prog X.w H' h') (hg:Gp g') :
  Inv X pins σ H' { s with heap:=h',gens:=g',drawn:=d',toks:=t' }:=by
 have neL:∀ b o,X.s₀.heap.get? b=Ab o->b≠X.env.locals:=λb o e=>AX (Ax (Ay e) I.ok.above);have neC:∀ b o,X.s₀.heap.get? b=Ab o->b ∉ X.ex->b ∉ ch:=λb o e hx hb=>by
  rcases (hch b hb).1 with z|z
  .exact hx z
  .exact absurd (Ax (Ay e) z) (Bw _)
 have cellK:∀ x c,X.env.cells.lookup x=Ab c->∀ v,s.heap.IsCell c v->h'.IsCell c v:=λx c e v ⟨o,ho,hd⟩=>by
  have nch:c ∉ ch:=λz=>(hch c z).2.2.1 x c e rfl;by_cases hc:c∈X.fs
  .obtain⟨sl,q⟩:=slot c o (I.cne x c e) hc nch ho (I.freeC x c e)
   exact⟨_,q,hd⟩
  .exact⟨o,keep c o (I.cne x c e) hc nch ho (I.freeC x c e),hd⟩
 refine⟨I.ok,I.os,hg,⟨λb o e n hb hx=>?_,λb o e n hb hx=>?_,λb o e n hx=>?_,λb o e hx=>?_,λb xs e=>tups b xs (I.base.tups b xs e),λb o xs e=>frzs b o xs (I.base.frzs b o xs e),λb ps e=>?_⟩,?_,λx c e=>?_,?_,λx c e=>?_,λp hp=>?_,hok,I.len⟩
 .exact keep b o (neL b o e) hb (neC b o e hx) (I.base.keep b o e n hb hx) (I.base.free b o e n hx)
 .obtain⟨sl,e1⟩:=I.base.slot b o e n hb hx
  obtain⟨sl',e2⟩:=slot b _ (neL b o e) hb (neC b o e hx) e1 (I.base.free b o e n hx);exact⟨sl',e2⟩
 .obtain⟨o',e1⟩:=I.base.there b o e hx
  exact free b o' (neC b o e hx) e1 (I.base.free b o e n hx)
 .obtain⟨o',e1⟩:=I.base.there b o e hx
  exact there b o' (neC b o e hx) e1
 .obtain⟨m1,e1⟩:=I.base.tbls b ps e
  obtain⟨m2,e2⟩:=tbls b _ e1;exact⟨m1++m2,by rw[e2,Array.append_assoc]⟩
 .obtain⟨m,hn,hl⟩:=I.loc
  refine⟨m,ns m hn,λi x v e1 e2 e3=>?_⟩;obtain⟨u,r,l⟩:=hl i x v e1 e2 e3;refine⟨u,r,?_⟩;rcases l with l|⟨k,c,e,z⟩
  .exact .inl l
  .exact .inr ⟨k,c,e,cellK x c e _ z⟩
 .obtain⟨v,z⟩:=I.cell x c e
  exact⟨v,cellK x c e v z⟩
 .obtain⟨m,⟨o,_,_,ho,_⟩,_⟩:=I.loc
  exact free _ o (λz=>(hch _ z).2.1 rfl) ho I.free
 .obtain⟨v,o,ho,hd⟩:=I.cell x c e
  exact free c o (λz=>(hch c z).2.2.1 x c e rfl) ho (I.freeC x c e)
 .obtain⟨e,n,ne,nf,d⟩:=I.pin p hp
  have nch:p.1 ∉ ch:=λz=>(hch p.1 z).2.2.2 p hp rfl;exact⟨keep p.1 p.2 ne nf nch e n,free p.1 p.2 nch e n,ne,nf,d⟩
theorem Inv.un {t':Ai}(I:Inv X pins σ H s)(u:Un X.fs [] H H' s.heap h')(hok:HOk X.prog X.w H' h'):Inv X pins σ H' { s with heap:=h',toks:=t' }:=by
 obtain⟨m,⟨o,es,ep,ho,r⟩,_⟩:=id I.loc;obtain⟨sl,hL⟩:=u.any ho I.free (by simp)
 exact I.step (g':=s.gens) (d':=s.drawn) (ch:=[]) (λ_ z=>nomatch z) (λb o _ hb _ e n=>u.keep b o e n hb (by simp)) (λb o _ hb _ e n=>u.slot b o e n hb (by simp)) (λb o _ e n=>u.free b o e n (by simp)) (λb o _ e=>u.there b o e (by simp)) u.tups u.frzs u.tbls (λm' hm=>by
  obtain⟨o',es',ep',ho',r'⟩:=hm;rw[ho] at ho';cases ho';exact⟨_,es',ep',hL,r'⟩) hok I.bare
theorem Inv.call {t':Ai}{d':Drawn}(I:Inv X pins σ H s)(u:Un (frs X.stack) ch H H' s.heap h')(hok:HOk X.prog X.w H' h')(hg:Gp g')
  (hch:∀ b∈ch,(b∈X.ex\/X.s₀.heap.objs.size<=b)/\b≠X.env.locals/\(∀ x c,X.env.cells.lookup x=Ab c->c≠b)/\∀ p∈X.pn++pins,p.1≠b) :
  Inv X pins σ H' { s with heap:=h',gens:=g',drawn:=d',toks:=t' }:=by
 obtain⟨m,⟨o,es,ep,ho,r⟩,_⟩:=id I.loc;obtain⟨sl,hL⟩:=u.any ho I.free λz=>(hch _ z).2.1 rfl;exact I.step (ch:=ch) hch (λb o hL hb hc e n=>u.keep b o e n (λz=>(A8.mp (I.stkSub b z)).elim hL hb) hc) (λb o _ _ hc e n=>u.any e n hc) (λb o hc e n=>u.free b o e n hc) (λb o hc e=>u.there b o e hc) u.tups u.frzs u.tbls (λm' hm=>by
  obtain⟨o',es',ep',ho',r'⟩:=hm;rw[ho] at ho';cases ho';exact⟨_,es',ep',hL,r'⟩) hok hg
theorem Inv.turned {t':Ai}{it:Ad}(I:Inv X pins σ H s)(k:∀ b o,b≠it->s.heap.get? b=Ab o->h'.get? b=Ab o)(hn:H it=none)(hL:it≠X.env.locals)
  (h1:it∈X.ex\/X.s₀.heap.objs.size<=it) (h2:∀ x c,X.env.cells.lookup x=Ab c->c≠it) (h3:∀ p∈X.pn++pins,p.1≠it):Inv X pins σ H { s with heap:=h',toks:=t' }:=by
 have nit:∀ b u,H b=Ab u->b≠it:=λb u e z=>by rw[z,hn] at e;cases e
 refine I.step (g':=s.gens) (d':=s.drawn) (ch:=[it]) (λb hb=>?_) (λb o _ _ hc e _=>k b o (λz=>hc (by simp[z])) e) (λb o _ _ hc e _=>⟨o.slots,k b o (λz=>hc (by simp[z])) e⟩) (λ_ _ _ _ n=>n)
  (λb o hc e=>⟨o,k b o (λz=>hc (by simp[z])) e⟩) (λ_ _ e=>e) (λ_ _ _ e=>e) (λb ps e=>⟨#[],by rw[e];simp⟩) (λm hm=>?_) (λb u e=>?_) I.bare
 .have e:b=it:=by simpa using hb
  subst e;exact⟨h1,hL,h2,h3⟩
 .obtain⟨o,es,ep,ho,r⟩:=hm
  exact⟨o,es,ep,k _ o (Cf hL) ho,r⟩
 .refine(I.hok b u e).stay (λc v hc q=>k c v ?_ q) (λ_ q=>q) λ_ _ q=>q
  rcases hc with z|z
  .rw[z];exact nit b u e
  .exact nit c _ z
theorem Inv.tok (I:Inv X pins σ H s)(t:Ai):Inv X pins σ H { s with toks:=t }:=I.un (h':=s.heap) (t':=t) Un.refl I.hok
theorem Inv.kept {t':Ai}(I:Inv X pins σ H s)(k:∀ b u,s.heap.get? b=Ab u->h'.get? b=Ab u):Inv X pins σ H { s with heap:=h',toks:=t' }:=I.un (Un.kept k) (I.hok.kept k)
theorem Inv.laid {a:Ad}{o:HO}{t':Ai}(I:Inv X pins σ H s)(k:∀ b u,s.heap.get? b=Ab u->h'.get? b=Ab u)(hp:s.heap.objs.size<=a)(new:z9 X.prog X.w (upd H a o) h' a o) :
  Inv X pins σ (upd H a o) { s with heap:=h',toks:=t' }:=I.un (Un.laid k hp (I.hok.fresh hp)) (I.hok.laid k hp new)
theorem Inv.write {x e:Ad}{o:HO}{t':Ai}(I:Inv X pins σ H s)(mu:Mut (H x))(he:e=x\/H e=Ab (.own x))(k:∀ b u,b≠e->s.heap.get? b=Ab u->h'.get? b=Ab u)(heo:∃ u,h'.get? e=Ab u)
  (new:z9 X.prog X.w (upd H x o) h' x o):Inv X pins σ (upd H x o) { s with heap:=h',toks:=t' }:=I.un (Un.write mu he k heo) (I.hok.write mu he k heo new)
theorem Inv.pins_of {pins':Aa (Ad × AR)}(I:Inv X pins σ H s)(h:∀ p∈pins',s.heap.get? p.1=Ab p.2/\H p.1=none/\p.1≠X.env.locals/\p.1 ∉ X.fs/\∀ v,p.2.data≠.cell v):Inv X pins' σ H s:=
 ⟨I.ok,I.os,I.bare,I.base,I.loc,I.cell,I.free,I.freeC,λp hp=>(Bq.mp hp).elim (λz=>I.pin p (Cc _ z)) (h p),I.hok,I.len⟩
theorem gB {N:Aa Ap}(hN:N.Nodup){i j:Ai}{x:Ap}(a:N[i]? = Ab x)(b:N[j]? = Ab x):i=j:=by
 obtain⟨h1,e1⟩:=AE.mp a;obtain⟨h2,e2⟩:=AE.mp b;exact(Im hN).mp (e1.trans e2.symm)
theorem cH {A:AB}{i:Ai}{x:Ap}{v:V}{u:Ac}(I:Inv X pins σ H s)(hN:X.N.Nodup)(hi:X.N[i]? = Ab x)(hx:Loc X.env.scope x)(r:qI v u)
  (h:∀ s',Inv X pins (σ.set i (Ab v)) H s'->(∃ a,Er a s.heap s'.heap/\(a=X.env.locals\/X.env.cells.lookup x=Ab a))->Q () s') (hf:X.fn x=true\/X.env.scope.names.lookup x=Ab .local:=by first|exact .inl rfl|exact .inr rfl|assumption):Ar M A (storeName X.env x u) Q E s:=by
 obtain⟨m,hn,hl⟩:=id I.loc;have hcls:(X.env.scope.kind == .class||(X.env.scope.kind == .module&&X.env.locals != X.env.globals))=false:=by rw[I.ok.kind];rfl
 have hiσ:i<σ.length:=by rw[I.len];exact(AE.mp hi).1
 have cne:=I.cne;have tracked:∀ {a:Ad} {h':AC},(∃ o,s.heap.get? a=Ab o/\H a=none)->Er a s.heap h'->HOk X.prog X.w H h':=λ{a h'} ha hs b ob e=>by
  obtain⟨_,_,hfree⟩:=ha;refine(I.hok b ob e).stay (λc w' hc q=>(hs.2 c ?_).trans q) (λ_ q=>q) λ_ _ q=>q;rintro rfl;rcases hc with rfl|hc
  .rw[hfree] at e;cases e
  .rw[hfree] at hc;cases hc
 rcases hx with hk|hk
 .refine wpAny_storeName_local hk hn (λh' hn' hs=>?_) hcls
  obtain⟨oL,_,_,hoL,_⟩:=id hn;refine h _ ⟨I.ok,I.os,I.bare,⟨λb o e n hb hx=>?_,λb o e n hb hx=>?_,I.base.free,λb o e hx=>?_,I.base.tups,I.base.frzs,I.base.tbls⟩,⟨_,hn',λj y v' e1 e2 e3=>?_⟩,λy c e=>?_,I.free,I.freeC,λp hp=>?_,tracked ⟨oL,hoL,I.free⟩ hs,by simpa using I.len⟩ ⟨_,hs,.inl rfl⟩
  .exact(hs.2 b (AX (Ax (Ay e) I.ok.above))).trans (I.base.keep b o e n hb hx)
  .obtain⟨sl,e1⟩:=I.base.slot b o e n hb hx
   exact⟨sl,(hs.2 b (AX (Ax (Ay e) I.ok.above))).trans e1⟩
  .obtain⟨o',e1⟩:=I.base.there b o e hx
   exact⟨o',(hs.2 b (AX (Ax (Ay e) I.ok.above))).trans e1⟩
  .by_cases hj:j=i
   .subst hj
    rw[hi] at e1;cases e1;rw[By hiσ] at e2;cases e2;exact⟨u,r,.inl ⟨hk,by simp⟩⟩
   .rw[Bs (Cf hj)] at e2
    obtain⟨u',r',q⟩:=hl j y v' e1 e2 e3;refine⟨u',r',?_⟩;rcases q with⟨k,e⟩|⟨k,c,e,z⟩
    .refine .inl ⟨k,?_⟩
     have:y≠x:=λe=>hj (gB hN e1 (e▸hi));simp[this,e]
    .exact .inr ⟨k,c,e,z.sameBut hs (cne y c e)⟩
  .obtain⟨w',z⟩:=I.cell y c e
   exact⟨w',z.sameBut hs (cne y c e)⟩
  .obtain⟨e,n,ne,nf,d⟩:=I.pin p hp
   exact⟨(hs.2 p.1 ne).trans e,n,ne,nf,d⟩
 .have hfn:X.fn x=true:=by
   rcases hf with z|z
   .exact z
   .rw[z] at hk;cases hk
  obtain⟨c,hc⟩:=I.ok.has x (.inl hk);obtain⟨w',z⟩:=I.cell x c hc;refine wpAny_storeName_cell I.ok.kind hk hc z (λh' hc' hs=>?_);obtain⟨oc,hoc,hocd⟩:=id z;refine h { s with heap:=h' } ⟨I.ok,I.os,I.bare,⟨λb o e n hb hx=>?_,λb o e n hb hx=>?_,I.base.free,λb o e hx=>?_,I.base.tups,I.base.frzs,I.base.tbls⟩,⟨m,hn.sameBut hs (Cf (cne x c hc)),λj y v' e1 e2 e3=>?_⟩,λy c' e=>?_,I.free,I.freeC,λp hp=>?_,tracked ⟨oc,hoc,I.freeC x c hc⟩ hs,by simpa using I.len⟩ ⟨c,hs,.inr hc⟩
  .exact(hs.2 b (AX (Ax (Ay e) (I.ok.cab x c hfn hc)))).trans (I.base.keep b o e n hb hx)
  .obtain⟨sl,e1⟩:=I.base.slot b o e n hb hx
   exact⟨sl,(hs.2 b (AX (Ax (Ay e) (I.ok.cab x c hfn hc)))).trans e1⟩
  .obtain⟨o',e1⟩:=I.base.there b o e hx
   exact⟨o',(hs.2 b (AX (Ax (Ay e) (I.ok.cab x c hfn hc)))).trans e1⟩
  .by_cases hj:j=i
   .subst hj
    rw[hi] at e1;cases e1;rw[By hiσ] at e2;cases e2;exact⟨u,r,.inr ⟨.inl hk,c,hc,hc'⟩⟩
   .rw[Bs (Cf hj)] at e2
    obtain⟨u',r',q⟩:=hl j y v' e1 e2 e3;refine⟨u',r',?_⟩;rcases q with q|⟨k,c',e,z'⟩
    .exact .inl q
    .refine .inr ⟨k,c',e,z'.sameBut hs ?_⟩
     rintro rfl;exact hj (gB hN e1 (I.ok.inj _ _ _ e hc▸hi))
  .by_cases hcc:c'=c
   .subst hcc;exact⟨_,hc'⟩
   .obtain⟨w2,z2⟩:=I.cell y c' e
    exact⟨w2,z2.sameBut hs hcc⟩
  .obtain⟨e,n,ne,nf,d⟩:=I.pin p hp
   refine⟨(hs.2 p.1 ?_).trans e,n,ne,nf,d⟩;intro q;rw[q,hoc] at e;have q':oc=p.2:=Bg e;exact d w' (by rw[<- q'];exact hocd)
theorem gI {A:AB}{i:Ai}{x:Ap}{v:V}{u:Ac}(I:Inv X pins σ H s)(hN:X.N.Nodup)(hi:X.N[i]? = Ab x)(hx:Loc X.env.scope x)(r:qI v u)
  (h:∀ s',Inv X pins (σ.set i (Ab v)) H s'->Q () s') (hf:X.fn x=true\/X.env.scope.names.lookup x=Ab .local:=by first|exact .inl rfl|exact .inr rfl|assumption):Ar M A (storeName X.env x u) Q E s:=
 cH I hN hi hx r (λs' I' _=>h s' I') hf
theorem Inv.call' {s':Ag}(I:Inv X pins σ H s)(ho:s'.os=s.os)(u:Un (frs X.stack) ch H H' s.heap s'.heap)(hok:HOk X.prog X.w H' s'.heap)(hg:Gp s'.gens)
  (hch:∀ b∈ch,(b∈X.ex\/X.s₀.heap.objs.size<=b)/\b≠X.env.locals/\(∀ x c,X.env.cells.lookup x=Ab c->c≠b)/\∀ p∈X.pn++pins,p.1≠b):Inv X pins σ H' s':=by
 obtain⟨h',g',d',t',o'⟩:=s';have e:o'=s.os:=ho;subst e;exact I.call (g':=g') (t':=t') (d':=d') u hok hg hch
end
abbrev XK:=Ac->Ak Ad->Hp->Prop
abbrev St:=Aa (Ak V)
abbrev VK:=V->Hp->Prop
abbrev TE:=St->Hp->VK->Prop
abbrev TT:=St->Hp->(Aq->Hp->Prop)->Prop
abbrev TA:=St->Hp->(Aa V->Hp->Prop)->Prop
structure Ends where
 nx:St->Hp->Prop
 rt:VK
 bk:St->Hp->Prop:=λ_ _=>CF
 ct:St->Hp->Prop:=λ_ _=>CF
abbrev TS:=Ends->St->Hp->Prop
inductive EP (X:Cx)(pins:Aa (Ad × AR))(σ : St)(Q:VK)(u:Ac)(s':Ag):Prop
 |mk (v:V) (H':Hp) (I:Inv X pins σ H' s') (r:qI v u) (q:Q v H'):EP X pins σ Q u s'
inductive TP (X:Cx)(pins:Aa (Ad × AR))(σ : St)(Q:Aq->Hp->Prop)(b:Aq)(s':Ag):Prop
 |mk (H':Hp) (I:Inv X pins σ H' s') (q:Q b H'):TP X pins σ Q b s'
inductive AP (X:Cx)(pins:Aa (Ad × AR))(σ : St)(Q:Aa V->Hp->Prop)(us:Aa Ac)(s':Ag):Prop
 |mk (vs:Aa V) (H':Hp) (I:Inv X pins σ H' s') (r:qL vs us) (q:Q vs H'):AP X pins σ Q us s'
def SP (X:Cx)(pins:Aa (Ad × AR))(D:Ends)(f:Flow)(s':Ag):Prop:=
 match f with
 |.next=>∃ σ' H',Inv X pins σ' H' s'/\D.nx σ' H'
 |.brk=>∃ σ' H',Inv X pins σ' H' s'/\D.bk σ' H'
 |.cont=>∃ σ' H',Inv X pins σ' H' s'/\D.ct σ' H'
 |.ret u=>∃ v σ' H',Inv X pins σ' H' s'/\qI v u/\D.rt v H'
def PE (X:Cx)(e:AA)(t:TE):Prop:=
 ∀ (pins:Aa (Ad × AR)) (s:Ag) (σ : St) (H:Hp) (Q:VK),Inv X pins σ H s->t σ H Q->Ar (As X.prog X.w) X.A (eval e X.env) (EP X pins σ Q) X.xe s
def PT (X:Cx)(e:AA)(t:TT):Prop:=
 ∀ (pins:Aa (Ad × AR)) (s:Ag) (σ : St) (H:Hp) (Q:Aq->Hp->Prop),Inv X pins σ H s->t σ H Q->Ar (As X.prog X.w) X.A (isTrue e X.env (eval e X.env)) (TP X pins σ Q) X.xe s
def PW (X:Cx)(e:AA)(t:TT):Prop:=
 ∀ (whole:EZ Ac) (pins:Aa (Ad × AR)) (s:Ag) (σ : St) (H:Hp) (Q:Aq->Hp->Prop),Inv X pins σ H s->t σ H Q->Ar (As X.prog X.w) X.A (isTrue e X.env whole) (TP X pins σ Q) X.xe s
def PA (X:Cx)(es:Aa AA)(t:TA):Prop:=
 ∀ (pos:CG) (pins:Aa (Ad × AR)) (s:Ag) (σ : St) (H:Hp) (Q:Aa V->Hp->Prop),Inv X pins σ H s->t σ H Q->Ar (As X.prog X.w) X.A (spliced (Dm pos (A3 es X.env))) (AP X pins σ Q) X.xe s
def PS (X:Cx)(st:Cs)(t:TS):Prop:=
 ∀ (pins:Aa (Ad × AR)) (s:Ag) (σ : St) (H:Hp) (D:Ends),Inv X pins σ H s->t D σ H->Ar (As X.prog X.w) X.A (exec st X.env) (SP X pins D) X.xe s
def PSs (X:Cx)(st:Aa Cs)(t:TS):Prop:=
 ∀ (pins:Aa (Ad × AR)) (s:Ag) (σ : St) (H:Hp) (D:Ends),Inv X pins σ H s->t D σ H->Ar (As X.prog X.w) X.A (execs st X.env) (SP X pins D) X.xe s
theorem thn {α:Type}{t:EZ α}{Q Q':α->Ag->Prop}{A:AB}{s:Ag}(h:Ar M A t Q E s)(hQ:∀ a s,Q a s->Q' a s):Ar M A t Q' E s:=Dn h hQ λ_ _ x=>x
end _L
namespace _L
open PySem PySem.Spec PyProof.Rows
variable {pins:Aa (Ad × AR)}{u:Ac}{E Q:Ac->Ag->Prop}
section
variable {X:Cx}
theorem bin {a b:AA}{ta tb:TE}(ha:PE X a ta)(hb:PE X b tb){pins:Aa (Ad × AR)}{s:Ag}{σ : St}{H:Hp}{R:V->V->Hp->Prop}(I:Inv X pins σ H s)(h:ta σ H λx H1=>tb σ H1 λy H2=>R x y H2)
  {α:Type} {Q:α->Ag->Prop} {f:Ac->Ac->EZ α}
  (hf:∀ v u s2 x y H2,Inv X pins σ H2 s2->qI x v->qI y u->R x y H2->Ar (As X.prog X.w) X.A (f v u) Q X.xe s2) :
  Ar (As X.prog X.w) X.A (eval a X.env) (λv s₁=>Ar (As X.prog X.w) X.A (eval b X.env) (λu s₂=>Ar (As X.prog X.w) X.A (f v u) Q X.xe s₂) X.xe s₁) X.xe s:=by
 refine thn (ha pins s σ H _ I h) λv s1 ⟨x,H1,I1,r1,q1⟩=>?_;refine thn (hb pins s1 σ H1 _ I1 q1) λu s2 ⟨y,H2,I2,r2,q2⟩=>?_;exact hf v u s2 x y H2 I2 r1 r2 q2
def GC (i:Ai):TE:=λσ H Q=>∃ v,σ[i]? = Ab (Ab v)/\Q v H
def tC (v:V):TE:=λ_ H Q=>Q v H
theorem JZ {i:Ai}{x:Ap}{pos:CG}(hN:X.N[i]? = Ab x)(hv:Vis X.env.scope x)(hd:(x == ("__debug__" : Ap))=false:=by decide)(hcd:(x == ("__classdict__" : Ap))=false:=by decide):PE X (.Name x pos) (GC i):=by
 intro pins s σ H Q I h;obtain⟨v,e,h⟩:=h;obtain⟨m,hn,hl⟩:=I.loc;obtain⟨u,r,l⟩:=hl i x v hN e hv;have fin:EP X pins σ Q u s:=⟨v,H,I,r,h⟩;rcases l with⟨hk,hm⟩|⟨hk,c,hc,hcell⟩
 .exact Kh (Jy I.ok.kind hk hn hm fin) hd
 .rcases hk with hk|hk
  .exact Kh (wpAny_loadName_cell I.ok.kind hk hc hcell fin) hd
  .exact Kh (wpAny_loadName_free I.ok.kind hk hc hcell fin hcd) hd
theorem JU:PE X (.Constant (.int i) j pos) (tC (.int i)):=λ_ _ _ H _ I h=>Ld ⟨.int i,H,I.tok _,⟨_,rfl⟩,h⟩
theorem BN:PE X (.Constant (.bool b) j pos) (tC (.bl b)):=λ_ _ _ H _ I h=>Constant_bool ⟨.bl b,H,I,rfl,h⟩
theorem JV:PE X (.Constant .none j pos) (tC .non):=λ_ _ _ H _ I h=>Constant_none ⟨.non,H,I,rfl,h⟩
theorem JX:PE X (.Constant (.str x) j pos) (tC (.str x)):=λ_ _ _ H _ I h=>Calls.Constant_str ⟨.str x,H,I.tok _,⟨_,rfl⟩,h⟩
def Gl (X:Cx)(x:Ap):Prop:=X.env.kindOf x=Ab .globalImplicit
theorem kA {s:Ag}{σ:St}{H:Hp}{x:Ap}{pos:CG}(I:Inv X pins σ H s)(hg:Gl X x)(hm:X.mg x=Ab u)(h:Q u s)
  (hd:(x == ("__debug__" : Ap))=false:=by decide):Ar (As X.prog X.w) X.A (eval (.Name x pos) X.env) Q E s:=
 HC I.ok.kind hg (Calls.loadGlobal_global (by rw[I.ok.glob];exact I.mod.glob.keeps I.bk) hm h) hd
theorem xZ {s:Ag}{σ:St}{H:Hp}{x:Ap}{pos:CG}(I:Inv X pins σ H s)(hg:Gl X x)(hm:X.mg x=none)(hv:CW x=Ab u)(h:Q u s)
  (hn:x ≠ "__name__":=by decide) (hd:(x == ("__debug__" : Ap))=false:=by decide):Ar (As X.prog X.w) X.A (eval (.Name x pos) X.env) Q E s:=by
 obtain⟨mb,h1,h2⟩:=I.mod.blt;exact HC I.ok.kind hg (Calls.loadGlobal_builtin (by rw[I.ok.glob];exact I.mod.glob.keeps I.bk) hm (by rw[I.ok.blt];exact h1.keeps I.bk) ((h2 x hn).trans hv) h) hd
theorem WG {x:Ap}{v:V}{pos:CG}(hg:Gl X x)(hm:X.mg x=Ab u)(r:qI v u)(hd:(x == ("__debug__" : Ap))=false:=by decide):PE X (.Name x pos) (tC v):=
 λ_ _ _ H _ I h=>kA I hg hm ⟨v,H,I,r,h⟩ hd
theorem WE {x:Ap}{v:V}{pos:CG}(hg:Gl X x)(hm:X.mg x=none)(hv:CW x=Ab u)(r:qI v u)(hn:x ≠ "__name__":=by decide)(hd:(x == ("__debug__" : Ap))=false:=by decide):PE X (.Name x pos) (tC v):=
 λ_ _ _ H _ I h=>xZ I hg hm hv ⟨v,H,I,r,h⟩ hn hd
variable {a b:AA}{ta tb:TE}{pos:CG}
variable {tA tB':TT}{rest:Aa AA}
theorem WQ (ha:PT X a tA):PW X (.BoolOp .And [a] pos) tA:=by
 intro wh pins s σ H Q I h;refine isTrue_and (thn (ha pins s σ H Q I h) λc s1 e=>?_);cases c with
 |true=>exact isTrue_and_nil e
 |false=>exact e
theorem K7 (ha:PT X a tA):PW X (.BoolOp .Or [a] pos) tA:=by
 intro wh pins s σ H Q I h;refine isTrue_or (thn (ha pins s σ H Q I h) λc s1 e=>?_);cases c with
 |false=>exact isTrue_or_nil e
 |true=>exact e
theorem JW {t:TE}(h:PE X a t):PE X (.BoolOp op [a] pos) t:=λpins s σ H Q I hw=>BoolOp_one (h pins s σ H Q I hw)
end
end _L
namespace _L
open PySem PySem.Spec PyProof.Rows
variable {P:A6}{tg:AA}{w:AK}{es:Aa AA}{K:Ah}
def SqL (K:Ah)(H:Hp)(a:Ad)(xs:Aa V):Prop:=
 Rd H a (.lst xs) \/
  ∃ (o:AR) (its:A5 Ac) (n:Ai),K.lookup a=Ab o/\o.cls=.type "list" /\ o.dict=none/\o.data=.seq its n/\its.size<=sizeLine/\qL xs its.toList
def SqT (K:Ah)(H:Hp)(a:Ad)(xs:Aa V):Prop:=
 Rd H a (.tup xs) \/
  ∃ (o:AR) (its:A5 Ac) (n:Ai),K.lookup a=Ab o/\o.cls=.type "tuple" /\ o.data=.seq its n/\its.size<=sizeLine/\qL xs its.toList
noncomputable def FN:Ac->Ak V
 |.none=>Ab .non
 |.bool b=>Ab (.bl b)
 |.int i _=>Ab (.int i)
 |.str x _=>Ab (.str x)
 |.bytes b _=>Ab (.byt b)
 |.float b _=>Ab (.flt b)
 |.ref a=>Ab (.ref a)
 |.type n=>Ab (.ty n)
 |_=>none
theorem qI.abs {x:V}{u:Ac}(r:qI x u):FN u=Ab x:=by
 cases x with
 |non=>cases r;rfl
 |bl _=>cases r;rfl
 |int _=>obtain⟨t,rfl⟩:=r;rfl
 |str _=>obtain⟨t,rfl⟩:=r;rfl
 |byt _=>obtain⟨t,rfl⟩:=r;rfl
 |flt _=>obtain⟨t,rfl⟩:=r;rfl
 |ref _=>cases r;rfl
 |ty _=>cases r;rfl
theorem qI.inj {x y:V}{u:Ac}(r:qI x u)(q:qI y u):x=y:=Bg (r.abs.symm.trans q.abs)
theorem qL.inj {xs ys:Aa V}{us:Aa Ac}(h:qL xs us)(k:qL ys us):xs=ys:=by
 induction h generalizing ys with
 |nil=>cases k;rfl
 |cons r t ih =>
  cases k with
  |cons r' t'=>rw[r.inj r',ih t']
section
variable {X:Cx}{pins:Aa (Ad × AR)}{σ : St}{H:Hp}{s:Ag}{a:Ad}{xs ys:Aa V}
theorem SqL.of (h:H a=Ab (.lst xs)):SqL K H a xs:=.inl (.inl h)
theorem SqT.of (h:H a=Ab (.tup xs)):SqT K H a xs:=.inl (.inl h)
theorem Inv.list (I:Inv X pins σ H s)(h:SqL X.K H a xs):∃ its:Aa Ac,qL xs its/\PlainL s.heap a its.toArray/\xs.length<=sizeLine:=by
 rcases h with h|⟨o,its,n,hk,hc,hd,hs,hz,r⟩
 .obtain⟨z,its,n,r,e⟩:=h.ok I.hok
  exact⟨its,r,⟨_,n,e,rfl,rfl,rfl⟩,z⟩
 .refine⟨its.toList,r,⟨o,n,I.kIn a o hk,hc,hd,by simpa using hs⟩,?_⟩
  have e:=r.length;simp only[AN] at e;omega
theorem Inv.tuple (I:Inv X pins σ H s)(h:SqT X.K H a xs):∃ its:Aa Ac,qL xs its/\Jb s.heap a its.toArray/\xs.length<=sizeLine:=by
 rcases h with h|⟨o,its,n,hk,hc,hs,hz,r⟩
 .obtain⟨z,its,r,p⟩:=h.ok I.hok
  exact⟨its,r,p,z⟩
 .refine⟨its.toList,r,⟨o,I.kIn a o hk,hc,n,by simpa using hs⟩,?_⟩
  have e:=r.length;simp only[AN] at e;omega
theorem Inv.list_inj (I:Inv X pins σ H s)(h:SqL X.K H a xs)(h':SqL X.K H a ys):xs=ys:=by
 obtain⟨its,r,⟨o,n,e,_,_,d⟩,_⟩:=I.list h;obtain⟨its',r',⟨o',n',e',_,_,d'⟩,_⟩:=I.list h';rw[e] at e';cases e';rw[d] at d';injection d' with d1 _
 have:its=its':=by simpa using congrArg Lp d1
 subst this;exact r.inj r'
theorem Inv.tuple_inj (I:Inv X pins σ H s)(h:SqT X.K H a xs)(h':SqT X.K H a ys):xs=ys:=by
 obtain⟨its,r,⟨o,e,_,n,d⟩,_⟩:=I.tuple h;obtain⟨its',r',⟨o',e',_,n',d'⟩,_⟩:=I.tuple h';rw[e] at e';cases e';rw[d] at d';injection d' with d1 _
 have:its=its':=by simpa using congrArg Lp d1
 subst this;exact r.inj r'
end
abbrev Cx.wish (X:Cx)(E:Ac->Ag->Prop):Cx:={ X with xe:=E }
abbrev Cx.nox (X:Cx):Cx:=X.wish λ_ _=>CF
theorem Cx.Ok.wish {X:Cx}(ok:X.Ok)(E:Ac->Ag->Prop):(X.wish E).Ok:=
 ⟨ok.mod,ok.kind,ok.glob,ok.blt,ok.above,ok.inj,ok.has,ok.cab,ok.hd,ok.frames,ok.stk,ok.exf,ok.bs,ok.bsz,ok.noex,ok.exfs,ok.funs,ok.frf⟩
theorem Cx.Ok.unwish {X:Cx}{E:Ac->Ag->Prop}(ok:(X.wish E).Ok):X.Ok:=
 ⟨ok.mod,ok.kind,ok.glob,ok.blt,ok.above,ok.inj,ok.has,ok.cab,ok.hd,ok.frames,ok.stk,ok.exf,ok.bs,ok.bsz,ok.noex,ok.exfs,ok.funs,ok.frf⟩
section
variable {X:Cx}{pins:Aa (Ad × AR)}{σ : St}{H:Hp}{s:Ag}{E:Ac->Ag->Prop}
theorem Inv.wish (I:Inv X pins σ H s)(E:Ac->Ag->Prop):Inv (X.wish E) pins σ H s:=⟨I.ok.wish E,I.os,I.bare,I.base,I.loc,I.cell,I.free,I.freeC,I.pin,I.hok,I.len⟩
theorem Inv.unwish (I:Inv (X.wish E) pins σ H s):Inv X pins σ H s:=⟨I.ok.unwish,I.os,I.bare,I.base,I.loc,I.cell,I.free,I.freeC,I.pin,I.hok,I.len⟩
theorem SP.unwish {D:Ends}{f:Flow}{s':Ag}(h:SP (X.wish E) pins D f s'):SP X pins D f s':=by
 cases f with
 |next=>obtain⟨σ',H',I,q⟩:=h;exact⟨σ',H',I.unwish,q⟩
 |brk=>obtain⟨σ',H',I,q⟩:=h;exact⟨σ',H',I.unwish,q⟩
 |cont=>obtain⟨σ',H',I,q⟩:=h;exact⟨σ',H',I.unwish,q⟩
 |ret u=>obtain⟨v,σ',H',I,r,q⟩:=h;exact⟨v,σ',H',I.unwish,r,q⟩
theorem PE.nox {e:AA}{t:TE}(h:PE X.nox e t):PE X e t:=λpins s σ H Q I hw =>
 Dn (h pins s σ H Q (I.wish _) hw) (λ_ _ ⟨v,H',I',r,q⟩=>⟨v,H',I'.unwish,r,q⟩) λ_ _ z=>Al z
theorem PT.nox {e:AA}{t:TT}(h:PT X.nox e t):PT X e t:=λpins s σ H Q I hw =>
 Dn (h pins s σ H Q (I.wish _) hw) (λ_ _ ⟨H',I',q⟩=>⟨H',I'.unwish,q⟩) λ_ _ z=>Al z
theorem PSs.nox {st:Aa Cs}{t:TS}(h:PSs X.nox st t):PSs X st t:=λpins s σ H D I hw =>
 Dn (h pins s σ H D (I.wish _) hw) (λ_ _ q=>q.unwish) λ_ _ z=>Al z
end
section
variable {X:Cx}{st:Cs}{rest:Aa Cs}{t u:TS}{e:AA}{te:TE}{pos:CG}
def F0:TS:=λD σ H=>D.nx σ H
def MJ (t u:TS):TS:=λD σ H=>t { D with nx:=u D } σ H
theorem WN:PSs X [] F0:=λ_ _ σ H _ I h=>Hg ⟨σ,H,I,h⟩
theorem oK (h1:PS X st t)(h2:PSs X rest u):PSs X (st::rest) (MJ t u):=by
 intro pins s σ H D I h;refine LP (thn (h1 pins s σ H { D with nx:=u D } I h) λf s1 q=>?_)
 cases f with
 |next =>
  obtain⟨σ',H',I',q⟩:=q;exact h2 pins s1 σ' H' D I' q
 |ret v=>exact q
 |brk=>exact q
 |cont=>exact q
theorem WO (h1:PS X st t):PSs X [st] t:=by
 intro pins s σ H D I h;refine LP (thn (h1 pins s σ H D I h) λf s1 q=>?_);cases f with
 |next=>exact Hg q
 |ret v=>exact q
 |brk=>exact q
 |cont=>exact q
theorem Inv.quiet {pins:Aa (Ad × AR)}{σ:St}{H:Hp}{s:Ag}(I:Inv X pins σ H s):interactive X.env=false:=by simp[interactive,I.ok.kind]
end
abbrev TG:=V->St->Hp->(St->Hp->Prop)->Prop
abbrev TGs:=Aa V->St->Hp->(St->Hp->Prop)->Prop
def PG (X:Cx)(target:AA)(t:TG):Prop:=
 ∀ (pins:Aa (Ad × AR)) (s:Ag) (σ : St) (H:Hp) (v:V) (u:Ac) (Q:St->Hp->Prop),Inv X pins σ H s->qI v u->t v σ H Q ->
  Ar (As X.prog X.w) X.A (assign target X.env u) (λ_ s'=>∃ σ' H',Inv X pins σ' H' s'/\Q σ' H') X.xe s
def PGs (X:Cx)(ts:Aa AA)(t:TGs):Prop:=
 ∀ (pins:Aa (Ad × AR)) (s:Ag) (σ : St) (H:Hp) (vs:Aa V) (us:Aa Ac) (Q:St->Hp->Prop),Inv X pins σ H s->qL vs us->t vs σ H Q ->
  Ar (As X.prog X.w) X.A (assignInOrder ((Df ts X.env).map (·.2)) us) (λ_ s'=>∃ σ' H',Inv X pins σ' H' s'/\Q σ' H') X.xe s
abbrev YV:=V->V->V->Hp->(Hp->Prop)->Prop
def mE (X:Cx)(t:YV):Prop:=
 ∀ (pins:Aa (Ad × AR)) (s:Ag) (σ : St) (H:Hp) (o i v:V) (ov iv u:Ac) (Q:Hp->Prop),Inv X pins σ H s->qI o ov->qI i iv->qI v u->t o i v H Q ->
  Ar (As X.prog X.w) X.A (Nu ov iv u) (λ_ s'=>∃ H',Inv X pins σ H' s'/\Q H') X.xe s
section
variable {X:Cx}{pos:CG}
def PP (i:Ai):TG:=λv σ H Q=>Q (σ.set i (Ab v)) H
theorem WH {i:Ai}{x:Ap}(hN:X.N.Nodup)(hi:X.N[i]? = Ab x)(hx:Loc X.env.scope x)(hf:X.fn x=true\/X.env.scope.names.lookup x=Ab .local:=by first|exact .inl rfl|exact .inr rfl|assumption):PG X (.Name x pos) (PP i):=by
 intro pins s σ H v u Q I r h;exact wpAny_assign_Name (gI I hN hi hx r (λs' I'=>⟨_,H,I',h⟩) hf)
def FW:TGs:=λvs σ H Q=>vs=[]/\Q σ H
def PN (t:TG)(u:TGs):TGs:=λvs σ H Q=>∃ v r,vs=v::r/\t v σ H λσ' H'=>u r σ' H' Q
theorem WI:PGs X [] FW:=by
 intro pins s σ H vs us Q I r h;obtain⟨e,h⟩:=h;subst e;cases r;exact assignInOrder_nil ⟨σ,H,I,h⟩
theorem oI {e:AA}{t:TG}{u:TGs}(h1:PG X e t)(h2:PGs X es u)
  (hs:(Df (e::es) X.env).map (·.2)=assign e X.env::(Df es X.env).map (·.2):=by rfl):PGs X (e::es) (PN t u):=by
 intro pins s σ H vs us Q I r h;obtain⟨v,vr,e1,h⟩:=h;subst e1;cases r with
 |cons r rr =>
  rw[hs];refine assignInOrder_cons (thn (h1 pins s σ H _ _ _ I r h) λ_ s1 ⟨σ1,H1,I1,q1⟩=>?_);exact h2 pins s1 σ1 H1 _ _ Q I1 rr q1
def FX (K:Ah)(n:Ai)(t:TGs):TG:=λv σ H Q=>∃ a xs,v=.ref a/\SqT K H a xs/\xs.length=n/\t xs σ H Q
theorem K1 {k:Ai}{t:TGs}{n:Ai}(hc:X.calm=true)(h:PGs X es t)
  (hn:(Df es X.env).length=n:=by rfl) (hst:(Df es X.env).findIdx? (·.1)=none:=by rfl):PG X (.Tuple es k pos) (FX X.K n t):=by
 intro pins s σ H v u Q I r hw;obtain⟨a,xs,e1,hq,hl,hw⟩:=hw;subst e1;cases r;obtain⟨its,rv,ht,hz⟩:=I.tuple hq;refine assign_Tuple_tuple (I.ok.hd hc) ht (by simp[hn,<- hl,rv.length]) hst λh' hx=>?_
 have I1:Inv X pins σ H { s with heap:=h' }:=I.kept (t':=s.toks) λb o e=>hx b o (AX (Ay e)) e
 exact h pins _ σ H xs _ Q I1 (by simpa using rv) hw
end
structure It where
 go:Ai->Hp->Prop
 yld:Ai->Hp->V->Hp->Prop
 stop:Ai->Hp->Prop
def zT (X:Cx)(pins:Aa (Ad × AR))(H:Hp)(b:Ad):Prop:=
 H b=none/\b≠X.env.locals/\b ∉ X.fs/\(b∈X.ex\/X.s₀.heap.objs.size<=b)/\(∀ x c,X.env.cells.lookup x=Ab c->c≠b)/\∀ p∈X.pn++pins,p.1≠b
theorem Inv.fpOk {X:Cx}{pins:Aa (Ad × AR)}{σ:St}{H H':Hp}{s:Ag}{b:Ad}(I:Inv X pins σ H s)(hb:s.heap.objs.size<=b)(hn:H' b=none):zT X pins H' b:=by
 refine⟨hn,Fq (Ax I.lt hb),I.nofs hb,.inr (Bn I.sz hb),λx c e z=>?_,λp hp z=>?_⟩
 .obtain⟨v,q⟩:=I.cell x c e
  exact absurd (Ax q.lt (by rw[z];exact hb)) (Bw _)
 .exact absurd (Ax (Ay (I.pin p hp).1) (by rw[z];exact hb)) (Bw _)
structure Turn (P:A6)(w:AK)(K:Ah)(tg:AA)(J:It)(fp:Aa Ad)(it:Ad)(tn:Ai->AC->Prop):Prop where
 mem:it∈fp
 obj:∀ i h,tn i h->∀ b∈fp,∃ o,h.get? b=Ab o/\∀ v,o.data≠.cell v
 keep:∀ i h h',tn i h->(∀ b∈fp,∀ o,h.get? b=Ab o->h'.get? b=Ab o)->tn i h'
 item:∀ (X:Cx),X.prog=P->X.w=w->X.K=K->X.calm=true->∀ (i:Ai) (pins:Aa (Ad × AR)) (s:Ag) (σ : St) (H:Hp) (E:Ac->Ag->Prop),Inv X pins σ H s->(∀ b∈fp,zT X pins H b)->tn i s.heap->J.go i H ->
  Ar (As P w) X.A (Lb (.ref it)) (λr s1=>∃ u,r=Ab u /\
   Ar (As P w) X.A (Ey tg (.ref it) u) (λ_ s2=>∃ x H',Inv X pins σ H' s2/\qI x u/\J.yld i H x H'/\tn (i+1) s2.heap/\∀ b∈fp,H' b=none) E s1) E s
 done:∀ (X:Cx),X.prog=P->X.w=w->X.K=K->X.calm=true->∀ (i:Ai) (pins:Aa (Ad × AR)) (s:Ag) (σ : St) (H:Hp) (E:Ac->Ag->Prop),Inv X pins σ H s->(∀ b∈fp,zT X pins H b)->tn i s.heap->J.stop i H ->
  Ar (As P w) X.A (Lb (.ref it)) (λr s1=>r=none/\Inv X pins σ H s1) E s
 self:∀ (A:AB) (i:Ai) (s:Ag) (Q:Ac->Ag->Prop) (E:Ac->Ag->Prop),tn i s.heap->Q (.ref it) s->Ar (As P w) A (LQ (.ref it)) Q E s
abbrev TI:=St->Hp->(It->Hp->Prop)->Prop
inductive PIE (X:Cx)(pins:Aa (Ad × AR))(σ : St)(tg:AA)(R:It->Hp->Prop)(itv:Ac)(s2:Ag):Prop
 |mk (it:Ad) (fp:Aa Ad) (tn:Ai->AC->Prop) (J:It) (H':Hp) (e:itv=.ref it) (I:Inv X pins σ H' s2) (t:Turn X.prog X.w X.K tg J fp it tn) (z:tn 0 s2.heap) (f:∀ b∈fp,zT X pins H' b) (q:R J H'):PIE X pins σ tg R itv s2
def PI (X:Cx)(tg iter:AA)(wi:TI):Prop:=
 ∀ (pins:Aa (Ad × AR)) (s:Ag) (σ : St) (H:Hp) (R:It->Hp->Prop),Inv X pins σ H s->wi σ H R ->
  Ar (As X.prog X.w) X.A (eval iter X.env) (λv s1=>Ar (As X.prog X.w) X.A (LQ v) (PIE X pins σ tg R) X.xe s1) X.xe s
theorem fU {M:E6}{A:AB}{E:Ac->Ag->Prop}{s:Ag}{it:Ad}{u:Ac}{o:AR}{n:Bk}{vs:A5 Ac}{Q:H8->Ag->Prop}(ho:s.heap.get? it=Ab o)(hc:o.cls=.type n)(hd:o.data=.fields vs)
    (hn:["enumerate","zip","dict_itemiterator","dict_reverseitemiterator","odict_iterator","itertools.zip_longest","itertools.pairwise"].contains n=false) (hQ:Q () s):Ar M A (Ey tg (.ref it) u) Q E s:=by
  unfold Ey;cases tg <;> first
    |exact An hQ
    |(cases u <;> first
        |exact An hQ
        | (refine Af (wpAny_load ho ?_)
           rw[hc,hd];show Ar M A (if (["enumerate","zip","dict_itemiterator","dict_reverseitemiterator","odict_iterator","itertools.zip_longest","itertools.pairwise"].contains n&&vs[0]? == Ab (D4 _))=true then _ else _) Q E s
           rw[Aw (by intro h;rw[hn,Ni] at h;cases h)]
           exact An hQ))
noncomputable def Itl (K:Ah)(a:Ad):It:=
 ⟨λi H=>∃ xs x,SqL K H a xs/\xs[i]? = Ab x,λi H x H'=>H'=H/\∀ xs,SqL K H a xs->xs[i]? = Ab x,λi H=>∃ xs,SqL K H a xs/\xs.length<=i⟩
noncomputable def Itt (K:Ah)(a:Ad):It:=
 ⟨λi H=>∃ xs x,SqT K H a xs/\xs[i]? = Ab x,λi H x H'=>H'=H/\∀ xs,SqT K H a xs->xs[i]? = Ab x,λi H=>∃ xs,SqT K H a xs/\xs.length<=i⟩
noncomputable def Itr (lo:Am)(n:Ai):It:=⟨λi _=>i<n,λi H x H'=>H'=H/\x=.int (lo+i),λi _=>n<=i⟩
theorem cL (a it:Ad):Turn P w K tg (Itl K a) [it] it (λi h=>h.IsListIter it a i) where
 mem:=by simp
 obj:=λi h st b hb=>by
  have e:b=it:=by simpa using hb
  subst e;obtain⟨o,e,c,d⟩:=st;exact⟨o,e,λv z=>by rw[d] at z;cases z⟩
 keep:=λi h h' st k=>st.at λo e=>k it (by simp) o e
 item:=by
  intro X hP hw hK hc i pins s σ H E I hf st hg;subst hP hw hK;obtain⟨xs,x,hq,hx⟩:=hg;obtain⟨its,rv,p,hz⟩:=I.list hq;obtain⟨u,hu,ru⟩:=rv.get hx;obtain⟨f0,f1,f2,f3,f4,f5⟩:=hf it (by simp)
  refine wpAny_pyNext_list_item st p.isList (x:=u) (by simpa using hu) λh' st' sb=>?_
  have I1:Inv X pins σ H { s with heap:=h' }:=I.turned (t':=s.toks) (λb o hb e=>(sb.2 b hb).trans e) f0 f1 f3 f4 f5
  obtain⟨o,e,c,d⟩:=id st';exact⟨u,rfl,fU (s:={ s with heap:=h' }) e c d (by decide) ⟨x,H,I1,ru,⟨rfl,λys hy=>by rw[I.list_inj hy hq];exact hx⟩,st',λb hb=>(hf b hb).1⟩⟩
 done:=by
  intro X hP hw hK hc i pins s σ H E I hf st hg;subst hP hw hK;obtain⟨xs,hq,hx⟩:=hg;obtain⟨its,rv,p,hz⟩:=I.list hq;obtain⟨f0,f1,f2,f3,f4,f5⟩:=hf it (by simp)
  have hl:=rv.length;exact wpAny_pyNext_list_end (I.ok.hd hc) st p.isList (by simp;omega) λh' eb=>⟨rfl,I.turned (t':=s.toks) (λb o hb e=>eb b o hb e) f0 f1 f3 f4 f5⟩
 self:=λ_ _ _ _ _ st h=>wpAny_pyIter_listiter st h
theorem sM (a it:Ad):Turn P w K tg (Itt K a) [it] it (λi h=>h.IsTupleIter it a i) where
 mem:=by simp
 obj:=λi h st b hb=>by
  have e:b=it:=by simpa using hb
  subst e;obtain⟨o,e,c,d⟩:=st;exact⟨o,e,λv z=>by rw[d] at z;cases z⟩
 keep:=λi h h' st k=>st.at λo e=>k it (by simp) o e
 item:=by
  intro X hP hw hK hc i pins s σ H E I hf st hg;subst hP hw hK;obtain⟨xs,x,hq,hx⟩:=hg;obtain⟨its,rv,p,hz⟩:=I.tuple hq;obtain⟨u,hu,ru⟩:=rv.get hx;obtain⟨f0,f1,f2,f3,f4,f5⟩:=hf it (by simp)
  refine wpAny_pyNext_tuple_item st (show s.heap.IsTuple a its.toArray from p) (x:=u) (by simpa using hu) λh' st' sb=>?_
  have I1:Inv X pins σ H { s with heap:=h' }:=I.turned (t':=s.toks) (λb o hb e=>(sb.2 b hb).trans e) f0 f1 f3 f4 f5
  obtain⟨o,e,c,d⟩:=id st';exact⟨u,rfl,fU (s:={ s with heap:=h' }) e c d (by decide) ⟨x,H,I1,ru,⟨rfl,λys hy=>by rw[I.tuple_inj hy hq];exact hx⟩,st',λb hb=>(hf b hb).1⟩⟩
 done:=by
  intro X hP hw hK hc i pins s σ H E I hf st hg;subst hP hw hK;obtain⟨xs,hq,hx⟩:=hg;obtain⟨its,rv,p,hz⟩:=I.tuple hq;obtain⟨f0,f1,f2,f3,f4,f5⟩:=hf it (by simp)
  have hl:=rv.length;exact wpAny_pyNext_tuple_end (I.ok.hd hc) st (show s.heap.IsTuple a its.toArray from p) (by simp;omega) λh' eb=>⟨rfl,I.turned (t':=s.toks) (λb o hb e=>eb b o hb e) f0 f1 f3 f4 f5⟩
 self:=λ_ _ _ _ _ st h=>wpAny_pyIter_tupleiter st h
theorem sL (it:Ad)(lo:Am)(n:Ai):Turn P w K tg (Itr lo n) [it] it (λi h=>IsRangeIter h it (lo+(i:Ai)*1) ((n:Am)-(i:Ai)) 1) where
 mem:=by simp
 obj:=λi h st b hb=>by
  have e:b=it:=by simpa using hb
  subst e;exact⟨_,st,λv z=>by
   have z':Data.fields _=Data.cell v:=z;cases z'⟩
 keep:=λi h h' st k=>k it (by simp) _ st
 item:=by
  intro X hP hw hK hc i pins s σ H E I hf st hg;subst hP hw hK;obtain⟨f0,f1,f2,f3,f4,f5⟩:=hf it (by simp)
  have W:=Walks.range (prog:=X.prog) (w:=X.w) (I.ok.hd hc) it lo 1 n;refine W.item i s _ _ hg st λv h' tk hv st' kk=>?_;obtain⟨t,rfl⟩:=hv;have I1:Inv X pins σ H { s with heap:=h',toks:=tk }:=I.turned (λb o hb e=>kk b o (by simpa using hb) e) f0 f1 f3 f4 f5
  refine⟨_,rfl,fU (s:={ s with heap:=h',toks:=tk }) (n:="range_iterator") st' rfl rfl (by decide) ⟨.int (lo+i),H,I1,⟨t,?_⟩,⟨rfl,rfl⟩,st',λb hb=>(hf b hb).1⟩⟩
  rw[Int.mul_one]
 done:=by
  intro X hP hw hK hc i pins s σ H E I hf st hg;subst hP hw hK;obtain⟨f0,f1,f2,f3,f4,f5⟩:=hf it (by simp)
  exact wpAny_pyNext_range_end (I.ok.hd hc) st (by have:n<=i:=hg;omega) λh' eb=>⟨rfl,I.turned (t':=s.toks) (λb o hb e=>eb b o hb e) f0 f1 f3 f4 f5⟩
 self:=λ_ _ _ _ _ st h=>wpAny_pyIter_rangeiter st h
end _L
namespace _L
open PySem PySem.Spec PyProof.Rows
variable {pins:Aa (Ad × AR)}{fp:Aa Ad}{s:Ag}{H:Hp}{σ:St}
section
variable {X:Cx}{tg:AA}
theorem tQ {R:It->Hp->Prop}{E:Ac->Ag->Prop}{lo hi:Am}{t u v:IM}{tk:Ai}(I:Inv X pins σ H s)(h1 : -(2 ^ 62)<=lo)(h2:lo<2 ^ 62)(h3 : -(2 ^ 62)<=hi)(h4:hi<2 ^ 62)
  (q:R (Itr lo (hi-lo).toNat) H):Ar (As X.prog X.w) X.A (LQ (.ref s.heap.objs.size)) (PIE X pins σ tg R) E { s with heap:=s.heap.push { cls:=.type "range",data:=.fields #[.int lo t,.int hi u,.int 1 v] },toks:=tk }:=by
 refine wpAny_pyIter_range (IsRange.new ..) (small_one h1 h2 h3 h4) ?_;have I1:Inv X pins σ H { s with heap:=s.heap.push { cls:=.type "range",data:=.fields #[.int lo t,.int hi u,.int 1 v] },toks:=tk }:=I.kept λb o e=>Aj _ e
 refine⟨(s.heap.push { cls:=.type "range",data:=.fields #[.int lo t,.int hi u,.int 1 v] }).objs.size,[(s.heap.push { cls:=.type "range",data:=.fields #[.int lo t,.int hi u,.int 1 v] }).objs.size],_,_,H,rfl,
  I1.kept (t':=tk) λb o e=>Aj _ e,sL _ lo (hi-lo).toNat,?_,λb hb=>?_,q⟩
 .have e1:lo+((0:Ai):Am)*1=lo:=by simp
  have e2:(((hi-lo).toNat:Ai):Am)-((0:Ai):Am)=ND lo hi 1:=by rw[rangeSize_one];split <;> omega
  show IsRangeIter _ _ (lo+((0:Ai):Am)*1) ((((hi-lo).toNat:Ai):Am)-((0:Ai):Am)) 1;rw[e1,e2];exact AD _ rfl
 .have e:b=(s.heap.push { cls:=.type "range",data:=.fields #[.int lo t,.int hi u,.int 1 v] }).objs.size:=by simpa using hb
  subst e;exact I1.fpOk (Au _) (I1.hok.fresh (Au _))
def MG (wi:TI)(g:TG)(tb:TS):TS:=λD σ H=>wi σ H λJ H1=>∃ W:Ai->Ai->St->Hp->Prop,(∃ m,W 0 m σ H1)/\∀ i m σ H,W i m σ H ->
 (J.stop i H/\D.nx σ H)\/(J.go i H/\∃ N:St->Hp->Prop,(∀ σ' H',N σ' H'->∃ m',m'<m/\W (i+1) m' σ' H')/\∀ x H',J.yld i H x H'->g x σ H' λσ2 H2=>tb { D with nx:=N,ct:=N,bk:=D.nx } σ2 H2)
noncomputable def wO (fp:Aa Ad)(h:AC):Aa (Ad × AR):=fp.filterMap λb=>(h.get? b).map λo=>(b,o)
theorem yM {h:AC}{b:Ad}{o:AR}(hb:b∈fp)(e:h.get? b=Ab o):(b,o)∈wO fp h:=Fm.mpr ⟨b,hb,by rw[e];rfl⟩
theorem fF {h:AC}{p:Ad × AR}(hp:p∈wO fp h):p.1∈fp/\h.get? p.1=Ab p.2:=by
 obtain⟨b,hb,e⟩:=Fm.mp hp;cases q:h.get? b with
 |none=>rw[q] at e;cases e
 |some o =>
  rw[q] at e;have e':(b,o)=p:=Bg e;subst e';exact⟨hb,q⟩
theorem Inv.pinned (I:Inv X pins σ H s)(hf:∀ b∈fp,zT X pins H b)(ho:∀ b∈fp,∃ o,s.heap.get? b=Ab o/\∀ v,o.data≠.cell v):Inv X (pins++wO fp s.heap) σ H s:=
 I.pins_of λp hp=>(Bq.mp hp).elim (λz=>I.pin p (AI _ z)) λz=>by
  obtain⟨hb,e⟩:=fF z;obtain⟨f0,f1,f2,_⟩:=hf p.1 hb;obtain⟨o,e',d⟩:=ho p.1 hb;rw[e] at e';cases e';exact⟨e,f0,f1,f2,d⟩
theorem Inv.unpinned {pl:Aa (Ad × AR)}(I:Inv X (pins++pl) σ H s):Inv X pins σ H s:=I.pins_of λp hp=>I.pin p (AI _ (Cc _ hp))
inductive ForI (X:Cx)(pins:Aa (Ad × AR))(fp:Aa Ad)(tn:Ai->AC->Prop)(W:Ai->Ai->St->Hp->Prop)(n:Ai)(s':Ag):Prop
 |mk (i:Ai) (σ' : St) (H':Hp) (I:Inv X pins σ' H' s') (t:tn i s'.heap) (f:∀ b∈fp,H' b=none) (w:W i n σ' H'):ForI X pins fp tn W n s'
theorem K4 {iter:AA}{body:Aa Cs}{wi:TI}{g:TG}{tb:TS}{pos:CG}(hp:Jc (As X.prog X.w) X.A X.env X.xe)(hc:X.calm=true)(hi:PI X tg iter wi)(hg:PG X tg g)(hb:PSs X body tb)
  (hs:∀ x,D5 iter X.env x=pure x:=by intro _;rfl):PS X (.For tg iter body [] pos) (MG wi g tb):=by
 intro pins s σ H D I h;refine wpAny_For (thn (hi pins s σ H _ I h) λv s1 h1=>thn h1 λitv s2 h2=>?_) hs;obtain⟨it,fp,tn,J,H2,e,I2,T,st2,f2,W,⟨m0,w0⟩,turn⟩:=h2;subst e;have stat:∀ {H':Hp},(∀ b∈fp,H' b=none)->∀ b∈fp,zT X pins H' b:=λhn b hb=>⟨hn b hb,(f2 b hb).2⟩;refine codeAny_forLoop_any (ForI X pins fp tn W) ?_ m0 ⟨0,σ,H2,I2,st2,λb hb=>(f2 b hb).1,w0⟩;rintro n s3 ⟨i,σ3,H3,I3,st3,fr3,w3⟩;rcases turn i n σ3 H3 w3 with⟨stop,qn⟩|⟨go,N,hN,step⟩
 .refine Fa hp (thn (T.done X rfl rfl rfl hc i pins s3 σ3 H3 X.xe I3 (stat fr3) st3 stop) λr s4 ⟨hr,I4⟩=>?_)
  subst hr;exact Hg ⟨σ3,H3,I4,qn⟩
 .refine Fa hp (thn (T.item X rfl rfl rfl hc i pins s3 σ3 H3 X.xe I3 (stat fr3) st3 go) λr s4 ⟨u,hr,h4⟩=>?_)
  subst hr;refine Fa hp (thn h4 λ_ s5 ⟨x,H5,I5,r5,y5,st5,fr5⟩=>?_);have I5':=I5.pinned (stat fr5) (T.obj _ _ st5);refine Fa hp (thn (hg _ s5 σ3 H5 x u _ I5' r5 (step x H5 y5)) λ_ s6 ⟨σ6,H6,I6,q6⟩=>?_);refine Fa hp (thn (hb _ s6 σ6 H6 _ I6 q6) λf s7 q7=>?_);have again:∀ {σ7:St} {H7:Hp},Inv X (pins++wO fp s5.heap) σ7 H7 s7->N σ7 H7->∃ m,m<n/\ForI X pins fp tn W m s7:=λ{σ7 H7} I7 n7=>by
   obtain⟨m',hm,w7⟩:=hN σ7 H7 n7;refine⟨m',hm,i+1,σ7,H7,I7.unpinned,T.keep _ _ _ st5 λb hb o e=>(I7.pin (b,o) (AI _ (AI _ (yM hb e)))).1,λb hb=>?_,w7⟩;obtain⟨o,e,d⟩:=T.obj _ _ st5 b hb;exact(I7.pin (b,o) (AI _ (AI _ (yM hb e)))).2.1
  cases f with
  |next=>obtain⟨σ7,H7,I7,n7⟩:=q7;exact again I7 n7
  |cont=>obtain⟨σ7,H7,I7,n7⟩:=q7;exact again I7 n7
  |brk=>obtain⟨σ7,H7,I7,q7⟩:=q7;exact⟨σ7,H7,I7.unpinned,q7⟩
  |ret v=>obtain⟨x7,σ7,H7,I7,r7,q7⟩:=q7;exact⟨x7,σ7,H7,I7.unpinned,r7,q7⟩
end
end _L
namespace _L
open PySem PySem.Spec PyProof.Rows
variable {us:Aa Ac}{f:Ac->Ac->EZ Ac}{g:Am->Am->Am}
abbrev R2:=V->V->Hp->VK->Prop
def OpR (X:Cx)(f:Ac->Ac->EZ Ac)(r:R2):Prop:=
 ∀ (pins:Aa (Ad × AR)) (s:Ag) (σ : St) (H:Hp) (x y:V) (v u:Ac) (Q:VK),Inv X pins σ H s->qI x v->qI y u->r x y H Q ->
  Ar (As X.prog X.w) X.A (f v u) (EP X pins σ Q) X.xe s
def jT (X:Cx)(f:Ac)(r:Aa V->Hp->VK->Prop):Prop:=
 ∀ (pins:Aa (Ad × AR)) (s:Ag) (σ : St) (H:Hp) (xs:Aa V) (us:Aa Ac) (Q:VK),Inv X pins σ H s->qL xs us->r xs H Q ->
  Ar (As X.prog X.w) X.A (call f us) (EP X pins σ Q) X.xe s
def FL (X:Cx)(r:V->Hp->(Aq->Hp->Prop)->Prop):Prop:=
 ∀ (pins:Aa (Ad × AR)) (s:Ag) (σ : St) (H:Hp) (x:V) (v:Ac) (Q:Aq->Hp->Prop),Inv X pins σ H s->qI x v->r x H Q ->
  Ar (As X.prog X.w) X.A (truthy v) (TP X pins σ Q) X.xe s
def tOp (r:R2)(ta tb:TE):TE:=λσ H Q=>ta σ H λx H1=>tb σ H1 λy H2=>r x y H2 Q
def rI (C:Am->Am->Prop)(g:Am->Am->V):R2:=λx y H Q=>∃ i j,x=.int i/\y=.int j/\C i j/\Q (g i j) H
def rI0 (g:Am->Am->V):R2:=λx y H Q=>∃ i j,x=.int i/\y=.int j/\Q (g i j) H
section
variable {X:Cx}{a b c:AA}{ta tb tc:TE}{pos:CG}
theorem FP (ha:PE X a ta)(hb:PE X b tb){pins:Aa (Ad × AR)}{s:Ag}{σ : St}{H:Hp}{R:V->V->Hp->Prop}(I:Inv X pins σ H s)
  (h:ta σ H λx H1=>tb σ H1 λy H2=>R x y H2) {Q:Ac->Ag->Prop} {f:Ac->Ac->EZ Ac}
  (hf:∀ v u s2 x y H2,Inv X pins σ H2 s2->qI x v->qI y u->R x y H2->Ar (As X.prog X.w) X.A (f v u) Q X.xe s2) :
  Ar (As X.prog X.w) X.A (eval a X.env) (λv s₁=>Ar (As X.prog X.w) X.A (eval b X.env) (λu s₂=>Ar (As X.prog X.w) X.A (f v u) Q X.xe s₂) X.xe s₁) X.xe s:=by
 refine thn (ha pins s σ H _ I h) λv s1 ⟨x,H1,I1,r1,q1⟩=>?_;refine thn (hb pins s1 σ H1 _ I1 q1) λu s2 ⟨y,H2,I2,r2,q2⟩=>?_;exact hf v u s2 x y H2 I2 r1 r2 q2
theorem opI {f:Ac->Ac->EZ Ac}{C:Am->Am->Prop}
  (rule:∀ (i j:Am) (t u:IM) (s:Ag) (Q:Ac->Ag->Prop) (E:Ac->Ag->Prop),C i j->Q (.int (g i j) s.toks) { s with toks:=s.toks+1 } -> Ar (As X.prog X.w) X.A (f (.int i t) (.int j u)) Q E s) :
  OpR X f (rI C λi j=>.int (g i j)):=by
 intro pins s σ H x y v u Q I rx ry h;obtain⟨i,j,rfl,rfl,hc,q⟩:=h;obtain⟨t,rfl⟩:=rx;obtain⟨t',rfl⟩:=ry;exact rule i j t t' s _ _ hc ⟨.int (g i j),H,I.tok _,⟨_,rfl⟩,q⟩
theorem JK {f:Ac->Ac->EZ Ac}
  (rule:∀ (i j:Am) (t u:IM) (s:Ag) (Q:Ac->Ag->Prop) (E:Ac->Ag->Prop),Q (.int (g i j) s.toks) { s with toks:=s.toks+1 } -> Ar (As X.prog X.w) X.A (f (.int i t) (.int j u)) Q E s) :
  OpR X f (rI0 λi j=>.int (g i j)):=by
 intro pins s σ H x y v u Q I rx ry h;obtain⟨i,j,rfl,rfl,q⟩:=h;obtain⟨t,rfl⟩:=rx;obtain⟨t',rfl⟩:=ry;exact rule i j t t' s _ _ ⟨.int (g i j),H,I.tok _,⟨_,rfl⟩,q⟩
theorem sA {g:Am->Am->Aq}
  (rule:∀ (i j:Am) (t u:IM) (s:Ag) (Q:Ac->Ag->Prop) (E:Ac->Ag->Prop),Q (.bool (g i j)) s->Ar (As X.prog X.w) X.A (f (.int i t) (.int j u)) Q E s) :
  OpR X f (rI0 λi j=>.bl (g i j)):=by
 intro pins s σ H x y v u Q I rx ry h;obtain⟨i,j,rfl,rfl,q⟩:=h;obtain⟨t,rfl⟩:=rx;obtain⟨t',rfl⟩:=ry;exact rule i j t t' s _ _ ⟨.bl (g i j),H,I,rfl,q⟩
def FI (i j:Am):Prop:=0<j/\j<1073741824
def FJ (i j:Am):Prop:=0<=j/\j<=1000000/\i.natAbs<2 ^ 64
def cX (i j:Am):Prop:=(-(2 ^ 64)<i/\i<2 ^ 64)\/(-(2 ^ 64)<j/\j<2 ^ 64)
theorem cX.ok {i j:Am}(h:cX i j):IntMulOk i j:=by
 rcases h with⟨h1,h2⟩|⟨h1,h2⟩
 .exact .of_left (intBits_le_64 h1 h2)
 .exact .of_right (intBits_le_64 h1 h2)
theorem JM:OpR X (Co .Add) (rI0 λi j=>.int (i+j)):=JK λ_ _ _ _ _ _ _ q=>add_int q
theorem JR:OpR X (Co .Sub) (rI0 λi j=>.int (i-j)):=JK λ_ _ _ _ _ _ _ q=>sub_int q
theorem JP:OpR X (Co .Mult) (rI cX λi j=>.int (i*j)):=opI λ_ _ _ _ _ _ _ hc q=>mul_int q hc.ok
theorem WD:OpR X (Co .FloorDiv) (rI FI λi j=>.int (i/j)):=opI λi j _ _ _ _ _ hc q=>by
 have h1:(0:Am)<j:=hc.1;have h2:j<1073741824:=hc.2;exact floordiv_int om (by rw[Int.fdiv_eq_ediv_of_nonneg i om];exact q) (.inl (PyProof.noPylong_small om))
theorem JO:OpR X (Co .Mod) (rI (λ_ j=>0<j) λi j=>.int (i % j)):=opI λi j _ _ _ _ _ hc q=>by
 have h1:(0:Am)<j:=hc;exact mod_int' om (by rw[Int.fmod_eq_emod_of_nonneg i om];exact q)
theorem JQ:OpR X (Co .Pow) (rI FJ λi j=>.int (i ^ j.toNat)):=opI λ_ _ _ _ _ _ _ hc q=>pow_int_small hc.1 hc.2.1 hc.2.2 q
end
section
variable {X:Cx}{a b c:AA}{ta tb tc:TE}{pos:CG}
theorem U7 {pins:Aa (Ad × AR)}{σ:St}{H:Hp}{s:Ag}{Q:VK}{k k':Aq}(I:Inv X pins σ H s)(q:Q (.bl k) H)(e:k=k'):EP X pins σ Q (.bool k') s:=by
 subst e;exact⟨.bl k,H,I,rfl,q⟩
theorem BM:OpR X (Bt .Lt) (rI0 λi j=>.bl (decide (i<j))):=sA λ_ _ _ _ _ _ _ q=>lt_int q
theorem BL:OpR X (Bt .LtE) (rI0 λi j=>.bl (decide (i<=j))):=sA λ_ _ _ _ _ _ _ q=>le_int q
theorem BK:OpR X (Bt .Gt) (rI0 λi j=>.bl (decide (j<i))):=sA λ_ _ _ _ _ _ _ q=>gt_int q
theorem BJ:OpR X (Bt .GtE) (rI0 λi j=>.bl (decide (j<=i))):=sA λ_ _ _ _ _ _ _ q=>ge_int q
theorem JN:OpR X (Bt .Is) (λx y H Q=>y=.non/\Q (.bl (decide (x=.non))) H):=by
 intro pins s σ H x y v u Q I rx ry h;obtain⟨rfl,q⟩:=h;cases ry;refine is_none_gen (U7 I q ?_);cases x <;> first
  |(cases rx;rfl)
  |(obtain⟨t,rfl⟩:=rx;rfl)
theorem OpR.or {r r':R2}(h:OpR X f r)(h':OpR X f r'):OpR X f (λx y H Q=>r x y H Q\/r' x y H Q):=by
 intro pins s σ H x y v u Q I rx ry q;rcases q with q|q
 .exact h pins s σ H x y v u Q I rx ry q
 .exact h' pins s σ H x y v u Q I rx ry q
theorem vX (b:AA){op:L7}(h:op≠.In:=by decide)(h2:op≠.NotIn:=by decide):EM op b=false:=by
 have e1:(op == CmpOp.In)=false:=by cases op <;> first|rfl|exact absurd rfl h
 have e2:(op == CmpOp.NotIn)=false:=by cases op <;> first|rfl|exact absurd rfl h2
 cases b <;> simp[EM,e1,e2]
def dF (K:Ah)(x:V)(H:Hp)(k:Aq):Prop:=
 match x with
 |.non=>k=false
 |.bl b=>k=b
 |.int i=>k=(i != 0)
 |.str y=>y.length<=sizeLine/\k=((y.length:Am) != 0)
 |.byt y=>y.size<=sizeLine/\k=((y.size:Am) != 0)
 |.ref p=>(∃ xs,SqL K H p xs/\k=!xs.isEmpty)\/(∃ xs,SqT K H p xs/\k=!xs.isEmpty)\/∃ kvs,H p=Ab (.dK kvs)/\k=!kvs.isEmpty
 |_=>CF
theorem dW {κ:Type}{kvs:Aa (κ × V)}{vs:Aa (κ × Ac)}(r:KV kvs vs):(!vs.isEmpty)=!kvs.isEmpty:=by
 cases r <;> rfl
theorem gW {xs:Aa V}{its:Aa Ac}(r:qL xs its):(!its.toArray.isEmpty)=!xs.isEmpty:=by
 cases r <;> simp
theorem vW:(sizeLine:Ai)<2 ^ 63:=by rw[DB];decide
theorem pH:FL X (λx H Q=>∃ k,dF X.K x H k/\Q k H):=by
 intro pins s σ H x v Q I rx h;obtain⟨k,e,q⟩:=h;have hl:=vW;have hs:sizeLine=16777216:=DB;cases x with
 |non =>
  cases rx;have e':k=false:=e;subst e';exact truthy_none ⟨H,I,q⟩
 |bl b =>
  cases rx;have e':k=b:=e;subst e';exact Ge ⟨H,I,q⟩
 |int i =>
  obtain⟨t,rfl⟩:=rx;have e':k=(i != 0):=e;subst e';exact PySem.P.truthy_int ⟨H,I,q⟩
 |str y =>
  obtain⟨t,rfl⟩:=rx;obtain⟨hy,e'⟩:y.length<=sizeLine/\k=((y.length:Am) != 0):=e;subst e';exact PySem.P.truthy_str om ⟨H,I.tok _,q⟩
 |byt y =>
  obtain⟨t,rfl⟩:=rx;obtain⟨hy,e'⟩:y.size<=sizeLine/\k=((y.size:Am) != 0):=e;subst e';exact PySem.W.truthy_bytes om ⟨H,I.tok _,q⟩
 |ref p =>
  cases rx;have e':(∃ xs,SqL X.K H p xs/\k=!xs.isEmpty)\/(∃ xs,SqT X.K H p xs/\k=!xs.isEmpty)\/∃ kvs,H p=Ab (.dK kvs)/\k=!kvs.isEmpty:=e;rcases e' with⟨xs,hx,e'⟩|⟨xs,hx,e'⟩|⟨kvs,hx,e'⟩
  .subst e'
   obtain⟨its,r,pl,hz⟩:=I.list hx;have hlen:=r.length;exact wpAny_truthy_list pl.isList (by simp only[AG];omega) ⟨H,I.tok _,by rw[gW r];exact q⟩
  .subst e'
   obtain⟨its,r,pl,hz⟩:=I.tuple hx;have hlen:=r.length;exact truthy_tuple pl (by simp only[AG];omega) ⟨H,I.tok _,by rw[gW r];exact q⟩
  .subst e'
   obtain⟨hz,hS,vs,r,m⟩:kvs.length<=sizeLine/\(p == DW)=false/\∃ vs,KV kvs vs/\s.heap.DictOf (qZ X.prog X.w) p vs:=I.hok p _ hx;have hlen:kvs.length=vs.length:=Paired.length r;exact wpAny_truthy_dict hS m om ⟨H,I.tok _,by rw[dW r];exact q⟩
 |_=>exact(show CF from e).elim
theorem sC:OpR X (Co .Add) (λx y H Q=>∃ i j,x=.str i/\y=.str j/\i.length+j.length<=sizeLine/\Q (.str (i++j)) H):=by
 intro pins s σ H x y v u Q I rx ry h;obtain⟨i,j,rfl,rfl,hz,q⟩:=h;obtain⟨t,rfl⟩:=rx;obtain⟨t',rfl⟩:=ry;exact add_str (λt' tk=>⟨.str (i++j),H,I.tok _,⟨_,rfl⟩,q⟩) hz
theorem kJ {x:V}(r:qL [x] us):∃ u,us=[u]/\qI x u:=by
 cases r with
 |cons r1 r2=>cases r2;exact⟨_,rfl,r1⟩
theorem sO {x y:V}(r:qL [x,y] us):∃ u w',us=[u,w']/\qI x u/\qI y w':=by
 cases r with
 |cons r1 r2 =>
  cases r2 with
  |cons r3 r4=>cases r4;exact⟨_,_,rfl,r1,r3⟩
theorem bP:jT X (.type "int") (λxs H Q=>(∃ i,xs=[.int i]/\Q (.int i) H)\/∃ k,xs=[.bl k]/\Q (.int (if k then 1 else 0)) H):=by
 intro pins s σ H xs us Q I r h;rcases h with⟨i,rfl,q⟩|⟨k,rfl,q⟩
 .obtain⟨u,rfl,t,rfl⟩:=kJ r
  exact call_int_int ⟨.int i,H,I,⟨_,rfl⟩,q⟩
 .obtain⟨u,rfl,r1⟩:=kJ r
  cases r1;exact call_int_bool ⟨.int (if k then 1 else 0),H,I.tok _,⟨_,rfl⟩,q⟩
def YT (K:Ah)(x:V)(H:Hp)(n:Ai):Prop:=
 match x with
 |.str y=>y.length<=sizeLine/\n=y.length
 |.byt y=>y.size<=sizeLine/\n=y.size
 |.ref p=>(∃ xs,SqL K H p xs/\n=xs.length)\/∃ xs,SqT K H p xs/\n=xs.length
 |_=>CF
theorem aG:jT X (.builtin "len") (λxs H Q=>∃ x n,xs=[x]/\YT X.K x H n/\Q (.int n) H):=by
 intro pins s σ H xs us Q I r h;obtain⟨x,n,rfl,e,q⟩:=h;obtain⟨u,rfl,rx⟩:=kJ r;have hl:=vW;have hs:sizeLine=16777216:=DB;cases x with
 |str y =>
  obtain⟨t,rfl⟩:=rx;obtain⟨hy,e'⟩:y.length<=sizeLine/\n=y.length:=e;subst e';exact len_str om ⟨.int _,H,I.tok _,⟨_,rfl⟩,q⟩
 |byt y =>
  obtain⟨t,rfl⟩:=rx;obtain⟨hy,e'⟩:y.size<=sizeLine/\n=y.size:=e;subst e';exact PySem.W.len_bytes om ⟨.int _,H,I.tok _,⟨_,rfl⟩,q⟩
 |ref p =>
  cases rx;have e':(∃ xs,SqL X.K H p xs/\n=xs.length)\/∃ xs,SqT X.K H p xs/\n=xs.length:=e;rcases e' with⟨xs,hx,e'⟩|⟨xs,hx,e'⟩
  .subst e'
   obtain⟨its,r',pl,hz⟩:=I.list hx;have hlen:=r'.length;exact Calls.call_len_list pl.isList (by simp only[AG];omega) ⟨.int xs.length,H,I.tok _,⟨_,by simp only[AG];rw[hlen]⟩,q⟩
  .subst e'
   obtain⟨its,r',pl,hz⟩:=I.tuple hx;have hlen:=r'.length;exact len_tuple pl (by simp only[AG];omega) ⟨.int xs.length,H,I.tok _,⟨_,by simp only[AG];rw[hlen]⟩,q⟩
 |_=>exact(show CF from e).elim
end
end _L
namespace _L
open PySem PySem.Spec PyProof.Rows
variable {mA:Ap->Ak Ac}
structure ObjM (h:AC)(x dx C:Ad)(mA:Ap->Ak Ac):Prop where
 obj:h.get? x=Ab (IN C dx)
 ns:h.Ns1 dx mA
 ne:dx≠x
set_option tactic.hygienic true in
theorem eB {h:AC}{dx:Ad}(n:h.Ns1 dx mA):∃ od,h.get? dx=Ab od/\∀ name,Jt name od=Ab (mA name):=by
 obtain⟨o,es,ep,ho,hd,hk,_,hm⟩:=n;refine⟨o,ho,λname=>?_⟩;have e:=hm name;unfold nsFind findBy at e;rw[<- Array.find?_toList] at e;unfold Jt;rw[hd];dsimp only
 split
 .rename_i y q
  rw[q] at e;exact congrArg Ab e
 .rename_i q
  rw[q] at e;have a:es.toList.any (·.refKey)=false:=by
   rw[List.any_eq_false];intro y hy;obtain⟨z,t,hkey⟩:=hk y (Array.mem_toList_iff.mp hy);simp[DictEntry.refKey,hkey]
  have a':¬ es.toList.any (·.refKey)=true:=by rw[a];exact Dy
  rw[Aw a'];exact congrArg Ab e
theorem ObjM.look {h:AC}{x dx C:Ad}(I:ObjM h x dx C mA):∃ od,PySem.W.InstAt h x (IN C dx) C (Ab od)/\∀ name,Jt name od=Ab (mA name):=
 let ⟨od,ho,hl⟩:=eB I.ns
 ⟨od,⟨I.obj,rfl,rfl,ho⟩,hl⟩
theorem wY.some_of {v:V}{o:Ak Ac}(r:wY (Ab v) o):∃ u,o=Ab u/\qI v u:=by
 cases o with
 |none=>exact(show CF from r).elim
 |some u=>exact⟨u,rfl,r⟩
section
variable {P:A6}{w:AK}{H H':Hp}{h h':AC}{a C dx:Ad}{fs fs':Aa (Ap × V)}
theorem XG (hok:HOk P w H h)(e:H a=Ab (.ins C dx fs)):∃ mA,ObjM h a dx C mA/\(∀ f,wY (fs.lookup f) (mA f))/\NC mA (fs.map (·.1))/\fs.length<=1000/\H dx=Ab (.own a):=by
 obtain⟨d,z,ne,ob,mA,n,r,q⟩:=(show z9 P w H h a (.ins C dx fs) from hok a _ e)
 exact⟨mA,⟨ob,n,ne⟩,r,q,z,d⟩
end
structure Cls (K:Ah)(C:Ad):Prop where
 pg:LR K C EN=true
 hd:PySem.W.hasDictIn K C=true
 po:PySem.W.plainOver K C=true
 sa:Ga K (.ref C) "__setattr__" = Ab (Ab (.builtin "object.__setattr__"))
theorem Cls.get {K:Ah}{C:Ad}(c:Cls K C)(f:Ap):LR K C f=true:=c.pg
section
variable {X:Cx}{pins:Aa (Ad × AR)}{σ : St}{H:Hp}{s:Ag}{A:AB}{E:Ac->Ag->Prop}{Q:Ac->Ag->Prop}{c:Ac}{b:Aq}
inductive TyOf (K:Ah)(H:Hp):V->Ac->Prop where
 |non:TyOf K H .non (.type "NoneType")
 |bl (x:Aq):TyOf K H (.bl x) (.type "bool")
 |int (i:Am):TyOf K H (.int i) (.type "int")
 |str (x:Ap):TyOf K H (.str x) (.type "str")
 |flt (x:UInt64):TyOf K H (.flt x) (.type "float")
 |lst {a:Ad} {xs:Aa V} (e:H a=Ab (.lst xs)):TyOf K H (.ref a) (.type "list")
 |frz {a:Ad} {o:AR} {xs:Aa V} (e:H a=Ab (.frz o (.lst xs))):TyOf K H (.ref a) (.type "list")
 |tup {a:Ad} {xs:Aa V} (e:H a=Ab (.tup xs)):TyOf K H (.ref a) (.type "tuple")
 |dK {a:Ad} {kvs:Aa (Key × V)} (e:H a=Ab (.dK kvs)):TyOf K H (.ref a) (.type "dict")
 |dT {a:Ad} {kvs:Aa (Aa Key × V)} (e:H a=Ab (.dT kvs)):TyOf K H (.ref a) (.type "dict")
 |ins {a C dx:Ad} {fs:Aa (Ap × V)} (e:H a=Ab (.ins C dx fs)) (cl:Cls K C) (ha:Ga K (.ref C) "__class__" = Ab (Ab (.builtin "object.__class__")))
   (hn:L8 K (.builtin "object.__class__") "__get__" = Ab (Ab (.builtin "getset_descriptor.__get__"))) (htk:Mp K (.builtin "object.__class__")=Ab true)
   (hm:Ki K C (.type "object")=Ab true):TyOf K H (.ref a) (.ref C)
theorem rU {x:V}{u t:Ac}(I:Inv X pins σ H s)(rx:qI x u)(ty:TyOf X.K H x t)(e:ED X.K t c=Ab b)(h:∀ tk,Q (.bool b) { s with toks:=tk }) :
  Ar (As X.prog X.w) A (call (.builtin "isinstance") [u,c]) Q E s:=by
 cases ty with
 |non=>cases (show u=Bi from rx);exact Bz PySem.W.kitx_none I.kIn DX e (λz=>nomatch z) h
 |bl y=>cases (show u=De y from rx);exact Bz PySem.W.kitx_bool I.kIn DX e (λz=>nomatch z) h
 |int i=>obtain⟨t,q⟩:=(show ∃ t,u=Ja i t from rx);cases q;exact Bz PySem.W.kitx_int I.kIn DX e (λz=>nomatch z) h
 |str y=>obtain⟨t,q⟩:=(show ∃ t,u=L6 y t from rx);cases q;exact Bz PySem.W.kitx_str I.kIn DX e (λz=>nomatch z) h
 |flt y=>obtain⟨t,q⟩:=(show ∃ t,u=NR y t from rx);cases q;exact Bz PySem.W.kitx_float I.kIn DX e (λz=>nomatch z) h
 |@lst a xs ea =>
  cases (show u=AL a from rx)
  obtain⟨_,_,n,_,h1⟩:=(show z9 X.prog X.w H s.heap a (.lst xs) from I.hok a _ ea)
  exact Bz HQ I.kIn ⟨_,h1,rfl⟩ e (λz=>nomatch z) h
 |@frz a ob xs ea =>
  cases (show u=AL a from rx)
  obtain⟨_,_,_,n,_,h1⟩:=(show z9 X.prog X.w H s.heap a (.frz ob (.lst xs)) from I.hok a _ ea)
  exact Bz HQ I.kIn ⟨_,h1,rfl⟩ e (λz=>nomatch z) h
 |@tup a xs ea =>
  cases (show u=AL a from rx)
  obtain⟨_,_,_,p⟩:=(show z9 X.prog X.w H s.heap a (.tup xs) from I.hok a _ ea)
  obtain⟨o,h1,h2,_⟩:=p;exact Bz Lf I.kIn ⟨o,h1,h2⟩ e (λz=>nomatch z) h
 |@dK a kvs ea =>
  cases (show u=AL a from rx)
  obtain⟨_,_,vs,_,p⟩:=(show z9 X.prog X.w H s.heap a (.dK kvs) from I.hok a _ ea)
  obtain⟨o,es,ep,h1,h2,_⟩:=p;exact Bz L9 I.kIn ⟨o,h1,h2.1⟩ e (λz=>nomatch z) h
 |@dT a kvs ea =>
  cases (show u=AL a from rx)
  obtain⟨_,_,xs,_,o,es,ep,h1,h2,_⟩:=(show z9 X.prog X.w H s.heap a (.dT kvs) from I.hok a _ ea)
  exact Bz L9 I.kIn ⟨o,h1,h2.1⟩ e (λz=>nomatch z) h
 |@ins a C dx fs ea cl ha hn htk hm =>
  cases (show u=AL a from rx)
  obtain⟨mA,O,_⟩:=XG I.hok ea;obtain⟨od,J,_⟩:=O.look;exact Bz (PySem.W.kitx_own (cl.get _) cl.hd ha hn htk hm) I.kIn J e (λz=>nomatch z) h
end
end _L
namespace _L
open PySem PySem.Spec PyProof.Rows
variable {A:AB}{ps:Aa Ap}{K:Ah}{mg:Ap->Ak Ac}{kindOf:Ap->Ak Dz}{scope:Cg}
structure Room (k:Ai)(A:AB):Prop where
 hd:A.handled=none
 dp:A.depth+3*k+5<Gb
 un:A.units+16*k+200<CZ
 gd:A.guards=Ab []
theorem Room.deeper {k:Ai}(r:Room (k+1) A)(env:El):Room k (A.deeper env):=
 ⟨r.hd,by have:=r.dp;show A.depth+1+3*k+5<_;omega,by have:=r.un;show A.units+3+16*k+200<_;omega,r.gd⟩
theorem Room.depth {k:Ai}(r:Room k A):A.depth<Gb:=by have:=r.dp;omega
theorem Room.units {k:Ai}(r:Room k A):A.units+64<CZ:=by have:=r.un;omega
def MI:TA:=λ_ H Q=>Q [] H
section
variable {X:Cx}{e:AA}{es:Aa AA}{te:TE}{t:TA}{pos:CG}
theorem JS:PA X [] MI:=λ_ _ _ _ H Q I h=>HR ⟨[],H,I,.nil,h⟩
def MK (t:TA):TE:=λσ H Q=>t σ H λxs H1=>xs.length<=sizeLine/\∀ p,H1 p=none->Q (.ref p) (upd H1 p (.tup xs))
def MH (t:TA):TE:=λσ H Q=>t σ H λxs H1=>xs.length<=sizeLine/\∀ p,H1 p=none->Q (.ref p) (upd H1 p (.lst xs))
theorem JY  (h:PA X es t):PE X (.Tuple es x1 pos) (MK t):=by
 intro pins s σ H Q I hq;refine wpAny_Tuple_spliced (thn (h pos pins s σ H _ I hq) λus s1 ⟨xs,H1,I1,r,z,q⟩=>⟨by rw[<- r.length];exact z,?_⟩)
 have hf:H1 s1.heap.objs.size=none:=I1.hok.fresh (Au _);refine⟨.ref s1.heap.objs.size,upd H1 s1.heap.objs.size (.tup xs),I1.laid (t':=s1.toks) (λb u e=>Aj _ e) (Au _) ?_,rfl,q _ hf⟩;exact⟨z,us,r,⟨_,AD _ rfl,rfl,_,rfl⟩⟩
theorem eR (h:PA X es t):PE X (.List es pos) (MH t):=by
 intro pins s σ H Q I hq;refine wpAny_List_spliced (thn (h pos pins s σ H _ I hq) λus s1 ⟨xs,H1,I1,r,z,q⟩=>⟨by rw[<- r.length];exact z,?_⟩)
 have hf:H1 s1.heap.objs.size=none:=I1.hok.fresh (Au _);refine⟨.ref s1.heap.objs.size,upd H1 s1.heap.objs.size (.lst xs),I1.laid (t':=s1.toks) (λb u e=>Aj _ e) (Au _) ?_,rfl,q _ hf⟩;exact⟨z,us,0,r,AD _ rfl⟩
end
abbrev Sp:=Aa V->Hp->VK->XK->Prop
abbrev CXT:=Aa El->Hp->Ag->XK->Ac->Ag->Prop
structure Env0 (P:A6)(w:AK)(K:Ah)(mg:Ap->Ak Ac)(base:AC)(A:AB)(outer:Aa El)(s:Ag)(H:Hp):Prop where
 frames:A.frames=Ab outer
 mod:Mod K mg base
 bs:∀ b o,base.get? b=Ab o->s.heap.get? b=Ab o/\H b=none
 bsz:base.objs.size<=s.heap.objs.size
 funs:s.heap.FunFrames base outer
 frf:∀ b∈frs outer,H b=none
 hok:HOk P w H s.heap
 bare:Gp s.gens
def CE (outer:Aa El)(P:A6)(w:AK)(H:Hp)(s:Ag)(Q:VK)(u:Ac)(s':Ag):Prop:=
 ∃ v H',s'.os=s.os/\Gp s'.gens/\Un (frs outer) [] H H' s.heap s'.heap/\HOk P w H' s'.heap/\qI v u/\Q v H'
def CR (CX:CXT)(outer:Aa El)(P:A6)(w:AK)(H:Hp)(s:Ag)(Q:VK)(E:XK)(r:Jd)(s':Ag):Prop:=
 match r with
 |.ok (.ret u)=>CE outer P w H s Q u s'
 |.ok _=>CF
 |.error e=>CX outer H s E e s'
structure FnOk (P:A6)(w:AK)(K:Ah)(mg:Ap->Ak Ac)(base:AC)(CX:CXT)(k:Ai)(f:Ad)(fd:CN)(ps:Aa Ap)(sp:Sp):Prop where
 len:∀ vs H Q E,sp vs H Q E->vs.length=ps.length
 run:∀ (A:AB) (outer:Aa El) (s:Ag) (H:Hp) (args:Args) (us:Aa Ac) (vs:Aa V) (Q:VK) (E:XK),Room k A->Env0 P w K mg base A outer s H->Gq s fd args (ps.zip us)->qL vs us->sp vs H Q E ->
  DH (As P w) A (.call (.ref f) args) (CR CX outer P w H s Q E) s
section
variable {X:Cx}{pins:Aa (Ad × AR)}{σ : St}{H:Hp}{s s':Ag}
theorem Inv.env0 (I:Inv X pins σ H s):Env0 X.prog X.w X.K X.mg X.base X.A X.stack s H:=
 ⟨I.ok.frames,I.ok.mod,I.bs,Bn I.ok.bsz I.sz,I.stack,I.stkFree,I.hok,I.bare⟩
theorem Inv.after {Q:VK}{u:Ac}(I:Inv X pins σ H s)(h:CE X.stack X.prog X.w H s Q u s'):EP X pins σ Q u s':=by
 obtain⟨v,H',os,bare,un,hok,r,q⟩:=h;obtain⟨hh,g,d,t,os'⟩:=s';obtain rfl:os'=s.os:=os;exact⟨v,H',I.call (h':=hh) (g':=g) (d':=d) (t':=t) (ch:=[]) un hok bare (λb z=>absurd z (by simp)),r,q⟩
end
def yK (K:Ah)(fd:CN)(ps:Aa Ap)(ds:Aa Ac):Prop:=
 ∀ (s:Ag) (us:Aa Ac),K.In s.heap->(us++ds).length=ps.length->Gq s fd ⟨us,[]⟩ (ps.zip (us++ds))
theorem yK.all {fd:CN}(h:∀ us:Aa Ac,us.length=ps.length->HK fd ⟨us,[]⟩=pure (ps.zip us)):yK K fd ps []:=λs us _ hl=>by
 rw[Ea] at hl ⊢;exact .of_eq (h us hl)
structure FnScope (N P:Aa Ap)(sc:Cg):Prop where
 kind:sc.kind=.function
 co:sc.isCoroutine=false
 gen:sc.isGenerator=false
 nd:N.Nodup
 pre:N.take P.length=P
 par:∀ x∈P,sc.names.lookup x=Ab .local \/ sc.names.lookup x=Ab .cell
 nofree:∀ y∈sc.names,y.2≠.free
theorem bN {x:Ap}:∀ {binds:Aa (Ap × Ac)} {m:Ap->Ak Ac},(∀ v,(x,v) ∉ binds)->Kj kindOf binds m x=m x
 |[],_,_=>rfl
 |(n,v)::r,m,h=>by
  unfold Kj;rw[bN λw hw=>h w (AS _ hw)]
  split
  .have:x≠n:=by rintro rfl;exact h v Cz
   simp[this]
  .rfl
theorem bL {x:Ap}:∀ {binds:Aa (Ap × Ac)} {m:Ap->Ak Ac},(∀ v,(x,v) ∉ binds)->Kk kindOf binds m x=m x
 |[],_,_=>rfl
 |(n,v)::r,m,h=>by
  unfold Kk;rw[bL λw hw=>h w (AS _ hw)]
  split
  .rfl
  .have:x≠n:=by rintro rfl;exact h v Cz
   simp[this]
theorem bM {x:Ap}{v:Ac}:∀ {P:Aa Ap} {vs:Aa Ac} {i:Ai} {m:Ap->Ak Ac},P.Nodup->P[i]? = Ab x->vs[i]? = Ab v->kindOf x=Ab .local ->
  Kj kindOf (P.zip vs) m x=Ab v
 |[],_,_,_,_,h,_,_=>by simp at h
 |_::_,[],_,_,_,_,h,_=>by simp at h
 |p::P,w::vs,0,m,nd,h1,h2,hk=>by
  simp at h1 h2;subst h1;subst h2;show Kj kindOf ((p,w)::P.zip vs) m p=_;unfold Kj;rw[bN λv hv=>(CO.mp nd).1 (Hi hv).1,A0 hk];simp
 |p::P,w::vs,i+1,m,nd,h1,h2,hk=>by
  show Kj kindOf ((p,w)::P.zip vs) m x=_;unfold Kj;exact bM (i:=i) (CO.mp nd).2 (by simpa using h1) (by simpa using h2) hk
theorem bK {x:Ap}{v:Ac}:∀ {P:Aa Ap} {vs:Aa Ac} {i:Ai} {m:Ap->Ak Ac},P.Nodup->P[i]? = Ab x->vs[i]? = Ab v->kindOf x≠Ab .local ->
  Kk kindOf (P.zip vs) m x=Ab v
 |[],_,_,_,_,h,_,_=>by simp at h
 |_::_,[],_,_,_,_,h,_=>by simp at h
 |p::P,w::vs,0,m,nd,h1,h2,hk=>by
  simp at h1 h2;subst h1;subst h2;show Kk kindOf ((p,w)::P.zip vs) m p=_;unfold Kk;rw[bL λv hv=>(CO.mp nd).1 (Hi hv).1,Aw hk];simp
 |p::P,w::vs,i+1,m,nd,h1,h2,hk=>by
  show Kk kindOf ((p,w)::P.zip vs) m x=_;unfold Kk;exact bK (i:=i) (CO.mp nd).2 (by simpa using h1) (by simpa using h2) hk
noncomputable def zX (N:Aa Ap)(vs:Aa V):St:=vs.map Ab++Bf (N.length-vs.length) none
noncomputable def pP (CX:CXT)(P:A6)(w:AK)(K:Ah)(mg:Ap->Ak Ac)(base:AC)(N:Aa Ap)(qual:Ap)(scope:Cg)(f:Ad)(cd:Ac)(A:AB)(outer:Aa El)(s:Ag)(H:Hp)(E:XK):Cx where
 prog:=P
 w:=w
 K:=K
 mg:=mg
 base:=base
 A:=A.deeper (Dg qual scope s.heap.objs.size f cd)
 N:=N
 s₀:=s
 H₀:=H
 env:=Dg qual scope s.heap.objs.size f cd
 outer:=outer
 stack:=Dg qual scope s.heap.objs.size f cd::outer
 ex:=[]
 calm:=true
 fn:=λ_=>true
 pn:=[]
 xe:=λe s'=>Ar (As P w) (A.deeper (Dg qual scope s.heap.objs.size f cd)) (leaving (Dg qual scope s.heap.objs.size f cd) e) (λ_ s''=>CX outer H s E e s'') (λe' s''=>CX outer H s E e' s'') s'
theorem mJ {sc:Cg}{n:Ai}{x:Ap}(h:sc.names.lookup x=Ab .cell):∃ c,(Dt n sc.names []).lookup x=Ab c:=by
 have q:=Ez sc.names n [] (.inl h);exact Eh.mp q
theorem bZ {CX:CXT}{P:A6}{w:AK}{base:AC}{N:Aa Ap}{qual:Ap}{f:Ad}{cd:Ac}{outer:Aa El}{s s1:Ag}{H:Hp}{E:XK}{us:Aa Ac}{vs:Aa V}
  (S:FnScope N ps scope) (hd:A.handled=none) (e0:Env0 P w K mg base A outer s H) (hl:vs.length=ps.length) (r:qL vs us)
  (x:InCallC s s.heap.objs.size (Kj (Dg qual scope s.heap.objs.size f cd).kindOf (ps.zip us) λ_=>none) (Dt (s.heap.objs.size+1) scope.names []) (Kk (Dg qual scope s.heap.objs.size f cd).kindOf (ps.zip us) λ_=>none) s1) :
  Inv (pP CX P w K mg base N qual scope f cd A outer s H E) [] (zX N vs) H s1:=by
 have hpl:ps.length<=N.length:=by have:=congrArg HD S.pre;rw[Du] at this;omega
 obtain⟨h1,tk,rfl,hk⟩:=x.done;have noA:∀ b:Ad,b ∉ (pP CX P w K mg base N qual scope f cd A outer s H E).ex:=λb z=>absurd (show b∈([]:Aa Ad) from z) (by simp)
 refine⟨⟨e0.mod,S.kind,rfl,rfl,Au _,λy z c h1 h2=>?_,λy hy=>?_,λy c _ h=>?_,λ_=>hd,Jz e0.frames,.inr ⟨rfl,rfl⟩,λb z=>absurd z (noA b),e0.bs,e0.bsz,λb _ _=>noA b,λb z=>absurd z (noA b),e0.funs,e0.frf⟩,
  rfl,e0.bare,Un.kept hk,⟨_,x.toInCall.ns,λi y v h1 h2 h3=>?_⟩,λy c h=>⟨_,x.cell y c h⟩,e0.hok.fresh (Au _),λy c h=>?_,λp hp=>absurd (show p∈([]:Aa (Ad × AR)) from hp) (by simp),e0.hok.kept hk,?_⟩
 .exact name_of_addr x.apart (CU h1) (CU h2)
 .have hy:scope.names.lookup y=Ab .cell\/scope.names.lookup y=Ab .free:=hy
  rcases hy with hy|hy
  .exact mJ hy
  .exact absurd rfl (S.nofree _ (CU hy))
 .exact CD (x.above y c (CU h))
 .have hi:i<vs.length:=by
   unfold zX at h2;by_cases hi:i<vs.length
   .exact hi
   .rw[Ch (by simpa using hi)] at h2
    rw[Ft] at h2
    split at h2 <;> cases h2
  have ha:vs[i]? = Ab v:=by
   unfold zX at h2;rw[Be (by simpa using hi),CV] at h2
   cases e:vs[i]? with
   |none=>rw[e] at h2;cases h2
   |some a=>rw[e] at h2;cases h2;rfl
  obtain⟨u,hu,rv⟩:=r.get ha;have hp:ps[i]? = Ab y:=by
   rw[<- S.pre,Ig om];exact h1
  have ndP:ps.Nodup:=by rw[<- S.pre];exact S.nd.sublist (List.take_sublist _ _)
  refine⟨u,rv,?_⟩;rcases S.par y (Cj hp) with k|k
  .exact .inl ⟨k,bM ndP hp hu k⟩
  .obtain⟨c,e⟩:=mJ (n:=s.heap.objs.size+1) k
   refine .inr ⟨.inl k,c,e,?_⟩;have q:=x.cell y c e;rw[bK ndP hp hu (by show scope.names.lookup y≠_;rw[k];decide)] at q
   exact q
 .exact e0.hok.fresh (CD (x.above y c (CU h)))
 .unfold zX
  show _=N.length;rw[CP,AW,List.length_replicate];omega
theorem PM {CX:CXT}{P:A6}{w:AK}{base:AC}{k:Ai}{f:Ad}{name qual:Ap}{params:EO}{body:Aa Cs}{dV kV doc pm cdv ct oc:Ac}{an od:Ak Ad}
  {osl:A5 (Ak Ac)} {N ps:Aa Ap} {sp:Sp} (lk:K.lookup f=Ab ⟨oc,od,.func (CY name qual params body scope dV kV doc pm an cdv ct),osl⟩) (hcd:EE K cdv qual=true) (S:FnScope N ps scope)
  (len:∀ vs H Q E,sp vs H Q E->vs.length=ps.length)
  (hbody:∀ (A:AB) (outer:Aa El) (s:Ag) (H:Hp) (vs:Aa V) (Q:VK) (E:XK),Room k (A.deeper (Dg qual scope s.heap.objs.size f cdv))->sp vs H Q E ->
   ∃ t,PSs (pP CX P w K mg base N qual scope f cdv A outer s H E) body t/\t { nx:=λ_ H'=>Q .non H',rt:=Q } (zX N vs) H) :
  FnOk P w K mg base CX (k+1) f (CY name qual params body scope dV kV doc pm an cdv ct) ps sp:=by
 refine⟨len,λA outer s H args us vs Q E hr e0 hb r hsp=>?_⟩;have hl:=len _ _ _ _ hsp;have KX:K.In s.heap:=e0.mod.kin.keeps λb o e=>(e0.bs b o e).1;have lim:s.heap.NoLimit:=e0.mod.nolimit.keeps λb o e=>(e0.bs b o e).1;have hkind:∀ y∈ps.zip us,scope.names.lookup y.1=Ab .local \/ (scope.names.lookup y.1=Ab .cell/\((Dt (s.heap.objs.size+1) scope.names []).lookup y.1).isSome=true):=λ⟨n,v⟩ hy=>by
  rcases S.par n (Hi hy).1 with q|q
  .exact .inl q
  .exact .inr ⟨q,Ez _ _ _ (.inl q)⟩
 refine Je hr.depth (KX _ _ lk) rfl S.co S.gen rfl (Lg KX hcd) (hb _ _ _ _ ?_);refine HE S.kind hkind λenv he s1 x=>?_;subst he;refine⟨lim.keeps x.toInCall.keep,codeAny_func ?_⟩;obtain⟨t,ht,hq⟩:=hbody A outer s H vs Q E (hr.deeper _) hsp;have I:Inv (pP CX P w K mg base N qual scope f cdv A outer s H E) [] (zX N vs) H s1:=bZ S hr.hd e0 hl r x;refine Dn (ht [] s1 (zX N vs) H _ I hq) (λfl s' hs=>?_) λe s' hs=>hs;have fin:∀ {σ' : St} {H':Hp} {v:V} {u:Ac},Inv (pP CX P w K mg base N qual scope f cdv A outer s H E) [] σ' H' s'->qI v u->Q v H'->CE outer P w H s Q u s':=
  λ{σ' H' v u} J rv q=>⟨v,H',J.os,J.bare,J.base,J.hok,rv,q⟩
 cases fl with
 |ret u =>
  obtain⟨v,σ',H',J,rv,q⟩:=hs;exact fin J rv q
 |next =>
  obtain⟨σ',H',J,q⟩:=hs;exact fin (v:=V.non) (u:=Bi) J rfl q
 |brk =>
  obtain⟨_,_,_,q⟩:=hs;exact Al q
 |cont =>
  obtain⟨_,_,_,q⟩:=hs;exact Al q
end _L
namespace _H
open PySem PyProof.Rows
variable {Q:Ac->Ag->Prop}{hi:Ak Am}
noncomputable def lexLt:Aa Am->Aa Am->Aq
 |[],[]=>false
 |[],_::_=>true
 |_::_,[]=>false
 |x::xs,y::ys=>if x=y then lexLt xs ys else decide (x<y)
theorem lexLt_cons (x y:Am)(xs ys:Aa Am):lexLt (x::xs) (y::ys)=if x=y then lexLt xs ys else decide (x<y):=rfl
theorem lexLt_nil_nil:lexLt [] []=false:=rfl
section
variable {prog:A6}{w:AK}{A:AB}{E:Ac->Ag->Prop}{s:Ag}
theorem cat_tup {t b:Ad}{vs ws:Aa Ac}(ht:Jb s.heap t vs.toArray)(hb:Jb s.heap b ws.toArray)(hv:vs≠[])
  (h1:ws=[]->Q (.ref t) s) (h2:ws≠[]->Q (.ref s.heap.objs.size) { s with heap:=s.heap.push { cls:=.type "tuple",data:=.seq (vs++ws).toArray } })
  (hsz:vs.length+ws.length<=sizeLine):Ar (As prog w) A (Co .Add (.ref t) (.ref b)) Q E s:=by
 obtain⟨⟨cls,dd,data,sl⟩,ho,hc,n,hd⟩:=id ht;obtain⟨⟨cls2,dd2,data2,sl2⟩,ho2,hc2,n2,hd2⟩:=id hb;simp only at hc hd hc2 hd2;subst hc hd hc2 hd2;have e:vs.toArray++ws.toArray=(vs++ws).toArray:=by simp
 by_cases hw:ws=[]
 .exact Lq ⟨_,ho,rfl⟩ ⟨_,ho2,rfl⟩ Io Kl Gh Fu (Fk _ _)
   (tuple_addW1 t b vs.toArray ws.toArray n n2 dd dd2 sl sl2 (by simpa using hv) (by simp[hw])) ⟨ho,ho2,h1 hw⟩
 .refine Lq ⟨_,ho,rfl⟩ ⟨_,ho2,rfl⟩ Io Kl Gh Fu (Fk _ _)
   (tuple_addW2 t b vs.toArray ws.toArray n n2 dd dd2 sl sl2 (by simpa using hv) (by simpa using hw) (by rw[AG,AG];exact hsz)) ⟨ho,ho2,?_⟩
  rw[e];exact h2 hw
noncomputable def sIx (n d:Ai):Ak Am->Ai
 |none=>d
 |some v=>if v<0 then (v+(n:Am)).toNat else min v.toNat n
theorem KZ (n d:Ai)(hd:d<=n)(o:Ak Am):sIx n d o<=n:=by
 cases o with
 |none=>exact hd
 |some v =>
  show (if v<0 then (v+(n:Am)).toNat else min v.toNat n)<=n
  by_cases hv:v<0
  .rw[A0 hv];omega
  .rw[Aw hv];exact Nat.min_le_right _ _
theorem nU (v:Am)(n d:Ai):(if v<0 then max (v+(n:Am)) 0 else min v (n:Am))=((sIx n d (Ab v):Ai):Am):=by
 show (if v<0 then max (v+(n:Am)) 0 else min v (n:Am))=(((if v<0 then (v+(n:Am)).toNat else min v.toNat n):Ai):Am)
 by_cases hv:v<0
 .simp only[A0 hv];omega
 .simp only[Aw hv];omega
theorem dH (lo hi:Ak Am)(n:Ai):EQ lo hi 1 (n:Am)=(((sIx n 0 lo:Ai):Am),((sIx n n hi:Ai):Am)):=by
 have h1:¬ ((1:Am)<0):=by omega
 unfold EQ;simp only[h1,D6];refine Prod.ext ?_ ?_
 .cases lo with
  |none=>rfl
  |some v=>exact nU v n 0
 .cases hi with
  |none=>rfl
  |some v=>exact nU v n n
theorem sD (i j:Ai):Ec (i:Am) (j:Am) 1=j-i:=by
 unfold Ec;have h1:(1:Am)>0:=by omega
 simp only[h1,Ca,Int.ediv_one]
 split <;> omega
theorem pG {v:Ac}{o:Ak Am}{Q:Ak Am->Ag->Prop}(p:HF v o)(h:Q o s):Ar (As prog w) A (Mz v) Q E s:=by
 cases p with
 |none=>exact slicePart_none h
 |int i t=>exact slicePart_int h
theorem vA {sl:Ad}{vl vu:Ac}{lo:Ak Am}{n:Ai}{Q:Am × Am × Ai->Ag->Prop}(hs:s.heap.IsSliceOf sl vl vu .none)(pl:HF vl lo)(pu:HF vu hi)
  (h:Q (((sIx n 0 lo:Ai):Am),1,sIx n n hi-sIx n 0 lo) s):Ar (As prog w) A (HG (.ref sl) (pure (n:Am))) Q E s:=by
 obtain⟨os,hos,hcs,hds⟩:=id hs;unfold HG Nv;refine Af (Af (CH hos hds (x:=vl) rfl (Af (CH hos hds (x:=vu) rfl (Af (CH hos hds (x:=.none) rfl (An ?_)))))));refine Af (slicePart_none ?_);show Ar _ _ (if ((1:Am) == 0)=true then _ else _) _ _ s
 rw[Aw (by decide)]
 refine Af (pG pl (Af (pG pu (Af (An ?_)))));show Ar _ _ (match EQ lo hi 1 (n:Am) with|(lo,hi)=>pure (lo,(1:Am),Ec lo hi 1)) _ _ s
 rw[dH lo hi n];show Ar _ _ (pure (((sIx n 0 lo:Ai):Am),(1:Am),Ec ((sIx n 0 lo:Ai):Am) ((sIx n n hi:Ai):Am) 1)) _ _ s;rw[sD];exact An h
theorem oJ (xs:A5 Ac)(i k:Ai):((DD k).filterMap λ(m:Ai)=>xs[((i:Am)+(m:Am)*1).toNat]?).toArray=((xs.toList.drop i).take k).toArray:=by
 have e:(λ(m:Ai)=>xs[((i:Am)+(m:Am)*1).toNat]?)=λm=>xs[i+m]?:=by
  funext m
  have:((i:Am)+(m:Am)*1).toNat=i+m:=by omega
  rw[this]
 rw[e];have:=pick_run xs i k;rw[List.filterMap_map] at this;have e2:((λx=>xs[x]?)∘λx=>i+x)=λm=>xs[i+m]?:=rfl;rw[e2] at this;rw[this]
theorem getItem_tuple_cut {t sl:Ad}{items:A5 Ac}{vl vu:Ac}{lo:Ak Am}(ht:Jb s.heap t items)(hs:s.heap.IsSliceOf sl vl vu .none)(pl:HF vl lo)(pu:HF vu hi)
  (hw:¬ (sIx items.size 0 lo=0/\sIx items.size items.size hi=items.size))
  (h:Q (.ref s.heap.objs.size) { s with heap:=s.heap.push { cls:=.type "tuple",data:=.seq ((items.toList.drop (sIx items.size 0 lo)).take (sIx items.size items.size hi-sIx items.size 0 lo)).toArray } })
  (hsz:items.size<=sizeLine):Ar (As prog w) A (Fv (.ref t) (.ref sl)) Q E s:=by
 have htake:sizeOk (.seq ((items.toList.drop (sIx items.size 0 lo)).take (sIx items.size items.size hi-sIx items.size 0 lo)).toArray):=by
  show ((items.toList.drop (sIx items.size 0 lo)).take (sIx items.size items.size hi-sIx items.size 0 lo)).toArray.size<=sizeLine;rw[AG,Du,Gr,AN];omega
 have hj:sIx items.size items.size hi<=items.size:=KZ _ _ (Au _) hi;obtain⟨os,hos,hcs,hds⟩:=id hs;have hTs:s.TypeIs (.ref sl) "slice":=⟨os,hos,hcs⟩;unfold Fv
 try with_reducible refine Bx ?_
 first|refine Af (An ?_)|skip
 refine Af (LA ht.typeIs (by decide) ?_)
 refine Af (Dj (name:=Bo "__getitem__") ht.typeIs Ct
  (DL Ct ht.typeIs Km ?_ (Lh _ _)))
 show Ar _ _ (HH (.ref t) >>= _) _ _ s;refine Af (tupleItemsOf_ ht ?_);refine Af (Lr hTs ?_);rw[A0 (by decide)]
 refine Af (vA hs pl pu ?_);have hno:¬ ((((sIx items.size 0 lo:Ai):Am) == 0&&(1:Am) == 1&&(sIx items.size items.size hi-sIx items.size 0 lo) == items.size)=true):=by
  intro q;rw[Az,Az] at q;have q1:((sIx items.size 0 lo:Ai):Am)=0:=eq_of_beq q.1.1;have q2:sIx items.size items.size hi-sIx items.size 0 lo=items.size:=eq_of_beq q.2;exact hw ⟨by omega,by omega⟩
 show Ar _ _ (if (((sIx items.size 0 lo:Ai):Am) == 0&&(1:Am) == 1&&(sIx items.size items.size hi-sIx items.size 0 lo) == items.size)=true then _ else _) _ _ s
 rw[Aw hno,oJ]
 first
  |exact Af (m:=Ei _) (CI (An ⟨_,rfl,An h⟩) htake)
  |exact Af (m:=Ei _) (CI (Af (An (An ⟨_,rfl,An h⟩))) htake)
  |exact Af (Af (m:=Ei _) (CI (An (An ⟨_,rfl,An h⟩)) htake))
  |exact Af (Af (m:=Ei _) (CI (An ⟨_,rfl,An h⟩) htake))
end
end _H
namespace _L
open PySem PySem.Spec PyProof.Rows
abbrev TO:=St->Hp->(Ak Am->Hp->Prop)->Prop
def PO (X:Cx)(e:Ak AA)(t:TO):Prop:=
 ∀ (pins:Aa (Ad × AR)) (s:Ag) (σ : St) (H:Hp) (Q:Ak Am->Hp->Prop),Inv X pins σ H s->t σ H Q ->
  Ar (As X.prog X.w) X.A (evalPart e X.env) (λu s'=>∃ o H',Inv X pins σ H' s'/\HF u o/\Q o H') X.xe s
def F1 (t:TE):TO:=λσ H Q=>t σ H λx H1=>∃ i,x=.int i/\Q (Ab i) H1
theorem dR {ns:Aa Am}:∀ {us:Aa Ac},qL (ns.map V.int) us->HS us ns:=by
 induction ns with
 |nil=>intro us r;rw[Ls] at r;cases r;exact .nil
 |cons n ns ih =>
  intro us r;rw[AQ] at r;cases r with
  |cons r1 r2 =>
   obtain⟨t,e⟩:=r1;subst e;exact .cons n t (ih r2)
section
variable {X:Cx}{e:AA}{te:TE}{lo hi:Ak AA}{tl th:TO}{pos p2:CG}
theorem WL (h:PE X e te):PO X (Ab e) (F1 te):=by
 intro pins s σ H Q I hw;rw[evalPart_some];refine thn (h pins s σ H _ I hw) λu s1 ⟨x,H1,I1,r1,q1⟩=>?_;obtain⟨i,rfl,q⟩:=q1;obtain⟨t,rfl⟩:=r1;exact⟨Ab i,H1,I1,.int i t,q⟩
def SlR (X:Cx)(r:V->Ak Am->Ak Am->Hp->VK->Prop):Prop:=
 ∀ (pins:Aa (Ad × AR)) (s:Ag) (σ : St) (H:Hp) (x:V) (v vl vu:Ac) (lo hi:Ak Am) (sl:Ad) (Q:VK),Inv X pins σ H s->qI x v->s.heap.IsSliceOf sl vl vu .none->HF vl lo->HF vu hi->r x lo hi H Q ->
  ∃ T id,typeLookup (.type T) "__getitem__" = pure (Ab (.builtin id))/\s.TypeIs v T/\Ar (As X.prog X.w) X.A (Fv v (.ref sl)) (EP X pins σ Q) X.xe s
theorem SlR.or {r r':V->Ak Am->Ak Am->Hp->VK->Prop}(h:SlR X r)(h':SlR X r'):SlR X (λx lo hi H Q=>r x lo hi H Q\/r' x lo hi H Q):=by
 intro pins s σ H x v vl vu lo hi sl Q I rx hs pl pu q;rcases q with q|q
 .exact h pins s σ H x v vl vu lo hi sl Q I rx hs pl pu q
 .exact h' pins s σ H x v vl vu lo hi sl Q I rx hs pl pu q
def tSl (r:V->Ak Am->Ak Am->Hp->VK->Prop)(te:TE)(tl th:TO):TE:=λσ H Q=>te σ H λx H1=>tl σ H1 λl H2=>th σ H2 λu H3=>r x l u H3 Q
theorem oH {r:V->Ak Am->Ak Am->Hp->VK->Prop}(hr:SlR X r)(he:PE X e te)(hl:PO X lo tl)(hu:PO X hi th):PE X (.Subscript e (.Slice lo hi none p2) pos) (tSl r te tl th):=by
 intro pins s σ H Q I h;refine Kn (thn (he pins s σ H _ I h) λv s1 ⟨x,H1,I1,r1,q1⟩=>?_);refine wpAny_Slice (thn (hl pins s1 σ H1 _ I1 q1) λvl s2 ⟨l,H2,I2,pl,q2⟩=>thn (hu pins s2 σ H2 _ I2 q2) λvu s3 ⟨u,H3,I3,pu,q3⟩=>?_);rw[evalPart_none];refine An ?_;have I4:Inv X pins σ H3 { s3 with heap:=s3.heap.push { cls:=.type "slice",data:=.fields #[vl,vu,.none] } }:=I3.kept (t':=s3.toks) λb ob q=>Aj _ q
 obtain⟨T,id,hT,ht,hg⟩:=hr pins { s3 with heap:=s3.heap.push { cls:=.type "slice",data:=.fields #[vl,vu,.none] } } σ H3 x v vl vu l u s3.heap.objs.size Q I4 r1 (Od ..) pl pu q3
 show Ar (As X.prog X.w) X.A (HT e (.Slice lo hi none p2) v (.ref s3.heap.objs.size)) (EP X pins σ Q) X.xe { s3 with heap:=s3.heap.push { cls:=.type "slice",data:=.fields #[vl,vu,.none] } }
 exact tail_any (ops:=[.ref s3.heap.objs.size,v]) ht hT hg (by with_unfolding_all rfl)
noncomputable def jH (xs:Aa V)(lo hi:Ak Am):Aa V:=(xs.drop (_H.sIx xs.length 0 lo)).take (_H.sIx xs.length xs.length hi-_H.sIx xs.length 0 lo)
theorem kO (xs:Aa V)(lo hi:Ak Am):(jH xs lo hi).length<=xs.length:=by
 unfold jH;rw[Du,Gr];omega
def ME (K:Ah):V->Ak Am->Ak Am->Hp->VK->Prop:=λx lo hi H Q=>∃ a xs,x=.ref a/\SqT K H a xs /\
 ¬ (_H.sIx xs.length 0 lo=0/\_H.sIx xs.length xs.length hi=xs.length)/\∀ p,H p=none->Q (.ref p) (upd H p (.tup (jH xs lo hi)))
theorem G7:SlR X (ME X.K):=by
 intro pins s σ H x v vl vu lo hi sl Q I rx hs pl pu h;obtain⟨a,xs,rfl,hx,hw,q⟩:=h;cases rx;obtain⟨its,r,ht,hz⟩:=I.tuple hx;have hlen:its.toArray.size=xs.length:=by rw[AG];exact r.length.symm
 refine⟨"tuple",_,Ct.lookup,ht.typeIs,?_⟩;refine _H.getItem_tuple_cut ht hs pl pu (by rw[hlen];exact hw) ?_ (by rw[hlen];exact hz)
 rw[hlen];refine⟨.ref s.heap.objs.size,_,I.laid (t':=s.toks) (o:=.tup (jH xs lo hi)) (λb ob q=>Aj _ q) (Au _) ?_,rfl,q _ (I.hok.fresh (Au _))⟩;exact⟨Bn (kO xs lo hi) hz,_,(r.drop (_H.sIx xs.length 0 lo)).take (_H.sIx xs.length xs.length hi-_H.sIx xs.length 0 lo),Oe _ _⟩
end
end _L
namespace _L
open PySem PySem.Spec PyProof.Rows
variable {pins:Aa (Ad × AR)}{s:Ag}{H:Hp}{σ:St}
noncomputable def ixN (n:Ai)(i:Am):Ak Ai:=if 0<=i then (if i<n then Ab i.toNat else none) else if -(n:Am)<=i then Ab (i+n).toNat else none
noncomputable def atI {α:Type}(xs:Aa α)(i:Am):Ak α:=(ixN xs.length i).bind λj=>xs[j]?
theorem l8 {n:Ai}{i:Am}{j:Ai}(h:ixN n i=Ab j):Nw i n=Ab j/\j<n /\ -(n:Am)<=i/\i<n:=by
 unfold ixN at h;by_cases h0:0<=i
 .rw[A0 h0] at h
  by_cases h1:i<n
  .rw[A0 h1] at h
   have e:i.toNat=j:=Bg h;exact⟨by rw[LS h0 h1,e],by omega,by omega,h1⟩
  .rw[Aw h1] at h;cases h
 .rw[Aw h0] at h
  by_cases h1 : -(n:Am)<=i
  .rw[A0 h1] at h
   have e:(i+n).toNat=j:=Bg h;exact⟨by rw[seqIndex_neg om h1,e],by omega,h1,by omega⟩
  .rw[Aw h1] at h;cases h
theorem pM {α:Type}{xs:Aa α}{i:Am}{v:α}(h:atI xs i=Ab v):∃ j,Nw i xs.length=Ab j/\xs[j]? = Ab v/\j<xs.length /\ -(xs.length:Am)<=i/\i<xs.length:=by
 unfold atI at h;cases e:ixN xs.length i with
 |none=>rw[e] at h;cases h
 |some j =>
  rw[e] at h;obtain⟨h1,h2,h3,h4⟩:=l8 e;exact⟨j,h1,h,h2,h3,h4⟩
def yO (b:AA):Prop:=∀ o i,subscripted b false o i=operate [o,i] (Fv o i)
def IxR (X:Cx)(r:R2):Prop:=
 ∀ (value slice:AA) (pins:Aa (Ad × AR)) (s:Ag) (σ : St) (H:Hp) (x y:V) (v u:Ac) (Q:VK),Inv X pins σ H s->qI x v->qI y u->r x y H Q ->
  subscripted slice false v u=operate [v,u] (Fv v u)->Ar (As X.prog X.w) X.A (HT value slice v u) (EP X pins σ Q) X.xe s
def MtR (X:Cx)(id:Bk)(r:V->Aa V->Hp->VK->Prop):Prop:=
 ∀ (pins:Aa (Ad × AR)) (s:Ag) (σ : St) (H:Hp) (x:V) (xs:Aa V) (v:Ac) (us:Aa Ac) (Q:VK),Inv X pins σ H s->qI x v->qL xs us->r x xs H Q ->
  Ar (As X.prog X.w) X.A (call (.builtin id) (v::us)) (EP X pins σ Q) X.xe s
section
variable {X:Cx}{a b:AA}{ta tb:TE}{pos:CG}
theorem IxR.or {r r':R2}(h:IxR X r)(h':IxR X r'):IxR X (λx y H Q=>r x y H Q\/r' x y H Q):=by
 intro value slice pins s σ H x y v u Q I rx ry q hs;rcases q with q|q
 .exact h value slice pins s σ H x y v u Q I rx ry q hs
 .exact h' value slice pins s σ H x y v u Q I rx ry q hs
theorem MtR.or {id:Bk}{r r':V->Aa V->Hp->VK->Prop}(h:MtR X id r)(h':MtR X id r'):MtR X id (λx xs H Q=>r x xs H Q\/r' x xs H Q):=by
 intro pins s σ H x xs v us Q I rx rs q;rcases q with q|q
 .exact h pins s σ H x xs v us Q I rx rs q
 .exact h' pins s σ H x xs v us Q I rx rs q
theorem BO {r:R2}(hr:IxR X r)(ha:PE X a ta)(hb:PE X b tb)(hs:yO b):PE X (.Subscript a b pos) (tOp r ta tb):=by
 intro pins s σ H Q I h;exact Kn (FP ha hb I h λv u s2 x y H2 I2 rx ry q=>hr a b pins s2 σ H2 x y v u Q I2 rx ry q (hs _ _))
def MA (K:Ah):R2:=λx y H Q=>∃ p xs i v,x=.ref p/\y=.int i/\SqL K H p xs/\atI xs i=Ab v/\Q v H
def MB (K:Ah):R2:=λx y H Q=>∃ p xs i v,x=.ref p/\y=.int i/\SqT K H p xs/\atI xs i=Ab v/\Q v H
theorem l9:IxR X (MA X.K):=by
 intro value slice pins s σ H x y v u Q I rx ry h hs;obtain⟨p,xs,i,z,rfl,rfl,hq,he,q⟩:=h;cases rx;obtain⟨t,rfl⟩:=ry;obtain⟨its,r,pl,hz⟩:=I.list hq;obtain⟨j,h1,h2,h3,h4,h5⟩:=pM he;obtain⟨w,ew,rw'⟩:=r.get h2;have hl:=r.length;have hn:=vW;have fin:EP X pins σ Q w s:=⟨z,H,I,rw',q⟩;by_cases h0:0<=i
 .have hj:i.toNat=j:=by
   rw[LS h0 h5] at h1;exact Bg h1
  exact item_listR pl.isList h0 om (by rw[hj];simpa using ew) fin hs
 .have hj:(i+(its.toArray.size:Am)).toNat=j:=by
   rw[seqIndex_neg om h4] at h1;rw[AG,<- hl];exact Bg h1
  exact Gi (x:=w) pl.isList.typeIs LB.lookup
   (wpAny_getItem_list_neg (Q:=λr s'=>r=w/\EP X pins σ Q r s') pl.isList om (by rw[AG] <;> omega) om (by rw[hj];simpa using ew) ⟨rfl,fin⟩) hs
theorem UI:IxR X (MB X.K):=by
 intro value slice pins s σ H x y v u Q I rx ry h hs;obtain⟨p,xs,i,z,rfl,rfl,hq,he,q⟩:=h;cases rx;obtain⟨t,rfl⟩:=ry;obtain⟨its,r,pl,hz⟩:=I.tuple hq;obtain⟨j,h1,h2,h3,h4,h5⟩:=pM he;obtain⟨w,ew,rw'⟩:=r.get h2;have hl:=r.length;have hn:=vW;have fin:EP X pins σ Q w s:=⟨z,H,I,rw',q⟩;exact Gi (x:=w) pl.typeIs Li.lookup
  (getItem_tuple (j:=j) (Q:=λr s'=>r=w/\EP X pins σ Q r s') pl om om (by rw[AG,<- hl];exact h1) (by simpa using ew) ⟨rfl,fin⟩) hs
theorem dZ (its:Aa Ac)(n j:Ai)(u:Ac):Do (·.setIfInBounds j u) { cls:=.type "list",data:=.seq its.toArray n } = { cls:=.type "list",data:=.seq (its.set j u).toArray n }:=by
 simp[Do]
theorem Inv.lst {p:Ad}{xs:Aa V}(I:Inv X pins σ H s)(h:H p=Ab (.lst xs)) :
  ∃ (its:Aa Ac) (n:Ai),qL xs its/\s.heap.get? p=Ab { cls:=.type "list",data:=.seq its.toArray n } /\ xs.length<=sizeLine:=by
 obtain⟨z,its,n,r,e⟩:=I.hok p _ h;exact⟨its,n,r,e,z⟩
theorem Inv.lstUpd {p:Ad}{xs ys:Aa V}{its its':Aa Ac}{n n':Ai}{f:AR->AR}(I:Inv X pins σ H s)(h:H p=Ab (.lst xs))
  (ho:s.heap.get? p=Ab { cls:=.type "list",data:=.seq its.toArray n }) (hf:f { cls:=.type "list",data:=.seq its.toArray n } = { cls:=.type "list",data:=.seq its'.toArray n' }) (r:qL ys its') (hz:ys.length<=sizeLine) (t:Ai) :
  Inv X pins σ (upd H p (.lst ys)) { s with heap:=s.heap.update p f,toks:=t }:=by
 have e:(s.heap.update p f).get? p=Ab { cls:=.type "list",data:=.seq its'.toArray n' }:=by
  rw[CJ f ho (by rw[hf] <;> rfl),hf]
 refine I.write (x:=p) (e:=p) (by rw[h];trivial) (.inl rfl) (λb u hb q=>(A9 _ _ (Cf hb)).trans q) ⟨_,e⟩ ?_
 exact⟨hz,its',n',r,e⟩
def BU:V->V->V->Hp->(Hp->Prop)->Prop:=λo i v H Q=>∃ p xs k j,o=.ref p/\i=.int k/\H p=Ab (.lst xs)/\ixN xs.length k=Ab j/\Q (upd H p (.lst (xs.set j v)))
theorem oY:mE X BU:=by
 intro pins s σ H o i v ov iv u Q I ro ri rv h;obtain⟨p,xs,k,j,rfl,rfl,hp,hj,q⟩:=h;cases ro;obtain⟨t,rfl⟩:=ri;obtain⟨its,n,r,ho,hz⟩:=I.lst hp;obtain⟨h1,h2,h3,h4⟩:=l8 hj;have hl:=r.length;have hn:=vW;have I':Inv X pins σ (upd H p (.lst (xs.set j v))) { s with heap:=s.heap.update p (Do (·.setIfInBounds j u)) }:=
  I.lstUpd hp ho (dZ its n j u) (r.set rv j) (by rw[Mq];exact hz) s.toks
 by_cases h0:0<=k
 .have hk:k.toNat=j:=by
   rw[LS h0 h4] at h1;exact Bg h1
  exact PySem.W.ki_setAt ho h0 om (by rw[AG,<- hl];exact h4) (by rw[hk];exact⟨_,I',q⟩)
 .have hk:(k+(its.toArray.size:Am)).toNat=j:=by
   rw[seqIndex_neg om h3] at h1;rw[AG,<- hl];exact Bg h1
  exact PySem.W.ki_setBack ho om (by rw[AG,<- hl];exact h3) om (by rw[hk];exact⟨_,I',q⟩)
theorem tX (lo hi:Ak Am)(n:Ai):(Fb lo hi none n).1=((_H.sIx n 0 lo:Ai):Am)/\(Fb lo hi none n).2.1=((_H.sIx n n hi:Ai):Am)/\(Fb lo hi none n).2.2=1:=by
 refine⟨?_,?_,rfl⟩
 .cases lo with
  |none=>simp[Fb,_H.sIx]
  |some i =>
   simp only[Fb,_H.sIx,LU,show (1:Am)>0 by decide,Ca]
   by_cases h:i<0
   .simp only[h,Ca] <;> omega
   .simp only[h,D6] <;> omega
 .cases hi with
  |none=>simp[Fb,_H.sIx]
  |some i =>
   simp only[Fb,_H.sIx,LU,show (1:Am)>0 by decide,Ca]
   by_cases h:i<0
   .simp only[h,Ca] <;> omega
   .simp only[h,D6] <;> omega
theorem fK (its:Aa Ac)(lo hi:Ak Am):slicePick its.toArray lo hi none=((its.drop (_H.sIx its.length 0 lo)).take (_H.sIx its.length its.length hi-_H.sIx its.length 0 lo)).toArray:=by
 obtain⟨h1,h2,h3⟩:=tX lo hi its.toArray.size;unfold slicePick;rw[h1,h2,h3];simp only[sliceRange_one,pick_run,AG] <;> rfl
def MD (K:Ah):V->Ak Am->Ak Am->Hp->VK->Prop:=λx lo hi H Q=>∃ a xs,x=.ref a/\SqL K H a xs/\∀ p,H p=none->Q (.ref p) (upd H p (.lst (jH xs lo hi)))
theorem lZ:SlR X (MD X.K):=by
 intro pins s σ H x v vl vu lo hi sl Q I rx hs pl pu h;obtain⟨a,xs,rfl,hx,q⟩:=h;cases rx;obtain⟨its,r,ht,hz⟩:=I.list hx;have hlen:=r.length;refine⟨"list",_,LB.lookup,ht.isList.typeIs,?_⟩;refine wpAny_getItem_list_slice ht.isList hs pl pu .none (by simp) ?_ (by rw[AG] <;> omega)
 rw[fK,<- hlen];refine⟨.ref s.heap.objs.size,_,I.laid (t':=s.toks) (o:=.lst (jH xs lo hi)) (λb ob q=>Aj _ q) (Au _) ?_,rfl,q _ (I.hok.fresh (Au _))⟩;exact⟨Bn (kO xs lo hi) hz,_,0,(r.drop (_H.sIx xs.length 0 lo)).take (_H.sIx xs.length xs.length hi-_H.sIx xs.length 0 lo),AD _ rfl⟩
theorem jT.or {f:Ac}{r r':Aa V->Hp->VK->Prop}(h:jT X f r)(h':jT X f r'):jT X f (λxs H Q=>r xs H Q\/r' xs H Q):=by
 intro pins s σ H xs us Q I rs q;rcases q with q|q
 .exact h pins s σ H xs us Q I rs q
 .exact h' pins s σ H xs us Q I rs q
def tyV (K:Ah)(T:Bk)(x:V)(H:Hp):Prop:=match x with
 |.str _=>T = "str"
 |.int _=>T = "int"
 |.ref p=>(T = "list" /\ ∃ xs,SqL K H p xs)\/(T = "tuple" /\ ∃ o,K.lookup p=Ab o/\o.cls=.type "tuple" /\ o.dict=none) \/
   (T = "dict" /\ ((∃ kvs,H p=Ab (.dK kvs))\/∃ kvs,H p=Ab (.dT kvs)))\/(T = "set" /\ ∃ S n,H p=Ab (.set S n))
 |_=>CF
theorem cM {T:Bk}{x:V}{v:Ac}(I:Inv X pins σ H s)(r:qI x v)(ty:tyV X.K T x H) :
  s.TypeIs v T/\∀ a,v=.ref a->∃ ob,s.heap.get? a=Ab ob/\ob.dict=none:=by
 cases x with
 |str z =>
  obtain⟨t,rfl⟩:=r;cases (show T = "str" from ty)
  exact⟨typeIs_str s z t,λ_ e=>nomatch e⟩
 |int i =>
  obtain⟨t,rfl⟩:=r;cases (show T = "int" from ty)
  exact⟨Na s i t,λ_ e=>nomatch e⟩
 |ref p =>
  cases r;rcases ty with⟨rfl,xs,hq⟩|⟨rfl,o,hk,hc,hd⟩|⟨rfl,hk⟩|⟨rfl,S,n,hk⟩
  .obtain⟨its,_,pl,_⟩:=I.list hq
   refine⟨pl.isList.typeIs,λa e=>?_⟩;cases e;obtain⟨o,n,e,c,hd,_⟩:=pl;exact⟨o,e,hd⟩
  .refine⟨⟨o,I.kIn p o hk,hc⟩,λa e=>?_⟩
   cases e;exact⟨o,I.kIn _ o hk,hd⟩
  .have z:∃ o,s.heap.get? p=Ab o/\o.ExactDict:=by
    rcases hk with⟨kvs,hk⟩|⟨kvs,hk⟩
    .obtain⟨_,_,_,_,o,_,_,e,ex,_⟩:=I.hok p _ hk
     exact⟨o,e,ex⟩
    .obtain⟨_,_,_,_,o,_,_,e,ex,_⟩:=I.hok p _ hk
     exact⟨o,e,ex⟩
   obtain⟨o,e,ex⟩:=z;refine⟨⟨o,e,ex.1⟩,λa e2=>?_⟩;cases e2;exact⟨o,e,ex.2.1⟩
  .obtain⟨o,_,_,_,e,ex,_⟩:=I.hok p _ hk
   refine⟨⟨o,e,ex.1⟩,λa e2=>?_⟩;cases e2;exact⟨o,e,ex.2.1⟩
 |_=>exact Al ty
variable {o e:AA}{es:Aa AA}{to:TE}{t:TA}{name:Ap}{apos cpos:CG}{T id:Bk}{r:V->Aa V->Hp->VK->Prop}
/- xs.append(e),list.index on a module's tuple .. are MtR facts of 06m -/
end
end _L
namespace _L
open PySem PySem.Spec PyProof.Rows
variable {us:Aa Ac}
theorem qL.one {x:V}(h:qL [x] us):∃ u,us=[u]/\qI x u:=kJ h
theorem qL.two {x y:V}(h:qL [x,y] us):∃ u v,us=[u,v]/\qI x u/\qI y v:=sO h
theorem qL.rep {xs:Aa V}(h:qL xs us):∀ k:Ai,qL (Bf k xs).flatten (Bf k us).flatten
 |0=>.nil
 |k+1=>by
  rw[Dp,Dp,Ed,Ed];exact qL.append h (qL.rep h k)
theorem bX (its:Aa Ac):∀ (k:Ai) (acc:Aa Ac),
  Nb (λx1 x2=>x1++x2) acc.toArray (Bf k its.toArray)=(acc++(Bf k its).flatten).toArray
 |0,acc=>by simp
 |k+1,acc=>by
  have e:acc.toArray++its.toArray=(acc++its).toArray:=by simp
  have e2:(acc++its)++(Bf k its).flatten=acc++(Bf (k+1) its).flatten:=by
   rw[Dp,Ed,AM]
  rw[<- e2,<- bX its k (acc++its),<- e,Dp,Hj]
section
variable {X:Cx}{pins:Aa (Ad × AR)}{σ : St}{H:Hp}{s:Ag}{l b:Ad}{xs ys zs:Aa V}
theorem oD {n:Ai}(h:n<=sizeLine):Fl n=false:=by
 unfold Fl;exact AT om
end
section
variable {X:Cx}
theorem W1 {α:Type}(xs:Aa α)(k:Ai):(Bf k xs).flatten.length=k*xs.length:=by
 induction k with
 |zero=>simp
 |succ k ih=>rw[Dp,Ed,CP,ih,Nat.succ_mul,Lu]
end
end _L
namespace _L
open PySem PySem.Spec PyProof.Rows
variable {xs:Aa (Aa Key × Ad × Ac)}{kvs:Aa (Aa Key × V)}{Q:Ac->Ag->Prop}{H':Hp}
section
variable {κ : Type}[DecidableEq κ]
noncomputable def xK (kvs:Aa (κ × V))(k:κ):Ak V:=(kvs.find? λkv=>decide (kv.1=k)).map (·.2)
noncomputable def wQ (kvs:Aa (κ × V))(k:κ)(v:V):Aa (κ × V):=
 if (kvs.any λkv=>decide (kv.1=k))=true then kvs.map (λkv=>if kv.1=k then (kv.1,v) else kv) else kvs++[(k,v)]
noncomputable def jY (kvs:Aa (κ × V))(k:κ):Aa (κ × V):=kvs.filter λkv=>decide (kv.1≠k)
theorem gL {p:κ × V}{r:Aa (κ × V)}{k:κ}(e:p.1=k):xK (p::r) k=Ab p.2:=by simp[xK,D7,e]
theorem gK {p:κ × V}{r:Aa (κ × V)}{k:κ}(e:¬ p.1=k):xK (p::r) k=xK r k:=by simp[xK,D7,e]
theorem nB (k:κ):∀ kvs:Aa (κ × V),(kvs.any λkv=>decide (kv.1=k))=(xK kvs k).isSome
 |[]=>rfl
 |p::r=>by
  rw[Gs];by_cases e:p.1=k
  .simp only[gL e,AY e,NE,Lj]
  .rw[gK e,AT e,Bool.false_or];exact nB k r
theorem kP (kvs:Aa (κ × V))(k:κ)(v:V):(wQ kvs k v).length<=kvs.length+1:=by
 unfold wQ
 split
 .rw[AW];omega
 .rw[CP,AV,D8];omega
theorem wY.isSome_eq {o:Ak V}{u:Ak Ac}(r:wY o u):o.isSome=u.isSome:=by
 cases o with
 |none=>cases u with
  |none=>rfl
  |some _=>exact(show CF from r).elim
 |some _=>cases u with
  |none=>exact(show CF from r).elim
  |some _=>rfl
theorem wY.getD {o:Ak V}{u:Ak Ac}{d:V}{d':Ac}(r:wY o u)(rd:qI d d'):qI (o.getD d) (u.getD d'):=by
 cases o with
 |none=>cases u with
  |none=>exact rd
  |some _=>exact(show CF from r).elim
 |some _=>cases u with
  |none=>exact(show CF from r).elim
  |some _=>exact r
theorem KV.val {kvs:Aa (κ × V)}{vs:Aa (κ × Ac)}(r:KV kvs vs)(k:κ):wY (xK kvs k) (HU vs k):=by
 unfold KV at r
 induction r with
 |nil=>exact DX
 |@cons p q ps qs h t ih =>
  obtain⟨h1,h2⟩:=h;by_cases e:p.1=k
  .have e':q.1=k:=h1.symm.trans e
   have b:HU (q::qs) k=Ab q.2:=by simp[HU,D7,e']
   rw[gL e,b];exact h2
  .have e':¬ q.1=k:=λz=>e (h1.trans z)
   have b:HU (q::qs) k=HU qs k:=by simp[HU,D7,e']
   rw[gK e,b];exact ih
theorem KV.any {kvs:Aa (κ × V)}{vs:Aa (κ × Ac)}(r:KV kvs vs)(k:κ):(kvs.any λkv=>decide (kv.1=k))=vs.any λkv=>decide (kv.1=k):=by
 unfold KV at r
 induction r with
 |nil=>rfl
 |cons h t ih=>rw[Gs,Gs,ih,h.1]
theorem KV.repl {kvs:Aa (κ × V)}{vs:Aa (κ × Ac)}(r:KV kvs vs)(k:κ){y:V}{u:Ac}(ry:qI y u) :
  KV (kvs.map λkv=>if kv.1=k then (kv.1,y) else kv) (vs.map λkv=>if kv.1=k then (kv.1,u) else kv):=by
 unfold KV at r ⊢
 induction r with
 |nil=>exact .nil
 |@cons p q ps qs h t ih =>
  rw[AQ,AQ];refine .cons ?_ ih;obtain⟨h1,h2⟩:=h;by_cases e:p.1=k
  .rw[A0 e,A0 (h1.symm.trans e)];exact⟨h1,ry⟩
  .rw[Aw e,Aw (λz=>e (h1.trans z))];exact⟨h1,h2⟩
theorem KV.put {kvs:Aa (κ × V)}{vs:Aa (κ × Ac)}(r:KV kvs vs)(k:κ){y:V}{u:Ac}(ry:qI y u):KV (wQ kvs k y) (stored vs k u):=by
 unfold wQ stored;rw[r.any k];by_cases e:(vs.any λkv=>decide (kv.1=k))=true
 .rw[A0 e,A0 e];exact r.repl k ry
 .rw[Aw e,Aw e];exact Paired.snoc r ⟨rfl,ry⟩
theorem KV.drop {kvs:Aa (κ × V)}{vs:Aa (κ × Ac)}(r:KV kvs vs)(k:κ):KV (jY kvs k) (without vs k):=by
 unfold KV at r ⊢;unfold jY without
 induction r with
 |nil=>exact .nil
 |@cons p q ps qs h t ih =>
  obtain⟨h1,h2⟩:=h;rw[EK,EK];by_cases e:p.1=k
  .have a:¬ decide (p.1≠k)=true:=by simp[e]
   have b:¬ decide (q.1≠k)=true:=by simp[h1.symm.trans e]
   rw[Aw a,Aw b];exact ih
  .have e':¬ q.1=k:=λz=>e (h1.trans z)
   have a:decide (p.1≠k)=true:=by simp[e]
   have b:decide (q.1≠k)=true:=by simp[e']
   rw[A0 a,A0 b];exact .cons ⟨h1,h2⟩ ih
theorem KV.keys {kvs:Aa (κ × V)}{vs:Aa (κ × Ac)}(r:KV kvs vs):kvs.map (·.1)=vs.map (·.1):=by
 unfold KV at r
 induction r with
 |nil=>rfl
 |cons h t ih=>rw[AQ,AQ,ih,h.1]
theorem KV.length {kvs:Aa (κ × V)}{vs:Aa (κ × Ac)}(r:KV kvs vs):kvs.length=vs.length:=Paired.length r
theorem i4 (kvs:Aa (κ × V))(k:κ):(jY kvs k).length<=kvs.length:=Jf _ _
end
theorem uT {P:A6}{w:AK}{k:Key}{u:Ac}(r:qI (kV k) u):(qZ P w).is k u=true:=by
 cases k with
 |inl i=>obtain⟨t,e⟩:=(show ∃ t,u=Ja i t from r);subst e;exact nI P w i t
 |inr x=>obtain⟨t,e⟩:=(show ∃ t,u=L6 x t from r);subst e;exact nJ P w x t
theorem f9 {P:A6}{w:AK}:∀ {ks:Aa Key} {us:Aa Ac},qL (ks.map kV) us->ItemsAre (qZ P w) ks us
 |[],_,r=>by rw[Ls] at r;cases r;exact .nil
 |k::ks,_,r=>by
  rw[AQ] at r;cases r with
  |cons h t=>exact .cons (uT h) (f9 t)
abbrev KT (H:Hp):Aa (Aa Key × V)->Aa (Aa Key × Ad × Ac)->Prop:=Paired λp q=>p.1=q.1/\H q.2.1=Ab (.tup (p.1.map kV))/\qI p.2 q.2.2
theorem KT.val {H:Hp}(r:KT H kvs xs)(k:Aa Key):wY (xK kvs k) ((Ko xs k).map (·.2)):=by
 induction r with
 |nil=>exact DX
 |@cons p q ps qs h t ih =>
  obtain⟨h1,_,h2⟩:=h;by_cases e:p.1=k
  .have e':q.1=k:=h1.symm.trans e
   have b:Ko (q::qs) k=Ab q.2:=by simp[Ko,D7,e']
   rw[gL e,b];exact h2
  .have e':¬ q.1=k:=λz=>e (h1.trans z)
   have b:Ko (q::qs) k=Ko qs k:=by simp[Ko,D7,e']
   rw[gK e,b];exact ih
theorem KT.repl {H:Hp}(r:KT H kvs xs)(k:Aa Key){y:V}{u:Ac}(ry:qI y u) :
  KT H (kvs.map λkv=>if kv.1=k then (kv.1,y) else kv) (xs.map (putAt k u)):=by
 induction r with
 |nil=>exact .nil
 |@cons p q ps qs h t ih =>
  rw[AQ,AQ];refine .cons ?_ ih;obtain⟨h1,h2,h3⟩:=h;unfold putAt;by_cases e:p.1=k
  .rw[A0 e,A0 (h1.symm.trans e)];exact⟨h1,h2,ry⟩
  .rw[Aw e,Aw (λz=>e (h1.trans z))];exact⟨h1,h2,h3⟩
theorem KT.put {H:Hp}(r:KT H kvs xs)(k:Aa Key){b:Ad}{y:V}{u:Ac}(hb:H b=Ab (.tup (k.map kV)))(ry:qI y u) :
  KT H (wQ kvs k y) (storedH xs k b u):=by
 have e:(kvs.any λkv=>decide (kv.1=k))=(Ko xs k).isSome:=by
  rw[nB,(r.val k).isSome_eq,Option.isSome_map]
 unfold wQ storedH;rw[e];by_cases q:(Ko xs k).isSome=true
 .rw[A0 q,A0 q];exact r.repl k ry
 .rw[Aw q,Aw q];exact Paired.snoc r ⟨rfl,hb,ry⟩
theorem KT.keeps {H:Hp}(r:KT H kvs xs)(ht:∀ b ys,H b=Ab (.tup ys)->H' b=Ab (.tup ys)):KT H' kvs xs:=
 Paired.mapP r λ_ _ z=>⟨z.1,ht _ _ z.2.1,z.2.2⟩
section
variable {P:A6}{w:AK}{H:Hp}{h:AC}{a:Ad}
theorem Z4 {u:HO}(ok:HOk P w H h)(e:Rd H a u):z9 P w H h a u:=e.ok ok
theorem fS {kvs:Aa (Key × V)}(ok:HOk P w H h)(e:Rd H a (.dK kvs)):kvs.length<=sizeLine/\(a == DW)=false/\∃ vs,KV kvs vs/\h.DictOf (qZ P w) a vs:=
 show z9 P w H h a (.dK kvs) from Z4 ok e
theorem gR {kvs:Aa (Key × V)}(ok:HOk P w H h)(e:H a=Ab (.dK kvs)):kvs.length<=sizeLine/\(a == DW)=false/\∃ vs,KV kvs vs/\h.DictOf (qZ P w) a vs:=fS ok (.inl e)
theorem p4 {ks:Aa Key}(ok:HOk P w H h)(e:H a=Ab (.tup (ks.map kV))):(HN (qZ P w)).is h ks a:=by
 obtain⟨_,its,r,o,h1,h2,n,h3⟩:=(show z9 P w H h a (.tup (ks.map kV)) from ok a _ e)
 exact⟨o,its.toArray,n,h1,h2,h3,by simpa using f9 r⟩
theorem fT (ok:HOk P w H h)(e:Rd H a (.dT kvs)):kvs.length<=sizeLine/\(a == DW)=false /\
  ∃ xs,KT H kvs xs/\h.DictOfH (HN (qZ P w)) a xs:=by
 obtain⟨z,y,xs,r,o,es,ep,h1,h2,h3,h4,h5⟩:=(show z9 P w H h a (.dT kvs) from Z4 ok e)
 refine⟨z,y,xs,r,o,es,ep,h1,h2,h3,h4,λx hx=>?_,h5⟩;have all:∀ {l:Aa (Aa Key × V)} {m:Aa (Aa Key × Ad × Ac)},KT H l m->∀ x∈m,(HN (qZ P w)).is h x.1 x.2.1:=by
  intro l m q
  induction q with
  |nil=>intro x hx;exact nomatch hx
  |@cons p q ps qs hq t ih =>
   intro x hx;rcases A8.mp hx with e|hx
   .subst e
    exact p4 ok (by rw[<- hq.1];exact hq.2.1)
   .exact ih x hx
 exact all r x hx
theorem PF (ok:HOk P w H h)(e:H a=Ab (.dT kvs)):kvs.length<=sizeLine/\(a == DW)=false /\
  ∃ xs,KT H kvs xs/\h.DictOfH (HN (qZ P w)) a xs:=fT ok (.inl e)
end
def u9 (H:Hp)(a:Ad)(y:V)(r:Ak V):Prop:=
 (∃ kvs k,Rd H a (.dK kvs)/\y=kV k/\r=xK kvs k)\/∃ kvs k b,Rd H a (.dT kvs)/\y=.ref b/\H b=Ab (.tup (k.map kV))/\r=xK kvs k
def pL (H:Hp)(a:Ad)(y v:V)(H':Hp):Prop:=
 (∃ kvs k,H a=Ab (.dK kvs)/\y=kV k/\kvs.length<sizeLine/\H'=upd H a (.dK (wQ kvs k v))) \/
 ∃ kvs k b,H a=Ab (.dT kvs)/\y=.ref b/\H b=Ab (.tup (k.map kV))/\kvs.length<sizeLine/\H'=upd H a (.dT (wQ kvs k v))
theorem u9.k {H:Hp}{a:Ad}{kvs:Aa (Key × V)}{k:Key}(e:H a=Ab (.dK kvs)):u9 H a (kV k) (xK kvs k):=.inl ⟨kvs,k,.inl e,rfl,rfl⟩
theorem u9.t {H:Hp}{a b:Ad}{k:Aa Key}(e:H a=Ab (.dT kvs))(eb:H b=Ab (.tup (k.map kV))):u9 H a (.ref b) (xK kvs k):=.inr ⟨kvs,k,b,.inl e,rfl,eb,rfl⟩
theorem pL.k {H:Hp}{a:Ad}{kvs:Aa (Key × V)}{k:Key}{v:V}(e:H a=Ab (.dK kvs))(hl:kvs.length<sizeLine):pL H a (kV k) v (upd H a (.dK (wQ kvs k v))):=.inl ⟨kvs,k,e,rfl,hl,rfl⟩
theorem pL.t {H:Hp}{a b:Ad}{k:Aa Key}{v:V}(e:H a=Ab (.dT kvs))(eb:H b=Ab (.tup (k.map kV)))(hl:kvs.length<sizeLine) :
  pL H a (.ref b) v (upd H a (.dT (wQ kvs k v))):=.inr ⟨kvs,k,b,e,rfl,eb,hl,rfl⟩
section
variable {X:Cx}{pins:Aa (Ad × AR)}{σ : St}{H:Hp}{s:Ag}{a:Ad}{y v:V}{u r:Ac}{o:Ak V}{A:AB}{E:Ac->Ag->Prop}
theorem Inv.big (I:Inv X pins σ H s):DW<s.heap.objs.size:=by
 have h:AO<s.heap.objs.size:=(I.mod.glob.keeps I.bk).lt;exact EH (by decide) h
theorem r6 (hu:A.units+1<CZ)(I:Inv X pins σ H s)(g:u9 H a y (Ab v))(ry:qI y u)(h:∀ w' s',Inv X pins σ H s'->qI v w'->Q w' s') :
  Ar (As X.prog X.w) A (Fv (.ref a) u) Q E s:=by
 rcases g with⟨kvs,k,e,ey,l⟩|⟨kvs,k,b,e,ey,eb,l⟩
 .subst ey
  obtain⟨z,hd,vs,rel,dd⟩:=fS I.hok e;obtain⟨w',hw,rw'⟩:=wY.some_of (v:=v) (o:=HU vs k) (by rw[l];exact rel.val k)
  exact wpAny_getItem_of (uT ry) dd.mapOf hw (h w' _ (I.tok _) rw')
 .subst ey
  cases (show u=AL b from ry)
  obtain⟨z,hd,xs,rel,dd⟩:=fT I.hok e;obtain⟨w',hw,rw'⟩:=wY.some_of (v:=v) (o:=(Ko xs k).map (·.2)) (by rw[l];exact rel.val k)
  obtain⟨p,hp,hp2⟩:=E0.mp hw;refine wpAny_getItem_heap (H9 hu) (p4 I.hok eb) dd hp ?_;rw[hp2];exact h w' _ (I.tok _) rw'
theorem pT {h':AC}{t':Ai}{ob:HO}(I:Inv X pins σ H s)(mu:Mut (H a))(hs:Er a s.heap h')(he:∃ q,h'.get? a=Ab q)(new:z9 X.prog X.w (upd H a ob) h' a ob) :
  Inv X pins σ (upd H a ob) { s with heap:=h',toks:=t' }:=
 I.write (x:=a) (e:=a) mu (.inl rfl) (λb q hb z=>(hs.2 b hb).trans z) he new
theorem rG {P:A6}{w:AK}{h':AC}{kvs:Aa (Key × V)}{vs:Aa (Key × Ac)}(z:kvs.length<=sizeLine)(hd:(a == DW)=false)(rel:KV kvs vs)(dd:h'.DictOf (qZ P w) a vs) :
  z9 P w H' h' a (.dK kvs):=⟨z,hd,vs,rel,dd⟩
theorem r8 {Q:H8->Ag->Prop}(hu:A.units+1<CZ)(I:Inv X pins σ H s)(g:pL H a y v H')(ry:qI y u)(rv:qI v r)(h:∀ s',Inv X pins σ H' s'->Q () s') :
  Ar (As X.prog X.w) A (Nu (.ref a) u r) Q E s:=by
 rcases g with⟨kvs,k,e,ey,l,eH⟩|⟨kvs,k,b,e,ey,eb,l,eH⟩
 .subst ey eH
  obtain⟨z,hd,vs,rel,dd⟩:=gR I.hok e;have hz:vs.length<=sizeLine:=by rw[<- rel.length];exact z
  have hl:(wQ kvs k v).length<=sizeLine:=by have:=kP kvs k v;omega
  refine wpAny_setItem_pairs (hsz:=hz) (uT ry) dd λh' dd' hs=>h _ ?_;have he:∃ q,h'.get? a=Ab q:=let ⟨q,_,_,hq,_⟩:=dd';⟨q,hq⟩
  exact pT I (by rw[e];exact DX) hs he (rG hl hd (rel.put k rv) dd')
 .subst ey eH
  cases (show u=AL b from ry)
  obtain⟨z,hd,xs,rel,dd⟩:=PF I.hok e;have hz:xs.length<=sizeLine:=by rw[<- Paired.length rel];exact z
  have hl:(wQ kvs k v).length<=sizeLine:=by have:=kP kvs k v;omega
  refine wpAny_setItem_heap (hsz:=hz) (H9 hu) (p4 I.hok eb) dd λh' dd' hs=>h _ ?_;obtain⟨q,es,ep,hq,h2,h3,h4,_,h5⟩:=dd';refine pT I (by rw[e];exact DX) hs ⟨q,hq⟩ ⟨hl,hd,_,(rel.put k eb rv).keeps λc ys ec=>?_,q,es,ep,hq,h2,h3,h4,h5⟩
  rw[qG (B5 ec e (λz=>nomatch z))];exact ec
end
def aA (i:AA):Prop:=∀ ov iv,subscripted i false ov iv=operate [ov,iv] (Fv ov iv)
theorem YB {prog:A6}{w:AK}{A:AB}{E:Ac->Ag->Prop}{s:Ag}{env:El}{value slice:AA}{pos:CG}{T id:Bk}
  (hl:typeLookup (.type T) "__getitem__" = pure (Ab (.builtin id))) (hs:aA slice)
  (h:Ar (As prog w) A (eval value env) (λo s₁=>Ar (As prog w) A (eval slice env) (λi s₂=>s₂.TypeIs o T/\Ar (As prog w) A (Fv o i) Q E s₂) E s₁) E s) :
  Ar (As prog w) A (eval (.Subscript value slice pos) env) Q E s:=by
 refine Kn (Dn h (λo s₁ h₁=>Dn h₁ (λi s₂ h₂=>?_) λ_ _ x=>x) λ_ _ x=>x);obtain⟨hT,h₂⟩:=h₂;unfold HT;refine Af ?_;rw[getitemInPython_of_ne hT.not_modules];refine Af (wpAny_specialOf hT hl ?_);have fin:Ar (As prog w) A (subscripted slice false o i) (λr s₃=>Ar (As prog w) A (letTemporaryGo value o r >>= λ_=>pure r) Q E s₃) E s₂:=by
  rw[hs o i];exact wpAny_operating (Dn h₂ (λr s₃ h₃=>Af (wpAny_letTemporaryGo (An h₃))) λ_ _ x=>x)
 first
  |exact An (Af fin)
  |exact Af (An (Af fin))
  |exact Af fin
theorem nH {X:Cx}{pins:Aa (Ad × AR)}{σ:St}{H:Hp}{s:Ag}{a:Ad}{y:V}{o:Ak V}(I:Inv X pins σ H s)(g:u9 H a y o):s.TypeIs (.ref a) "dict":=by
 rcases g with⟨kvs,k,e,_,_⟩|⟨kvs,k,b,e,_,_,_⟩
 .obtain⟨_,_,vs,_,dd⟩:=fS I.hok e
  exact dd.typeIs
 .obtain⟨_,_,xs,_,dd⟩:=fT I.hok e
  exact dd.typeIs
theorem i3 {P:A6}{w:AK}{H:Hp}(h:AC)(hb:DW<h.objs.size):z9 P w H (h.push { cls:=.type "dict",data:=.dict #[] }) h.objs.size (.dK []):=
 ⟨Fc _,Hr.mpr (Cf (AX hb)),[],.nil,Heap.DictOf.new h⟩
def GB:TE:=λ_ H Q=>∀ p,H p=none->Q (.ref p) (upd H p (.dK []))
section
variable {X:Cx}{pos:CG}
theorem oG:PE X (.Dict [] [] pos) GB:=λpins s σ H Q I h =>
 wpAny_Dict_empty ⟨.ref s.heap.objs.size,_,I.laid (a:=s.heap.objs.size) (o:=.dK []) (t':=s.toks) (λ_ _ q=>Aj _ q) (Au _) (i3 s.heap I.big),rfl,h _ (I.hok.fresh (Au _))⟩
end
section
variable {X:Cx}{pins:Aa (Ad × AR)}{σ : St}{H:Hp}{s:Ag}{a:Ad}{y d:V}{u r:Ac}{o:Ak V}{A:AB}{E:Ac->Ag->Prop}
theorem V7 (hu:A.units+1<CZ)(I:Inv X pins σ H s)(g:u9 H a y o)(ry:qI y u)(rd:qI d r)(h:∀ w' s',Inv X pins σ H s'->qI (o.getD d) w'->Q w' s') :
  Ar (As X.prog X.w) A (call (.builtin "dict.get") [.ref a,u,r]) Q E s:=by
 rcases g with⟨kvs,k,e,ey,l⟩|⟨kvs,k,b,e,ey,eb,l⟩
 .subst ey
  obtain⟨z,hd,vs,rel,dd⟩:=fS I.hok e;refine Ho Gu dd.typeIs IP (Ix _ _ _) (meets_dict_get_default (qZ X.prog X.w) a (uT ry) hd r) ⟨_,dd.mapOf,h _ _ (I.tok _) ?_⟩;rw[l];exact(rel.val k).getD rd
 .subst ey
  cases (show u=AL b from ry)
  obtain⟨z,hd,xs,rel,dd⟩:=fT I.hok e;refine Ho Gu dd.typeIs IP (Ix _ _ _) (meetsH_dict_get_default (HN (qZ X.prog X.w)) a b hd r) ⟨H9 hu,k,xs,p4 I.hok eb,dd,h _ _ (I.tok _) ?_⟩;rw[l];exact(rel.val k).getD rd
end
end _L
namespace _A
open PySem PySem.W PySem.Calls PyProof.Rows
theorem gV {P:Params}{h:AC}:∀ (ns:Aa Am) (vs:Aa Ac),WellAll P h vs (ns.map Of)->HS vs ns:=by
 intro ns
 induction ns with
 |nil =>
  intro vs w;rw[Ls] at w;cases w;exact .nil
 |cons n ns ih =>
  intro vs w;rw[AQ] at w;cases w with
  |cons a b =>
   cases a;exact .cons _ _ (ih _ b)
theorem cF {l:OpenLaw}{n:Ai}(hn:l.most=Ab n){P:Params}{h:AC}{args:Aa WData}{vals:Aa Ac}
  (hpre:l.row.toRowW.claim.pre args=true) (hwl:WellAll P h vals args) :
  ∃ a vs ns,vals=[AL a]/\args=[WData.list (ns.map Of)]/\h.get? a=Ab { cls:=.type "list",data:=.seq vs.toArray } /\ HS vs ns/\ns.length<=n:=by
 have hsh:WShape.hasAll [] args [.list .int]=true:=(pre_splitW hpre).1;have hc:l.pre.holds [] { args:=args } = true:=(pre_splitW hpre).2;obtain⟨d,r,rfl,h1,h2⟩:=hasAllW_cons hsh;obtain rfl:=hasAllW_nil h2;obtain⟨xs,rfl,h3⟩:=hasW_list h1;obtain⟨ns,rfl⟩:=items_int h3;have hlen:ns.length<=n:=by
  unfold OpenLaw.pre at hc;have h4:(WTm.not (.lt (.lit (.int (n:Am))) (.len (.arg 0)))).holds [] { args:=[.list (ns.map .int)] } = true:=by
   have h4:=(holds_andW hc).1;rw[hn] at h4;exact h4
  have h5:=condW_of h4 (w_not (w_lt w_lit (w_len_list (w_arg rfl))));rw[AW] at h5;refine Nat.le_of_not_lt λq=>?_;have q':(n:Am)<((ns.length:Ai):Am):=by omega
  first
   |(rw[AY q'] at h5;exact absurd h5 (by decide))
   |(simp at h5;omega)
 cases hwl with
 |cons w1 w2 =>
  cases w2;cases w1 with
  |list ho hall=>exact⟨_,_,ns,rfl,rfl,ho,gV ns _ hall,hlen⟩
theorem eS (l:OpenLaw)(args:Aa WData):l.row.toRowW.claim.post args (.bool true) args=true:=
 postW_of (r:=l.row.toRowW) (X:=(true == true))
  (show NZ [] (.bool true) .bool=true by first|rfl|decide|simp[NZ,WShape.arms,WShape.armsAll])
  (show (WTm.eq .res (.lit (.bool true))).value [] { args:=args,res:=Ab (.bool true),after:=args } = Ab (.bool (true == true)) from w_eq_bool (w_res rfl) w_lit) rfl
theorem attach_call {l:OpenLaw}{n:Ai}{q:A6}{loose:Aa Ap}{XP:(Ap->Ak Ac)->AC->Prop}{YP:AK->AC->Prop}{d:DefRec}
  (hn:l.most=Ab n) (hdf:d.params.defaults=[])
  (call:∀ (w:AK) (s₀ s₁:Ag) (mg mb:Ap->Ak Ac) (fa:Ad) (o:AR) (pm cd doc:Ac) (a:Ad) (vs:Aa Ac) (ns:Aa Am),
   Ground q loose [] XP w s₀ mg mb s₁.heap->YP w s₁.heap ->
   s₁.heap.get? fa=Ab o->o.data=.func (docDef d.name d.params d.body d.scope pm cd doc)->s₁.heap.CodeRec cd d.name->mg d.name=Ab (.ref fa) ->
   s₁.heap.get? a=Ab { cls:=.type "list",data:=.seq vs.toArray } -> HS vs ns->ns.length<=n->s₁.gens=#[] ->
   DH (As l.prog w) HV (.call (.ref fa) ⟨[.ref a],[]⟩) (λr s'=>r=.ok (.ret (.bool true))/\OldK s₁.heap s'.heap/\s'.os=s₁.os/\Gp s'.gens) s₁) :
  WalkO q loose XP YP l.row.toRowW d [] (λf vs=>Nc f vs):=by
 intro w s₀ s₁ mg mb G Y fa o pm cd doc dV kV ho hd hcd hD hmg hg args vals as hpre hlay hrd hwl hlo;obtain rfl:dV=.none:=Dflts.none hD hdf;obtain rfl:kV=.none:=Dflts.noKw hD;obtain⟨a,vs,ns,rfl,rfl,hobj,hints,hlen⟩:=cF hn hpre hwl;refine enter_call (Lv (call w s₀ s₁ mg mb fa o pm cd doc a vs ns G Y ho (fd_plain hd) hcd hmg hobj hints hlen hg) λr s' hq=>?_);obtain⟨rfl,h2,h3,h4⟩:=hq;exact⟨.inl ⟨.bool true,.bool true,[],rfl,λ_=>rfl,.bool true,eS l _,λ_=>⟨HW,λ_ hm=>(nomatch hm)⟩⟩,h2,h3,h4⟩
end _A
namespace _L
open PySem PySem.Spec PyProof.Rows
theorem cQ {vs:Aa Ac}{ns:Aa Am}(h:HS vs ns):qL (ns.map V.int) vs:=by
 induction h with
 |nil=>exact .nil
 |cons n t h ih=>exact .cons ⟨t,rfl⟩ ih
def SqX (K:Ah)(H:Hp)(a:Ad)(xs:Aa V):Prop:=
 Rd H a (.lst xs)\/∃ (its:Aa Ac) (n:Ai),K.lookup a=Ab { cls:=.type "list",data:=.seq its.toArray n } /\ xs.length<=sizeLine/\qL xs its
theorem SqX.l {K:Ah}{H:Hp}{a:Ad}{xs:Aa V}(h:SqX K H a xs):SqL K H a xs:=by
 rcases h with h|⟨its,n,e,l,v⟩
 .exact .inl h
 .exact .inr ⟨_,its.toArray,n,e,rfl,rfl,rfl,by rw[AG,<- v.length];exact l,by simpa using v⟩
end _L
namespace _L
open PySem PySem.Spec PyProof.Rows
variable {ps:Aa Ap}{f:Ad}{x qual:Ap}{H:Hp}
noncomputable def xT (s:Cs):EO:=match s with
 |.FunctionDef _ a _ _ _ _ _ _ _ _=>a
 |_=>{ posonlyargs:=[],args:=[],vararg:=none,kwonlyargs:=[],kw_defaults:=[],kwarg:=none,defaults:=[] }
noncomputable def zG (s:Cs):Aa Cs:=match s with
 |.FunctionDef _ _ b _ _ _ _ _ _ _=>b
 |_=>[]
noncomputable def qK (s:Cs):Cg:=match s with
 |.FunctionDef _ _ _ _ _ _ sc _ _ _=>sc
 |_=>{ kind:=.function,names:=[],isGenerator:=false,isCoroutine:=false }
abbrev CX0:CXT:=λ_ _ _ _ _ _=>CF
structure Fun (K:Ah)(x qual:Ap)(st:Cs)(f:Ad)(fd:CN):Prop where
 ex:∃ (oc:Ac) (od:Ak Ad) (kV doc pm:Ac) (an:Ak Ad) (cdv ct:Ac) (osl:A5 (Ak Ac)),
  fd=CY x qual (xT st) (zG st) (qK st) .none kV doc pm an cdv ct/\K.lookup f=Ab ⟨oc,od,.func fd,osl⟩/\EE K cdv qual=true
 kp:Ci K (.ref f)=true
section
variable {P:A6}{w:AK}{K:Ah}{mg:Ap->Ak Ac}{base:AC}
theorem Fun.ok {st:Cs}{fd:CN}{N:Aa Ap}{k:Ai}{sp:Sp}(F:Fun K x qual st f fd)(S:FnScope N ps (qK st))(len:∀ vs H Q E,sp vs H Q E->vs.length=ps.length)
  (hbody:∀ (cdv:Ac) (A:AB) (outer:Aa El) (s:Ag) (H:Hp) (vs:Aa V) (Q:VK) (E:XK),Room k (A.deeper (Dg qual (qK st) s.heap.objs.size f cdv))->sp vs H Q E ->
   ∃ t,PSs (pP CX0 P w K mg base N qual (qK st) f cdv A outer s H E).nox (zG st) t/\t { nx:=λ_ H'=>Q .non H',rt:=Q } (zX N vs) H):FnOk P w K mg base CX0 (k+1) f fd ps sp:=by
 obtain⟨oc,od,kV,doc,pm,an,cdv,ct,osl,rfl,lk,hcd⟩:=F.ex;refine PM lk hcd S len λA outer s H vs Q E hr hsp=>?_;obtain⟨t,h,q⟩:=hbody cdv A outer s H vs Q E hr hsp;exact⟨t,h.nox,q⟩
theorem Fun.binds {st:Cs}{fd:CN}(F:Fun K x qual st f fd)
  (h:∀ (kV doc pm:Ac) (an:Ak Ad) (cdv ct:Ac) (us:Aa Ac),us.length=ps.length->HK (CY x qual (xT st) (zG st) (qK st) .none kV doc pm an cdv ct) ⟨us,[]⟩=pure (ps.zip us)):yK K fd ps []:=by
 obtain⟨oc,od,kV,doc,pm,an,cdv,ct,osl,rfl,lk,hcd⟩:=F.ex;exact .all (h kV doc pm an cdv ct)
theorem UC {st:Cs}{oc:Ac}{od an:Ak Ad}{osl:A5 (Ak Ac)}{kV doc pm cdv ct:Ac}(l:K.lookup f=Ab ⟨oc,od,.func (CY x qual (xT st) (zG st) (qK st) .none kV doc pm an cdv ct),osl⟩)
  (c:EE K cdv qual=true) (k:Ci K (.ref f)=true):Fun K x qual st f (CY x qual (xT st) (zG st) (qK st) .none kV doc pm an cdv ct):=⟨⟨oc,od,kV,doc,pm,an,cdv,ct,osl,rfl,l,c⟩,k⟩
end
def qF (H H':Hp):Prop:=∀ b o,H b=Ab o->H' b=Ab o
theorem qF.refl (H:Hp):qF H H:=λ_ _ h=>h
theorem qF.trans {H1 H2:Hp}(a:qF H H1)(b:qF H1 H2):qF H H2:=λc o h=>b c o (a c o h)
theorem qF.free {H':Hp}(e:qF H H'){l:Ad}(h:H' l=NS):H l=NS:=by
 cases q:H l with
 |none=>rfl
 |some o =>
  rw[e l o q] at h;cases h
theorem qF.seq {K:Ah}{H':Hp}{a:Ad}{xs:Aa V}(e:qF H H')(h:SqL K H a xs):SqL K H' a xs:=by
 rcases h with (h|⟨o,h⟩)|h
 .exact .inl (.inl (e _ _ h))
 .exact .inl (.inr ⟨o,e _ _ h⟩)
 .exact .inr h
end _L
end
section
namespace _D
open PySem PySem.Spec PyProof.Rows _L
inductive D where
 |non|bl (b:Aq)|int (i:Am)|str (x:Ap)|ty (n:Bk)|obj (a:Ad)|tup (xs:Aa D)|lst (xs:Aa D)|dct0|loc (i:Ai)|exn (c:Ac)|fd (ks:Aa Key) (ds:Aa D)|clo (a:Ad) (vs:Aa V) (ds:Aa D)
noncomputable def mU (a:Ad)(c:Ac):HO:=.ext λh=>∃ ob,h.get? a=Ab ob/\ob.cls=c
inductive MO where
 |dead|lst (xs:Aa D)|dct (kvs:Aa (Key × D))|ins (C:Ad) (fs:Aa (Ap × D))
abbrev Sto:=Aa MO
inductive Res (β : Type) where
 |ok (d:β) (S:Sto)|ex (c:Ac) (x:D) (S:Sto)|bad
@[inline] def Res.bind {β γ:Type}(r:Res β)(f:β->Sto->Res γ) : Res γ:=
 match r with
 |.ok d S=>f d S
 |.ex c x S=>.ex c x S
 |.bad=>.bad
theorem Res.bind_ok {β γ:Type}(d:β)(S:Sto)(f:β->Sto->Res γ) : (Res.ok d S).bind f=f d S:=rfl
section
variable (K:Ah)(P:Hp)(α : Aa Ad)
mutual
def Rep:D->V->Prop
 |.non,v=>v=.non
 |.bl b,v=>v=.bl b
 |.int i,v=>v=.int i
 |.str x,v=>v=.str x
 |.ty n,v=>v=.ty n
 |.obj a,v=>v=.ref a/\Ci K (.ref a)=true
 |.tup ds,v=>∃ a vs,v=.ref a/\SqT K P a vs/\qE ds vs
 |.lst ds,v=>∃ a vs,v=.ref a/\SqX K P a vs/\qE ds vs
 |.dct0,v=>∃ a,v=.ref a/\P a=Ab (.dK [])
 |.loc i,v=>∃ a,v=.ref a/\α[i]? = Ab a
 |.exn c,v=>∃ a,v=.ref a/\P a=Ab (mU a c)
 |.fd ks ds,v=>∃ a o vs,v=.ref a/\P a=Ab (.frz o (.dK (ks.zip vs)))/\ks.length=vs.length/\qE ds vs
 |.clo a vs ds,v=>v=.ref a/\qE ds vs
def qE:Aa D->Aa V->Prop
 |[],vs=>vs=[]
 |d::ds,vs=>∃ w ws,vs=w::ws/\Rep d w/\qE ds ws
end
end
section
variable {K:Ah}{P P':Hp}{α α':Aa Ad}
theorem y9 (e:qF P P'){a:Ad}{xs:Aa V}(h:SqT K P a xs):SqT K P' a xs:=by
 rcases h with (h|⟨o,h⟩)|h
 .exact .inl (.inl (e _ _ h))
 .exact .inl (.inr ⟨o,e _ _ h⟩)
 .exact .inr h
theorem lR (e:qF P P'){a:Ad}{u:HO}(h:Rd P a u):Rd P' a u:=by
 rcases h with h|⟨o,h⟩
 .exact .inl (e _ _ h)
 .exact .inr ⟨o,e _ _ h⟩
theorem xB (e:qF P P'){a:Ad}{xs:Aa V}(h:SqX K P a xs):SqX K P' a xs:=by
 rcases h with h|h
 .exact .inl (lR e h)
 .exact .inr h
theorem WM {i:Ai}{a:Ad}(h:α<+:α')(e:α[i]? = Ab a):α'[i]? = Ab a:=by
 obtain⟨r,rfl⟩:=h;rw[Be (AE.mp e).1];exact e
mutual
theorem Rep.mono (e:qF P P')(h:α<+:α'):∀ (d:D) (v:V),Rep K P α d v->Rep K P' α' d v
 |.non,_,r=>by simpa only [Rep] using r
 |.bl _,_,r=>by simpa only [Rep] using r
 |.int _,_,r=>by simpa only [Rep] using r
 |.str _,_,r=>by simpa only [Rep] using r
 |.ty _,_,r=>by simpa only [Rep] using r
 |.obj _,_,r=>by simpa only [Rep] using r
 |.tup ds,v,r=>by
  simp only[Rep] at r ⊢;obtain⟨a,vs,rfl,q,t⟩:=r;exact⟨a,vs,rfl,y9 e q,qE.mono e h ds vs t⟩
 |.lst ds,v,r=>by
  simp only[Rep] at r ⊢;obtain⟨a,vs,rfl,q,t⟩:=r;exact⟨a,vs,rfl,xB e q,qE.mono e h ds vs t⟩
 |.dct0,v,r=>by
  simp only[Rep] at r ⊢;obtain⟨a,rfl,q⟩:=r;exact⟨a,rfl,e _ _ q⟩
 |.loc i,v,r=>by
  simp only[Rep] at r ⊢;obtain⟨a,rfl,q⟩:=r;exact⟨a,rfl,WM h q⟩
 |.exn c,v,r=>by
  simp only[Rep] at r ⊢;obtain⟨a,rfl,q⟩:=r;exact⟨a,rfl,e _ _ q⟩
 |.fd ks ds,v,r=>by
  simp only[Rep] at r ⊢;obtain⟨a,o,vs,rfl,q,hl,t⟩:=r;exact⟨a,o,vs,rfl,e _ _ q,hl,qE.mono e h ds vs t⟩
 |.clo a vs ds,v,r=>by
  simp only[Rep] at r ⊢;exact⟨r.1,qE.mono e h ds vs r.2⟩
theorem qE.mono (e:qF P P')(h:α<+:α'):∀ (ds:Aa D) (vs:Aa V),qE K P α ds vs->qE K P' α' ds vs
 |[],vs,r=>by simpa only [qE] using r
 |d::ds,vs,r=>by
  simp only[qE] at r ⊢;obtain⟨w,ws,rfl,r1,r2⟩:=r;exact⟨w,ws,rfl,Rep.mono e h d w r1,qE.mono e h ds ws r2⟩
end
theorem qE.nil:qE K P α [] []:=by simp only[qE]
theorem qE.cons {d:D}{v:V}{ds:Aa D}{vs:Aa V}(r:Rep K P α d v)(t:qE K P α ds vs):qE K P α (d::ds) (v::vs):=by
 simp only[qE];exact⟨v,vs,rfl,r,t⟩
theorem qE.nil_inv {vs:Aa V}(r:qE K P α [] vs):vs=[]:=by simpa only [qE] using r
theorem qE.cons_inv {d:D}{ds:Aa D}{vs:Aa V}(r:qE K P α (d::ds) vs):∃ w ws,vs=w::ws/\Rep K P α d w/\qE K P α ds ws:=by simpa only [qE] using r
theorem qE.length:∀ {ds:Aa D} {vs:Aa V},qE K P α ds vs->ds.length=vs.length
 |[],vs,r=>by rw[r.nil_inv];rfl
 |d::ds,vs,r=>by
  obtain⟨w,ws,rfl,_,t⟩:=r.cons_inv;rw[AV,AV,t.length]
theorem qE.append:∀ {ds es:Aa D} {vs ws:Aa V},qE K P α ds vs->qE K P α es ws->qE K P α (ds++es) (vs++ws)
 |[],es,vs,ws,r,t=>by rw[r.nil_inv];exact t
 |d::ds,es,vs,ws,r,t=>by
  obtain⟨w,us,rfl,r1,r2⟩:=r.cons_inv;exact .cons r1 (r2.append t)
theorem qE.get:∀ {ds:Aa D} {vs:Aa V} {i:Ai} {d:D},qE K P α ds vs->ds[i]? = Ab d->∃ v,vs[i]? = Ab v/\Rep K P α d v
 |[],_,_,_,_,e=>by simp at e
 |d::ds,vs,i,d',r,e=>by
  obtain⟨w,ws,rfl,r1,r2⟩:=r.cons_inv;cases i with
  |zero=>simp at e;subst e;exact⟨w,rfl,r1⟩
  |succ i =>
   obtain⟨v,h1,h2⟩:=r2.get (i:=i) (d:=d') (by simpa using e)
   exact⟨v,by simpa using h1,h2⟩
theorem qE.drop:∀ {ds:Aa D} {vs:Aa V} (n:Ai),qE K P α ds vs->qE K P α (ds.drop n) (vs.drop n)
 |ds,vs,0,r=>by simpa using r
 |[],vs,n+1,r=>by rw[r.nil_inv];exact .nil
 |d::ds,vs,n+1,r=>by
  obtain⟨w,ws,rfl,_,r2⟩:=r.cons_inv;simpa using r2.drop n
theorem qE.take:∀ {ds:Aa D} {vs:Aa V} (n:Ai),qE K P α ds vs->qE K P α (ds.take n) (vs.take n)
 |ds,vs,0,r=>by simpa using qE.nil
 |[],vs,n+1,r=>by rw[r.nil_inv];exact .nil
 |d::ds,vs,n+1,r=>by
  obtain⟨w,ws,rfl,r1,r2⟩:=r.cons_inv;simpa using qE.cons r1 (r2.take n)
theorem qE.set {d:D}{v:V}(q:Rep K P α d v):∀ {ds:Aa D} {vs:Aa V} (n:Ai),qE K P α ds vs->qE K P α (ds.set n d) (vs.set n v)
 |[],vs,n,r=>by rw[r.nil_inv];exact .nil
 |e::ds,vs,0,r=>by
  obtain⟨w,ws,rfl,r1,r2⟩:=r.cons_inv;exact .cons q r2
 |e::ds,vs,n+1,r=>by
  obtain⟨w,ws,rfl,r1,r2⟩:=r.cons_inv;exact .cons r1 (r2.set q n)
end
abbrev qH:=Aa (Ak D)
def qV (K:Ah)(P:Hp)(α : Aa Ad)(σ : _L.St)(env:qH):Prop:=env.length=σ.length/\∀ (i:Ai) (d:D),env[i]? = Ab (Ab d)->∃ v,σ[i]? = Ab (Ab v)/\Rep K P α d v
def KVs (K:Ah)(P:Hp)(α : Aa Ad){κ : Type}:Aa (κ × D)->Aa (κ × V)->Prop:=Paired λ(p:κ × D) (q:κ × V)=>p.1=q.1/\Rep K P α p.2 q.2
def MOk (K:Ah)(H P:Hp)(α : Aa Ad)(a:Ad):MO->Prop
 |.dead=>Ht
 |.lst ds=>∃ vs,H a=Ab (.lst vs)/\qE K P α ds vs
 |.dct kvs=>∃ vs,H a=Ab (.dK vs)/\KVs K P α kvs vs
 |.ins C fs=>∃ dx vs,H a=Ab (.ins C dx vs)/\KVs K P α fs vs
inductive TbAt (x:Ap)(H P:Hp)(α : Aa Ad)(T:Ad):Prop
 |mk (ps:A5 Ac) (e:H T=Ab (.tbl ps)) (pn:P T=none) (an:T ∉ α) (ok:ER ps.toList) (cd:∀ pos cv,Hk pos ps.toList=Ab cv->∃ c oc vs t,cv=.ref c/\H c=Ab (.frz oc (.frz oc (.own 0)))/\oc.data=.fields vs/\vs[1]? = Ab (.str (x ++ ".<locals>." ++ "<lambda>") t)):TbAt x H P α T
def dE (K:Ah)(H P:Hp)(α : Aa Ad):Prop:=∀ x∈xJ,∀ c T,Bj K x=Ab (c,T)->TbAt x H P α T
def UF (u:HO):Prop:=(∃ ps,u=.tbl ps)\/∃ o,u=.frz o (.frz o (.own 0))
theorem dE.keep {K:Ah}{H H' P P':Hp}{α α':Aa Ad}(r:dE K H P α)(e:∀ b u,H b=Ab u->UF u->H' b=Ab u)(hp:∀ b u,H b=Ab u->UF u->P b=none->b ∉ α->P' b=none/\b ∉ α'):dE K H' P' α':=λx hx c T h =>
 let ⟨ps,e1,pn,an,ok,cd⟩:=r x hx c T h
 let z:=hp _ _ e1 (.inl ⟨_,rfl⟩) pn an
 ⟨ps,e _ _ e1 (.inl ⟨_,rfl⟩),z.1,z.2,ok,λpos cv q=>let ⟨c,oc,vs,t,a,b,d⟩:=cd pos cv q;⟨c,oc,vs,t,a,e _ _ b (.inr ⟨_,rfl⟩),d⟩⟩
structure Rel (K:Ah)(H P:Hp)(α : Aa Ad)(S:Sto):Prop where
 tb:dE K H P α
 sub:qF P H
 len:α.length=S.length
 nd:α.Nodup
 sep:∀ (i:Ai) (a:Ad) (o:MO),α[i]? = Ab a->S[i]? = Ab o->o≠.dead->P a=none
 at':∀ (i:Ai) (a:Ad) (o:MO),α[i]? = Ab a->S[i]? = Ab o->MOk K H P α a o
 own:∀ (i:Ai) (a:Ad),α[i]? = Ab a->H a≠none
section
variable {K:Ah}{H P P':Hp}{α α':Aa Ad}{S:Sto}
theorem qV.mono {σ : _L.St}{env:qH}(e:qF P P')(h:α<+:α')(r:qV K P α σ env):qV K P' α' σ env:=
 ⟨r.1,λi d q=>let ⟨v,h1,h2⟩:=r.2 i d q;⟨v,h1,Rep.mono e h d v h2⟩⟩
theorem KVs.mono {κ : Type}(e:qF P P')(h:α<+:α'){kvs:Aa (κ × D)}{vs:Aa (κ × V)}(r:KVs K P α kvs vs):KVs K P' α' kvs vs:=by
 refine Paired.mapP r λp q z=>⟨z.1,Rep.mono e h _ _ z.2⟩
theorem MOk.mono {a:Ad}(e:qF P P')(h:α<+:α'):∀ {o:MO},MOk K H P α a o->MOk K H P' α' a o
 |.dead,_=>trivial
 |.lst _,⟨vs,q,r⟩=>⟨vs,q,qE.mono e h _ _ r⟩
 |.dct _,⟨vs,q,r⟩=>⟨vs,q,r.mono e h⟩
 |.ins _ _,⟨dx,vs,q,r⟩=>⟨dx,vs,q,r.mono e h⟩
theorem Rel.grow {H':Hp}(r:Rel K H P α S)(e:qF H H'):Rel K H' P α S where
 tb:=r.tb.keep (λb u q _=>e _ _ q) λ_ _ _ _ p n=>⟨p,n⟩
 sub:=r.sub.trans e
 len:=r.len
 nd:=r.nd
 sep:=r.sep
 at':=λi a o q1 q2=>by
  have m:=r.at' i a o q1 q2;cases o with
  |dead=>trivial
  |lst ds=>obtain⟨vs,q,t⟩:=m;exact⟨vs,e _ _ q,t⟩
  |dct kvs=>obtain⟨vs,q,t⟩:=m;exact⟨vs,e _ _ q,t⟩
  |ins C fs=>obtain⟨dx,vs,q,t⟩:=m;exact⟨dx,vs,e _ _ q,t⟩
 own:=λi a q=>by
  have m:=r.own i a q;cases z:H a with
  |none=>exact absurd z m
  |some o=>rw[e _ _ z];intro w;cases w
theorem j9 {H:Hp}{a:Ad}{o:HO}(h:H a=none):qF H (upd H a o):=λb u e=>by rw[qG (qN e h)];exact e
theorem Rel.pure {a:Ad}{o:HO}(r:Rel K H P α S)(h:H a=none):Rel K (upd H a o) (upd P a o) α S/\qF P (upd P a o):=by
 have hP:P a=none:=by
  cases z:P a with
  |none=>rfl
  |some u=>rw[r.sub _ _ z] at h;cases h
 have sP:qF P (upd P a o):=j9 hP;have r1:=r.grow (j9 (o:=o) h);refine⟨⟨r.tb.keep (λb u q _=>(qG (qN q h)).trans q) λb u q _ p n=>⟨(qG (qN q h)).trans p,n⟩,λb u e=>?_,r.len,r.nd,λi b u q1 q2 q3=>?_,λi b u q1 q2=>(r1.at' i b u q1 q2).mono sP (AF _),r1.own⟩,sP⟩
 .by_cases hb:b=a
  .subst hb;rw[qS] at e ⊢;exact e
  .rw[qG hb] at e ⊢;exact r.sub _ _ e
 .have hb:b≠a:=by rintro rfl;exact r.own i b q1 h
  rw[qG hb];exact r.sep i b u q1 q2 q3
theorem Rel.new {a:Ad}{o:HO}{m:MO}(r:Rel K H P α S)(h:H a=none)(hm:MOk K (upd H a o) P (α ++ [a]) a m):Rel K (upd H a o) P (α ++ [a]) (S++[m]):=by
 have hP:P a=none:=by
  cases z:P a with
  |none=>rfl
  |some u=>rw[r.sub _ _ z] at h;cases h
 have r1:=r.grow (j9 (o:=o) h);have hp:α<+:α++[a]:=Fn _ _;have split:∀ (i:Ai) (b:Ad),(α++[a])[i]? = Ab b->(i<α.length/\α[i]? = Ab b)\/(i=α.length/\b=a):=λi b q=>by
  by_cases hi:i<α.length
  .rw[Be hi] at q;exact .inl ⟨hi,q⟩
  .rw[Ch om] at q
   cases hk:i-α.length with
   |zero=>rw[hk] at q;simp at q;exact .inr ⟨by omega,q.symm⟩
   |succ k=>rw[hk] at q;simp at q
 refine⟨r.tb.keep (λb u q _=>(qG (qN q h)).trans q) λb u q _ p n=>⟨p,λz=>(Bq.mp z).elim n λw=>qN q h (by simpa using w)⟩,r1.sub,by simp[r.len],?_,λi b u q1 q2 q3=>?_,λi b u q1 q2=>?_,λi b q=>?_⟩
 .rw[List.nodup_append]
  refine⟨r.nd,by simp,λb hb c hc e=>?_⟩
  simp at hc;subst hc;subst e;obtain⟨i,hi,e⟩:=Bl.mp hb;exact r.own i b (by rw[Ao hi,e]) h
 .rcases split i b q1 with⟨hi,z⟩|⟨hi,rfl⟩
  .rw[Be (by rw[<- r.len];exact hi)] at q2
   exact r.sep i b u z q2 q3
  .exact hP
 .rcases split i b q1 with⟨hi,z⟩|⟨hi,rfl⟩
  .rw[Be (by rw[<- r.len];exact hi)] at q2
   exact(r1.at' i b u z q2).mono (qF.refl _) hp
  .rw[hi,r.len,Ch (Au _)] at q2
   simp at q2;subst q2;exact hm
 .rcases split i b q with⟨_,z⟩|⟨_,rfl⟩
  .exact r1.own i b z
  .rw[qS];intro z;cases z
theorem fE {N:Aa Ad}(hN:N.Nodup){i j:Ai}{x:Ad}(a:N[i]? = Ab x)(b:N[j]? = Ab x):i=j:=by
 obtain⟨h1,e1⟩:=AE.mp a;obtain⟨h2,e2⟩:=AE.mp b;exact(Im hN).mp (e1.trans e2.symm)
theorem Rel.put {a:Ad}{i:Ai}{o:HO}{m m':MO}(r:Rel K H P α S)(ha:α[i]? = Ab a)(hs:S[i]? = Ab m)(hd:m≠.dead)(hm:MOk K (upd H a o) P α a m'):Rel K (upd H a o) P α (S.set i m'):=by
 have hP:=r.sep i a m ha hs hd;have hi:i<S.length:=(AE.mp hs).1;refine⟨r.tb.keep (λb u q hu=>?_) λ_ _ _ _ p n=>⟨p,n⟩,λb u e=>?_,by simp[r.len],r.nd,λj b u q1 q2 q3=>?_,λj b u q1 q2=>?_,λj b q=>?_⟩
 .refine(qG ?_).trans q
  rintro rfl;have z:=r.at' i _ m ha hs;cases m with
  |dead=>exact hd rfl
  |lst ds=>obtain⟨vs,z,_⟩:=z;rw[q] at z;rcases hu with⟨_,rfl⟩|⟨_,rfl⟩ <;> cases z
  |dct kvs=>obtain⟨vs,z,_⟩:=z;rw[q] at z;rcases hu with⟨_,rfl⟩|⟨_,rfl⟩ <;> cases z
  |ins C fs=>obtain⟨dx,vs,z,_⟩:=z;rw[q] at z;rcases hu with⟨_,rfl⟩|⟨_,rfl⟩ <;> cases z
 .have hb:b≠a:=by rintro rfl;rw[hP] at e;cases e
  rw[qG hb];exact r.sub _ _ e
 .by_cases hj:j=i
  .subst hj;rw[ha] at q1;cases q1;exact hP
  .rw[Bs (Cf hj)] at q2;exact r.sep j b u q1 q2 q3
 .by_cases hj:j=i
  .subst hj;rw[ha] at q1;cases q1
   rw[By hi] at q2;cases q2;exact hm
  .rw[Bs (Cf hj)] at q2
   have hb:b≠a:=by rintro rfl;exact hj (fE r.nd q1 ha)
   have z:=r.at' j b u q1 q2;cases u with
   |dead=>trivial
   |lst ds=>obtain⟨vs,q,t⟩:=z;exact⟨vs,by rw[qG hb];exact q,t⟩
   |dct kvs=>obtain⟨vs,q,t⟩:=z;exact⟨vs,by rw[qG hb];exact q,t⟩
   |ins C fs=>obtain⟨dx,vs,q,t⟩:=z;exact⟨dx,vs,by rw[qG hb];exact q,t⟩
 .by_cases hb:b=a
  .subst hb;rw[qS];intro z;cases z
  .rw[qG hb];exact r.own j b q
end
theorem nn {β : Type}{a:β}{p:Prop}(h:(none:Ak β) = Ab a):p:=by cases h
theorem uQ {β : Type}{c:Prop}[Ep c]{a b:β}(h:(if c then Ab a else none)=Ab b):c/\a=b:=by
 by_cases z:c
 .rw[A0 z] at h;exact⟨z,Bg h⟩
 .rw[Aw z] at h;exact nn h
end _D
end
namespace _D
open PySem PySem.Spec PyProof.Rows _L
variable {sl:A5 (Ak Ac)}{more:Aa (Ad × AR)}{us args cs:Aa Ac}{body:Aa Cs}{vs:Aa V}{u vv:Ac}{p C:Ad}{od:Ak Ad}{np:CG}{M:E6}{R:It->Hp->Prop}{sp:Sp}{S S1:Sto}{Q:VK}
abbrev DE:=qH->Sto->Res D
abbrev DT:=qH->Sto->Res Aq
abbrev DA:=qH->Sto->Res (Aa D)
inductive Out where
 |nx (env:qH) (S:Sto)|rt (d:D) (S:Sto)|bk (env:qH) (S:Sto)|ct (env:qH) (S:Sto)|ex (c:Ac) (x:D) (env:qH) (S:Sto)|bad
abbrev DS:=qH->Sto->Out
def Old (X:Cx)(pins:Aa (Ad × AR))(H:Hp)(b:Ad):Prop:=
 (∃ o,X.s₀.heap.get? b=Ab o)\/H b≠none\/(∃ p∈X.pn++pins,p.1=b)\/∃ x,X.env.cells.lookup x=Ab b
def Cv (X:Cx)(pins:Aa (Ad × AR))(H:Hp)(B h:AC):Prop:=∀ b o,h.get? b=Ab o->Old X pins H b->b ∉ frs X.stack->B.get? b=Ab o
inductive FlyX (X:Cx)(pins:Aa (Ad × AR))(H:Hp)(c:Ac)(e:Ad)(h:AC):Prop where
 |new (g:AC) (args:Aa Ac):Ju g h e c args->g.FunFrames X.base X.stack->(∀ b o,h.get? b=Ab o->Old X pins H b->g.get? b=Ab o)->FlyX X pins H c e h
 |fly (B:AC) (a0:Ac):Hq B X.stack e c a0 h->Cv X pins H B h->FlyX X pins H c e h
inductive XOk (X:Cx)(P:Hp)(α : Aa Ad)(c:Ac)(x:D)(S:Sto)(u:Ac)(s:Ag):Prop
 |mk (e:Ad) (pins:Aa (Ad × AR)) (σ : _L.St) (H:Hp) (P':Hp) (α' : Aa Ad) (e1:u=.ref e) (I:Inv X pins σ H s) (r:Rel X.K H P' α' S) (q1:qF P P') (q2:α<+:α') (q3:X.ex=[]/\X.stack=X.env::X.outer/\X.env.frame=Ab X.env.locals) (q4:FlyX X pins H c e s.heap):XOk X P α c x S u s
theorem XOk.base {X:Cx}{P P1:Hp}{α α1:Aa Ad}{c:Ac}{x:D}{s:Ag}(e:qF P P1)(h:α<+:α1)(k:XOk X P1 α1 c x S u s):XOk X P α c x S u s:=by
 obtain⟨a,pins,σ,H,P',α',e1,I,r,q1,q2,q3,q4⟩:=k;exact⟨a,pins,σ,H,P',α',e1,I,r,e.trans q1,h.trans q2,q3,q4⟩
section
variable (X:Cx)
def qJ {β:Type}(P:Hp)(α : Aa Ad)(r:Res β)(Ok:β->Sto->Prop):Prop:=
 match r with
 |.ok d S'=>Ok d S'
 |.ex c x S'=>∀ u s',XOk X P α c x S' u s'->X.xe u s'
 |.bad=>CF
def OkV (P:Hp)(α : Aa Ad)(Q:VK)(d:D)(S':Sto):Prop:=∀ v H' P' α',Rel X.K H' P' α' S'->qF P P'->α<+:α'->Rep X.K P' α' d v->Q v H'
def OkT (P:Hp)(α : Aa Ad)(Q:Aq->Hp->Prop)(b:Aq)(S':Sto):Prop:=∀ H' P' α',Rel X.K H' P' α' S'->qF P P'->α<+:α'->Q b H'
def OkA (P:Hp)(α : Aa Ad)(Q:Aa V->Hp->Prop)(ds:Aa D)(S':Sto):Prop:=∀ vs H' P' α',Rel X.K H' P' α' S'->qF P P'->α<+:α'->qE X.K P' α' ds vs->Q vs H'
abbrev qR (P:Hp)(α : Aa Ad)(r:Res D)(Q:VK):Prop:=qJ X P α r (OkV X P α Q)
abbrev yQ (P:Hp)(α : Aa Ad)(r:Res Aq)(Q:Aq->Hp->Prop):Prop:=qJ X P α r (OkT X P α Q)
abbrev jF (P:Hp)(α : Aa Ad)(r:Res (Aa D))(Q:Aa V->Hp->Prop):Prop:=qJ X P α r (OkA X P α Q)
def z0 (P:Hp)(α : Aa Ad)(r:Out)(D:Ends):Prop:=
 match r with
 |.nx env' S'=>∀ σ' H' P' α',Rel X.K H' P' α' S'->qV X.K P' α' σ' env'->qF P P'->α<+:α'->D.nx σ' H'
 |.bk env' S'=>∀ σ' H' P' α',Rel X.K H' P' α' S'->qV X.K P' α' σ' env'->qF P P'->α<+:α'->D.bk σ' H'
 |.ct env' S'=>∀ σ' H' P' α',Rel X.K H' P' α' S'->qV X.K P' α' σ' env'->qF P P'->α<+:α'->D.ct σ' H'
 |.rt d S'=>∀ v H' P' α',Rel X.K H' P' α' S'->qF P P'->α<+:α'->Rep X.K P' α' d v->D.rt v H'
 |.ex c x _ S'=>∀ u s',XOk X P α c x S' u s'->X.xe u s'
 |.bad=>CF
inductive tD (f:DE)(σ : _L.St)(H:Hp)(Q:VK):Prop
 |mk (P:Hp) (α : Aa Ad) (env:qH) (S:Sto) (r:Rel X.K H P α S) (re:qV X.K P α σ env) (af:qR X P α (f env S) Q):tD f σ H Q
inductive tDT (f:DT)(σ : _L.St)(H:Hp)(Q:Aq->Hp->Prop):Prop
 |mk (P:Hp) (α : Aa Ad) (env:qH) (S:Sto) (r:Rel X.K H P α S) (re:qV X.K P α σ env) (af:yQ X P α (f env S) Q):tDT f σ H Q
inductive tDA (f:DA)(σ : _L.St)(H:Hp)(Q:Aa V->Hp->Prop):Prop
 |mk (P:Hp) (α : Aa Ad) (env:qH) (S:Sto) (r:Rel X.K H P α S) (re:qV X.K P α σ env) (af:jF X P α (f env S) Q):tDA f σ H Q
inductive tDS (f:DS)(D:Ends)(σ : _L.St)(H:Hp):Prop
 |mk (P:Hp) (α : Aa Ad) (env:qH) (S:Sto) (r:Rel X.K H P α S) (re:qV X.K P α σ env) (af:z0 X P α (f env S) D):tDS f D σ H
end
section
variable {X:Cx}{P P1:Hp}{α α1:Aa Ad}
theorem qR.base {r:Res D}(e:qF P P1)(h:α<+:α1)(k:qR X P α r Q):qR X P1 α1 r Q:=by
 cases r with
 |ok d S=>exact λv H' P' α' r q1 q2 q3=>k v H' P' α' r (e.trans q1) (h.trans q2) q3
 |ex c x S=>exact λu s' q=>k u s' (q.base e h)
 |bad=>exact k
theorem yQ.base {r:Res Aq}{Q:Aq->Hp->Prop}(e:qF P P1)(h:α<+:α1)(k:yQ X P α r Q):yQ X P1 α1 r Q:=by
 cases r with
 |ok d S=>exact λH' P' α' r q1 q2=>k H' P' α' r (e.trans q1) (h.trans q2)
 |ex c x S=>exact λu s' q=>k u s' (q.base e h)
 |bad=>exact k
theorem jF.base {r:Res (Aa D)}{Q:Aa V->Hp->Prop}(e:qF P P1)(h:α<+:α1)(k:jF X P α r Q):jF X P1 α1 r Q:=by
 cases r with
 |ok d S=>exact λv H' P' α' r q1 q2 q3=>k v H' P' α' r (e.trans q1) (h.trans q2) q3
 |ex c x S=>exact λu s' q=>k u s' (q.base e h)
 |bad=>exact k
theorem z0.base {r:Out}{D:Ends}(e:qF P P1)(h:α<+:α1)(k:z0 X P α r D):z0 X P1 α1 r D:=by
 cases r with
 |nx env S=>exact λv H' P' α' r q0 q1 q2=>k v H' P' α' r q0 (e.trans q1) (h.trans q2)
 |bk env S=>exact λv H' P' α' r q0 q1 q2=>k v H' P' α' r q0 (e.trans q1) (h.trans q2)
 |ct env S=>exact λv H' P' α' r q0 q1 q2=>k v H' P' α' r q0 (e.trans q1) (h.trans q2)
 |rt d S=>exact λv H' P' α' r q1 q2 q3=>k v H' P' α' r (e.trans q1) (h.trans q2) q3
 |ex c x env S=>exact λu s' q=>k u s' (q.base e h)
 |bad=>exact k
theorem xr {v:V}{H:Hp}{d:D}(k:OkV X P α Q d S)(r:Rel X.K H P α S)(q:Rep X.K P α d v):Q v H:=k v H P α r (qF.refl _) (AF _) q
end
section
variable {X:Cx}{a b e:AA}{pos:CG}
theorem peW {t t':TE}(h:PE X e t)(w:∀ σ H Q,t' σ H Q->t σ H Q):PE X e t':=λpins s σ H Q I q=>h pins s σ H Q I (w σ H Q q)
theorem psW {st:Cs}{t t':TS}(h:PS X st t)(w:∀ D σ H,t' D σ H->t D σ H):PS X st t':=λpins s σ H D I q=>h pins s σ H D I (w D σ H q)
theorem K5 {st:Aa Cs}{t t':TS}(h:PSs X st t)(w:∀ D σ H,t' D σ H->t D σ H):PSs X st t':=λpins s σ H D I q=>h pins s σ H D I (w D σ H q)
theorem paW {es:Aa AA}{t t':TA}(h:PA X es t)(w:∀ σ H Q,t' σ H Q->t σ H Q):PA X es t':=λpos pins s σ H Q I q=>h pos pins s σ H Q I (w σ H Q q)
structure Got (X:Cx)(pins:Aa (Ad × AR))(σ : _L.St)(env:qH)(P:Hp)(α : Aa Ad)(u:Ac)(s1:Ag)(v:V)(H1 P1:Hp)(α1:Aa Ad)(d:D)(S1:Sto):Prop where
 inv:Inv X pins σ H1 s1
 val:qI v u
 rel:Rel X.K H1 P1 α1 S1
 env:qV X.K P1 α1 σ env
 rep:Rep X.K P1 α1 d v
 same:qF P P1
 pre:α<+:α1
inductive GotG (X:Cx)(pins:Aa (Ad × AR))(σ : _L.St)(env:qH)(P:Hp)(α : Aa Ad)(u:Ac)(s1:Ag){γ : Type}(g:D->Sto->Res γ)(Ok:γ->Sto->Prop):Prop
 |mk (v:V) (H1 P1:Hp) (α1:Aa Ad) (d:D) (S1:Sto) (G:Got X pins σ env P α u s1 v H1 P1 α1 d S1) (q:qJ X P α (g d S1) Ok):GotG X pins σ env P α u s1 g Ok
inductive GotAG (X:Cx)(pins:Aa (Ad × AR))(σ : _L.St)(env:qH)(P:Hp)(α : Aa Ad)(us:Aa Ac)(s1:Ag){γ : Type}(g:Aa D->Sto->Res γ)(Ok:γ->Sto->Prop):Prop
 |mk (vs:Aa V) (H1 P1:Hp) (α1:Aa Ad) (ds:Aa D) (S1:Sto) (I:Inv X pins σ H1 s1) (rv:qL vs us) (r:Rel X.K H1 P1 α1 S1) (re:qV X.K P1 α1 σ env) (rp:qE X.K P1 α1 ds vs) (e1:qF P P1) (e2:α<+:α1) (q:qJ X P α (g ds S1) Ok):GotAG X pins σ env P α us s1 g Ok
inductive GotT (X:Cx)(pins:Aa (Ad × AR))(σ : _L.St)(env:qH)(P:Hp)(α : Aa Ad)(b:Aq)(s1:Ag){γ : Type}(g:Aq->Sto->Res γ)(Ok:γ->Sto->Prop):Prop
 |mk (H1 P1:Hp) (α1:Aa Ad) (S1:Sto) (I:Inv X pins σ H1 s1) (r:Rel X.K H1 P1 α1 S1) (re:qV X.K P1 α1 σ env) (e1:qF P P1) (e2:α<+:α1) (q:qJ X P α (g b S1) Ok):GotT X pins σ env P α b s1 g Ok
theorem zI {γ:Type}{f:DE}{g:D->Sto->Res γ}{Ok:γ->Sto->Prop}{pins:Aa (Ad × AR)}{s:Ag}{σ:_L.St}{H P:Hp}{α:Aa Ad}{env:qH}(he:PE X e (tD X f))(I:Inv X pins σ H s)(r:Rel X.K H P α S)
  (re:qV X.K P α σ env) (af:qJ X P α ((f env S).bind g) Ok) :
  Ar (As X.prog X.w) X.A (eval e X.env) (λu s1=>GotG X pins σ env P α u s1 g Ok) X.xe s:=by
 refine thn (he pins s σ H (λv H1=>∃ P1 α1 d S1,Rel X.K H1 P1 α1 S1/\qV X.K P1 α1 σ env/\Rep X.K P1 α1 d v/\qF P P1/\α<+:α1/\qJ X P α (g d S1) Ok) I ⟨P,α,env,S,r,re,?_⟩) λu s1 ⟨v,H1,I1,rv,P1,α1,d,S1,q1,q2,q3,q4,q5,q6⟩=>⟨v,H1,P1,α1,d,S1,⟨I1,rv,q1,q2,q3,q4,q5⟩,q6⟩;cases q:f env S with
 |bad=>rw[q] at af;exact af
 |ex c x S'=>rw[q] at af;exact af
 |ok d S' =>
  rw[q] at af;exact λv H' P' α' r' e1 e2 rp=>⟨P',α',d,S',r',re.mono e1 e2,rp,e1,e2,af⟩
theorem xD {γ:Type}{es:Aa AA}{f:DA}{g:Aa D->Sto->Res γ}{Ok:γ->Sto->Prop}{pins:Aa (Ad × AR)}{s:Ag}{σ:_L.St}{H P:Hp}{α:Aa Ad}{env:qH}(he:PA X es (tDA X f))(I:Inv X pins σ H s)(r:Rel X.K H P α S)
  (re:qV X.K P α σ env) (af:qJ X P α ((f env S).bind g) Ok) (pos:CG) :
  Ar (As X.prog X.w) X.A (spliced (Dm pos (A3 es X.env))) (λus s1=>GotAG X pins σ env P α us s1 g Ok) X.xe s:=by
 refine thn (he pos pins s σ H (λvs H1=>∃ P1 α1 ds S1,Rel X.K H1 P1 α1 S1/\qV X.K P1 α1 σ env/\qE X.K P1 α1 ds vs/\qF P P1/\α<+:α1/\qJ X P α (g ds S1) Ok) I ⟨P,α,env,S,r,re,?_⟩) λu s1 ⟨v,H1,I1,rv,P1,α1,d,S1,q1,q2,q3,q4,q5,q6⟩=>⟨v,H1,P1,α1,d,S1,I1,rv,q1,q2,q3,q4,q5,q6⟩;cases q:f env S with
 |bad=>rw[q] at af;exact af
 |ex c x S'=>rw[q] at af;exact af
 |ok d S' =>
  rw[q] at af;exact λv H' P' α' r' e1 e2 rp=>⟨P',α',d,S',r',re.mono e1 e2,rp,e1,e2,af⟩
theorem vU {γ:Type}{f:DT}{g:Aq->Sto->Res γ}{Ok:γ->Sto->Prop}{pins:Aa (Ad × AR)}{s:Ag}{σ:_L.St}{H P:Hp}{α:Aa Ad}{env:qH}{m:EZ Aq}
  (he:∀ (Q:Aq->Hp->Prop),tDT X f σ H Q->Ar (As X.prog X.w) X.A m (TP X pins σ Q) X.xe s) (r:Rel X.K H P α S) (re:qV X.K P α σ env) (af:qJ X P α ((f env S).bind g) Ok) :
  Ar (As X.prog X.w) X.A m (λb s1=>GotT X pins σ env P α b s1 g Ok) X.xe s:=by
 refine thn (he (λb H1=>∃ P1 α1 S1,Rel X.K H1 P1 α1 S1/\qV X.K P1 α1 σ env/\qF P P1/\α<+:α1/\qJ X P α (g b S1) Ok) ⟨P,α,env,S,r,re,?_⟩) λb s1 ⟨H1,I1,P1,α1,S1,q1,q2,q4,q5,q6⟩=>⟨H1,P1,α1,S1,I1,q1,q2,q4,q5,q6⟩;cases q:f env S with
 |bad=>rw[q] at af;exact af
 |ex c x S'=>rw[q] at af;exact af
 |ok d S' =>
  rw[q] at af;exact λH' P' α' r' e1 e2=>⟨P',α',S',r',re.mono e1 e2,e1,e2,af⟩
noncomputable def dC (d:D):DE:=λ_ S=>.ok d S
noncomputable def qB (i:Ai):DE:=λenv S=>match env[i]? with
 |some (Ab d)=>.ok d S
 |_=>.bad
theorem VG:PE X (.Constant (.int i) j pos) (tD X (dC (.int i))):=peW JU λσ H Q ⟨P,α,env,S,r,re,af⟩=>xr af r (by simp only[Rep])
theorem P6:PE X (.Constant (.bool i) j pos) (tD X (dC (.bl i))):=peW BN λσ H Q ⟨P,α,env,S,r,re,af⟩=>xr af r (by simp only[Rep])
theorem VL:PE X (.Constant (.str i) j pos) (tD X (dC (.str i))):=peW JX λσ H Q ⟨P,α,env,S,r,re,af⟩=>xr af r (by simp only[Rep])
theorem VH:PE X (.Constant .none j pos) (tD X (dC .non)):=peW JV λσ H Q ⟨P,α,env,S,r,re,af⟩=>xr af r (by simp only[Rep])
set_option tactic.hygienic true in
theorem YC {i:Ai}{σ:_L.St}{H:Hp}(h:tD X (qB i) σ H Q):GC i σ H Q:=by
 obtain⟨P,α,env,S,r,re,af⟩:=h;unfold qB at af
 split at af
 .rename_i d q
  obtain⟨v,h1,h2⟩:=re.2 i d q;exact⟨v,h1,xr af r h2⟩
 .exact Al af
theorem dv (i:Ai){x:Ap}(hN:X.N[i]? = Ab x:=by rfl)(hv:Vis X.env.scope x:=by first|exact NT rfl|exact No (NT rfl)|exact No (No rfl))(hd:(x == ("__debug__" : Ap))=false:=by decide)
  (hcd:(x == ("__classdict__" : Ap))=false:=by decide):PE X (.Name x pos) (tD X (qB i)):=peW (JZ hN hv hd hcd) λσ H Q h=>YC h
theorem nX {x:Ap}{d:D}{v:V}(hg:Gl X x)(hm:X.mg x=Ab u)(r:qI v u)(q:∀ P α,Rep X.K P α d v)(hd:(x == ("__debug__" : Ap))=false:=by decide):PE X (.Name x pos) (tD X (dC d)):=
 peW (WG hg hm r hd) λσ H Q ⟨P,α,env,S,r,re,af⟩=>xr af r (q _ _)
theorem ZP {x:Ap}{n:Bk}(hg:Gl X x)(hm:X.mg x=none)(hv:CW x=Ab (.type n))(hn:x ≠ "__name__":=by decide)(hd:(x == ("__debug__" : Ap))=false:=by decide):PE X (.Name x pos) (tD X (dC (.ty n))):=
 peW (WE (v:=.ty n) hg hm hv rfl hn hd) λσ H Q ⟨P,α,env,S,r,re,af⟩=>xr af r (by simp only[Rep])
abbrev G2:=D->D->Sto->Res D
def OpD (X:Cx)(f:Ac->Ac->EZ Ac)(g:G2):Prop:=
 ∀ (pins:Aa (Ad × AR)) (σ : _L.St) (H:Hp) (s:Ag) (P:Hp) (α : Aa Ad) (S:Sto) (v u:V) (vv uu:Ac) (a b:D) (Q:VK),Inv X pins σ H s->Rel X.K H P α S->qI v vv->qI u uu->Rep X.K P α a v->Rep X.K P α b u->qR X P α (g a b S) Q ->
  Ar (As X.prog X.w) X.A (f vv uu) (EP X pins σ Q) X.xe s
theorem OpD.of {f:Ac->Ac->EZ Ac}{r:R2}{g:G2}(h:OpR X f r)(w:∀ H P α S v u a b Q,Rel X.K H P α S->Rep X.K P α a v->Rep X.K P α b u->qR X P α (g a b S) Q->r v u H Q):OpD X f g:=
 λpins σ H s P α S v u vv uu a b Q I rl r1 r2 p1 p2 af=>h pins s σ H v u vv uu Q I r1 r2 (w H P α S v u a b Q rl p1 p2 af)
def IxD (X:Cx)(g:G2):Prop:=
 ∀ (value slice:AA) (pins:Aa (Ad × AR)) (σ : _L.St) (H:Hp) (s:Ag) (P:Hp) (α : Aa Ad) (S:Sto) (v u:V) (vv uu:Ac) (a b:D) (Q:VK),Inv X pins σ H s->Rel X.K H P α S->qI v vv->qI u uu->Rep X.K P α a v->Rep X.K P α b u->qR X P α (g a b S) Q ->
  subscripted slice false vv uu=operate [vv,uu] (Fv vv uu)->Ar (As X.prog X.w) X.A (HT value slice vv uu) (EP X pins σ Q) X.xe s
def yA (X:Cx)(f:Ac)(g:Aa D->Sto->Res D):Prop:=
 ∀ (pins:Aa (Ad × AR)) (σ : _L.St) (H:Hp) (s:Ag) (P:Hp) (α : Aa Ad) (S:Sto) (vs:Aa V) (us:Aa Ac) (ds:Aa D) (Q:VK),Inv X pins σ H s->Rel X.K H P α S->qL vs us->qE X.K P α ds vs->qR X P α (g ds S) Q ->
  Ar (As X.prog X.w) X.A (call f us) (EP X pins σ Q) X.xe s
noncomputable def d2 (g:G2)(fa fb:DE):DE:=λenv S=>(fa env S).bind λx S1=>(fb env S1).bind λy S2=>g x y S2
noncomputable def d1 (g:D->Sto->Res D)(fa:DE):DE:=λenv S=>(fa env S).bind g
variable {fa fb:DE}
theorem mO {g:G2}{f:Ac->Ac->EZ Ac}{pins:Aa (Ad × AR)}{s:Ag}{σ:_L.St}{H:Hp}(ho:OpD X f g)(ha:PE X a (tD X fa))(hb:PE X b (tD X fb))(I:Inv X pins σ H s)(h:tD X (d2 g fa fb) σ H Q) :
  Ar (As X.prog X.w) X.A (eval a X.env) (λv s₁=>Ar (As X.prog X.w) X.A (eval b X.env) (λu s₂=>Ar (As X.prog X.w) X.A (f v u) (EP X pins σ Q) X.xe s₂) X.xe s₁) X.xe s:=by
 obtain⟨P,α,env,S,r,re,af⟩:=h;refine thn (zI ha I r re af) λvv s1 ⟨v,H1,P1,α1,d,S1,G1,af1⟩=>?_;refine thn (zI hb G1.inv G1.rel G1.env (P:=P1) (α:=α1) (Ok:=OkV X P1 α1 Q) (g:=λy S2=>g d y S2) ?_) λuu s2 ⟨u,H2,P2,α2,d',S2,G2,af2⟩=>?_
 .exact qR.base G1.same G1.pre af1
 .exact ho pins σ H2 s2 P2 α2 S2 v u vv uu d d' Q G2.inv G2.rel G1.val G2.val (Rep.mono G2.same G2.pre _ _ G1.rep) G2.rep (qR.base G2.same G2.pre af2)
theorem P9 {op:Operator}{g:G2}(ho:OpD X (Co op) g)(ha:PE X a (tD X fa))(hb:PE X b (tD X fb)):PE X (.BinOp a op b pos) (tD X (d2 g fa fb)):=
 λpins s σ H Q I h=>wpAny_BinOp (mO ho ha hb I h)
theorem VC {op:L7}{g:G2}(ho:OpD X (Bt op) g)(ha:PE X a (tD X fa))(hb:PE X b (tD X fb))(hm:EM op b=false:=by first|exact vX _|with_unfolding_all rfl):PE X (.Compare a [op] [b] pos) (tD X (d2 g fa fb)):=
 λpins s σ H Q I h=>wpAny_Compare1 (mO ho ha hb I h) hm
theorem QD {g:G2}(ho:IxD X g)(ha:PE X a (tD X fa))(hb:PE X b (tD X fb))(hs:yO b:=by intro _ _;rfl):PE X (.Subscript a b pos) (tD X (d2 g fa fb)):=by
 intro pins s σ H Q I h;obtain⟨P,α,env,S,r,re,af⟩:=h;have IxR':IxR X (λx y H Q=>∃ P α S a b,Rel X.K H P α S/\Rep X.K P α a x/\Rep X.K P α b y/\qR X P α (g a b S) Q):=λvalue slice pins s σ H x y v u Q I rx ry ⟨P,α,S,a,b,r,p1,p2,af⟩ hsl =>
  ho value slice pins σ H s P α S x y v u a b Q I r rx ry p1 p2 af hsl
 refine peW (BO IxR' ha hb hs) (t':=tD X (d2 g fa fb)) (λσ H Q h=>?_) pins s σ H Q I ⟨P,α,env,S,r,re,af⟩;obtain⟨P,α,env,S,r,re,af⟩:=h;refine⟨P,α,env,S,r,re,?_⟩;unfold d2 at af;cases q:fa env S with
 |bad=>rw[q] at af;exact af
 |ex c x S'=>rw[q] at af;exact af
 |ok d S1 =>
  rw[q] at af;intro v H1 P1 α1 r1 e1 e2 rp;refine⟨P1,α1,env,S1,r1,re.mono e1 e2,?_⟩;have af':qR X P α ((fb env S1).bind λy S2=>g d y S2) Q:=af;cases q2:fb env S1 with
  |bad=>rw[q2] at af';exact af'
  |ex c x S'=>rw[q2] at af';exact λu s' z=>af' u s' (z.base e1 e2)
  |ok d' S2 =>
   rw[q2] at af';intro u H2 P2 α2 r2 e3 e4 rp2;exact⟨P2,α2,S2,d,d',r2,Rep.mono e3 e4 _ _ rp,rp2,qR.base (e1.trans e3) (e2.trans e4) af'⟩
noncomputable def qC:DA:=λ_ S=>.ok [] S
noncomputable def qA (f:DE)(g:DA):DA:=λenv S=>(f env S).bind λx S1=>(g env S1).bind λxs S2=>.ok (x::xs) S2
theorem r9:PA X [] (tDA X qC):=paW JS λσ H Q ⟨P,α,env,S,r,re,af⟩=>af [] H P α r (qF.refl _) (AF _) .nil
theorem nW {es:Aa AA}{g:DA}(ha:PE X e (tD X fa))(hr:PA X es (tDA X g))(hs:A3 (e::es) X.env=(false,eval e X.env)::A3 es X.env:=by rfl):PA X (e::es) (tDA X (qA fa g)):=by
 intro pos pins s σ H Q I h;obtain⟨P,α,env,S,r,re,af⟩:=h;rw[hs];show Ar _ _ (spliced ((false,eval e X.env)::Dm pos (A3 es X.env))) _ _ s;refine HA (thn (zI ha I r re af) λu s1 ⟨x,H1,P1,α1,d,S1,G1,af1⟩=>?_);refine thn (xD hr G1.inv G1.rel G1.env (P:=P1) (α:=α1) (Ok:=OkA X P1 α1 Q) (jF.base G1.same G1.pre af1) pos) λus s2 ⟨xs,H2,P2,α2,ds,S2,I2,rv,r2,re2,rp2,e1,e2,af2⟩=>?_;exact⟨x::xs,H2,I2,.cons G1.val rv,af2 _ _ _ _ r2 e1 e2 (.cons (Rep.mono e1 e2 _ _ G1.rep) rp2)⟩
noncomputable def lim:Ai:=16777216
theorem zL:lim=sizeLine:=DB.symm
noncomputable def w8 (f:DA):DE:=λenv S=>(f env S).bind λxs S1=>if xs.length<=lim then .ok (.tup xs) S1 else .bad
noncomputable def zS (f:DA):DE:=λenv S=>(f env S).bind λxs S1=>if xs.length<=lim then .ok (.lst xs) S1 else .bad
noncomputable def fP (f:DA):DE:=λenv S=>(f env S).bind λxs S1=>if xs.length<=lim then .ok (.loc S1.length) (S1++[.lst xs]) else .bad
theorem lS {K:Ah}{P:Hp}{α:Aa Ad}{a:Ad}{ds:Aa D}(h:SqT K P a vs)(r:qE K P α ds vs):Rep K P α (.tup ds) (.ref a):=by simp only[Rep];exact⟨a,vs,rfl,h,r⟩
theorem bF {K:Ah}{P:Hp}{α:Aa Ad}{a:Ad}{ds:Aa D}(h:SqX K P a vs)(r:qE K P α ds vs):Rep K P α (.lst ds) (.ref a):=by simp only[Rep];exact⟨a,vs,rfl,h,r⟩
theorem gE {H P:Hp}{α:Aa Ad}{ds:Aa D}(r:Rel X.K H P α S)(hp:H p=none)(rp:qE X.K P α ds vs)(af:OkV X P α Q (.tup ds) S):Q (.ref p) (upd H p (.tup vs)):=by
 obtain⟨r1,e1⟩:=r.pure (o:=.tup vs) hp;exact af _ _ _ α r1 e1 (AF _) (lS (.of qS) (qE.mono e1 (AF _) _ _ rp))
theorem yZ {H P:Hp}{α:Aa Ad}{ds:Aa D}(r:Rel X.K H P α S)(hp:H p=none)(rp:qE X.K P α ds vs)(af:OkV X P α Q (.lst ds) S):Q (.ref p) (upd H p (.lst vs)):=by
 obtain⟨r1,e1⟩:=r.pure (o:=.lst vs) hp;exact af _ _ _ α r1 e1 (AF _) (bF (.inl (.inl qS)) (qE.mono e1 (AF _) _ _ rp))
theorem bC {H P:Hp}{α:Aa Ad}{ds:Aa D}(r:Rel X.K H P α S)(hp:H p=none)(rp:qE X.K P α ds vs)(af:OkV X P α Q (.loc S.length) (S++[.lst ds])):Q (.ref p) (upd H p (.lst vs)):=by
 have hpre:α<+:α++[p]:=Fn _ _;have r1:=r.new (o:=.lst vs) (m:=.lst ds) hp ⟨vs,qS,qE.mono (qF.refl _) hpre _ _ rp⟩;refine af _ _ _ _ r1 (qF.refl _) hpre ?_;simp only[Rep];exact⟨p,rfl,by rw[<- r.len];simp⟩
theorem pU {f:DA}{σ:_L.St}{H:Hp}{G:Aa D->Sto->Res D}{mk:Aa V->HO}(h:tD X (λenv S=>(f env S).bind λxs S1=>if xs.length<=lim then G xs S1 else .bad) σ H Q)
  (k:∀ H1 P1 α1 S1 ds vs p,Rel X.K H1 P1 α1 S1->H1 p=none->qE X.K P1 α1 ds vs->qR X P1 α1 (G ds S1) Q->Q (.ref p) (upd H1 p (mk vs))) :
  tDA X f σ H λvs H1=>vs.length<=sizeLine/\∀ p,H1 p=none->Q (.ref p) (upd H1 p (mk vs)):=by
 obtain⟨P,α,env,S,r,re,af⟩:=h;refine⟨P,α,env,S,r,re,?_⟩;have af':qR X P α ((f env S).bind λxs S1=>if xs.length<=lim then G xs S1 else .bad) Q:=af
 cases q:f env S with
 |bad=>rw[q] at af';exact af'
 |ex c x S'=>rw[q] at af';exact af'
 |ok ds S1 =>
  rw[q] at af';intro vs H1 P1 α1 r1 e1 e2 rp;have af2:qR X P α (if ds.length<=lim then G ds S1 else .bad) Q:=af'
  by_cases hl:ds.length<=lim
  .rw[A0 hl] at af2
   exact⟨by rw[<- rp.length,<- zL];exact hl,λp hp=>k H1 P1 α1 S1 ds vs p r1 hp rp (qR.base e1 e2 af2)⟩
  .rw[Aw hl] at af2;exact Al af2
theorem VN {es:Aa AA}{f:DA} {x1} (h:PA X es (tDA X f)):PE X (.Tuple es x1 pos) (tD X (w8 f)):=
 peW (JY h) λσ H Q q=>pU (G:=λxs S1=>.ok (.tup xs) S1) (mk:=.tup) q λH1 P1 α1 S1 ds vs p r hp rp af=>gE r hp rp af
theorem rE {es:Aa AA}{f:DA}(h:PA X es (tDA X f)):PE X (.List es pos) (tD X (zS f)):=
 peW (eR h) λσ H Q q=>pU (G:=λxs S1=>.ok (.lst xs) S1) (mk:=.lst) q λH1 P1 α1 S1 ds vs p r hp rp af=>yZ r hp rp af
theorem ZT {es:Aa AA}{f:DA}(h:PA X es (tDA X f)):PE X (.List es pos) (tD X (fP f)):=
 peW (eR h) λσ H Q q=>pU (G:=λxs S1=>.ok (.loc S1.length) (S1++[MO.lst xs])) (mk:=.lst) q λH1 P1 α1 S1 ds vs p r hp rp af=>bC r hp rp af
end
section
variable {X:Cx}{a b c e:AA}{pos:CG}{fa fb fc:DE}{ta tb:DT}
noncomputable def yI:D->Sto->Ak Aq
 |.non,_=>Ab false
 |.bl b,_=>Ab b
 |.int i,_=>Ab (i != 0)
 |.str x,_=>if x.length<=lim then Ab ((x.length:Am) != 0) else none
 |.tup xs,_=>Ab (!xs.isEmpty)
 |.lst xs,_=>Ab (!xs.isEmpty)
 |.dct0,_=>Ab false
 |.loc i,S=>match S[i]? with
  |some (.lst xs)=>Ab (!xs.isEmpty)
  |some (.dct kvs)=>Ab (!kvs.isEmpty)
  |_=>none
 |_,_=>none
theorem qE.isEmpty {K:Ah}{P:Hp}{α:Aa Ad}{ds:Aa D}(r:qE K P α ds vs):(!ds.isEmpty)=!vs.isEmpty:=by
 cases ds with
 |nil=>rw[r.nil_inv];rfl
 |cons d ds=>obtain⟨w,ws,rfl,_,_⟩:=r.cons_inv;rfl
theorem xF {K:Ah}{H P:Hp}(e:qF P H){a:Ad}{xs:Aa V}(h:SqT K P a xs):SqT K H a xs:=y9 e h
theorem u0 {H P:Hp}{α:Aa Ad}{v:V}{d:D}{k:Aq}(r:Rel X.K H P α S)(p:Rep X.K P α d v)(h:yI d S=Ab k):dF X.K v H k:=by
 cases d with
 |non=>simp only[Rep] at p;subst p;cases h;rfl
 |bl b=>simp only[Rep] at p;subst p;cases h;rfl
 |int i=>simp only[Rep] at p;subst p;cases h;rfl
 |str x =>
  simp only[Rep] at p;subst p;obtain⟨hl,rfl⟩:=uQ h;exact⟨by rw[<- zL];exact hl,rfl⟩
 |tup xs =>
  simp only[Rep] at p;obtain⟨a,vs,rfl,q,t⟩:=p;cases h;exact .inr (.inl ⟨vs,xF r.sub q,t.isEmpty⟩)
 |lst xs =>
  simp only[Rep] at p;obtain⟨a,vs,rfl,q,t⟩:=p;cases h;exact .inl ⟨vs,(xB r.sub q).l,t.isEmpty⟩
 |dct0 =>
  simp only[Rep] at p;obtain⟨a,rfl,q⟩:=p;cases h;exact .inr (.inr ⟨[],r.sub _ _ q,rfl⟩)
 |loc i =>
  simp only[Rep] at p;obtain⟨a,rfl,q⟩:=p;have h:(match S[i]? with|some (.lst xs)=>Ab (!xs.isEmpty)|some (.dct kvs)=>Ab (!kvs.isEmpty)|_=>none)=Ab k:=h
  cases hs:S[i]? with
  |none=>rw[hs] at h;exact nn h
  |some m =>
   rw[hs] at h;cases m with
   |lst xs =>
    cases h;obtain⟨vs,z,t⟩:=r.at' i a _ q hs;exact .inl ⟨vs,.of z,t.isEmpty⟩
   |dct kvs =>
    cases h;obtain⟨vs,z,t⟩:=r.at' i a _ q hs;refine .inr (.inr ⟨vs,z,?_⟩);cases t <;> rfl
   |_=>exact nn h
 |ty n=>exact nn h
 |obj a=>exact nn h
 |exn c=>exact nn h
 |fd ks ds=>exact nn h
 |clo a vs ds=>exact nn h
theorem F3 {pins:Aa (Ad × AR)}{s:Ag}{σ:_L.St}{H P:Hp}{α:Aa Ad}{v:V}{d:D}{k:Aq}{Q:Aq->Hp->Prop}(I:Inv X pins σ H s)(r:Rel X.K H P α S)(rv:qI v vv)(p:Rep X.K P α d v)(h:yI d S=Ab k)(q:Q k H) :
  Ar (As X.prog X.w) X.A (truthy vv) (TP X pins σ Q) X.xe s:=pH pins s σ H v vv Q I rv ⟨k,u0 r p h,q⟩
noncomputable def oV (o:Ak Aq)(S:Sto):Res Aq:=match o with
 |some b=>.ok b S
 |none=>.bad
noncomputable def dTr (f:DE):DT:=λenv S=>(f env S).bind λd S1=>oV (yI d S1) S1
theorem lT {o:Ak Aq}{P:Hp}{α:Aa Ad}{Ok:Aq->Sto->Prop}(h:qJ X P α (oV o S) Ok):∃ b,o=Ab b/\Ok b S:=by
 cases o with
 |none=>exact Al h
 |some b=>exact⟨b,rfl,h⟩
theorem U2 (ha:PE X a (tD X fa))(he:∀ whole,isTrue a X.env whole=(do let v <- whole;Kq a.pos;holding [v] (truthy v)):=by intro _;rfl):PT X a (tDT X (dTr fa)):=by
 intro pins s σ H Q I h;obtain⟨P,α,env,S,r,re,af⟩:=h;refine isTrue_plain (thn (zI ha I r re af) λvv s1 ⟨v,H1,P1,α1,d,S1,G1,af1⟩=>?_) (he _);obtain⟨k,e1,q⟩:=lT af1;exact F3 G1.inv G1.rel G1.val G1.rep e1 (q H1 P1 α1 G1.rel G1.same G1.pre)
theorem U0 {op:L7}{g:G2}(ho:OpD X (Bt op) g)(ha:PE X a (tD X fa))(hb:PE X b (tD X fb))(hm:EM op b=false:=by first|exact vX _|with_unfolding_all rfl):PT X (.Compare a [op] [b] pos) (tDT X (dTr (d2 g fa fb))):=by
 intro pins s σ H Q I h;obtain⟨P,α,env,S,r,re,af⟩:=h;refine wpAny_isTrue_Compare1 ?_ hm;have key:tD X (d2 g fa fb) σ H (λv H1=>∃ k,dF X.K v H1 k/\Q k H1):=by
  refine⟨P,α,env,S,r,re,?_⟩;have af':qJ X P α ((d2 g fa fb env S).bind λd S1=>oV (yI d S1) S1) (OkT X P α Q):=af;cases q:d2 g fa fb env S with
  |bad=>rw[q] at af';exact af'
  |ex c x S'=>rw[q] at af';exact af'
  |ok d S1 =>
   rw[q] at af';obtain⟨k,e1,qk⟩:=lT (X:=X) af';exact λv H1 P1 α1 r1 e3 e4 rp=>⟨k,u0 r1 rp e1,qk H1 P1 α1 r1 e3 e4⟩
 exact thn (mO ho ha hb I key) λv s1 h1=>thn h1 λu s2 h2=>thn h2 λx s3 ⟨y,H3,I3,r3,k,tk,qk⟩=>pH pins s3 σ H3 y x Q I3 r3 ⟨k,tk,qk⟩
noncomputable def jJ (g g':G2)(fa fb fc:DE):DE:=λenv S=>(fa env S).bind λx S1=>(fb env S1).bind λy S2=>(g x y S2).bind λz S3 =>
 match yI z S3 with
 |some true=>(fc env S3).bind λw S4=>g' y w S4
 |some false=>.ok z S3
 |none=>.bad
inductive GotO (X:Cx)(pins:Aa (Ad × AR))(σ : _L.St)(P:Hp)(α : Aa Ad)(w:Ac)(s1:Ag){γ : Type}(k:D->Sto->Res γ)(Ok:γ->Sto->Prop):Prop
 |mk (y:V) (H1 P1:Hp) (α1:Aa Ad) (d:D) (S1:Sto) (I:Inv X pins σ H1 s1) (rv:qI y w) (r:Rel X.K H1 P1 α1 S1) (rp:Rep X.K P1 α1 d y) (e1:qF P P1) (e2:α<+:α1) (q:qJ X P α (k d S1) Ok):GotO X pins σ P α w s1 k Ok
theorem JL {γ:Type}{f:Ac->Ac->EZ Ac}{g:G2}{k:D->Sto->Res γ}{Ok:γ->Sto->Prop}{pins:Aa (Ad × AR)}{σ:_L.St}{H:Hp}{s:Ag}{P:Hp}{α:Aa Ad}{v u:V}{uu:Ac}{a b:D}(ho:OpD X f g)(I:Inv X pins σ H s)(r:Rel X.K H P α S)
  (rv:qI v vv) (ru:qI u uu) (pa:Rep X.K P α a v) (pb:Rep X.K P α b u) (af:qJ X P α ((g a b S).bind k) Ok) :
  Ar (As X.prog X.w) X.A (f vv uu) (λw s1=>GotO X pins σ P α w s1 k Ok) X.xe s:=by
 refine thn (ho pins σ H s P α S v u vv uu a b (λy H1=>∃ P1 α1 d S1,Rel X.K H1 P1 α1 S1/\Rep X.K P1 α1 d y/\qF P P1/\α<+:α1/\qJ X P α (k d S1) Ok) I r rv ru pa pb ?_) λw s1 ⟨y,H1,I1,r1,P1,α1,d,S1,q1,q2,q3,q4,q5⟩=>⟨y,H1,P1,α1,d,S1,I1,r1,q1,q2,q3,q4,q5⟩;cases q:g a b S with
 |bad=>rw[q] at af;exact af
 |ex c x S'=>rw[q] at af;exact af
 |ok d S' =>
  rw[q] at af;exact λv H' P' α' r' e1 e2 rp=>⟨P',α',d,S',r',rp,e1,e2,af⟩
theorem qJ.base' {β:Type}{P P1:Hp}{α α1:Aa Ad}{r:Res β}{Ok Ok1:β->Sto->Prop}(e:qF P P1)(h:α<+:α1)(ho:∀ d S,Ok d S->Ok1 d S)(k:qJ X P α r Ok):qJ X P1 α1 r Ok1:=by
 cases r with
 |ok d S=>exact ho d S k
 |ex c x S=>exact λu s' q=>k u s' (q.base e h)
 |bad=>exact k
theorem aS {op op':L7}{g g':G2}(ho:OpD X (Bt op) g)(ho':OpD X (Bt op') g')(ha:PE X a (tD X fa))(hb:PE X b (tD X fb))(hc:PE X c (tD X fc))
  (hm:lastMarks [op,op'] [b,c]=false:=by with_unfolding_all rfl):PE X (.Compare a [op,op'] [b,c] pos) (tD X (jJ g g' fa fb fc)):=by
 intro pins s σ H Q I h;obtain⟨P,α,env,S,r,re,af⟩:=h;refine Compare_chain (thn (zI ha I r re af) λvv s1 ⟨v,H1,P1,α1,d,S1,G1,af1⟩=>chain_link (thn (zI hb G1.inv G1.rel G1.env (qR.base G1.same G1.pre af1)) λuu s2 ⟨u,H2,P2,α2,d',S2,G2,af2⟩ =>
  thn (JL ho G2.inv G2.rel G1.val G2.val (Rep.mono G2.same G2.pre _ _ G1.rep) G2.rep (qR.base G2.same G2.pre af2)) λw s3 ⟨y,H3,P3,α3,z,S3,I3,r3,rl3,rp3,e3,e4,af3⟩=>?_)) hm
 cases ht:yI z S3 with
 |none=>simp only[ht] at af3;exact Al af3
 |some k =>
  simp only[ht] at af3;have tv:=u0 rl3 rp3 ht;refine thn (pH pins s3 σ H3 y w (λk' H'=>k'=k/\H'=H3) I3 r3 ⟨k,tv,rfl,rfl⟩) λk' s4 ⟨H4,I4,hk,hH⟩=>?_;subst hk;subst hH;cases k' with
  |false=>exact ite_ff ⟨y,H4,I4,r3,af3 y H4 P3 α3 rl3 e3 e4 rp3⟩
  |true =>
   refine ite_tt (chain_last (thn (zI hc I4 rl3 (G2.env.mono e3 e4) (qR.base e3 e4 af3)) λww s5 ⟨w',H5,P5,α5,d5,S5,G5,af5⟩=>?_));exact ho' pins σ H5 s5 P5 α5 S5 u w' uu ww d' d5 Q G5.inv G5.rel G2.val G5.val (Rep.mono (e3.trans G5.same) (e4.trans G5.pre) _ _ G2.rep) G5.rep (qR.base G5.same G5.pre af5)
noncomputable def uF (t:DT):DT:=λenv S=>(t env S).bind λb S1=>.ok (!b) S1
noncomputable def wI (t u:DT):DT:=λenv S=>(t env S).bind λb S1=>if b then u env S1 else .ok false S1
noncomputable def pQ (t u:DT):DT:=λenv S=>(t env S).bind λb S1=>if b then .ok true S1 else u env S1
theorem U1 (ha:PT X a (tDT X ta)):PT X (.UnaryOp .Not a pos) (tDT X (uF ta)):=by
 intro pins s σ H Q I h;obtain⟨P,α,env,S,r,re,af⟩:=h;refine isTrue_not (thn (vU (λQ' q=>ha pins s σ H Q' I q) r re af) λb s1 ⟨H1,P1,α1,S1,I1,r1,re1,e1,e2,af1⟩=>⟨H1,I1,af1 H1 P1 α1 r1 e1 e2⟩)
def PWD (X:Cx)(e:AA)(t:DT):Prop:=PW X e (tDT X t)
theorem PWD.pt {t:DT}(h:PWD X e t):PT X e (tDT X t):=h _
theorem X8 (ha:PT X a (tDT X ta)):PWD X (.BoolOp .And [a] pos) ta:=WQ ha
theorem U4 (ha:PT X a (tDT X ta)):PWD X (.BoolOp .Or [a] pos) ta:=K7 ha
theorem U3 {rest:Aa AA}(ha:PT X a (tDT X ta))(hb:PWD X (.BoolOp .And (b::rest) pos) tb):PWD X (.BoolOp .And (a::b::rest) pos) (wI ta tb):=by
 intro wh pins s σ H Q I h;obtain⟨P,α,env,S,r,re,af⟩:=h;refine isTrue_and (thn (vU (λQ' q=>ha pins s σ H Q' I q) r re af) λk s1 ⟨H1,P1,α1,S1,I1,r1,re1,e1,e2,af1⟩=>?_);cases k with
 |true=>exact hb wh pins s1 σ H1 Q I1 ⟨P1,α1,env,S1,r1,re1,yQ.base e1 e2 af1⟩
 |false=>exact⟨H1,I1,af1 H1 P1 α1 r1 e1 e2⟩
theorem PH {rest:Aa AA}(ha:PT X a (tDT X ta))(hb:PWD X (.BoolOp .Or (b::rest) pos) tb):PWD X (.BoolOp .Or (a::b::rest) pos) (pQ ta tb):=by
 intro wh pins s σ H Q I h;obtain⟨P,α,env,S,r,re,af⟩:=h;refine isTrue_or (thn (vU (λQ' q=>ha pins s σ H Q' I q) r re af) λk s1 ⟨H1,P1,α1,S1,I1,r1,re1,e1,e2,af1⟩=>?_);cases k with
 |true=>exact⟨H1,I1,af1 H1 P1 α1 r1 e1 e2⟩
 |false=>exact hb wh pins s1 σ H1 Q I1 ⟨P1,α1,env,S1,r1,re1,yQ.base e1 e2 af1⟩
noncomputable def uE (f g:DE):DE:=λenv S=>(f env S).bind λx S1=>match yI x S1 with
 |some true=>g env S1
 |some false=>.ok x S1
 |none=>.bad
noncomputable def aQ (f:DE):DE:=λenv S=>(f env S).bind λx S1=>match yI x S1 with
 |some b=>.ok (.bl (!b)) S1
 |none=>.bad
theorem VJ  (h:PE X a (tD X fa)):PE X (.BoolOp op [a] pos) (tD X fa):=JW h
theorem GG {pins:Aa (Ad × AR)}{s:Ag}{σ:_L.St}{H:Hp}{v:V}{k:Aq}{R:Aq->Ag->Prop}(I:Inv X pins σ H s)(rv:qI v vv)(t:dF X.K v H k)(h:∀ s',Inv X pins σ H s'->R k s') :
  Ar (As X.prog X.w) X.A (truthy vv) R X.xe s:=thn (pH pins s σ H v vv (λk' H'=>k'=k/\H'=H) I rv ⟨k,t,rfl,rfl⟩) λk' s4 ⟨H4,I4,hk,hH⟩=>by subst hk;subst hH;exact h s4 I4
theorem VA {rest:Aa AA}(ha:PE X a (tD X fa))(hb:PE X (.BoolOp .And (b::rest) pos) (tD X fb)):PE X (.BoolOp .And (a::b::rest) pos) (tD X (uE fa fb)):=by
 intro pins s σ H Q I h;obtain⟨P,α,env,S,r,re,af⟩:=h;refine BoolOp_and (thn (zI ha I r re af) λvv s1 ⟨v,H1,P1,α1,d,S1,G1,af1⟩=>?_);cases ht:yI d S1 with
 |none=>simp only[ht] at af1;exact Al af1
 |some k =>
  simp only[ht] at af1;refine GG G1.inv G1.val (u0 G1.rel G1.rep ht) λs2 I2=>?_;cases k with
  |true=>exact hb pins s2 σ H1 Q I2 ⟨P1,α1,env,S1,G1.rel,G1.env,qR.base G1.same G1.pre af1⟩
  |false=>exact⟨v,H1,I2,G1.val,af1 v H1 P1 α1 G1.rel G1.same G1.pre G1.rep⟩
theorem VI (ha:PE X a (tD X fa)):PE X (.UnaryOp .Not a pos) (tD X (aQ fa)):=by
 intro pins s σ H Q I h;obtain⟨P,α,env,S,r,re,af⟩:=h;refine UnaryOp_ (thn (zI ha I r re af) λvv s1 ⟨v,H1,P1,α1,d,S1,G1,af1⟩=>?_);cases ht:yI d S1 with
 |none=>simp only[ht] at af1;exact Al af1
 |some k =>
  simp only[ht] at af1;exact not_of (GG G1.inv G1.val (u0 G1.rel G1.rep ht) λs2 I2=>⟨.bl (!k),H1,I2,rfl,af1 (.bl (!k)) H1 P1 α1 G1.rel G1.same G1.pre (by simp only[Rep])⟩)
noncomputable def dIf (t:DT)(f g:DE):DE:=λenv S=>(t env S).bind λb S1=>if b then f env S1 else g env S1
theorem P8 (hc:PT X c (tDT X ta))(ha:PE X a (tD X fa))(hb:PE X b (tD X fb)):PE X (.IfExp c a b pos) (tD X (dIf ta fa fb)):=by
 intro pins s σ H Q I h;obtain⟨P,α,env,S,r,re,af⟩:=h;refine wpAny_IfExp (thn (vU (λQ' q=>hc pins s σ H Q' I q) r re af) λk s1 ⟨H1,P1,α1,S1,I1,r1,re1,e1,e2,af1⟩=>?_);cases k with
 |true=>exact ha pins s1 σ H1 Q I1 ⟨P1,α1,env,S1,r1,re1,qR.base e1 e2 af1⟩
 |false=>exact hb pins s1 σ H1 Q I1 ⟨P1,α1,env,S1,r1,re1,qR.base e1 e2 af1⟩
end
@[inline] def Res.toS {β:Type}(env:qH)(r:Res β)(k:β->Sto->Out):Out:=
 match r with
 |.ok d S=>k d S
 |.ex c x S=>.ex c x env S
 |.bad=>.bad
section
variable {X:Cx}{a b c e:AA}{pos:CG}{fa fb fc:DE}{ta tb:DT}{f g:DS}{st:Cs}{rest:Aa Cs}
noncomputable def zW:DS:=λenv S=>.nx env S
noncomputable def qY (f g:DS):DS:=λenv S=>match f env S with
 |.nx env1 S1=>g env1 S1
 |o=>o
theorem VV:PSs X [] (tDS X zW):=K5 WN λD σ H ⟨P,α,env,S,r,re,af⟩=>af σ H P α r re (qF.refl _) (AF _)
theorem X3 (h1:PS X st (tDS X f))(h2:PSs X rest (tDS X g)):PSs X (st::rest) (tDS X (qY f g)):=K5 (oK h1 h2) λD σ H ⟨P,α,env,S,r,re,af⟩=>by
 refine⟨P,α,env,S,r,re,?_⟩;unfold qY at af;cases q:f env S with
 |nx env1 S1 =>
  rw[q] at af;exact λσ' H' P' α' r' re' e1 e2=>⟨P',α',env1,S1,r',re',z0.base e1 e2 af⟩
 |rt d S1=>rw[q] at af;exact af
 |bk env1 S1=>rw[q] at af;exact af
 |ct env1 S1=>rw[q] at af;exact af
 |ex c x env1 S1=>rw[q] at af;exact af
 |bad=>rw[q] at af;exact af
theorem VW (h1:PS X st (tDS X f)):PSs X [st] (tDS X f):=WO h1
theorem yE {β:Type}{P:Hp}{α:Aa Ad}{env:qH}{r:Res β}{k:β->Sto->Out}{D:Ends}(h:z0 X P α (r.toS env k) D):qJ X P α r λd S=>z0 X P α (k d S) D:=by
 cases r with
 |ok d S=>exact h
 |ex c x S=>exact h
 |bad=>exact h
inductive GotS (X:Cx)(pins:Aa (Ad × AR))(σ : _L.St)(env:qH)(P:Hp)(α : Aa Ad)(u:Ac)(s1:Ag)(k:D->Sto->Out)(E:Ends):Prop
 |mk (v:V) (H1 P1:Hp) (α1:Aa Ad) (d:D) (S1:Sto) (G:Got X pins σ env P α u s1 v H1 P1 α1 d S1) (q:z0 X P1 α1 (k d S1) E):GotS X pins σ env P α u s1 k E
theorem gP {k:D->Sto->Out}{pins:Aa (Ad × AR)}{s:Ag}{σ:_L.St}{H P:Hp}{α:Aa Ad}{env:qH}{D:Ends}(he:PE X e (tD X fa))(I:Inv X pins σ H s)(r:Rel X.K H P α S)
  (re:qV X.K P α σ env) (af:z0 X P α ((fa env S).toS env k) D) :
  Ar (As X.prog X.w) X.A (eval e X.env) (λu s1=>GotS X pins σ env P α u s1 k D) X.xe s:=by
 have af1:qJ X P α ((fa env S).bind λd S=>.ok d S) λd S=>z0 X P α (k d S) D:=by
  have:=yE af;cases q:fa env S <;> rw[q] at this <;> exact this
 exact thn (zI he I r re af1) λu s1 ⟨v,H1,P1,α1,d,S1,G,q⟩=>⟨v,H1,P1,α1,d,S1,G,z0.base G.same G.pre q⟩
noncomputable def w5 (f:DE):DS:=λenv S=>(f env S).toS env λ_ S1=>.nx env S1
theorem X4 (he:PE X e (tD X fa))(hs:Jg e none pos.line X.env=pure false:=by rfl):PS X (.Expr e pos) (tDS X (w5 fa)):=by
 intro pins s σ H D I h;obtain⟨P,α,env,S,r,re,af⟩:=h;exact wpAny_Expr_any (thn (gP he I r re af) λv s1 ⟨x,H1,P1,α1,d,S1,G,q⟩=>⟨σ,H1,G.inv,q σ H1 P1 α1 G.rel G.env (qF.refl _) (AF _)⟩) I.quiet hs
noncomputable def zE (f:DE):DS:=λenv S=>(f env S).toS env λd S1=>.rt d S1
theorem VX (he:PE X e (tD X fa)):PS X (.Return (Ab e) pos) (tDS X (zE fa)):=by
 intro pins s σ H D I h;obtain⟨P,α,env,S,r,re,af⟩:=h;exact wpAny_Return_some (thn (gP he I r re af) λv s1 ⟨x,H1,P1,α1,d,S1,G,q⟩=>⟨x,σ,H1,G.inv,G.val,q x H1 P1 α1 G.rel (qF.refl _) (AF _) G.rep⟩)
noncomputable def sIf (t:DT)(f g:DS):DS:=λenv S=>(t env S).toS env λb S1=>if b then f env S1 else g env S1
theorem PD {as bs:Aa Cs}(hc:PT X c (tDT X ta))(ha:PSs X as (tDS X f))(hb:PSs X bs (tDS X g)):PS X (.If c as bs pos) (tDS X (sIf ta f g)):=by
 intro pins s σ H D I h;obtain⟨P,α,env,S,r,re,af⟩:=h;have af1:qJ X P α ((ta env S).bind λd S=>.ok d S) λb S=>z0 X P α (if b then f env S else g env S) D:=by
  have:=yE af;cases q:ta env S <;> rw[q] at this <;> exact this
 refine wpAny_If (thn (vU (λQ' q=>hc pins s σ H Q' I q) r re af1) λk s1 ⟨H1,P1,α1,S1,I1,r1,re1,e1,e2,af2⟩=>?_);cases k with
 |true=>exact ha pins s1 σ H1 D I1 ⟨P1,α1,env,S1,r1,re1,z0.base e1 e2 af2⟩
 |false=>exact hb pins s1 σ H1 D I1 ⟨P1,α1,env,S1,r1,re1,z0.base e1 e2 af2⟩
abbrev DG:=D->qH->Sto->Res qH
abbrev DGs:=Aa D->qH->Sto->Res qH
def OkE (X:Cx)(P:Hp)(α : Aa Ad)(Q:_L.St->Hp->Prop)(env':qH)(S':Sto):Prop:=∀ σ' H' P' α',Rel X.K H' P' α' S'->qV X.K P' α' σ' env'->qF P P'->α<+:α'->Q σ' H'
def tDG (X:Cx)(g:DG):TG:=λv σ H Q=>∃ P α env S d,Rel X.K H P α S/\qV X.K P α σ env/\Rep X.K P α d v/\qJ X P α (g d env S) (OkE X P α Q)
def tY (X:Cx)(g:DGs):TGs:=λvs σ H Q=>∃ P α env S ds,Rel X.K H P α S/\qV X.K P α σ env/\qE X.K P α ds vs/\qJ X P α (g ds env S) (OkE X P α Q)
theorem qV.set {K:Ah}{P:Hp}{α:Aa Ad}{σ:_L.St}{env:qH}{d:D}{v:V}(re:qV K P α σ env)(i:Ai)(rp:Rep K P α d v):qV K P α (σ.set i (Ab v)) (env.set i (Ab d)):=by
 refine⟨by simp[re.1],λj d' e=>?_⟩
 by_cases hj:i=j
 .subst hj
  by_cases hi:i<env.length
  .rw[By hi] at e
   cases e;exact⟨v,by rw[By (by rw[<- re.1];exact hi)],rp⟩
  .rw[Gv (by simp;omega)] at e;cases e
 .rw[Bs hj] at e ⊢
  exact re.2 j d' e
noncomputable def gNm (i:Ai):DG:=λd env S=>.ok (env.set i (Ab d)) S
theorem ZY {i:Ai}{x:Ap}(hN:X.N.Nodup)(hi:X.N[i]? = Ab x:=by rfl)(hx:Loc X.env.scope x:=by first|exact NT rfl|exact No rfl)(hf:X.fn x=true\/X.env.scope.names.lookup x=Ab .local:=by first|exact .inl rfl|exact .inr rfl|assumption):PG X (.Name x pos) (tDG X (gNm i)):=by
 intro pins s σ H v u Q I rv h;obtain⟨P,α,env,S,d,r,re,rp,af⟩:=h;exact WH hN hi hx hf pins s σ H v u Q I rv (af _ H P α r (re.set i rp) (qF.refl _) (AF _))
noncomputable def k9:DGs:=λds env S=>match ds with
 |[]=>.ok env S
 |_=>.bad
noncomputable def wK (g:DG)(gs:DGs):DGs:=λds env S=>match ds with
 |d::r=>(g d env S).bind λenv1 S1=>gs r env1 S1
 |[]=>.bad
theorem ZZ:PGs X [] (tY X k9):=by
 intro pins s σ H vs us Q I rv h;obtain⟨P,α,env,S,ds,r,re,rp,af⟩:=h;cases ds with
 |nil=>exact WI pins s σ H vs us Q I rv ⟨rp.nil_inv,af σ H P α r re (qF.refl _) (AF _)⟩
 |cons d ds=>exact Al af
theorem aZ {es:Aa AA}{g:DG}{gs:DGs}(h1:PG X e (tDG X g))(h2:PGs X es (tY X gs))(hs:(Df (e::es) X.env).map (·.2)=assign e X.env::(Df es X.env).map (·.2):=by rfl):PGs X (e::es) (tY X (wK g gs)):=by
 intro pins s σ H vs us Q I rv h;obtain⟨P,α,env,S,ds,r,re,rp,af⟩:=h;cases ds with
 |nil=>exact Al af
 |cons d ds =>
  obtain⟨w,ws,rfl,p1,p2⟩:=rp.cons_inv;refine oI h1 h2 hs pins s σ H _ us Q I rv ⟨w,ws,rfl,P,α,env,S,d,r,re,p1,?_⟩;have af':qJ X P α ((g d env S).bind λenv1 S1=>gs ds env1 S1) (OkE X P α Q):=af;cases q:g d env S with
  |bad=>rw[q] at af';exact af'
  |ex c x S'=>rw[q] at af';exact af'
  |ok env1 S1 =>
   rw[q] at af';intro σ' H' P' α' r' re' e1 e2;refine⟨P',α',env1,S1,ds,r',re',qE.mono e1 e2 _ _ p2,qJ.base' e1 e2 (λenv' S' ok σ2 H2 P2 α2 r2 re2 e3 e4=>ok σ2 H2 P2 α2 r2 re2 (e1.trans e3) (e2.trans e4)) af'⟩
noncomputable def gTp (n:Ai)(gs:DGs):DG:=λd env S=>match d with
 |.tup xs=>if xs.length=n then gs xs env S else .bad
 |_=>.bad
set_option tactic.hygienic true in
theorem VQ {es:Aa AA}{k:Ai}{gs:DGs}{n:Ai}(hc:X.calm=true)(h:PGs X es (tY X gs))(hn:(Df es X.env).length=n:=by rfl)(hst:(Df es X.env).findIdx? (·.1)=none:=by rfl):PG X (.Tuple es k pos) (tDG X (gTp n gs)):=by
 intro pins s σ H v u Q I rv hw;obtain⟨P,α,env,S,d,r,re,rp,af⟩:=hw;cases d with
 |tup xs =>
  simp only[Rep] at rp;obtain⟨a,vs,rfl,q,t⟩:=rp;simp only[gTp] at af
  split at af
  .rename_i hl
   exact K1 hc h hn hst pins s σ H _ u Q I rv ⟨a,vs,rfl,xF r.sub q,by rw[<- t.length];exact hl,P,α,env,S,xs,r,re,t,af⟩
  .exact Al af
 |_=>exact Al af
abbrev G3:=D->D->D->Sto->Res H8
def OkU (X:Cx)(P:Hp)(α : Aa Ad)(Q:Hp->Prop)(_:H8)(S':Sto):Prop:=∀ H' P' α',Rel X.K H' P' α' S'->qF P P'->α<+:α'->Q H'
def mC (X:Cx)(g:G3):YV:=λo i v H Q=>∃ P α S a b d,Rel X.K H P α S/\Rep X.K P α a o/\Rep X.K P α b i/\Rep X.K P α d v/\qJ X P α (g a b d S) (OkU X P α Q)
noncomputable def gSb (fo fi:DE)(g:G3):DG:=λd env S=>(fo env S).bind λo S1=>(fi env S1).bind λi S2=>(g o i d S2).bind λ_ S3=>.ok env S3
theorem VP {o i:AA}{fo fi:DE}{g:G3}(ho:PE X o (tD X fo))(hi:PE X i (tD X fi))(hs:mE X (mC X g))
  (ha:∀ v,assign (.Subscript o i pos) X.env v=(do
   let ov <- holding [v] (eval o X.env)
   let iv <- holding [v,ov] (eval i X.env)
   Kq pos
   holding [v,ov,iv] (Nu ov iv v)
   release [v,ov,iv] []):=by intro _;rfl):PG X (.Subscript o i pos) (tDG X (gSb fo fi g)):=by
 intro pins s σ H v u Q I rv h;obtain⟨P,α,env,S,d,r,re,rp,af⟩:=h;rw[ha];refine Af (Bx (thn (zI ho I r re af) λov s1 ⟨x,H1,P1,α1,d1,S1,G1,af1⟩=>?_));refine Af (Bx (thn (zI hi G1.inv G1.rel G1.env (P:=P1) (α:=α1) (Ok:=OkE X P1 α1 Q) (qJ.base' G1.same G1.pre (λenv' S' ok σ2 H2 P2 α2 r2 re2 e3 e4=>ok σ2 H2 P2 α2 r2 re2 (G1.same.trans e3) (G1.pre.trans e4)) af1)) λiv s2 ⟨y,H2,P2,α2,d2,S2,G2,af2⟩=>?_));refine Af (wpAny_standAt (Af (Bx (thn (hs pins s2 σ H2 x y v ov iv u (λH3=>Q σ H3) G2.inv G1.val G2.val rv ⟨P2,α2,S2,d1,d2,d,G2.rel,Rep.mono G2.same G2.pre _ _ G1.rep,G2.rep,Rep.mono (G1.same.trans G2.same) (G1.pre.trans G2.pre) _ _ rp,?_⟩) λ_ s3 ⟨H3,I3,q3⟩=>?_))))
 .cases q:g d1 d2 d S2 with
  |bad=>rw[q] at af2;exact af2
  |ex c x S'=>rw[q] at af2;exact λu s' z=>af2 u s' (z.base G2.same G2.pre)
  |ok w S3 =>
   rw[q] at af2;exact λH' P' α' r' e1 e2=>af2 σ H' P' α' r' (G2.env.mono e1 e2) (G2.same.trans e1) (G2.pre.trans e2)
 .exact wpAny_release ⟨σ,H3,I3,q3⟩
noncomputable def zM (f:DE)(g:DG):DS:=λenv S=>(f env S).toS env λd S1=>(g d env S1).toS env λenv' S2=>.nx env' S2
theorem sU {g:DG}{d:D}{env:qH}{P:Hp}{α:Aa Ad}{D':Ends}(h:z0 X P α ((g d env S).toS env λenv' S2=>.nx env' S2) D'):qJ X P α (g d env S) (OkE X P α D'.nx):=by
 cases q:g d env S with
 |bad=>rw[q] at h;exact h
 |ex c x S'=>rw[q] at h;exact h
 |ok env1 S1=>rw[q] at h;exact h
theorem VT {tg:AA}{g:DG}(he:PE X e (tD X fa))(hg:PG X tg (tDG X g))(hs:swapsWithSole [tg] e pos.line X.env=pure false:=by rfl)(hw:swappedStores [tg] e X.env=pure none:=by rfl)
  (h1:(Df [tg] X.env).map (·.2)=[assign tg X.env]:=by rfl):PS X (.Assign [tg] e pos) (tDS X (zM fa g)):=by
 intro pins s σ H D I h;obtain⟨P,α,env,S,r,re,af⟩:=h;refine wpAny_Assign_stores (thn (gP he I r re af) λv s1 ⟨x,H1,P1,α1,d,S1,G,q⟩=>?_) hs hw;rw[h1];exact thn (hg pins s1 σ H1 x v _ G.inv G.val ⟨P1,α1,env,S1,d,G.rel,G.env,G.rep,sU q⟩) λ_ s2 q=>q
theorem VY {i:Ai}{x:Ap}{pos':CG}(hN:X.N.Nodup)(he:PE X e (tD X fa))(hi:X.N[i]? = Ab x:=by rfl)(hx:Loc X.env.scope x:=by first|exact NT rfl|exact No rfl)(hs:Jg e (Ab (.Name x pos')) pos.line X.env=pure false:=by rfl)
  (hf:X.fn x=true\/X.env.scope.names.lookup x=Ab .local:=by first|exact .inl rfl|exact .inr rfl|assumption):PS X (.Assign [.Name x pos'] e pos) (tDS X (zM fa (gNm i))):=by
 intro pins s σ H D I h;obtain⟨P,α,env,S,r,re,af⟩:=h;refine wpAny_Assign_Name (thn (gP he I r re af) λv s1 ⟨y,H1,P1,α1,d,S1,G,q⟩=>?_) hs;exact gI G.inv hN hi hx G.val (λs2 I2=>⟨_,H1,I2,q _ H1 P1 α1 G.rel (G.env.set i G.rep) (qF.refl _) (AF _)⟩) hf
end
structure ItD (K:Ah)(J:It)(P:Hp)(α : Aa Ad)(ds:Aa D):Prop where
 go:∀ i H P1 α1 S,i<ds.length->Rel K H P1 α1 S->qF P P1->α<+:α1->J.go i H
 yld:∀ i H x H' P1 α1 S,i<ds.length->Rel K H P1 α1 S->qF P P1->α<+:α1->J.yld i H x H'->∃ P2 d,ds[i]? = Ab d/\Rel K H' P2 α1 S/\qF P1 P2/\Rep K P2 α1 d x
 stop:∀ i H P1 α1 S,ds.length<=i->Rel K H P1 α1 S->qF P P1->α<+:α1->J.stop i H
abbrev DI:=qH->Sto->Res (Aa D)
def OkI (X:Cx)(P:Hp)(α : Aa Ad)(R:It->Hp->Prop)(ds:Aa D)(S':Sto):Prop:=∀ J H' P' α',Rel X.K H' P' α' S'->qF P P'->α<+:α'->ItD X.K J P' α' ds->R J H'
inductive tDI (X:Cx)(f:DI)(σ : _L.St)(H:Hp)(R:It->Hp->Prop):Prop
 |mk (P:Hp) (α : Aa Ad) (env:qH) (S:Sto) (r:Rel X.K H P α S) (re:qV X.K P α σ env) (af:qJ X P α (f env S) (OkI X P α R)):tDI X f σ H R
noncomputable def yG {β:Type}(o:Ak β)(S:Sto):Res β:=match o with
 |some b=>.ok b S
 |none=>.bad
theorem yP {X:Cx}{β:Type}{o:Ak β}{P:Hp}{α:Aa Ad}{Ok:β->Sto->Prop}(h:qJ X P α (yG o S) Ok):∃ b,o=Ab b/\Ok b S:=by
 cases o with
 |none=>exact Al h
 |some b=>exact⟨b,rfl,h⟩
theorem xY {X:Cx}{β:Type}{c:Prop}[Ep c]{r:Res β}{P:Hp}{α : Aa Ad}{Ok:β->Sto->Prop}(h:qJ X P α (if c then r else .bad) Ok):c/\qJ X P α r Ok:=by
 by_cases z:c
 .rw[A0 z] at h;exact⟨z,h⟩
 .rw[Aw z] at h;exact Al h
theorem MV {X:Cx}{β:Type}{ds:Aa D}{g:D->Res β}{P:Hp}{α:Aa Ad}{Ok:β->Sto->Prop}(h:qJ X P α (match ds with|[d]=>g d|_=>.bad) Ok):∃ d,ds=[d]/\qJ X P α (g d) Ok:=by
 cases ds with
 |nil=>exact Al h
 |cons d ds =>
  cases ds with
  |nil=>exact⟨d,rfl,h⟩
  |cons _ _=>exact Al h
theorem bB {β:Type}{i:Ai}{f:Aa D->Ak β}{g:Aa (Key × D)->Ak β}{b:β}(h:(match S[i]? with|some (.lst xs)=>f xs|some (.dct kvs)=>g kvs|_=>none)=Ab b):(∃ xs,S[i]? = Ab (.lst xs)/\f xs=Ab b)\/∃ kvs,S[i]? = Ab (.dct kvs)/\g kvs=Ab b:=by
 cases e:S[i]? with
 |none=>rw[e] at h;exact nn h
 |some m =>
  rw[e] at h;cases m with
  |lst xs=>exact .inl ⟨xs,rfl,h⟩
  |dct kvs=>exact .inr ⟨kvs,rfl,h⟩
  |_=>exact nn h
theorem UY {β:Type}{i:Ai}{f:Aa D->Ak β}{b:β}(h:(match S[i]? with|some (.lst xs)=>f xs|_=>none)=Ab b):∃ xs,S[i]? = Ab (.lst xs)/\f xs=Ab b:=by
 cases e:S[i]? with
 |none=>rw[e] at h;exact nn h
 |some m =>
  rw[e] at h;cases m with
  |lst xs=>exact⟨xs,rfl,h⟩
  |_=>exact nn h
noncomputable def Z0 {β:Type}(S:Sto)(n:Ai)(f:Aa D->Res β) : Res β:=match S[n]? with
 |some (.lst xs)=>f xs
 |_=>.bad
theorem gD {X:Cx}{β:Type}{n:Ai}{f:Aa D->Res β}{P:Hp}{α:Aa Ad}{Ok:β->Sto->Prop}(h:qJ X P α (Z0 S n f) Ok):∃ xs,S[n]? = Ab (.lst xs)/\qJ X P α (f xs) Ok:=by
 unfold Z0 at h;cases e:S[n]? with
 |none=>rw[e] at h;exact Al h
 |some m =>
  rw[e] at h;cases m with
  |lst xs=>exact⟨xs,rfl,h⟩
  |_=>exact Al h
noncomputable def t9:D->Ak (Aa D)
 |.tup xs=>Ab xs
 |.lst xs=>Ab xs
 |_=>none
noncomputable def yU (f:DE):DI:=λenv S=>(f env S).bind λd S1=>yG (t9 d) S1
section
variable {X:Cx}{K:Ah}{tg e:AA}{fa:DE}{pos:CG}
theorem iJ {P:Hp}{α:Aa Ad}{a:Ad}{ds:Aa D}(q:SqL K P a vs)(t:qE K P α ds vs):ItD K (Itl K a) P α ds where
 go:=λi H P1 α1 S hi r e _=>⟨vs,vs[i]'(by rw[<- t.length];exact hi),(e.trans r.sub).seq q,by simp⟩
 yld:=λi H x H' P1 α1 S hi r e e2 y=>by
  obtain⟨rfl,y⟩:=y;have hx:=y vs ((e.trans r.sub).seq q);obtain⟨v,h1,h2⟩:=t.get (Ao hi);rw[hx] at h1;cases h1;exact⟨P1,_,Ao hi,r,qF.refl _,Rep.mono e e2 _ _ h2⟩
 stop:=λi H P1 α1 S hi r e _=>⟨vs,(e.trans r.sub).seq q,by rw[<- t.length];exact hi⟩
theorem XM {P:Hp}{α:Aa Ad}{a:Ad}{ds:Aa D}(q:SqT K P a vs)(t:qE K P α ds vs):ItD K (Itt K a) P α ds where
 go:=λi H P1 α1 S hi r e _=>⟨vs,vs[i]'(by rw[<- t.length];exact hi),y9 (e.trans r.sub) q,by simp⟩
 yld:=λi H x H' P1 α1 S hi r e e2 y=>by
  obtain⟨rfl,y⟩:=y;have hx:=y vs (y9 (e.trans r.sub) q);obtain⟨v,h1,h2⟩:=t.get (Ao hi);rw[hx] at h1;cases h1;exact⟨P1,_,Ao hi,r,qF.refl _,Rep.mono e e2 _ _ h2⟩
 stop:=λi H P1 α1 S hi r e _=>⟨vs,y9 (e.trans r.sub) q,by rw[<- t.length];exact hi⟩
theorem iK {pins:Aa (Ad × AR)}{σ:_L.St}{H P:Hp}{α:Aa Ad}{s:Ag}{v:V}{d:D}{ds:Aa D}(I:Inv X pins σ H s)(r:Rel X.K H P α S)(rv:qI v vv)(rp:Rep X.K P α d v)(hd:t9 d=Ab ds)
  (q:OkI X P α R ds S):Ar (As X.prog X.w) X.A (LQ vv) (PIE X pins σ tg R) X.xe s:=by
 cases d with
 |tup xs =>
  cases hd;simp only[Rep] at rp;obtain⟨a,vs,rfl,sq,t⟩:=rp;cases rv;obtain⟨its,rv,p,hz⟩:=I.tuple (xF r.sub sq);refine HB (show s.heap.IsTuple a its.toArray from p) ?_
  refine⟨s.heap.objs.size,[s.heap.objs.size],_,_,H,rfl,I.kept (t':=s.toks) λb o e=>Aj _ e,sM a _,⟨_,AD _ rfl,rfl,rfl⟩,λb hb=>?_,q _ _ P α r (qF.refl _) (AF _) (XM sq t)⟩;have e:b=s.heap.objs.size:=by simpa using hb
  subst e;exact I.fpOk (Au _) (I.hok.fresh (Au _))
 |lst xs =>
  cases hd;simp only[Rep] at rp;obtain⟨a,vs,rfl,sq,t⟩:=rp;cases rv;obtain⟨its,rv,p,hz⟩:=I.list ((xB r.sub sq).l);refine E7 p.isList ?_;refine⟨s.heap.objs.size,[s.heap.objs.size],_,_,H,rfl,I.kept (t':=s.toks) λb o e=>Aj _ e,cL a _,⟨_,AD _ rfl,rfl,rfl⟩,λb hb=>?_,q _ _ P α r (qF.refl _) (AF _) (iJ sq.l t)⟩;have e:b=s.heap.objs.size:=by simpa using hb
  subst e;exact I.fpOk (Au _) (I.hok.fresh (Au _))
 |_=>cases hd
theorem OkI.base {P P1:Hp}{α α1:Aa Ad}{ds:Aa D}(e:qF P P1)(h:α<+:α1)(k:OkI X P α R ds S):OkI X P1 α1 R ds S:=λJ H' P' α' r q1 q2 q3=>k J H' P' α' r (e.trans q1) (h.trans q2) q3
theorem VR (ha:PE X e (tD X fa)):PI X tg e (tDI X (yU fa)):=by
 intro pins s σ H R I h;obtain⟨P,α,env,S,r,re,af⟩:=h;refine thn (zI ha I r re af) λvv s1 ⟨v,H1,P1,α1,d,S1,G1,af1⟩=>?_;obtain⟨ds,e1,q⟩:=yP af1;exact iK G1.inv G1.rel G1.val G1.rep e1 (q.base G1.same G1.pre)
noncomputable def x8 (lo:Am)(n:Ai):Aa D:=(DD n).map λ(i:Ai)=>D.int (lo+(i:Am))
theorem j6 (lo:Am)(n:Ai):(x8 lo n).length=n:=by simp[x8]
theorem f7 {P:Hp}{α:Aa Ad}{lo:Am}{n:Ai}:ItD K (Itr lo n) P α (x8 lo n) where
 go:=λi H P1 α1 S hi r e _=>by rw[j6] at hi;exact hi
 yld:=λi H x H' P1 α1 S hi r e e2 y=>by
  obtain⟨rfl,rfl⟩:=y;rw[j6] at hi;exact⟨P1,.int (lo+i),by simp[x8,hi],r,qF.refl _,by simp only[Rep]⟩
 stop:=λi H P1 α1 S hi r e _=>by rw[j6] at hi;exact hi
noncomputable def j8 (ds:Aa D):Ak (Aa D):=match ds with
 |[.int j]=>if -(2 ^ 62)<=j/\j<2 ^ 62 then Ab (x8 0 j.toNat) else none
 |[.int i,.int j]=>if -(2 ^ 62)<=i/\i<2 ^ 62 /\ -(2 ^ 62)<=j/\j<2 ^ 62 then Ab (x8 i (j-i).toNat) else none
 |_=>none
noncomputable def uG (f:DA):DI:=λenv S=>(f env S).bind λds S1=>yG (j8 ds) S1
noncomputable def asI:D->Ak Am
 |.int i=>Ab i
 |_=>none
theorem kR {d:D}{i:Am}(h:asI d=Ab i):d=.int i:=by
 cases d with
 |int k=>exact congrArg D.int (Bg h)
 |_=>exact nn h
inductive RngV:Aa D->Aa D->Prop
 |one (j:Am) (h : -(2 ^ 62)<=j/\j<2 ^ 62):RngV [.int j] (x8 0 j.toNat)
 |two (i j:Am) (h : -(2 ^ 62)<=i/\i<2 ^ 62 /\ -(2 ^ 62)<=j/\j<2 ^ 62):RngV [.int i,.int j] (x8 i (j-i).toNat)
theorem BV (d:D):j8 [d]=(asI d).bind λj=>if -(2 ^ 62)<=j/\j<2 ^ 62 then Ab (x8 0 j.toNat) else none:=by cases d <;> rfl
theorem Z5 (d d':D):j8 [d,d']=(asI d).bind λi=>(asI d').bind λj=>if -(2 ^ 62)<=i/\i<2 ^ 62 /\ -(2 ^ 62)<=j/\j<2 ^ 62 then Ab (x8 i (j-i).toNat) else none:=by
 cases d with
 |int i=>cases d' <;> rfl
 |_=>rfl
theorem Y8 {ds its:Aa D}(h:j8 ds=Ab its):RngV ds its:=by
 cases ds with
 |nil=>exact nn h
 |cons d ds =>
  cases ds with
  |nil =>
   obtain⟨j,e,h⟩:=Es.mp ((BV d).symm.trans h);obtain⟨c,rfl⟩:=uQ h;rw[kR e];exact .one j c
  |cons d' ds =>
   cases ds with
   |nil =>
    obtain⟨i,e,h⟩:=Es.mp ((Z5 d d').symm.trans h);obtain⟨j,e',h⟩:=Es.mp h;obtain⟨c,rfl⟩:=uQ h;rw[kR e,kR e'];exact .two i j c
   |cons _ _ =>
    have h0:∀ d'' t,j8 (d::d'::d''::t)=none:=λd'' t=>by cases d <;> first|rfl|(cases d' <;> rfl)
    exact nn ((h0 _ _).symm.trans h)
theorem bG {P:Hp}{α:Aa Ad}{i:Am}{ds:Aa D}(r:qE K P α (.int i::ds) vs):∃ ws,vs=.int i::ws/\qE K P α ds ws:=by
 obtain⟨w,ws,rfl,p,t⟩:=r.cons_inv;exact⟨ws,congrArg (· :: ws) (by simpa only [Rep] using p),t⟩
theorem PI.weak {iter:AA}{t t':TI}(h:PI X tg iter t)(w:∀ σ H R,t' σ H R->t σ H R):PI X tg iter t':=λpins s σ H R I q=>h pins s σ H R I (w σ H R q)
end
section
variable {X:Cx}{tg a b:AA}{f:DA}{p pos:CG}
theorem i0 {e:AA}{es:Aa AA}(hg:Gl X "range")(hm:X.mg "range" = none)(ha:PA X (e::es) (tDA X f))(hs:A3 (e::es) X.env=(false,eval e X.env)::A3 es X.env:=by rfl)(hpl:(Dm pos (A3 es X.env)).any (·.1)=false:=by rfl) :
  PI X tg (.Call (.Name "range" p) (e::es) [] pos) (tDI X (uG f)):=by
 intro pins s σ H R I h;obtain⟨P,α,env,S,r,re,af⟩:=h;refine Call_ (xZ I hg hm boot_range (DN (thn (xD ha I r re af pos) λus s1 ⟨vs,H1,P1,α1,ds,S1,I1,rv,r1,re1,rp,e1,e2,af1⟩=>?_) hs hpl));obtain⟨its,hi,q⟩:=yP af1;cases Y8 hi with
 |one j c =>
  obtain⟨ws,rfl,t1⟩:=bG rp;cases t1.nil_inv;obtain⟨u,rfl,t,rfl⟩:=kJ rv;refine call_range_1 (tQ I1 om om c.1 c.2 ?_);have z:=q (Itr 0 j.toNat) H1 P1 α1 r1 e1 e2 f7;rw[Fw];exact z
 |two i j c =>
  obtain⟨ws,rfl,t1⟩:=bG rp;obtain⟨ws2,rfl,t2⟩:=bG t1;cases t2.nil_inv;obtain⟨u,u',rfl,⟨t,rfl⟩,t',rfl⟩:=sO rv;exact call_range_2 (tQ I1 c.1 c.2.1 c.2.2.1 c.2.2.2 (q (Itr i (j-i).toNat) H1 P1 α1 r1 e1 e2 f7))
noncomputable def vH (g:DG)(f:DS):Aa D->qH->Sto->Out
 |[],env,S=>.nx env S
 |d::ds,env,S=>(g d env S).toS env λenv1 S1=>match f env1 S1 with
  |.nx env2 S2=>vH g f ds env2 S2
  |.ct env2 S2=>vH g f ds env2 S2
  |.bk env2 S2=>.nx env2 S2
  |o=>o
noncomputable def yH (fi:DI)(g:DG)(f:DS):DS:=λenv S=>(fi env S).toS env λds S1=>vH g f ds env S1
inductive LoopW (X:Cx)(P1:Hp)(α1:Aa Ad)(g:DG)(f:DS)(ds:Aa D)(D:Ends)(i m:Ai)(σ : _L.St)(H:Hp):Prop
 |mk (hi:i<=ds.length) (hm:m=ds.length-i) (P2:Hp) (α2:Aa Ad) (env2:qH) (S2:Sto) (r:Rel X.K H P2 α2 S2) (re:qV X.K P2 α2 σ env2) (e1:qF P1 P2) (e2:α1<+:α2) (af:z0 X P2 α2 (vH g f (ds.drop i) env2 S2) D):LoopW X P1 α1 g f ds D i m σ H
theorem VU {iter:AA}{fi:DI}{g:DG}{f:DS}(hp:Jc (As X.prog X.w) X.A X.env X.xe)(hc:X.calm=true)(hi:PI X tg iter (tDI X fi))(hg:PG X tg (tDG X g))(hb:PSs X body (tDS X f))
  (hs:∀ x,D5 iter X.env x=pure x:=by intro _;rfl):PS X (.For tg iter body [] pos) (tDS X (yH fi g f)):=psW (K4 hp hc hi hg hb hs) λD σ H ⟨P,α,env,S,r,re,af⟩=>by
 refine⟨P,α,env,S,r,re,?_⟩;have af1:=yE af;cases q:fi env S with
 |bad=>rw[q] at af1;exact af1
 |ex c x S'=>rw[q] at af1;exact af1
 |ok ds S1 =>
  rw[q] at af1;have af2:z0 X P α (vH g f ds env S1) D:=af1;intro J H1 P1 α1 r1 e1 e2 it;refine⟨LoopW X P1 α1 g f ds D,
   ⟨ds.length,Fc _,rfl,P1,α1,env,S1,r1,re.mono e1 e2,qF.refl _,AF _,z0.base e1 e2 af2⟩,?_⟩
  rintro i m σ2 H2 ⟨hi,rfl,P2,α2,env2,S2,r2,re2,e3,e4,af3⟩;by_cases hlt:i<ds.length
  .refine .inr ⟨it.go i H2 P2 α2 S2 hlt r2 e3 e4,LoopW X P1 α1 g f ds D (i+1) (ds.length-(i+1)),λσ' H' w=>⟨_,?_,w⟩,λx H3 y=>?_⟩
   .omega
   .obtain⟨P3,d,hd,r3,e5,rp⟩:=it.yld i H2 x H3 P2 α2 S2 hlt r2 e3 e4 y
    have hdr:ds.drop i=d::ds.drop (i+1):=by
     rw[Dv hlt];rw[Ao hlt] at hd;rw[Bg hd]
    rw[hdr] at af3;have af4:=yE (z0.base e5 (AF _) af3);refine⟨P3,α2,env2,S2,d,r3,re2.mono e5 (AF _),rp,?_⟩;cases q2:g d env2 S2 with
    |bad=>rw[q2] at af4;exact af4
    |ex c x S'=>rw[q2] at af4;exact af4
    |ok env3 S3 =>
     rw[q2] at af4;intro σ4 H4 P4 α4 r4 re4 e6 e7;refine⟨P4,α4,env3,S3,r4,re4,?_⟩;have af5:=z0.base e6 e7 af4;cases q3:f env3 S3 with
     |bad=>simp only[q3] at af5;exact af5
     |ex c x env4 S4=>simp only[q3] at af5;exact af5
     |rt d4 S4=>simp only[q3] at af5;exact af5
     |bk env4 S4=>simp only[q3] at af5;exact af5
     |nx env4 S4 =>
      simp only[q3] at af5;exact λσ5 H5 P5 α5 r5 re5 e8 e9=>⟨hlt,rfl,P5,α5,env4,S4,r5,re5,((e3.trans e5).trans e6).trans e8,(e4.trans e7).trans e9,z0.base e8 e9 af5⟩
     |ct env4 S4 =>
      simp only[q3] at af5;exact λσ5 H5 P5 α5 r5 re5 e8 e9=>⟨hlt,rfl,P5,α5,env4,S4,r5,re5,((e3.trans e5).trans e6).trans e8,(e4.trans e7).trans e9,z0.base e8 e9 af5⟩
  .have hdr:ds.drop i=[]:=IQ om
   rw[hdr] at af3;exact .inl ⟨it.stop i H2 P2 α2 S2 om r2 e3 e4,af3 σ2 H2 P2 α2 r2 re2 (qF.refl _) (AF _)⟩
end
abbrev DF:=Aa D->Sto->Res D
section
variable {X:Cx}{x:Ap}{p pos:CG}{e:AA}{es:Aa AA}{F:DF}{fa:DA}
noncomputable def qP (F:DF)(fa:DA):DE:=λenv S=>(fa env S).bind λds S1=>F ds S1
theorem bO {pins:Aa (Ad × AR)}{s1:Ag}{σ:_L.St}{H1 P P1:Hp}{α α1:Aa Ad}{ds:Aa D}(hc:yA X u F)(I1:Inv X pins σ H1 s1)(r1:Rel X.K H1 P1 α1 S1)(rv:qL vs us)
  (rp:qE X.K P1 α1 ds vs) (e1:qF P P1) (e2:α<+:α1) (af:qJ X P α (F ds S1) (OkV X P α Q)):Ar (As X.prog X.w) X.A (call u us) (EP X pins σ Q) X.xe s1:=hc pins σ H1 s1 P1 α1 S1 vs us ds Q I1 r1 rv rp (qR.base e1 e2 af)
theorem aR {id:Bk}(hc:yA X (.builtin id) F)(hg:Gl X x)(hm:X.mg x=none)(hv:CW x=Ab (.builtin id))(ha:PA X (e::es) (tDA X fa))(hn:x ≠ "__name__":=by decide)(hdb:(x == ("__debug__" : Ap))=false:=by decide)
  (he:A3 (e::es) X.env=(false,eval e X.env)::A3 es X.env:=by rfl) (hpl:(Dm pos (A3 es X.env)).any (·.1)=false:=by rfl):PE X (.Call (.Name x p) (e::es) [] pos) (tD X (qP F fa)):=by
 intro pins s σ H Q I h;obtain⟨P,α,env,S,r,re,af⟩:=h;refine D0 (xZ I hg hm hv ?_ hn hdb);exact Hd (thn (xD ha I r re af pos) λus s1 ⟨vs,H1,P1,α1,ds,S1,I1,rv,r1,re1,rp,e1,e2,af1⟩=>bO hc I1 r1 rv rp e1 e2 af1) he hpl
theorem rC {T:Bk}(hc:yA X (.type T) F)(hg:Gl X x)(hm:X.mg x=none)(hv:CW x=Ab (.type T))(ha:PA X (e::es) (tDA X fa))(hn:x ≠ "__name__":=by decide)(hdb:(x == ("__debug__" : Ap))=false:=by decide)
  (he:A3 (e::es) X.env=(false,eval e X.env)::A3 es X.env:=by rfl) (hpl:(Dm pos (A3 es X.env)).any (·.1)=false:=by rfl):PE X (.Call (.Name x p) (e::es) [] pos) (tD X (qP F fa)):=by
 intro pins s σ H Q I h;obtain⟨P,α,env,S,r,re,af⟩:=h;refine D0 (xZ I hg hm hv ?_ hn hdb);exact DN (thn (xD ha I r re af pos) λus s1 ⟨vs,H1,P1,α1,ds,S1,I1,rv,r1,re1,rp,e1,e2,af1⟩=>bO hc I1 r1 rv rp e1 e2 af1) he hpl
end
theorem z9.there {P:A6}{w:AK}{H:Hp}{h:AC}{a:Ad}{o:HO}(x:z9 P w H h a o):∃ ob,h.get? a=Ab ob:=by
 cases o with
 |lst xs=>obtain⟨_,_,_,_,e⟩:=x;exact⟨_,e⟩
 |tup xs=>obtain⟨_,_,_,ob,e,_⟩:=x;exact⟨_,e⟩
 |dK kvs=>obtain⟨_,_,_,_,o,_,_,e,_⟩:=x;exact⟨_,e⟩
 |dT kvs=>obtain⟨_,_,_,_,o,_,_,e,_⟩:=x;exact⟨_,e⟩
 |set S n=>obtain⟨o,_,_,_,e,_⟩:=x;exact⟨_,e⟩
 |ins C dx fs=>obtain⟨_,_,_,e,_⟩:=x;exact⟨_,e⟩
 |own y=>obtain⟨_,e⟩:=x;exact⟨_,e⟩
 |xd fs=>obtain⟨_,⟨_,_,_,e,_⟩,_⟩:=x;exact⟨_,e⟩
 |rng lo hi=>obtain⟨_,_,_,e⟩:=x;exact⟨_,e⟩
 |frz ob u=>obtain⟨e,_⟩:=x;exact⟨_,e⟩
 |tbl ps=>exact⟨_,show h.get? a=Ab _ from x⟩
 |met f y=>exact⟨_,show h.get? a=Ab _ from x⟩
 |ext φ => obtain⟨_,e,_⟩:=x;exact e
section
variable {X:Cx}{pins:Aa (Ad × AR)}{σ : _L.St}{H:Hp}{s:Ag}{B h':AC}
abbrev Fn1 (X:Cx):Prop:=X.ex=[]/\X.stack=X.env::X.outer/\X.env.frame=Ab X.env.locals
theorem Fn1.mem (F:Fn1 X){b:Ad}:b∈frs X.stack↔b=X.env.locals\/b∈X.fs:=by
 rw[F.2.1];unfold frs;rw[EL,F.2.2];exact A8
theorem Old.there (I:Inv X pins σ H s)(F:Fn1 X){b:Ad}(o:Old X pins H b):∃ ob,s.heap.get? b=Ab ob:=by
 rcases o with⟨o,e⟩|e|⟨p,hp,rfl⟩|⟨x,e⟩
 .exact I.base.there b o e (by rw[F.1];simp)
 .cases q:H b with
  |none=>exact absurd q e
  |some u=>exact z9.there (I.hok b u q)
 .exact⟨_,(I.pin p hp).1⟩
 .obtain⟨v,ob,ho,_⟩:=I.cell x b e
  exact⟨ob,ho⟩
theorem Inv.fly (I:Inv X pins σ H s)(F:Fn1 X)(cv:Cv X pins H B s.heap)(st:B.StaysIn h')(up:s.heap.UpToSlots h'):Inv X pins σ H { s with heap:=h' } /\ Cv X pins H B h':=by
 have kp:∀ b o,s.heap.get? b=Ab o->Old X pins H b->b ∉ frs X.stack->h'.get? b=Ab o:=λb o e q n=>st b o (cv b o e q n);have neL:∀ b o,X.s₀.heap.get? b=Ab o->b≠X.env.locals:=λb o e=>AX (Ax (Ay e) I.ok.above);have nofr:∀ b o,X.s₀.heap.get? b=Ab o->b ∉ X.fs->b ∉ frs X.stack:=λb o e n z=>(F.mem.mp z).elim (neL b o e) n;have nx:∀ b,b ∉ X.ex:=λb=>by rw[F.1];simp
 have frU:∀ b,b∈frs X.stack->∀ o,s.heap.get? b=Ab o->∃ sl,h'.get? b=Ab { o with slots:=sl }:=λb hb o e=>by
  obtain⟨_,o',e',nf⟩:=I.stack.mem hb;rw[e] at e';cases e';exact up b o e nf
 have cellK:∀ x c,X.env.cells.lookup x=Ab c->∀ v,s.heap.IsCell c v->h'.IsCell c v:=λx c e v ⟨o,ho,hd⟩=>by
  obtain⟨sl,q⟩:=up c o ho λvs z=>by rw[hd] at z;cases z
  exact⟨_,q,hd⟩
 refine⟨⟨I.ok,I.os,I.bare,⟨λb o e n hb hx=>?_,λb o e n hb hx=>?_,I.base.free,λb o e hx=>?_,I.base.tups,I.base.frzs,I.base.tbls⟩,?_,λx c e=>?_,I.free,I.freeC,λp hp=>?_,λa o e=>?_,I.len⟩,λb o e q n=>?_⟩
 .exact kp b o (I.base.keep b o e n hb hx) (.inl ⟨o,e⟩) (nofr b o e hb)
 .obtain⟨sl,e1⟩:=I.base.slot b o e n hb hx
  obtain⟨sl',e2⟩:=frU b (F.mem.mpr (.inr hb)) _ e1;exact⟨sl',e2⟩
 .obtain⟨o',e1⟩:=I.base.there b o e hx
  by_cases hb:b∈frs X.stack
  .obtain⟨sl,e2⟩:=frU b hb _ e1
   exact⟨_,e2⟩
  .exact⟨o',kp b o' e1 (.inl ⟨o,e⟩) hb⟩
 .obtain⟨m,hn,hl⟩:=I.loc
  refine⟨m,up.ns hn,λi x v e1 e2 e3=>?_⟩;obtain⟨u,r,l⟩:=hl i x v e1 e2 e3;refine⟨u,r,?_⟩;rcases l with l|⟨k,c,e,z⟩
  .exact .inl l
  .exact .inr ⟨k,c,e,cellK x c e _ z⟩
 .obtain⟨v,z⟩:=I.cell x c e
  exact⟨v,cellK x c e v z⟩
 .obtain⟨e,n,ne,nf,d⟩:=I.pin p hp
  exact⟨kp p.1 p.2 e (.inr (.inr (.inl ⟨p,hp,rfl⟩))) λz=>(F.mem.mp z).elim ne nf,n,ne,nf,d⟩
 .refine(I.hok a o e).stay (λb u hb q=>?_) (λ_ q=>q) λ_ _ q=>q
  have hn:H b≠none:=by
   rcases hb with rfl|hb
   .rw[e];intro z;cases z
   .rw[hb];intro z;cases z
  exact kp b u q (.inr (.inl hn)) λz=>hn (I.stkFree b z)
 .obtain⟨o1,e1⟩:=Old.there I F q
  have e2:=cv b o1 e1 q n;have e3:=st b o1 e2;rw[e] at e3;cases e3;exact e2
theorem eK {c:Ac}{e:Ad}{g:AC}(I:Inv X pins σ H s)(hm:Ju g s.heap e c args)(hf:g.FunFrames X.base X.stack)(hk:∀ b o,s.heap.get? b=Ab o->Old X pins H b->g.get? b=Ab o) :
  (Hf g (frs X.stack)).StaysIn g/\g.FunFrames (Hf g (frs X.stack)) X.stack/\Cv X pins H (Hf g (frs X.stack)) s.heap:=
 ⟨λb o q=>Lc _ q,PySem.W.funFrames_hide hf λenv he a ha=>Fm.mpr ⟨env,he,ha⟩,λb o e q n=>Kg _ (hk b o e q) n⟩
theorem rZ {M:E6}{A:AB}{E:Ac->Ag->Prop}{c:Ac}{e:Ad}{Q:H8->Ag->Prop}(I:Inv X pins σ H s)(F:Fn1 X)(hA:A.frames=Ab X.stack)(f:FlyX X pins H c e s.heap)
  (hQ:∀ h' B a0,Hq B X.outer e c a0 h'->Inv X pins σ H { s with heap:=h' } -> Cv X pins H B h'->Q () { s with heap:=h' }) : Ar M A (leaving X.env (.ref e)) Q E s:=by
 cases f with
 |new g args hm hf hk =>
  obtain⟨k1,k2,k3⟩:=eK I hm hf hk;rw[F.2.1] at hA;refine wpAny_leaves_madeW hA F.2.2 k1 (by rw[<- F.2.1];exact k2) hm λh' t x1 x2 x3 x4=>?_
  obtain⟨I1,cv1⟩:=Inv.fly I F k3 x1.1 x4;exact hQ h' _ _ x1 I1 cv1
 |fly B a0 fl cv =>
  rw[F.2.1] at hA;refine wpAny_leaves_onW hA F.2.2 (by rw[<- F.2.1];exact fl) λh' x1 x2=>?_
  obtain⟨I1,cv1⟩:=Inv.fly I F cv x1.1 x2;exact hQ h' _ _ x1 I1 cv1
end
def CXd (P:A6)(w:AK):CXT:=λouter H s E u s' =>
 ∃ e c H' B a0,u=.ref e/\s'.os=s.os/\Gp s'.gens/\Un (frs outer) [] H H' s.heap s'.heap/\HOk P w H' s'.heap/\Hq B outer e c a0 s'.heap /\
  (∀ b o,s'.heap.get? b=Ab o->((∃ o,s.heap.get? b=Ab o)\/H' b≠none)->b ∉ frs outer->B.get? b=Ab o)/\E c none H'
section
variable {X:Cx}{pins:Aa (Ad × AR)}{σ : _L.St}{H:Hp}{s s':Ag}
theorem U9 {E:XK}(I:Inv X pins σ H s)(F:Fn1 X)(h:CXd X.prog X.w X.stack H s E u s'):∃ e c H',u=.ref e/\Inv X pins σ H' s'/\FlyX X pins H' c e s'.heap/\E c none H':=by
 obtain⟨e,c,H',B,a0,rfl,os,bare,un,hok,fl,cov,q⟩:=h;have I':Inv X pins σ H' s':=Inv.call' I os un hok bare (ch:=[]) λb z=>absurd z (by simp)
 refine⟨e,c,H',rfl,I',.fly B a0 fl λb o eb old n=>cov b o eb ?_ n,q⟩;rcases old with⟨o,z⟩|z|⟨p,hp,rfl⟩|⟨x,z⟩
 .exact .inl (I.base.there b o z (by rw[F.1];simp))
 .exact .inr z
 .exact .inl ⟨_,(I.pin p hp).1⟩
 .obtain⟨v,ob,ho,_⟩:=I.cell x b z
  exact .inl ⟨ob,ho⟩
end
structure RoomC (cm:Aq)(k:Ai)(A:AB):Prop where
 hd:cm=true->A.handled=none
 dp:A.depth+3*k+5<Gb
 un:A.units+16*k+200<CZ
 gd:A.guards=Ab []
theorem RoomC.mono {cm:Aq}{j k:Ai}{A:AB}(r:RoomC cm k A)(h:j<=k:=by decide):RoomC cm j A:=⟨r.hd,by have:=r.dp;omega,by have:=r.un;omega,r.gd⟩
theorem RoomC.deeper {cm:Aq}{k:Ai}{A:AB}(r:RoomC cm (k+1) A)(env:El):RoomC cm k (A.deeper env):=
 ⟨r.hd,by have:=r.dp;show A.depth+1+3*k+5<_;omega,by have:=r.un;show A.units+3+16*k+200<_;omega,r.gd⟩
theorem RoomC.depth {cm:Aq}{k:Ai}{A:AB}(r:RoomC cm k A):A.depth<Gb:=by have:=r.dp;omega
theorem RoomC.units {cm:Aq}{k:Ai}{A:AB}(r:RoomC cm k A):A.units+64<CZ:=by have:=r.un;omega
theorem RoomC.of {k:Ai}{A:AB}(r:Room k A):RoomC true k A:=⟨λ_=>r.hd,r.dp,r.un,r.gd⟩
theorem RoomC.any {cm:Aq}{k:Ai}{A:AB}(r:RoomC cm k A):RoomC false k A:=⟨(λz=>nomatch z),r.dp,r.un,r.gd⟩
theorem RoomC.mark {cm:Aq}{k:Ai}{A:AB}(r:RoomC cm k A)(h:Ak Ac):RoomC false k (A.mark h):=⟨(λz=>nomatch z),r.dp,r.un,r.gd⟩
abbrev Cx.re (X:Cx)(A:AB)(cm:Aq)(E:Ac->Ag->Prop):Cx:={ X with A:=A,calm:=cm,xe:=E }
theorem Inv.re {X:Cx}{pins:Aa (Ad × AR)}{σ:_L.St}{H:Hp}{s:Ag}(I:Inv X pins σ H s)(A:AB)(cm:Aq)(E:Ac->Ag->Prop)(hf:A.frames=Ab X.stack)(hh:cm=true->A.handled=none):Inv (Cx.re X A cm E) pins σ H s:=
 ⟨⟨I.ok.mod,I.ok.kind,I.ok.glob,I.ok.blt,I.ok.above,I.ok.inj,I.ok.has,I.ok.cab,hh,hf,I.ok.stk,I.ok.exf,I.ok.bs,I.ok.bsz,I.ok.noex,I.ok.exfs,I.ok.funs,I.ok.frf⟩,I.os,I.bare,I.base,I.loc,I.cell,I.free,I.freeC,I.pin,I.hok,I.len⟩
theorem Inv.unre {X:Cx}{pins:Aa (Ad × AR)}{σ:_L.St}{H:Hp}{s:Ag}{A:AB}{cm:Aq}{E:Ac->Ag->Prop}(I:Inv (Cx.re X A cm E) pins σ H s)(hf:X.A.frames=Ab X.stack)(hh:X.calm=true->X.A.handled=none):Inv X pins σ H s:=
 ⟨⟨I.ok.mod,I.ok.kind,I.ok.glob,I.ok.blt,I.ok.above,I.ok.inj,I.ok.has,I.ok.cab,hh,hf,I.ok.stk,I.ok.exf,I.ok.bs,I.ok.bsz,I.ok.noex,I.ok.exfs,I.ok.funs,I.ok.frf⟩,I.os,I.bare,I.base,I.loc,I.cell,I.free,I.freeC,I.pin,I.hok,I.len⟩
structure FnX (P:A6)(w:AK)(K:Ah)(mg:Ap->Ak Ac)(base:AC)(cm:Aq)(k:Ai)(f:Ad)(fd:CN)(ps:Aa Ap)(sp:Sp):Prop where
 len:∀ vs H Q E,sp vs H Q E->vs.length=ps.length
 run:∀ (A:AB) (outer:Aa El) (s:Ag) (H:Hp) (args:Args) (us:Aa Ac) (vs:Aa V) (Q:VK) (E:XK),RoomC cm k A->Env0 P w K mg base A outer s H->Gq s fd args (ps.zip us)->qL vs us->sp vs H Q E ->
  DH (As P w) A (.call (.ref f) args) (CR (CXd P w) outer P w H s Q E) s
theorem FnX.ok {P:A6}{w:AK}{K:Ah}{mg:Ap->Ak Ac}{base:AC}{k:Ai}{f:Ad}{fd:CN}{ps:Aa Ap}(F:FnX P w K mg base true k f fd ps sp):FnOk P w K mg base (CXd P w) k f fd ps sp:=
 ⟨F.len,λA outer s H args us vs Q E hr=>F.run A outer s H args us vs Q E (.of hr)⟩
theorem FnX.any {P:A6}{w:AK}{K:Ah}{mg:Ap->Ak Ac}{base:AC}{cm:Aq}{k:Ai}{f:Ad}{fd:CN}{ps:Aa Ap}(F:FnX P w K mg base false k f fd ps sp):FnX P w K mg base cm k f fd ps sp:=
 ⟨F.len,λA outer s H args us vs Q E hr=>F.run A outer s H args us vs Q E hr.any⟩
theorem FnX.imp {P:A6}{w:AK}{K:Ah}{mg:Ap->Ak Ac}{base:AC}{cm:Aq}{k:Ai}{f:Ad}{fd:CN}{ps:Aa Ap}{sp':Sp}(F:FnX P w K mg base cm k f fd ps sp)
  (h:∀ vs H Q E,sp' vs H Q E->sp vs H Q E):FnX P w K mg base cm k f fd ps sp':=
 ⟨λvs H Q E q=>F.len vs H Q E (h _ _ _ _ q),λA outer s H args us vs Q E hr he hb hv hs=>F.run A outer s H args us vs Q E hr he hb hv (h _ _ _ _ hs)⟩
noncomputable def cxC (cm:Aq)(P:A6)(w:AK)(K:Ah)(mg:Ap->Ak Ac)(base:AC)(N:Aa Ap)(qual:Ap)(scope:Cg)(f:Ad)(cd:Ac)(A:AB)(outer:Aa El)(s:Ag)(H:Hp)(E:XK):Cx where
 prog:=P
 w:=w
 K:=K
 mg:=mg
 base:=base
 A:=A.deeper (Dg qual scope s.heap.objs.size f cd)
 N:=N
 s₀:=s
 H₀:=H
 env:=Dg qual scope s.heap.objs.size f cd
 outer:=outer
 stack:=Dg qual scope s.heap.objs.size f cd::outer
 ex:=[]
 calm:=cm
 fn:=λ_=>true
 pn:=[]
 xe:=λe s'=>Ar (As P w) (A.deeper (Dg qual scope s.heap.objs.size f cd)) (leaving (Dg qual scope s.heap.objs.size f cd) e) (λ_ s''=>CXd P w outer H s E e s'') (λe' s''=>CXd P w outer H s E e' s'') s'
section
variable {P:A6}{w:AK}{K:Ah}{mg:Ap->Ak Ac}{base:AC}{cm:Aq}{N:Aa Ap}{qual:Ap}{scope:Cg}{f:Ad}{cd:Ac}{A:AB}{outer:Aa El}{s:Ag}{H:Hp}{E:XK}
theorem aM:Jc (As P w) (A.deeper (Dg qual scope s.heap.objs.size f cd)) (Dg qual scope s.heap.objs.size f cd) (cxC cm P w K mg base N qual scope f cd A outer s H E).xe:=PassesOwn.leaving (Q₁:=λe s''=>CXd P w outer H s E e s'')
abbrev xeL (P:A6)(w:AK)(A:AB)(env:El)(outer:Aa El)(H:Hp)(s:Ag)(E:XK):Ac->Ag->Prop:=λe s'=>Ar (As P w) (A.deeper env) (leaving env e) (λ_ s''=>CXd P w outer H s E e s'') (λe' s''=>CXd P w outer H s E e' s'') s'
theorem aO {X:Cx}{P0:Hp}{α:Aa Ad}{c:Ac}{x:D}{s':Ag}(hA:X.A=A.deeper X.env)(k:XOk X P0 α c x S u s')
  (q:∀ H' P' α',Rel X.K H' P' α' S->qF P0 P'->α<+:α'->E c none H'):xeL X.prog X.w A X.env X.outer X.H₀ X.s₀ E u s':=by
 obtain⟨e,pins,σ,H1,P1,α1,rfl,I,r,e1,e2,F,fl⟩:=k;unfold xeL;rw[<- hA];refine rZ I F I.ok.frames fl λh' B a0 x1 I1 cv=>?_;refine⟨e,c,H1,B,a0,rfl,I1.os,I1.bare,by have z:=I1.base;rw[F.1] at z;exact z,I1.hok,x1,λb o eb hb n=>cv b o eb ?_ λz=>?_,q H1 P1 α1 r e1 e2⟩
 .rcases hb with z|z
  .exact .inl z
  .exact .inr (.inl z)
 .rcases (Fn1.mem F).mp z with z|z
  .subst z
   rcases hb with⟨o',e'⟩|z
   .exact absurd (Ay e') (ES.mpr I1.ok.above)
   .exact z I1.free
  .exact n z
theorem dU {ps:Aa Ap}{s1:Ag}(S:FnScope N ps scope)(hd:cm=true->A.handled=none)(e0:Env0 P w K mg base A outer s H)(hl:vs.length=ps.length)(r:qL vs us)
  (x:InCallC s s.heap.objs.size (Kj (Dg qual scope s.heap.objs.size f cd).kindOf (ps.zip us) λ_=>none) (Dt (s.heap.objs.size+1) scope.names []) (Kk (Dg qual scope s.heap.objs.size f cd).kindOf (ps.zip us) λ_=>none) s1) :
  Inv (cxC cm P w K mg base N qual scope f cd A outer s H E) [] (_L.zX N vs) H s1:=by
 have I:=bZ (CX:=CXd P w) (E:=E) (A:={ A with handled:=none }) S rfl ⟨e0.frames,e0.mod,e0.bs,e0.bsz,e0.funs,e0.frf,e0.hok,e0.bare⟩ hl r x
 have J:=Inv.re I (A.deeper (Dg qual scope s.heap.objs.size f cd)) cm (cxC cm P w K mg base N qual scope f cd A outer s H E).xe (Jz e0.frames) hd;exact J
end
theorem UB {P:A6}{w:AK}{K:Ah}{mg:Ap->Ak Ac}{base:AC}{cm:Aq}{k:Ai}{f:Ad}{qual:Ap}{params:EO}{scope:Cg}{oc:Ac}{an:Ak Ad}{osl:A5 (Ak Ac)}{x:Ap}{kV doc pm cdv ct:Ac}{N ps:Aa Ap}
  {A:AB} {outer:Aa El} {s:Ag} {H:Hp} {args:Args} {us:Aa Ac} {vs:Aa V} {Q:VK} {E:XK} (lk:K.lookup f=Ab ⟨oc,od,.func (CY x qual params body scope .none kV doc pm an cdv ct),osl⟩) (hcd:EE K cdv qual=true) (S:FnScope N ps scope) (hl:vs.length=ps.length) (hr:RoomC cm (k+1) A)
  (e0:Env0 P w K mg base A outer s H) (hb:Gq s (CY x qual params body scope .none kV doc pm an cdv ct) args (ps.zip us)) (r:qL vs us)
  (hbody:∃ t,PSs (cxC cm P w K mg base N qual scope f cdv A outer s H E) body t/\t { nx:=λ_ H'=>Q .non H',rt:=Q } (_L.zX N vs) H) :
  DH (As P w) A (.call (.ref f) args) (CR (CXd P w) outer P w H s Q E) s:=by
 have KX:K.In s.heap:=e0.mod.kin.keeps λb o e=>(e0.bs b o e).1;have lim:s.heap.NoLimit:=e0.mod.nolimit.keeps λb o e=>(e0.bs b o e).1;have hkind:∀ y∈ps.zip us,scope.names.lookup y.1=Ab .local \/ (scope.names.lookup y.1=Ab .cell/\((Dt (s.heap.objs.size+1) scope.names []).lookup y.1).isSome=true):=λ⟨n,v⟩ hy=>by
  rcases S.par n (Hi hy).1 with q|q
  .exact .inl q
  .exact .inr ⟨q,Ez _ _ _ (.inl q)⟩
 refine Je hr.depth (KX _ _ lk) rfl S.co S.gen rfl (Lg KX hcd) (hb _ _ _ _ ?_);refine HE S.kind hkind λenv he s1 x=>?_;subst he;refine⟨lim.keeps x.toInCall.keep,codeAny_func ?_⟩;obtain⟨t,ht,hq⟩:=hbody;have I:Inv (cxC cm P w K mg base N qual scope f cdv A outer s H E) [] (_L.zX N vs) H s1:=dU S hr.hd e0 hl r x;refine Dn (ht [] s1 (_L.zX N vs) H _ I hq) (λfl s' hs=>?_) λe s' hs=>hs;have fin:∀ {σ' : _L.St} {H':Hp} {v:V} {u:Ac},Inv (cxC cm P w K mg base N qual scope f cdv A outer s H E) [] σ' H' s'->qI v u->Q v H'->CE outer P w H s Q u s':=
  λ{σ' H' v u} J rv q=>⟨v,H',J.os,J.bare,J.base,J.hok,rv,q⟩
 cases fl with
 |ret u =>
  obtain⟨v,σ',H',J,rv,q⟩:=hs;exact fin J rv q
 |next =>
  obtain⟨σ',H',J,q⟩:=hs;exact fin (v:=V.non) (u:=Bi) J rfl q
 |brk =>
  obtain⟨_,_,_,q⟩:=hs;exact Al q
 |cont =>
  obtain⟨_,_,_,q⟩:=hs;exact Al q
def u7 (K:Ah)(x:Ap)(cdv:Ac):Prop:=∀ c T,Bj K x=Ab (c,T)->cdv=.ref c
theorem UA {P:A6}{w:AK}{K:Ah}{mg:Ap->Ak Ac}{base:AC}{cm:Aq}{k:Ai}{f:Ad}{x qual:Ap}{st:Cs}{fd:CN}{N ps:Aa Ap}(F:Fun K x qual st f fd)(S:FnScope N ps (qK st))
  (len:∀ vs H Q E,sp vs H Q E->vs.length=ps.length)
  (hbody:∀ (cdv:Ac) (A:AB) (outer:Aa El) (s:Ag) (H:Hp) (vs:Aa V) (Q:VK) (E:XK),fd.code=cdv/\Mod K mg base->RoomC cm k (A.deeper (Dg qual (qK st) s.heap.objs.size f cdv))->sp vs H Q E ->
   ∃ t,PSs (cxC cm P w K mg base N qual (qK st) f cdv A outer s H E) (zG st) t/\t { nx:=λ_ H'=>Q .non H',rt:=Q } (_L.zX N vs) H) :
  FnX P w K mg base cm (k+1) f fd ps sp:=by
 obtain⟨oc,od,kV,doc,pm,an,cdv,ct,osl,rfl,lk,hcd⟩:=F.ex;exact⟨len,λA outer s H args us vs Q E hr e0 hb r hsp=>UB lk hcd S (len _ _ _ _ hsp) hr e0 hb r (hbody cdv A outer s H vs Q E ⟨rfl,e0.mod⟩ (hr.deeper _) hsp)⟩
noncomputable def xQ (n:Ai)(ds:Aa D):qH:=ds.map Ab++Bf (n-ds.length) none
noncomputable def M7:Out->Res D
 |.rt d S=>.ok d S
 |.nx _ S=>.ok .non S
 |.ex c x _ S=>.ex c x S
 |_=>.bad
noncomputable def qU (n:Ai)(g:DS):DF:=λds S=>M7 (g (xQ n ds) S)
def spR (K:Ah)(P:Hp)(α : Aa Ad)(R:Res D)(Q:VK)(E:XK):Prop:=match R with
 |.ok d S'=>∀ v H' P' α',Rel K H' P' α' S'->qF P P'->α<+:α'->Rep K P' α' d v->Q v H'
 |.ex c _ S'=>∀ H' P' α',Rel K H' P' α' S'->qF P P'->α<+:α'->E c none H'
 |.bad=>CF
def spD (K:Ah)(n:Ai)(F:DF):Sp:=λvs H Q E=>vs.length=n/\∃ P α ds S,Rel K H P α S/\qE K P α ds vs/\spR K P α (F ds S) Q E
theorem sE {K:Ah}{P:Hp}{α:Aa Ad}{N:Aa Ap}{ds:Aa D}(r:qE K P α ds vs):qV K P α (_L.zX N vs) (xQ N.length ds):=by
 refine⟨by simp[xQ,_L.zX,r.length],λi d e=>?_⟩
 unfold xQ at e;unfold _L.zX;by_cases hi:i<ds.length
 .rw[Be (by simpa using hi),CV] at e
  rw[Be (by rw[AW,<- r.length];exact hi),CV]
  cases q:ds[i]? with
  |none=>rw[q] at e;cases e
  |some d' =>
   rw[q] at e;cases e;obtain⟨v,h1,h2⟩:=r.get q;exact⟨v,by rw[h1];rfl,h2⟩
 .rw[Ch (by simpa using hi),Ft] at e
  split at e <;> cases e
section
variable {P:A6}{w:AK}{K:Ah}{mg:Ap->Ak Ac}{base:AC}{cm:Aq}
theorem aD {qual:Ap}{scope:Cg}{f:Ad}{cdv:Ac}{A:AB}{outer:Aa El}{s:Ag}{H P':Hp}{E:XK}{N:Aa Ap}{g:DS}{α:Aa Ad}{ds:Aa D}{S':Sto}(hb:PSs (cxC cm P w K mg base N qual scope f cdv A outer s H E) body (tDS (cxC cm P w K mg base N qual scope f cdv A outer s H E) g))
  (r:Rel K H P' α S') (rp:qE K P' α ds vs) (af:spR K P' α (qU N.length g ds S') Q E):∃ t,PSs (cxC cm P w K mg base N qual scope f cdv A outer s H E) body t/\t { nx:=λ_ H'=>Q .non H',rt:=Q } (_L.zX N vs) H:=by
 refine⟨_,hb,P',α,xQ N.length ds,S',r,sE rp,?_⟩;unfold qU at af;cases q:g (xQ N.length ds) S' with
 |rt d S1=>rw[q] at af;exact λv H' P1 α1 r1 e1 e2 p1=>af v H' P1 α1 r1 e1 e2 p1
 |nx env S1=>rw[q] at af;exact λσ' H' P1 α1 r1 re1 e1 e2=>af .non H' P1 α1 r1 e1 e2 (by simp only[Rep])
 |bk env S1=>rw[q] at af;exact Al af
 |ct env S1=>rw[q] at af;exact Al af
 |ex c x env S1=>rw[q] at af;exact λu s' z=>aO (A:=A) rfl z λH' P1 α1 r1 e1 e2=>af H' P1 α1 r1 e1 e2
 |bad=>rw[q] at af;exact Al af
theorem fnX {x qual:Ap}{st:Cs}{f:Ad}{fd:CN}{N ps:Aa Ap}{k:Ai}{g:DS}(F:Fun K x qual st f fd)(S:FnScope N ps (qK st))
  (hbody:∀ (cdv:Ac) (A:AB) (outer:Aa El) (s:Ag) (H:Hp) (E:XK),fd.code=cdv/\Mod K mg base->RoomC cm k (A.deeper (Dg qual (qK st) s.heap.objs.size f cdv)) ->
   PSs (cxC cm P w K mg base N qual (qK st) f cdv A outer s H E) (zG st) (tDS (cxC cm P w K mg base N qual (qK st) f cdv A outer s H E) g)) :
  FnX P w K mg base cm (k+1) f fd ps (spD K ps.length (qU N.length g)):=by
 refine UA F S (λvs H Q E h=>h.1) λcdv A outer s H vs Q E hc hr h=>?_;obtain⟨hl,P',α,ds,S',r,rp,af⟩:=h;exact aD (hbody cdv A outer s H E hc hr) r rp af
end
section
variable {X:Cx}{cm:Aq}{k:Ai}{f:Ad}{fd:CN}{ps:Aa Ap}{F:DF}{x:Ap}{p pos:CG}{e:AA}{es:Aa AA}{fa:DA}{n:Ai}
noncomputable def qW (n:Ai)(F:DF)(fa:DA):DE:=λenv S=>(fa env S).bind λds S1=>if ds.length=n then F ds S1 else .bad
def EX (X:Cx)(P:Hp)(α : Aa Ad)(R:Res D):XK:=λc _ H'=>match R with
 |.ex c' _ S'=>c=c'/\∃ P' α',Rel X.K H' P' α' S'/\qF P P'/\α<+:α'
 |_=>CF
theorem G9 {P:Hp}{α:Aa Ad}{R:Res D}(af:qR X P α R Q):spR X.K P α R Q (EX X P α R):=by
 cases R with
 |ok d S'=>exact af
 |ex c x S'=>exact λH' P' α' r' e1 e2=>⟨rfl,P',α',r',e1,e2⟩
 |bad=>exact af
theorem aF {pins:Aa (Ad × AR)}{σ:_L.St}{H:Hp}{s:Ag}{P:Hp}{α:Aa Ad}{R:Res D}(hF:(∃ c x S',R=.ex c x S')->Fn1 X)(I:Inv X pins σ H s)(af:qR X P α R Q)
  (h:DH (As X.prog X.w) X.A (.call u ⟨us,[]⟩) (CR (CXd X.prog X.w) X.stack X.prog X.w H s Q (EX X P α R)) s):Ar (As X.prog X.w) X.A (call u us) (EP X pins σ Q) X.xe s:=by
 refine Kr (Lv h λr s' hq=>?_);cases r with
 |error u =>
  have hq:CXd X.prog X.w X.stack H s (EX X P α R) u s':=hq;cases R with
  |ok d S'=>obtain⟨_,_,_,_,_,_,_,_,_,_,_,_,q⟩:=hq;exact Al q
  |bad=>exact Al af
  |ex c' x' S' =>
   have hG:=hF ⟨_,_,_,rfl⟩;obtain⟨a,c,H',rfl,I',fl,rfl,P',α',r',e1,e2⟩:=U9 I hG hq;exact af _ _ ⟨a,pins,σ,H',P',α',rfl,I',r',e1,e2,hG,fl⟩
 |ok fl =>
  cases fl with
  |ret u=>exact I.after hq
  |next=>exact Al hq
  |brk=>exact Al hq
  |cont=>exact Al hq
theorem lU {pins:Aa (Ad × AR)}{σ:_L.St}{H:Hp}{s:Ag}{P:Hp}{α:Aa Ad}{ds:Aa D}(G:FnX X.prog X.w X.K X.mg X.base cm k f fd ps (spD X.K n F))(hr:RoomC cm k X.A)(hb:yK X.K fd ps [])(hF:Fn1 X)
  (I:Inv X pins σ H s) (r:Rel X.K H P α S) (rv:qL vs us) (rp:qE X.K P α ds vs) (hn:ds.length=n) (af:qR X P α (F ds S) Q):Ar (As X.prog X.w) X.A (call (.ref f) us) (EP X pins σ Q) X.xe s:=by
 have hsp:spD X.K n F vs H Q (EX X P α (F ds S)):=⟨by rw[<- rp.length];exact hn,P,α,ds,S,r,rp,G9 af⟩
 have hl:us.length=ps.length:=by rw[<- rv.length];exact G.len _ _ _ _ hsp
 have hb':=hb s us I.kIn (by rw[Ea];exact hl)
 rw[Ea] at hb';exact aF (λ_=>hF) I af (G.run X.A X.stack s H ⟨us,[]⟩ us vs Q _ hr I.env0 hb' rv hsp)
theorem rA {env:qH}{S:Sto}{P:Hp}{α:Aa Ad}{ds:Aa D}{Ok:D->Sto->Prop}(h:qJ X P α (if ds.length=n then F ds S1 else .bad) Ok):ds.length=n/\qJ X P α (F ds S1) Ok:=by
 by_cases hn:ds.length=n
 .rw[A0 hn] at h;exact⟨hn,h⟩
 .rw[Aw hn] at h;exact Al h
theorem ZQ (G:FnX X.prog X.w X.K X.mg X.base cm k f fd ps (spD X.K n F))(hr:RoomC cm k X.A)(hF:Fn1 X)(hg:Gl X x)(hm:X.mg x=Ab (.ref f))(hk:Ci X.K (.ref f)=true)(hb:yK X.K fd ps [])
  (ha:PA X (e::es) (tDA X fa)) (hdb:(x == ("__debug__" : Ap))=false:=by decide) (he:A3 (e::es) X.env=(false,eval e X.env)::A3 es X.env:=by rfl) (hpl:(Dm pos (A3 es X.env)).any (·.1)=false:=by rfl) :
  PE X (.Call (.Name x p) (e::es) [] pos) (tD X (qW n F fa)):=by
 intro pins s σ H Q I h;obtain⟨P,α,env,S,r,re,af⟩:=h;refine D0 (kA I hg hm ?_ hdb);refine Ll (h₀:=X.base) I.ok.mod.kin hk (thn (xD ha I r re af pos) λus s1 ⟨vs,H1,P1,α1,ds,S1,I1,rv,r1,re1,rp,e1,e2,af1⟩=>⟨I1.kIn,?_⟩) he hpl;obtain⟨hn,af2⟩:=rA (env:=env) (S:=S) af1;exact lU G hr hb hF I1 r1 rv rp hn (qR.base e1 e2 af2)
end
noncomputable abbrev mG:Aa Ac:=[.type "ValueError",.type "Exception",.type "BaseException",.type "object"]
noncomputable def PU:Ac->Aq
 |.str _ _=>true
 |_=>false
noncomputable def vY (K:Ah)(N:Ad):Aq:=(match Fd N K with
 |some o=>match o.data with
  |.dict es _=>es.toList.all λe=>PU e.key
  |_=>false
 |none=>false)&&decide (Br K N "__init__" = Ab none)
theorem xW {K:Ah}{N:Ad}(h:vY K N=true):Nj K N=true/\Br K N "__init__" = Ab none:=by
 unfold vY at h;rw[Az,Ba] at h;refine⟨?_,h.2⟩;have h1:=h.1;unfold Nj;cases e:Fd N K with
 |none=>rw[e] at h1;cases h1
 |some o =>
  rw[e] at h1;obtain⟨oc,od,dt,sl⟩:=o;cases dt with
  |dict es ep =>
   simp only at h1 ⊢;rw[Array.all_toList] at h1;refine Eq.trans (congrArg (λf=>Array.all es f) (funext λe=>?_)) h1;cases e.key <;> rfl
  |_=>cases h1
noncomputable def fZ (K:Ah)(C:Ad)(f:Ac->LC->A5 (Ak Ac)->Aq):Aq:=match Fd C K with
 |some o=>(match o.data with|.cls cd=>f o.cls cd o.slots|_=>false)
 |none=>false
theorem tN {K:Ah}{f:Ac->LC->A5 (Ak Ac)->Aq}(h:fZ K C f=true):∃ oc od cd sl,Fd C K=Ab ⟨oc,od,.cls cd,sl⟩/\f oc cd sl=true:=by
 unfold fZ at h;cases e:Fd C K with
 |none=>rw[e] at h;exact Bb h
 |some o =>
  rw[e] at h;obtain⟨oc,od,dt,sl⟩:=o;cases dt with
  |cls cd=>exact⟨oc,od,cd,sl,rfl,h⟩
  |_=>exact Bb h
noncomputable def kU (K:Ah)(C A:Ad):Aq:=fZ K C λoc cd sl=>fZ K A λ_ ca _=>decide (oc=.type "type")&&(decide (cd.mro=.ref C::.ref A::mG)&&(!cd.hasDel&&(vY K cd.ns&&(vY K ca.ns&&(decide (sl.toList.length=6)&&decide (sl.toList[4]? = Ab (Ab (.builtin "ValueError.__new__"))))))))
inductive ExcO (h:AC)(C:Ad):Prop
 |mk (nm q:Ap) (N:Ad) (bs bm:Aa Ac) (hdct:Aq) (sn:Aa Ap) (sub:Aa Ac) (ab:Aq) (col:Ak Aq) (dd:Ak Ad) (k0 k1 k2 k3 k5:Ak Ac) (mN:Ap->Ak Ac) (hC:h.get? C=Ab (excClassObj nm q C N bs bm hdct sn sub ab col dd k0 k1 k2 k3 k5 "ValueError.__new__")) (hN:h.Ns N mN) (hni:mN "__init__" = none) (T:OwnTail h mG bm):ExcO h C
theorem bE {β:Type}{l:Aa β}{n:Ai}(h:l.length=n+1):∃ a t,l=a::t/\t.length=n:=by
 cases l with
 |nil=>exact Mr h
 |cons a t=>exact⟨a,t,rfl,NF h⟩
theorem six {β:Type}{l:Aa β}(h:l.length=6):∃ a b c d e f,l=[a,b,c,d,e,f]:=by
 obtain⟨a,t,e1,h⟩:=bE h;obtain⟨b,t2,e2,h⟩:=bE h;obtain⟨c,t3,e3,h⟩:=bE h;obtain⟨d,t4,e4,h⟩:=bE h;obtain⟨e,t5,e5,h⟩:=bE h;obtain⟨f,t6,e6,h⟩:=bE h;exact⟨a,b,c,d,e,f,by rw[e1,e2,e3,e4,e5,e6,DC.mp h]⟩
theorem JD {cd:LC}{tl:Aa Ac}{k0 k1 k2 k3 k4 k5:Ak Ac}{n:Bk}(hm:cd.mro=.ref C::tl)(hd:cd.hasDel=false)(hs:sl.toList=[k0,k1,k2,k3,k4,k5])(hn:sl.toList[4]? = Ab (Ab (.builtin n))) :
  (⟨.type "type",od,.cls cd,sl⟩:AR)=excClassObj cd.name cd.qualname C cd.ns cd.bases tl cd.hasDict cd.slotNames cd.subclasses cd.abstract cd.collection od k0 k1 k2 k3 k5 n:=by
 rw[hs] at hn;cases hn;cases cd;cases sl;cases hm;cases hd;cases hs;rfl
theorem XA {K:Ah}{h:AC}{A:Ad}{cd:LC}(KI:K.In h)(e:Fd C K=Ab ⟨.type "type",od,.cls cd,sl⟩)(h2:cd.mro=.ref C::.ref A::mG)(h3:cd.hasDel=false)(h4:vY K cd.ns=true)(h6:sl.toList.length=6)(h7:sl.toList[4]? = Ab (Ab (.builtin "ValueError.__new__")))(T:OwnTail h mG (.ref A::mG)):ExcO h C:=by
 obtain⟨k0,k1,k2,k3,x,k5,es⟩:=six h6;exact⟨_,_,_,_,_,_,_,_,_,_,_,k0,k1,k2,k3,k5,_,(KI _ _ e).trans (congrArg Ab (JD h2 h3 es h7)),.of_isNs (Lm KI (xW h4).1),Ih KI (xW h4).1 (xW h4).2,T⟩
theorem XB {K:Ah}{h:AC}{A:Ad}(KI:K.In h)(z:kU K C A=true):ExcO h C:=by
 obtain⟨oc,od,cd,sl,e,z⟩:=tN z;obtain⟨qc,qd,ca,ql,e2,z⟩:=tN z;have a1:=CQ.mp z;have a2:=CQ.mp a1.2;have a3:=CQ.mp a2.2;have a4:=CQ.mp a3.2;have a5:=CQ.mp a4.2;have a6:=CQ.mp a5.2;rw[AH a1.1] at e;exact XA KI e (AH a2.1) (Gf _▸a3.1) a4.1 (AH a6.1) (AH a6.2) (.own (KI _ _ e2) (.of_isNs (Lm KI (xW a5.1).1)) (Ih KI (xW a5.1).1 (xW a5.1).2) .base)
section
variable {X:Cx}{pos:CG}{fa:DA}
noncomputable def vZ (c:Ac)(fa:DA):DS:=λenv S=>(fa env S).toS env λds S1=>if ds.length<=lim then .ex c .non env S1 else .bad
inductive GotAS (X:Cx)(pins:Aa (Ad × AR))(σ : _L.St)(env:qH)(P:Hp)(α : Aa Ad)(us:Aa Ac)(s1:Ag)(k:Aa D->Sto->Out)(E:Ends):Prop
 |mk (vs:Aa V) (H1 P1:Hp) (α1:Aa Ad) (ds:Aa D) (S1:Sto) (I:Inv X pins σ H1 s1) (rv:qL vs us) (r:Rel X.K H1 P1 α1 S1) (re:qV X.K P1 α1 σ env) (rp:qE X.K P1 α1 ds vs) (e1:qF P P1) (e2:α<+:α1) (q:z0 X P1 α1 (k ds S1) E):GotAS X pins σ env P α us s1 k E
theorem ZO {es:Aa AA}{k:Aa D->Sto->Out}{pins:Aa (Ad × AR)}{s:Ag}{σ:_L.St}{H P:Hp}{α:Aa Ad}{env:qH}{D:Ends}(he:PA X es (tDA X fa))(I:Inv X pins σ H s)(r:Rel X.K H P α S)
  (re:qV X.K P α σ env) (af:z0 X P α ((fa env S).toS env k) D) (pos:CG) :
  Ar (As X.prog X.w) X.A (spliced (Dm pos (A3 es X.env))) (λus s1=>GotAS X pins σ env P α us s1 k D) X.xe s:=by
 have af1:qJ X P α ((fa env S).bind λd S=>.ok d S) λd S=>z0 X P α (k d S) D:=by
  have:=yE af;cases q:fa env S <;> rw[q] at this <;> exact this
 exact thn (xD he I r re af1 pos) λu s1 ⟨vs,H1,P1,α1,ds,S1,I1,rv,r1,re1,rp,e1,e2,q⟩=>⟨vs,H1,P1,α1,ds,S1,I1,rv,r1,re1,rp,e1,e2,z0.base e1 e2 q⟩
theorem i6 {x:Ap}{Ae:Ad}{e₀:AA}{rest:Aa AA}{np cpos:CG}(hc:X.calm=true)(hF:Fn1 X)(hg:Gl X x)(hm:X.mg x=Ab (.ref C))(hx:kU X.K C Ae=true)(ha:PA X (e₀::rest) (tDA X fa))
  (hdb:(x == ("__debug__" : Ap))=false:=by decide) (he:A3 (e₀::rest) X.env=(false,eval e₀ X.env)::A3 rest X.env:=by rfl) (hpl:(Dm cpos (A3 rest X.env)).any (·.1)=false:=by rfl) :
  PS X (.Raise (Ab (.Call (.Name x np) (e₀::rest) [] cpos)) none pos) (tDS X (vZ (.ref C) fa)):=by
 intro pins s σ H D I h;obtain⟨P,α,env,S,r,re,af⟩:=h;obtain⟨nm,qn,N,bs,tl,hdct,sn,sub,ab,col,dd,k0,k1,k2,k3,k5,mN,hC,hN,hni,T⟩:=XB I.mod.kin hx;refine wpAny_Raise_call_subT (C:=C) (nm:=nm) (q:=qn) (N:=N) (bs:=bs) (bm:=tl) (hdct:=hdct) (sn:=sn) (sub:=sub) (ab:=ab) (col:=col) (dd:=dd) (k0:=k0) (k1:=k1) (k2:=k2) (k3:=k3) (k5:=k5)
  HI (mN:=mN) (T.hasType HI.hasBase) (I.ok.hd hc) (by rw[he];show (false||(Dm cpos (A3 rest X.env)).any (·.1))=false;rw[hpl];rfl) hni (kA I hg hm ⟨rfl,?_⟩ hdb)
 have run:=ZO ha I r re af cpos;rw[he] at run ⊢;refine Ka (thn run λus s2 ⟨vs,H1,P1,α1,ds,S1,I1,rv,r1,re1,rp,e1,e2,q⟩=>?_);have hl:us.length=ds.length:=by rw[rp.length,rv.length]
 by_cases hz:ds.length<=lim
 .rw[A0 hz] at q
  refine⟨rfl,by rw[hl,<- zL];exact hz,I1.bk _ _ hC,hN.keeps I1.bk,T.keeps I1.bk,λh' e hm=>q _ _ ⟨e,pins,σ,H1,P1,α1,rfl,I1.kept (t':=s2.toks) hm.keeps,r1,qF.refl _,AF _,hF,.new s2.heap us hm I1.stack λb o eb old=>?_⟩⟩
  obtain⟨o1,q1⟩:=Old.there I1 hF old;have q2:=hm.keeps b o1 q1;rw[eb] at q2;cases q2;exact q1
 .rw[Aw hz] at q;exact Al q
end
section
variable {X:Cx}{pins:Aa (Ad × AR)}{σ : _L.St}{H:Hp}{s:Ag}
theorem dY {M:E6}{A:AB}{E:Ac->Ag->Prop}{base h:AC}{env:El}{outer:Aa El}{L e:Ad}{cls:Ac}{Q:H8->Ag->Prop}
  (hfr:A.frames=Ab (env::outer)) (hf:env.frame=Ab L) (hkb:base.StaysIn h) (hl:h.FunFrames base (env::outer)) (hx:Ju h s.heap e cls args)
  (hQ:∀ h' a0,Oa base (env::outer) e cls a0 L h'->s.heap.UpToSlots h'->Q () { s with heap:=h' }) : Ar M A (LD (.ref e) env) Q E s:=by
 obtain⟨t,he,htn,ht⟩:=hx.there;have fresh:∀ b,h.get? b=none->base.get? b=none:=λb hb=>by
  cases hq:base.get? b with
  |none=>rfl
  |some o'=>have z:=hkb b o' hq;rw[hb] at z;cases z
 unfold LD;simp only[hf];refine Af (CH he rfl (x:=.none) rfl ?_);rw[Aw (by decide)]
 refine wpAny_entryW hfr (hl.of_keeps λb o hb _=>⟨o,hx.keeps b o hb,rfl⟩) hf he (λb o hb=>hx.keeps b o (hkb b o hb)) (fresh e hx.new) rfl (by simp) (a0:=.ref t) rfl λh' hN=>?_
 obtain⟨n1,n2,n3,n4⟩:=hN;exact hQ h' (.ref t) ⟨n1,fresh e hx.new,n2,n3⟩ n4
theorem iT {M:E6}{A:AB}{E:Ac->Ag->Prop}{c:Ac}{e:Ad}{Q:H8->Ag->Prop}(I:Inv X pins σ H s)(F:Fn1 X)(hA:A.frames=Ab X.stack)(f:FlyX X pins H c e s.heap)
  (hQ:∀ h' B a0,Hq B X.stack e c a0 h'->Inv X pins σ H { s with heap:=h' } -> Cv X pins H B h'->Q () { s with heap:=h' }) :
  Ar M A (LD (.ref e) X.env) (λ_ s₂=>Ar M A (LG (.ref e) none) Q E s₂) E s:=by
 have land:∀ (B:AC) (a0:Ac) (h1:AC),Cv X pins H B s.heap->Oa B X.stack e c a0 X.env.locals h1->s.heap.UpToSlots h1->Ar M A (LG (.ref e) none) Q E { s with heap:=h1 }:=λB a0 h1 cv hh up=>by
  refine wpAny_landsW (s:={ s with heap:=h1 }) hh λh2 f2 u2=>?_
  obtain⟨I2,cv2⟩:=Inv.fly I F cv f2.1 (up.trans u2);exact hQ h2 B a0 f2 I2 cv2
 cases f with
 |new g args hm hf hk =>
  obtain⟨k1,k2,k3⟩:=eK I hm hf hk;rw[F.2.1] at hA;exact dY hA F.2.2 k1 (by rw[<- F.2.1];exact k2) hm λh' a0 x1 x2=>land _ a0 h' k3 (F.2.1▸x1) x2
 |fly B a0 fl cv =>
  rw[F.2.1] at hA;exact wpAny_looks_onW hA F.2.2 (by rw[<- F.2.1];exact fl) λh' x1 x2=>land B a0 h' cv (by rw[F.2.1];exact x1) x2
theorem l0 {B:AC}{c a0:Ac}{e:Ad}(I:Inv X pins σ H s)(F:Fn1 X)(fl:Hq B X.stack e c a0 s.heap)(cv:Cv X pins H B s.heap):¬ Old X pins H e/\e ∉ frs X.stack/\∃ ob,s.heap.get? e=Ab ob/\ob.cls=c:=by
 obtain⟨oe,vs,he,hc,hd,_⟩:=fl.first
 have nf:e ∉ frs X.stack:=λz=>by
  obtain⟨_,o,ho,hn⟩:=I.stack.mem z;rw[he] at ho;cases ho;exact hn vs hd
 refine⟨λz=>?_,nf,oe,he,hc⟩;have q:=cv e oe he z nf;rw[fl.2.1] at q;cases q
theorem Inv.track {e:Ad}{c:Ac}{ob:AR}(I:Inv X pins σ H s)(F:Fn1 X)(no:¬ Old X pins H e)(nf:e ∉ frs X.stack)(he:s.heap.get? e=Ab ob)(hc:ob.cls=c):Inv X pins σ (upd H e (mU e c)) s:=by
 have hn:H e=none:=by
  cases q:H e with
  |none=>rfl
  |some u=>exact absurd (.inr (.inl (by rw[q];intro z;cases z))) no
 have nL:e≠X.env.locals:=λz=>nf (F.mem.mpr (.inl z));have n0:∀ b o,X.s₀.heap.get? b=Ab o->b≠e:=λb o q z=>no (.inl ⟨o,z▸q⟩);refine⟨I.ok,I.os,I.bare,⟨I.base.keep,I.base.slot,λb o q n hx=>?_,I.base.there,λb xs q=>?_,λb o xs q=>?_,λb ps q=>?_⟩,I.loc,I.cell,?_,λx k q=>?_,λp hp=>?_,λb u q=>?_,I.len⟩
 .rw[qG (n0 b o q)];exact I.base.free b o q n hx
 .have z:=I.base.tups b xs q
  rw[qG (qN z hn)];exact z
 .have z:=I.base.frzs b o xs q
  rw[qG (qN z hn)];exact z
 .obtain⟨m,z⟩:=I.base.tbls b ps q
  exact⟨m,by rw[qG (qN z hn)];exact z⟩
 .rw[qG (Cf nL)];exact I.free
 .have z:k≠e:=λz=>no (.inr (.inr (.inr ⟨x,z▸q⟩)))
  rw[qG z];exact I.freeC x k q
 .obtain⟨a1,a2,a3,a4,a5⟩:=I.pin p hp
  have z:p.1≠e:=λz=>no (.inr (.inr (.inl ⟨p,hp,z⟩)));exact⟨a1,by rw[qG z];exact a2,a3,a4,a5⟩
 .by_cases hb:b=e
  .subst hb
   rw[qS] at q;cases q;refine⟨⟨ob,he,hc⟩,⟨ob,he⟩,λh1 h2 ⟨o,q1,q2⟩ k=>⟨o,k o q1,q2⟩⟩
  .rw[qG hb] at q
   exact(I.hok b u q).stay (λ_ _ _ z=>z) (λk z=>by rw[qG (qN z hn)];exact z) λk xs z=>by rw[qG (qN z hn)];exact z
theorem Inv.gone {i t':Ai}{n:Ap}{h':AC}(I:Inv X pins σ H s)(hN:X.N.Nodup)(hi:X.N[i]? = Ab n){m:Ap->Ak Ac}{v:Ak Ac}(hl:∀ (j:Ai) (y:Ap) (w:V),X.N[j]? = Ab y->σ[j]? = Ab (Ab w)->Vis X.env.scope y->∃ u,qI w u/\YU X.env s.heap m y u)(hv:h'.Ns X.env.locals λy=>if y=n then v else m y)(sb:Er X.env.locals s.heap h') :
  Inv X pins (σ.set i none) H { s with heap:=h',toks:=t' }:=by
 have neL:∀ b o,X.s₀.heap.get? b=Ab o->b≠X.env.locals:=λb o e=>AX (Ax (Ay e) I.ok.above);have kp:∀ b o,b≠X.env.locals->s.heap.get? b=Ab o->h'.get? b=Ab o:=λb o n e=>(sb.2 b n).trans e;refine⟨I.ok,I.os,I.bare,⟨λb o e n hb hx=>kp b o (neL b o e) (I.base.keep b o e n hb hx),λb o e n hb hx=>?_,I.base.free,λb o e hx=>?_,I.base.tups,I.base.frzs,I.base.tbls⟩,⟨_,hv,λj y w e1 e2 e3=>?_⟩,λx c e=>?_,I.free,I.freeC,λp hp=>?_,λb u q=>?_,by simpa using I.len⟩
 .obtain⟨sl,q⟩:=I.base.slot b o e n hb hx
  exact⟨sl,kp b _ (neL b o e) q⟩
 .obtain⟨o',q⟩:=I.base.there b o e hx
  exact⟨o',kp b o' (neL b o e) q⟩
 .have hj:i≠j:=λz=>by
   subst z;by_cases hs:i<σ.length
   .rw[By hs] at e2;cases e2
   .rw[Gv (by simp;omega)] at e2;cases e2
  rw[Bs hj] at e2;obtain⟨u,r,l⟩:=hl j y w e1 e2 e3;refine⟨u,r,?_⟩;rcases l with⟨k,z⟩|⟨k,c,z,zc⟩
  .refine .inl ⟨k,?_⟩
   have:y≠n:=λz=>hj (gB hN hi (z▸e1));simp[this,z]
  .exact .inr ⟨k,c,z,zc.sameBut sb (I.cne y c z)⟩
 .obtain⟨w,z⟩:=I.cell x c e
  exact⟨w,z.sameBut sb (I.cne x c e)⟩
 .obtain⟨e,n,ne,nf,d⟩:=I.pin p hp
  exact⟨kp p.1 p.2 ne e,n,ne,nf,d⟩
 .refine(I.hok b u q).stay (λc w hc z=>kp c w ?_ z) (λ_ z=>z) λ_ _ z=>z
  rintro rfl;rcases hc with rfl|hc
  .rw[I.free] at q;cases q
  .rw[I.free] at hc;cases hc
theorem l5 {A:AB}{E:Ac->Ag->Prop}{i:Ai}{n:Ap}{pos:CG}{Q:H8->Ag->Prop}(I:Inv X pins σ H s)(hN:X.N.Nodup)(hi:X.N[i]? = Ab n)(hlo:X.env.scope.names.lookup n=Ab .local)
  (h:∀ s',Inv X pins (σ.set i none) H s'->Q () s'):Ar M A (do bindName X.env n .none;unbindBehindTheSuite X.env n pos) Q E s:=by
 obtain⟨m,hm,hl⟩:=id I.loc;exact wpAny_nameGoes_keeps hlo hm (by rw[I.ok.kind];rfl) λh' v hv sb=>h _ (Inv.gone I hN hi hl hv sb)
end
abbrev Cx.tryIn (X:Cx)(E:Ac->Ag->Prop)(pn:Aa (Ad × AR)):Cx:={ X with xe:=E,pn:=pn }
abbrev Cx.suite (X:Cx)(e:Ad):Cx:=Cx.re X (X.A.mark (Ab (.ref e))) false λ_ _=>CF
noncomputable def gG (N i:Ai)(cs:Aa Ac)(f g:DS):DS:=λenv S=>match f env S with
 |.ex c x env1 S1=>if cs.contains c then (match g ((Bf N none).set i (Ab (.exn c))) S1 with
   |.rt d S2=>.rt d S2
   |.nx env2 S2=>.nx (env2.set i none) S2
   |_=>.bad) else .bad
 |o=>o
section
variable {X:Cx}{pins:Aa (Ad × AR)}{σ : _L.St}{H:Hp}{s:Ag}
theorem Inv.inTry (I:Inv X pins σ H s)(E:Ac->Ag->Prop):Inv (Cx.tryIn X E (X.pn++pins)) [] σ H s:=
 ⟨⟨I.ok.mod,I.ok.kind,I.ok.glob,I.ok.blt,I.ok.above,I.ok.inj,I.ok.has,I.ok.cab,I.ok.hd,I.ok.frames,I.ok.stk,I.ok.exf,I.ok.bs,I.ok.bsz,I.ok.noex,I.ok.exfs,I.ok.funs,I.ok.frf⟩,I.os,I.bare,I.base,I.loc,I.cell,I.free,I.freeC,λp hp=>I.pin p (by simpa using hp),I.hok,I.len⟩
theorem Inv.outTry {E:Ac->Ag->Prop}(I:Inv (Cx.tryIn X E (X.pn++pins)) more σ H s):Inv X pins σ H s:=
 ⟨⟨I.ok.mod,I.ok.kind,I.ok.glob,I.ok.blt,I.ok.above,I.ok.inj,I.ok.has,I.ok.cab,I.ok.hd,I.ok.frames,I.ok.stk,I.ok.exf,I.ok.bs,I.ok.bsz,I.ok.noex,I.ok.exfs,I.ok.funs,I.ok.frf⟩,I.os,I.bare,I.base,I.loc,I.cell,I.free,I.freeC,λp hp=>I.pin p (Cc _ hp),I.hok,I.len⟩
theorem SP.outTry {E:Ac->Ag->Prop}{D:Ends}{f:Flow}{s':Ag}(h:SP (Cx.tryIn X E (X.pn++pins)) [] D f s'):SP X pins D f s':=by
 cases f with
 |next=>obtain⟨σ',H',I,q⟩:=h;exact⟨σ',H',Inv.outTry I,q⟩
 |brk=>obtain⟨σ',H',I,q⟩:=h;exact⟨σ',H',Inv.outTry I,q⟩
 |cont=>obtain⟨σ',H',I,q⟩:=h;exact⟨σ',H',Inv.outTry I,q⟩
 |ret u=>obtain⟨v,σ',H',I,r,q⟩:=h;exact⟨v,σ',H',Inv.outTry I,r,q⟩
theorem FlyX.outTry {E:Ac->Ag->Prop}{c:Ac}{e:Ad}{h:AC}(f:FlyX (Cx.tryIn X E (X.pn++pins)) more H c e h):FlyX X pins H c e h:=by
 have old:∀ b,Old X pins H b->Old (Cx.tryIn X E (X.pn++pins)) more H b:=λb o=>by
  rcases o with o|o|⟨p,hp,z⟩|o
  .exact .inl o
  .exact .inr (.inl o)
  .exact .inr (.inr (.inl ⟨p,Cc _ hp,z⟩))
  .exact .inr (.inr (.inr o))
 cases f with
 |new g args hm hf hk=>exact .new g args hm hf λb o e q=>hk b o e (old b q)
 |fly B a0 fl cv=>exact .fly B a0 fl λb o e q n=>cv b o e (old b q) n
theorem cA {K:Ah}{P:Hp}{α:Aa Ad}{n:Ai}(h:σ.length=n):qV K P α σ (Bf n none):=by
 refine⟨by simp[h],λi d e=>?_⟩
 rw[Ft] at e
 split at e <;> cases e
theorem qV.unset {K:Ah}{P:Hp}{α:Aa Ad}{env:qH}(re:qV K P α σ env)(i:Ai):qV K P α (σ.set i none) (env.set i none):=by
 refine⟨by simp[re.1],λj d e=>?_⟩
 by_cases hj:i=j
 .subst hj
  by_cases hi:i<env.length
  .rw[By hi] at e;cases e
  .rw[Gv (by simp;omega)] at e;cases e
 .rw[Bs hj] at e ⊢
  exact re.2 j d e
end
section
variable {X:Cx}{pos:CG}{f g:DS}
theorem UD {pins:Aa (Ad × AR)}{D:Ends}{c:Ac}{e C0:Ad}{s':Ag}{σ:_L.St}{H P:Hp}{α:Aa Ad}{x n:Ap}{i:Ai}{b₀:Cs}{suite:Aa Cs}{hpos:CG}
  (F:Fn1 X) (hg:Gl X x) (hm:X.mg x=Ab (.ref C0)) (hcs:∀ c∈cs,Ek X.K c (.ref C0)=Ab true) (hN:X.N.Nodup) (hi:X.N[i]? = Ab n) (hlo:X.env.scope.names.lookup n=Ab .local)
  (hs:∀ e,PSs (Cx.suite X e) (b₀::suite) (tDS (Cx.suite X e) g)) (hc:cs.contains c=true) (I:Inv X pins σ H s') (r:Rel X.K H P α S1) (fl:FlyX X pins H c e s'.heap)
  (af:z0 X P α (match g ((Bf X.N.length none).set i (Ab (.exn c))) S1 with|.rt d S2=>.rt d S2|.nx env2 S2=>.nx (env2.set i none) S2|_=>.bad) D) (hdb:(x == ("__debug__" : Ap))=false) :
  Ar (As X.prog X.w) X.A (LD (.ref e) X.env) (λ_ s₂=>Ar (As X.prog X.w) X.A (LG (.ref e) none) (λ_ s₃ =>
   Ar (As X.prog X.w) X.A (handleBy (.ref e) X.env [.ExceptHandler (Ab (.Name x np)) (Ab n) (b₀::suite) hpos]) (SP X pins D) X.xe s₃) X.xe s₂) X.xe s':=by
 have hcs':Ek X.K c (.ref C0)=Ab true:=hcs c (by simpa using hc)
 have Z:∀ {σ : _L.St} {H:Hp} {s:Ag},Inv X pins σ H s->Inv (Cx.suite X e) pins σ H s:=λI=>Inv.re I _ false _ I.ok.frames λz=>nomatch z;refine iT I F I.ok.frames fl λh5 B a0 f5 I5 cv5=>?_;refine wpAny_handleBy_cons (codeAny_handlers_test (A:=X.A.mark (Ab (.ref e))) (kA (X:=Cx.suite X e) (Z I5) hg hm ?_ hdb)) (by intro q;cases q)
 obtain⟨no5,nf5,ob5,he5,hc5⟩:=l0 I5 F f5 cv5;refine(PySem.W.exm_one I5.kIn (by subst hc5;exact(Og he5).andThen .now) hcs').at ?_
 refine codeAny_handlers_suite_as ?_;refine lands_againW (s:={ s' with heap:=h5 }) f5 λh6 f6 u6=>?_
 obtain⟨I6,cv6⟩:=Inv.fly I5 F cv5 f6.1 u6;obtain⟨no6,nf6,ob6,he6,hc6⟩:=l0 I6 F f6 cv6;have J6:Inv X pins σ (upd H e (mU e c)) { s' with heap:=h6 }:=Inv.track I6 F no6 nf6 he6 hc6
 have hn:H e=none:=by
  cases q:H e with
  |none=>rfl
  |some u=>exact absurd (.inr (.inl (by rw[q];intro z;cases z))) no6
 obtain⟨r1,sP⟩:=r.pure (o:=mU e c) hn;refine gI (X:=Cx.suite X e) (v:=.ref e) (Z J6) hN hi (.inl hlo) rfl (λs7 I7=>?_) (.inr hlo);have re7:qV X.K (upd P e (mU e c)) α (σ.set i (Ab (.ref e))) ((Bf X.N.length none).set i (Ab (.exn c))):=(cA I.len).set i (by simp only[Rep];exact⟨e,rfl,qS⟩)
 refine Dn (hs e pins s7 _ _ { nx:=λσ' H'=>D.nx (σ'.set i none) H',rt:=D.rt } I7 ⟨_,α,_,S1,r1,re7,?_⟩) (λfl s8 q=>?_) λ_ _ z=>Al z
 .cases q:g ((Bf X.N.length none).set i (Ab (.exn c))) S1 with
  |rt d S2=>rw[q] at af;exact λv H' P' α' r' e1 e2 rp=>af v H' P' α' r' (sP.trans e1) e2 rp
  |nx env2 S2=>rw[q] at af;exact λσ' H' P' α' r' re' e1 e2=>af _ H' P' α' r' (qV.unset re' i) (sP.trans e1) e2
  |bk env2 S2=>rw[q] at af;exact Al af
  |ct env2 S2=>rw[q] at af;exact Al af
  |ex c' x' env2 S2=>rw[q] at af;exact Al af
  |bad=>rw[q] at af;exact Al af
 .cases fl with
  |next =>
   obtain⟨σ',H',I8,q⟩:=q;exact l5 (Inv.unre I8 I.ok.frames I.ok.hd) hN hi hlo λs9 I9=>⟨_,H',I9,q⟩
  |brk =>
   obtain⟨_,_,_,q⟩:=q;exact Al q
  |cont =>
   obtain⟨_,_,_,q⟩:=q;exact Al q
  |ret u =>
   obtain⟨v,σ',H',I8,rv,q⟩:=q;exact l5 (Inv.unre I8 I.ok.frames I.ok.hd) hN hi hlo λs9 I9=>⟨v,_,H',I9,rv,q⟩
set_option tactic.hygienic true in
theorem VZ {x n:Ap}{C0:Ad}{i:Ai}{b₀:Cs}{suite:Aa Cs}{np hpos:CG}(F:Fn1 X)(hb:∀ E pn,Jc (As X.prog X.w) X.A X.env E->PSs (Cx.tryIn X E pn) body (tDS (Cx.tryIn X E pn) f))
  (hs:∀ e,PSs (Cx.suite X e) (b₀::suite) (tDS (Cx.suite X e) g)) (hg:Gl X x) (hm:X.mg x=Ab (.ref C0)) (hcs:∀ c∈cs,Ek X.K c (.ref C0)=Ab true) (hN:X.N.Nodup) (hi:X.N[i]? = Ab n:=by rfl) (hlo:X.env.scope.names.lookup n=Ab .local:=by rfl)
  (hdb:(x == ("__debug__" : Ap))=false:=by decide):PS X (.Try body [.ExceptHandler (Ab (.Name x np)) (Ab n) (b₀::suite) hpos] [] [] pos) (tDS X (gG X.N.length i cs f g)):=by
 intro pins s σ H D I h;obtain⟨P,α,env,S,r,re,af⟩:=h;refine wpAny_Try_except ?_;refine Dn (hb _ (X.pn++pins) (PassesOwn.looking (K:=λe s₂=>Ar (As X.prog X.w) X.A (LG e none) (λ_ s₃=>Ar (As X.prog X.w) X.A (handleBy e X.env [.ExceptHandler (Ab (.Name x np)) (Ab n) (b₀::suite) hpos]) (SP X pins D) X.xe s₃) X.xe s₂) (E₁:=X.xe))
  [] s σ H D (Inv.inTry I _) ⟨P,α,env,S,r,re,?_⟩) (λfl s1 q=>?_) λ_ _ z=>z
 .unfold gG at af
  cases q:f env S with
  |rt d S2=>rw[q] at af;exact af
  |nx env2 S2=>rw[q] at af;exact af
  |bk env2 S2=>rw[q] at af;exact af
  |ct env2 S2=>rw[q] at af;exact af
  |bad=>rw[q] at af;exact af
  |ex c x' env2 S2 =>
   rw[q] at af;dsimp only at af;intro u s' k;obtain⟨e,pins',σ',H',P',α',rfl,I',r',e1,e2,F',fl⟩:=k
   split at af
   .rename_i hc
    exact UD F hg hm hcs hN hi hlo hs hc (Inv.outTry I') r' (FlyX.outTry fl) (z0.base e1 e2 af) hdb
   .exact Al af
 .have q':=SP.outTry q
  cases fl with
  |next=>exact Hg q'
  |brk=>exact q'
  |cont=>exact q'
  |ret u=>exact q'
end
end _D
namespace _D
open PySem PySem.Spec PyProof.Rows _L PySem.W
variable {R:Jd->Ag->Prop}
structure ExnK (K:Ah)(C:Ad):Prop where
 ga:findIn K (.ref C) "__getattribute__" = Ab (Ab (.builtin "BaseException.__getattribute__"))
 hk:findIn K (.ref C) "__getattr__" = Ab none
 cl:findIn K (.ref C) "__class__" = Ab (Ab (.builtin "object.__class__"))
 sp:specialIn K (.builtin "object.__class__") "__get__" = Ab (Ab (.builtin "getset_descriptor.__get__"))
 tk:takesIn K (.builtin "object.__class__")=Ab true
 mo:mroIn K C (.type "object")=Ab true
 mb:mroIn K C (.type "BaseException")=Ab true
 isC:(clsIn K C).isSome=true
section
variable {prog:A6}{w:AK}{A:AB}{E:Ac->Ag->Prop}{s:Ag}{K:Ah}{x C:Ad}
abbrev yB (x C:Ad)(h:AC):Prop:=∃ ob,h.get? x=Ab ob/\ob.cls=.ref C
theorem yB.type {M:E6}{h:AC}(I:yB x C h):Looks M h (typeOf (.ref x)) (.ref C):=by
 obtain⟨ob,e,c⟩:=I;rw[<- c];exact(Looks.ld e).andThen .now
theorem iA {M:E6}{h:AC}(X:K.In h)(Z:ExnK K C):Looks M h (NG (.ref x) (.ref C) "__class__") (.bind (.builtin "getset_descriptor.__get__") (.builtin "object.__class__")):=by
 have l1:=Lw (M:=M) X Z.cl;have l2:Looks M h (NB (Ab (.builtin "object.__class__"))) (Ab (.builtin "getset_descriptor.__get__")):=looks_specialIn X Z.sp;have l3:=looks_takesIn (M:=M) X Z.tk;have l4:Looks M h (Lx (Ab (.builtin "object.__class__")) (Ab (.builtin "getset_descriptor.__get__"))) (Ab (.builtin "getset_descriptor.__get__",.builtin "object.__class__")):=l3.andThen .now;exact l1.andThen (l2.andThen (l4.andThen (Looks.tag .now)))
theorem XC {tp:Ac}(X:K.In s.heap)(Z:ExnK K C)(I:yB x C s.heap)(h:R (.ok (.ret (.ref C))) s) :
  DH (As prog w) A (.call (.builtin "getset_descriptor.__get__") ⟨[.builtin "object.__class__",.ref x,tp],[]⟩) R s:=by
 have LT:=yB.type (M:=As prog w) I;have LM:=looks_mroIn (M:=As prog w) X Z.mo;cases s;refine Kb KF.slot_gs.plain KF.entry_gs (KF.slot_gs.check _ _ _ _ _ _ _ _ KF.type_class (KF.args_gs _ _ _) ?_);unfold Hv.«getset_descriptor.__get__» Ly;rw[dga_obj];refine Af (An ?_);unfold Ks IK IR isInstance;simp only[KF.owner_class]
 repeat lk
 refine⟨Code.quiet_builtin _ (by decide +kernel),CB KF.entry_class ?_⟩
 unfold Hv.«object.__class__» shownTypeOf
 repeat lk
 exact h
theorem U6 {tk:IM}(X:K.In s.heap)(Z:ExnK K C)(I:yB x C s.heap)(h:R (.ok (.ret (.ref C))) s) :
  DH (As prog w) A (.call (.builtin "BaseException.__getattribute__") ⟨[.ref x,.str "__class__" tk],[]⟩) R s:=by
 have LT:=yB.type (M:=As prog w) I;have LM:=looks_mroIn (M:=As prog w) X Z.mb;have LF:=iA (M:=As prog w) (x:=x) X Z;have hk:builtinKind "BaseException.__getattribute__" = Ab .slot:=by decide +kernel
 have hsp:splitId "BaseException.__getattribute__" = Ab ("BaseException","__getattribute__"):=by decide +kernel
 have chk:∀ (A:AB) (Q:H8->Ag->Prop) (E:Ac->Ag->Prop),Q () s->Ar (As prog w) A (LV "BaseException.__getattribute__" ⟨[.ref x,.str "__class__" tk],[]⟩) Q E s:=by
  intro A Q E hq;have ha:=PySem.F.args_bexc_ga (.ref x) (.str "__class__" tk);simp only[LV,hk,hsp];unfold isInstance;refine Af (Af (LT.here (LM.here ?_)))
  repeat (any_goals (first|assumption|wp_step))
 refine Kb Iy.ga.plain PySem.F.entry_bexc_ga (chk _ _ _ ?_);cases s;unfold Hv.«object.__getattribute__»;refine Af (Gw (show slotArgs "__getattribute__" 1 ⟨[.ref x,.str "__class__" tk],[]⟩=pure (.ref x,[.str "__class__" tk]) from by kernel_rfl) ?_)
 refine Af (An (Af (LT.at (Af (LF.at ?_)))));show Ar _ _ (HX _ _ _ _) _ _ _;unfold HX;dsimp only;exact Af (Bx (Kr (XC X Z I (An h))))
theorem rL {Q:Ak Ac->Ag->Prop}(X:K.In s.heap)(Z:ExnK K C)(I:yB x C s.heap)(h:Q (Ab (.ref C)) { s with toks:=s.toks+1 }) : Ar (As prog w) A (getAttr? (.ref x) "__class__") Q E s:=by
 have LT:=yB.type (M:=As prog w) I;have L1:=Lw (M:=As prog w) X Z.ga;have lk2:=Lw (M:=As prog w) X Z.hk;unfold getAttr? getAttrBy? getAttrBy;cases s;refine Af (wpAny_mkText (Af (Gx (Bx (Af (LT.at (Af (L1.at ?_))))))));dsimp only;have hx2:(Nx "BaseException.__getattribute__" == Nx "object.__getattribute__")=false:=by decide +kernel
 rw[hx2,Bool.and_false,Aw Dy];unfold getAttrByItsOwn hookBefore;rw[A0 (show onTheHeap (.ref C)=true from rfl)]
 refine Af (lk2.at (Af (Gx (Bx ?_))));unfold callGetattribute;rw[Ni,Aw Dy];unfold boundAndCalled;refine Af (Gw (Iy.ga.bind (.ref x)) ?_);refine Kr (U6 X Z I ?_);show Ar _ _ (handedOut (.ref C)) _ _ _;exact An (An h)
set_option tactic.hygienic true in
theorem tE (Z:ExnK K C):KitX K (.ref x) (.ref C) (yB x C) where
 ty:=λ_ _ _ I=>I.type
 it:=λM h X _=>by
  have z:=Z.isC;unfold clsIn at z
  split at z
  .rename_i ho
   intro A' Q' E' s' k q;unfold isType loadHead;exact Af (wpAny_loadPart (k _ _ (X _ _ ho)) (An q))
  .cases z
 ne:=λh tp dd its n sl X htp=>by
  have z:=Z.isC;unfold clsIn at z
  split at z
  .rename_i ho
   cases hq:(AL C == AL tp) with
   |false=>rfl
   |true =>
    obtain rfl:C=tp:=Value.ref.inj (Hw.mp hq);have y:=(X _ _ ho).symm.trans htp;cases y
  .cases z
 ca:=λX I k=>rL X Z I k
end
end _D
namespace _D
open PySem PySem.Spec PyProof.Rows _L
variable {w:AK}{o:AR}{cells:Aa (Ap × Ad)}{α α1:Aa Ad}{ds:Aa D}{E:Ac->Ag->Prop}{C:Ad}{s:Ag}{K:Ah}{H P P1:Hp}{S S1:Sto}
theorem gJ {α:Type}{t:EZ α}{Q Q':α->Ag->Prop}{M:E6}{A:AB}(h:Ar M A t Q (λ_ _=>CF) s)(hQ:∀ a s,Q a s->Q' a s):Ar M A t Q' E s:=Dn h hQ λ_ _ x=>x.elim
noncomputable def vC (ifs:Aa AA)(env:El):EZ Aq:=forIn ifs true λc r=>if r=true then do let ok <- NH c env (eval c env);pure (E1 ok) else pure (E1 r)
def PTs (X:Cx)(ifs:Aa AA)(t:DT):Prop:=
 ∀ (pins:Aa (Ad × AR)) (s:Ag) (σ : _L.St) (H:Hp) (Q:Aq->Hp->Prop),Inv X pins σ H s->tDT X t σ H Q->Ar (As X.prog X.w) X.A (vC ifs X.env) (TP X pins σ Q) X.xe s
noncomputable def pS:DT:=λ_ S=>.ok true S
section
variable {X:Cx}
theorem kQ {prog:A6}{A:AB}{env:El}{Q:Aq->Ag->Prop}:∀ (ifs:Aa AA) {s:Ag},Q false s ->
  Ar (As prog w) A (forIn ifs false λc r=>if r=true then do let ok <- NH c env (eval c env);pure (E1 ok) else pure (E1 r)) Q E s
 |[],s,h=>by rw[Gc];exact An h
 |c::cs,s,h=>by
  rw[Fe];rw[Aw (by simp)]
  refine Af (An ?_);exact kQ cs h
theorem X7:PTs X [] pS:=λpins s σ H Q I ⟨P,α,env,S,r,re,af⟩=>by
 unfold vC;rw[Gc];exact An ⟨H,I,af H P α r (qF.refl _) (AF _)⟩
theorem i7 {c:AA}{cs:Aa AA}{t u:DT}(h1:PT X c (tDT X t))(h2:PTs X cs u):PTs X (c::cs) (wI t u):=λpins s σ H Q I ⟨P,α,env,S,r,re,af⟩=>by
 unfold vC;rw[Fe,A0 rfl];refine Af (Af (thn (vU (λQ' q=>h1 pins s σ H Q' I q) r re af) λb s1 ⟨H1,P1,α1,S1,I1,r1,re1,e1,e2,af1⟩=>An ?_));cases b with
 |true=>exact h2 pins s1 σ H1 Q I1 ⟨P1,α1,env,S1,r1,re1,yQ.base e1 e2 af1⟩
 |false=>exact kQ cs ⟨H1,I1,af1 H1 P1 α1 r1 e1 e2⟩
theorem M8 {e:AA}{f:DE}{pins:Aa (Ad × AR)}{σ:_L.St}{env:qH}{d:D}(he:PE X e (tD X f))(I:Inv X pins σ H s)(r:Rel X.K H P α S)(re:qV X.K P α σ env)(q:f env S=.ok d S1) :
  Ar (As X.prog X.w) X.A (eval e X.env) (λu s1=>∃ v H1 P1 α1,Got X pins σ env P α u s1 v H1 P1 α1 d S1) X.xe s:=by
 refine thn (zI (g:=λd S=>Res.ok d S) (Ok:=λd' S'=>d'=d/\S'=S1) he I r re (by rw[q];exact⟨rfl,rfl⟩)) λu s1 ⟨v,H1,P1,α1,d',S',G,h1,h2⟩=>?_
 have e1:d'=d:=h1;have e2:S'=S1:=h2;subst e1;subst e2;exact⟨v,H1,P1,α1,G⟩
theorem BP {ifs:Aa AA}{t:DT}{pins:Aa (Ad × AR)}{σ:_L.St}{env:qH}{b:Aq}(he:PTs X ifs t)(I:Inv X pins σ H s)(r:Rel X.K H P α S)(re:qV X.K P α σ env)(q:t env S=.ok b S1) :
  Ar (As X.prog X.w) X.A (vC ifs X.env) (λb' s1=>b'=b/\∃ H1 P1 α1,Inv X pins σ H1 s1/\Rel X.K H1 P1 α1 S1/\qV X.K P1 α1 σ env/\qF P P1/\α<+:α1) X.xe s:=by
 refine thn (he pins s σ H (λb' H1=>b'=b/\∃ P1 α1,Rel X.K H1 P1 α1 S1/\qV X.K P1 α1 σ env/\qF P P1/\α<+:α1) I ⟨P,α,env,S,r,re,?_⟩) λb' s1 ⟨H1,I1,e,P1,α1,q1,q2,q3,q4⟩=>⟨e,H1,P1,α1,I1,q1,q2,q3,q4⟩;rw[q];exact λH' P' α' r' e1 e2=>⟨rfl,P',α',r',re.mono e1 e2,e1,e2⟩
theorem M9 {tg:AA}{g:DG}{pins:Aa (Ad × AR)}{σ:_L.St}{env env1:qH}{d:D}{v:V}{u:Ac}(hg:PG X tg (tDG X g))(I:Inv X pins σ H s)(r:Rel X.K H P α S)(re:qV X.K P α σ env)(rv:qI v u)
  (rp:Rep X.K P α d v) (q:g d env S=.ok env1 S1) :
  Ar (As X.prog X.w) X.A (assign tg X.env u) (λ_ s1=>∃ σ1 H1 P1 α1,Inv X pins σ1 H1 s1/\Rel X.K H1 P1 α1 S1/\qV X.K P1 α1 σ1 env1/\qF P P1/\α<+:α1) X.xe s:=by
 refine thn (hg pins s σ H v u (λσ1 H1=>∃ P1 α1,Rel X.K H1 P1 α1 S1/\qV X.K P1 α1 σ1 env1/\qF P P1/\α<+:α1) I rv ⟨P,α,env,S,d,r,re,rp,?_⟩) λ_ s1 ⟨σ1,H1,I1,P1,α1,q1,q2,q3,q4⟩=>⟨σ1,H1,P1,α1,I1,q1,q2,q3,q4⟩;rw[q];exact λσ' H' P' α' r' re' e1 e2=>⟨P',α',r',re',e1,e2⟩
def pK (K:Ah)(P:Hp)(α : Aa Ad)(ds:Aa D)(o:AR):Prop:=∃ (its:Aa Ac) (n:Ai) (vs:Aa V),o={ cls:=.type "list",data:=.seq its.toArray n } /\ qL vs its/\qE K P α ds vs/\ds.length<=lim
theorem pK.mono (e:qF P P1)(h:α<+:α1)(a:pK K P α ds o):pK K P1 α1 ds o:=by
 obtain⟨its,n,vs,q1,q2,q3,q4⟩:=a;exact⟨its,n,vs,q1,q2,qE.mono e h _ _ q3,q4⟩
theorem pK.cell (a:pK K P α ds o):∀ v,o.data≠.cell v:=by
 obtain⟨its,n,vs,rfl,_⟩:=a;intro v z;cases z
theorem Inv.pin1 {pins:Aa (Ad × AR)}{σ:_L.St}{a:Ad}(I:Inv X pins σ H s)(f:zT X pins H a)(e:s.heap.get? a=Ab o)(d:∀ v,o.data≠.cell v):Inv X (pins++[(a,o)]) σ H s:=
 I.pins_of λp hp=>(Bq.mp hp).elim (λz=>I.pin p (AI _ z)) λz=>by
  have e':p=(a,o):=by simpa using z
  subst e';exact⟨e,f.1,f.2.1,f.2.2.1,d⟩
theorem Inv.pinned1 {pins:Aa (Ad × AR)}{σ:_L.St}{a:Ad}(I:Inv X (pins++[(a,o)]) σ H s):s.heap.get? a=Ab o/\H a=none:=by
 have:=I.pin (a,o) (AI _ (AI _ (by simp)))
 exact⟨this.1,this.2.1⟩
end
structure TurnSt (Y:Cx)(pins:Aa (Ad × AR))(P1:Hp)(α1:Aa Ad)(fp:Aa Ad)(acc:Ad)(env:qH)(S:Sto)(ds:Aa D)(s:Ag)(σ : _L.St)(H P:Hp)(α : Aa Ad)(o:AR):Prop where
 inv:Inv Y pins σ H s
 rel:Rel Y.K H P α S
 env:qV Y.K P α σ env
 same:qF P1 P
 pre:α1<+:α
 fpn:∀ b∈fp,H b=none
 acn:H acc=none
 at':s.heap.get? acc=Ab o
 acc:pK Y.K P α ds o
noncomputable def w4 (cells:Aa (Ap × Ad)):Aa (Ap × Dz)->Aa (Ap × Ad)->Aa (Ap × Ad)
 |[],cs=>cs
 |(n,k)::r,cs=>w4 cells r (if k == .free then (n,(cells.lookup n).getD 0)::cs else cs)
theorem jD {env:El}{scope:Cg}(h:∀ y∈scope.names,y.2=.free->∃ c,env.cells.lookup y.1=Ab c):Ip scope env=pure (w4 env.cells scope.names []):=by
 have go:∀ (l:Aa (Ap × Dz)) (cs:Aa (Ap × Ad)),(∀ y∈l,y.2=.free->∃ c,env.cells.lookup y.1=Ab c) ->
   (forIn l cs λx cs=>match x with|(name,kind)=>if (kind == Dw)=true then do let a <- cellOf env name;pure (E1 ((name,a)::cs)) else pure (E1 cs):EZ (Aa (Ap × Ad)))=pure (w4 env.cells l cs):=by
  intro l
  induction l with
  |nil=>intro cs _;rfl
  |cons y r ih =>
   intro cs hl;obtain⟨n,k⟩:=y;rw[Fe];by_cases hk:k=.free
   .subst hk
    obtain⟨c,hc⟩:=hl (n,.free) Cz rfl;have hc':env.cells.lookup n=Ab c:=hc;have e:cellOf env n=pure c:=by unfold cellOf;rw[hc']
    simp only[Dh,Ca,e,pure_bind];rw[ih _ λz hz=>hl z (AS _ hz)];simp only[w4,Dh,Ca,hc',LW]
   .have hb:(k == Dw)=false:=by simpa using hk
    simp only[hb,Bu,D6,pure_bind];rw[ih _ λz hz=>hl z (AS _ hz)];simp only[w4,hb,Bu,D6]
 unfold Ip;have:=go scope.names [] h;simp only[bind_pure];exact this
theorem kN {x:Ap}{c:Ad}:∀ (l:Aa (Ap × Dz)) (cs:Aa (Ap × Ad)),(w4 cells l cs).lookup x=Ab c->cs.lookup x=Ab c\/((x,Dw)∈l/\c=(cells.lookup x).getD 0)
 |[],cs,h=>.inl h
 |(n,k)::r,cs,h=>by
  rcases kN r _ h with h|⟨h1,h2⟩
  .by_cases hk:k=.free
   .subst hk
    simp only[Dh,Ca,Em] at h;cases hb:x == n with
    |true =>
     rw[hb] at h;have e:x=n:=by simpa using hb
     subst e;exact .inr ⟨Cz,(Bg h).symm⟩
    |false=>rw[hb] at h;exact .inl h
   .have hb:(k == Dw)=false:=by simpa using hk
    simp only[hb,Bu,D6] at h;exact .inl h
  .exact .inr ⟨AS _ h1,h2⟩
theorem bQ {x:Ap}:∀ (l:Aa (Ap × Dz)) (cs:Aa (Ap × Ad)),((x,Dw)∈l\/∃ c,cs.lookup x=Ab c)->∃ c,(w4 cells l cs).lookup x=Ab c
 |[],cs,h=>by
  rcases h with h|h
  .cases h
  .exact h
 |(n,k)::r,cs,h=>by
  refine bQ r _ ?_;rcases h with h|⟨c,h⟩
  .rcases A8.mp h with e|h
   .cases e
    exact .inr ⟨(cells.lookup x).getD 0,by simp only[Dh,Ca,Em]⟩
   .exact .inl h
  .by_cases hk:k=.free
   .subst hk
    simp only[Dh,Ca,Em];cases hb:x == n with
    |true=>exact .inr ⟨_,rfl⟩
    |false=>exact .inr ⟨c,h⟩
   .have hb:(k == Dw)=false:=by simpa using hk
    simp only[hb,Bu,D6];exact .inr ⟨c,h⟩
structure CompSc (scX:Cg)(NX:Aa Ap)(scope:Cg)(N':Aa Ap)(cap:Aa (Ak Ai)):Prop where
 kind:scope.kind=.function
 names:∀ y∈scope.names,y.2=.local -> scope.names.lookup y.1=Ab .local
 cel:∀ y∈scope.names,y.2=.cell->scope.names.lookup y.1=Ab .cell
 free:∀ y∈scope.names,y.2=.free->scX.names.lookup y.1=Ab .cell\/scX.names.lookup y.1=Ab .free
 fr2:∀ y∈scope.names,y.2=.free->scope.names.lookup y.1=Ab .free
 len:cap.length=N'.length
 caps:((cap.zip N').all λp=>match p.1 with|none=>true|some i=>NX[i]? == Ab p.2&&scope.names.lookup p.2 == Ab .free)=true
 nd:N'.Nodup
noncomputable def wV (cap:Aa (Ak Ai))(σ : _L.St):_L.St:=cap.map λo=>match o with
 |none=>none
 |some i=>(σ[i]?).join
noncomputable def wU (cap:Aa (Ak Ai))(env:qH):qH:=cap.map λo=>match o with
 |none=>none
 |some i=>(env[i]?).join
theorem c9 {σ:_L.St}{env:qH}(re:qV K P α σ env)(cap:Aa (Ak Ai)):qV K P α (wV cap σ) (wU cap env):=by
 refine⟨by simp[wV,wU],λj d e=>?_⟩
 unfold wU at e;unfold wV;rw[CV] at e ⊢;cases q:cap[j]? with
 |none=>rw[q] at e;cases e
 |some o =>
  rw[q] at e;cases o with
  |none=>cases e
  |some i =>
   have e':(env[i]?).join=Ab d:=by simpa using e
   cases z:env[i]? with
   |none=>rw[z] at e';cases e'
   |some w =>
    rw[z] at e';have e'':w=Ab d:=e';subst e'';obtain⟨v,h1,h2⟩:=re.2 i d z;exact⟨v,by simp[h1],h2⟩
noncomputable def zC (X:Cx)(N':Aa Ap)(scope:Cg)(cl:Aa (Ap × Ad))(C:Ad)(ex:Aa Ad)(s₀:Ag)(H₀:Hp):Cx:=
 { X with N:=N',s₀:=s₀,H₀:=H₀,env:=compEnvC scope cl C X.env,outer:=X.stack,stack:=X.stack,ex:=ex,fn:=λx=>decide (scope.names.lookup x=Ab .cell),pn:=[],xe:=λ_ _=>CF }
theorem v8 {scope:Cg}{env:El}:∀ {names:Aa (Ap × Dz)} {x:Ap} {k:Dz},
  (names.map λ(n,k)=>if (k == Dw&&env.scope.kind == .function&&env.kindOf n == Ab .cell) then (n,Gy) else (n,k)).lookup x=Ab k ->
  names.lookup x=Ab k\/(k=.cell/\names.lookup x=Ab .free)
 |[],_,_,h=>by simp at h
 |(n,k0)::r,x,k,h=>by
  rw[AQ,Em] at h;rw[Em];dsimp only at h;cases hb:(k0 == Dw&&env.scope.kind == .function&&env.kindOf n == Ab .cell) with
  |true =>
   rw[hb] at h;simp only[Ca] at h;cases hx:x == n with
   |true =>
    rw[hx] at h;have e:Gy=k:=Bg h;have hk:k0=.free:=by
     have:=(Az _ _).mp hb;have:=(Az _ _).mp this.1;simpa using this.1
    subst hk;exact .inr ⟨e.symm,rfl⟩
   |false=>rw[hx] at h;exact v8 (scope:=scope) h
  |false =>
   rw[hb] at h;simp only[Bu,D6] at h;cases hx:x == n with
   |true=>rw[hx] at h;exact .inl h
   |false=>rw[hx] at h;exact v8 (scope:=scope) h
section
variable {X:Cx}{scope:Cg}{N':Aa Ap}{cap:Aa (Ak Ai)}{pins:Aa (Ad × AR)}{σ : _L.St}{H2:Hp}{s2:Ag}{fp:Aa Ad}
theorem uD (S:CompSc X.env.scope X.N scope N' cap){x:Ap}{k:Dz}(h:(relabel scope X.env).names.lookup x=Ab k):scope.names.lookup x=Ab k\/(k=.cell/\scope.names.lookup x=Ab .free):=v8 (scope:=scope) h
theorem sZ (S:CompSc X.env.scope X.N scope N' cap)(ok:X.Ok){x:Ap}{c:Ad}(h:(w4 X.env.cells scope.names []).lookup x=Ab c):X.env.cells.lookup x=Ab c/\(x,Dw)∈scope.names:=by
 rcases kN _ _ h with h|⟨hm,hc⟩
 .cases h
 .have:=S.free _ hm rfl
  obtain⟨c',hc'⟩:=ok.has x this;rw[hc',LW] at hc;rw[hc',hc];exact⟨rfl,hm⟩
noncomputable def oF (scope:Cg)(C:Ad):Aa (Ap × Ad):=Dt (C+1) scope.names []
noncomputable def uB (X:Cx)(scope:Cg)(C:Ad):Aa (Ap × Ad):=Dt (C+1) scope.names (w4 X.env.cells scope.names [])
theorem wB:∀ (names:Aa (Ap × Dz)) (lo:Ai) (acc:Aa (Ap × Ad)),Dt lo names acc=Dt lo names [] ++ acc
 |[],_,_=>rfl
 |(n,k)::r,lo,acc=>by
  unfold Dt
  split
  .rw[wB r _ ((n,lo)::acc),wB r _ [(n,lo)],AM];rfl
  .exact wB r lo acc
set_option tactic.hygienic true in
theorem jG:∀ (names:Aa (Ap × Dz)) (lo:Ai) {n:Ap} {c:Ad},(n,c)∈Dt lo names [] -> (n,Gy)∈names
 |[],_,_,_,h=>by cases h
 |(n0,k)::r,lo,n,c,h=>by
  unfold Dt at h
  split at h
  .rename_i hk
   rw[wB] at h;rcases Bq.mp h with h|h
   .exact AS _ (jG r _ h)
   .have e:(n,c)=(n0,lo):=by simpa using h
    cases e;have:k=Gy:=by simpa using hk
    rw[this];exact Cz
  .exact AS _ (jG r _ h)
theorem zR (S:CompSc X.env.scope X.N scope N' cap)(ok:X.Ok){C:Ad}{x:Ap}{c:Ad}(h:(uB X scope C).lookup x=Ab c):((x,c)∈oF scope C/\scope.names.lookup x=Ab .cell)\/(X.env.cells.lookup x=Ab c/\(x,Dw)∈scope.names):=by
 unfold uB at h;rw[wB,Ln] at h;cases q:(Dt (C+1) scope.names []).lookup x with
 |some c' =>
  rw[q] at h;cases h;have m:=CU q;exact .inl ⟨m,S.cel _ (jG _ _ m) rfl⟩
 |none =>
  rw[q] at h;exact .inr (sZ S ok h)
theorem mL (S:CompSc X.env.scope X.N scope N' cap)(ok:X.Ok){C:Ad}{x:Ap}(h:scope.names.lookup x=Ab .cell\/scope.names.lookup x=Ab .free):∃ c,(uB X scope C).lookup x=Ab c:=by
 unfold uB;rw[wB,Ln];rcases h with h|h
 .have:=Ez scope.names (C+1) [] (x:=x) (.inl h)
  obtain⟨c,hc⟩:=Eh.mp this;exact⟨c,by rw[hc];rfl⟩
 .obtain⟨c',hc'⟩:=bQ (cells:=X.env.cells) scope.names [] (.inl (CU h))
  rw[hc'];cases (Dt (C+1) scope.names []).lookup x with
  |none=>exact⟨c',rfl⟩
  |some c=>exact⟨c,rfl⟩
theorem ZN (S:CompSc X.env.scope X.N scope N' cap)(I2:Inv X pins σ H2 s2)(hf:∀ b∈fp,zT X pins H2 b)(hlt:∀ b∈fp,b<s2.heap.objs.size)(hC:s2.heap.objs.size<=C){h1:AC}(co:CellsOk h1 (C+1) (oF scope C)) :
  (zC X N' scope (uB X scope C) C fp s2 H2).Ok where
 mod:=I2.ok.mod
 kind:=S.kind
 glob:=I2.ok.glob
 blt:=I2.ok.blt
 above:=hC
 inj:=λx y c h1 h2=>by
  rcases zR S I2.ok h1 with⟨m1,_⟩|⟨m1,_⟩ <;> rcases zR S I2.ok h2 with⟨m2,_⟩|⟨m2,_⟩
  .exact PySem.name_of_addr co.apart m1 m2
  .obtain⟨v,ob,hob,_⟩:=I2.cell y c m2
   exact absurd (Ax (Ay hob) hC) (ES.mpr (CD (co.empty x c m1).2))
  .obtain⟨v,ob,hob,_⟩:=I2.cell x c m1
   exact absurd (Ax (Ay hob) hC) (ES.mpr (CD (co.empty y c m2).2))
  .exact I2.ok.inj x y c m1 m2
 has:=λx hx=>by
  have hx':(relabel scope X.env).names.lookup x=Ab .cell\/(relabel scope X.env).names.lookup x=Ab .free:=hx;refine mL S I2.ok ?_;rcases hx' with h|h
  .rcases uD S h with h|⟨_,h⟩
   .exact .inl h
   .exact .inr h
  .rcases uD S h with h|⟨z,_⟩
   .exact .inr h
   .cases z
 cab:=λx c h h2=>by
  have hx:scope.names.lookup x=Ab .cell:=AH h;rcases zR S I2.ok h2 with⟨m,_⟩|⟨_,m⟩
  .exact Bn hC (CD (co.empty x c m).2)
  .have:=S.fr2 _ m rfl
   have this':scope.names.lookup x=Ab .free:=this;rw[hx] at this';cases this'
 hd:=I2.ok.hd
 frames:=I2.ok.frames
 stk:=.inl rfl
 exf:=λb hb=>⟨AX (Ax (hlt b hb) hC),λx c h=>by
  rcases zR S I2.ok h with⟨m,_⟩|⟨m,_⟩
  .exact Cf (AX (EH (Ax (hlt b hb) hC) (co.empty x c m).2))
  .exact(hf b hb).2.2.2.2.1 x c m⟩
 bs:=I2.bs
 bsz:=Bn I2.ok.bsz I2.sz
 noex:=λb o e hb=>by
  obtain⟨_,_,_,h,_⟩:=hf b hb;rcases h with h|h
  .exact I2.ok.noex b o e h
  .exact absurd (Ax (Ay e) (Bn I2.ok.bsz h)) (Bw _)
 exfs:=λb hb hb2=>by
  obtain⟨_,h1,h2,_⟩:=hf b hb;rcases A8.mp (I2.stkSub b hb2) with z|z
  .exact h1 z
  .exact h2 z
 funs:=I2.stack
 frf:=I2.stkFree
theorem aL {s4:Ag}{m:Ap->Ak Ac}(S:CompSc X.env.scope X.N scope N' cap)(I2:Inv X pins σ H2 s2)(hf:∀ b∈fp,zT X pins H2 b)(hlt:∀ b∈fp,b<s2.heap.objs.size)(hC:s2.heap.objs.size<=C)
  (hn:s4.heap.Ns C m) (os:s4.os=s2.os) (gens:s4.gens=s2.gens) (keep:∀ b o,s2.heap.get? b=Ab o->s4.heap.get? b=Ab o) (co:CellsOk s4.heap (C+1) (oF scope C)) :
  Inv (zC X N' scope (uB X scope C) C fp s2 H2) [] (wV cap σ) H2 s4 where
 ok:=ZN S I2 hf hlt hC co
 os:=os
 bare:=gens▸I2.bare
 base:=Un.kept keep
 loc:=by
  refine⟨m,hn,λj x v h1 h2 h3=>?_⟩;have h1':N'[j]? = Ab x:=h1;unfold wV at h2;rw[CV] at h2;cases q:cap[j]? with
  |none=>rw[q] at h2;cases h2
  |some o =>
   rw[q] at h2;cases o with
   |none=>cases h2
   |some i =>
    have e':(σ[i]?).join=Ab v:=by simpa using h2
    have hσ:σ[i]? = Ab (Ab v):=by
     cases z:σ[i]? with
     |none=>rw[z] at e';cases e'
     |some w=>rw[z] at e';have:w=Ab v:=e';rw[this]
    have hz:(Ab i,x)∈cap.zip N':=by
     refine Gz.mpr ⟨j,?_⟩;rw[HY];exact⟨q,h1'⟩
    have hc:=AJ.mp S.caps _ hz;simp only[Az,Hw] at hc;obtain⟨hN,hfr⟩:=hc;have hk:=S.free _ (CU hfr) rfl;obtain⟨mo,hmo,hl⟩:=I2.loc;have vis:Vis X.env.scope x:=by
     rcases hk with k|k
     .exact .inr (.inl k)
     .exact .inr (.inr k)
    obtain⟨u,ru,lk⟩:=hl i x v hN hσ vis;refine⟨u,ru,?_⟩;rcases lk with⟨kl,_⟩|⟨_,c,hcl,hcell⟩
    .have kl':X.env.scope.names.lookup x=Ab .local:=kl
     rcases hk with k|k
     .have k':X.env.scope.names.lookup x=Ab .cell:=k
      rw[kl'] at k';cases k'
     .have k':X.env.scope.names.lookup x=Ab .free:=k
      rw[kl'] at k';cases k'
    .obtain⟨c',hc'⟩:=mL S I2.ok (C:=C) (.inr hfr)
     have e2:X.env.cells.lookup x=Ab c':=by
      rcases zR S I2.ok hc' with⟨_,z⟩|⟨z,_⟩
      .rw[hfr] at z;cases z
      .exact z
     rw[hcl] at e2;cases e2;refine .inr ⟨?_,c,hc',?_⟩
     .have h3':Vis (relabel scope X.env) x:=h3
      rcases h3' with h|h|h
      .rcases uD S h with h|⟨z,_⟩
       .rw[hfr] at h;cases h
       .cases z
      .exact .inl h
      .exact .inr h
     .obtain⟨ob,hob,hd⟩:=hcell
      exact⟨ob,keep c ob hob,hd⟩
 cell:=λx c h=>by
  rcases zR S I2.ok h with⟨m,_⟩|⟨m,_⟩
  .exact⟨none,(co.empty x c m).1⟩
  .obtain⟨v,ob,hob,hd⟩:=I2.cell x c m
   exact⟨v,ob,keep c ob hob,hd⟩
 free:=I2.hok.fresh hC
 freeC:=λx c h=>by
  rcases zR S I2.ok h with⟨m,_⟩|⟨m,_⟩
  .exact I2.hok.fresh (Bn hC (CD (co.empty x c m).2))
  .exact I2.freeC x c m
 pin:=λp hp=>absurd (show p∈([]:Aa (Ad × AR)) from hp) (by simp)
 hok:=I2.hok.kept keep
 len:=by
  show (wV cap σ).length=N'.length;simp[wV,S.len]
end
theorem rS {P:A6}{h:AC}{a:Ad}{o:HO}(x:HOk P w H h)(hn:H a=none)(new:z9 P w (upd H a o) h a o):HOk P w (upd H a o) h:=λb u e=>by
 by_cases hb:b=a
 .subst hb;rw[qS] at e;cases e;exact new
 .rw[qG hb] at e
  exact(x b u e).stay (λc v _ q=>q) (λc q=>by rw[qG (qN q hn)];exact q) λc xs q=>by rw[qG (qN q hn)];exact q
theorem rR {P:A6}{h h':AC}(x:HOk P w H h)(hn:H C=none)(k:∀ b o,b≠C->h.get? b=Ab o->h'.get? b=Ab o):HOk P w H h':=λb u e =>
 (x b u e).stay (λc v hc q=>k c v (by
  rintro rfl;rcases hc with z|z
  .subst z;rw[hn] at e;cases e
  .rw[hn] at z;cases z) q) (λ_ q=>q) λ_ _ q=>q
section
variable {X:Cx}{elt tg iter:AA}{ifs:Aa AA}{scope:Cg}{pos:CG}{N':Aa Ap}{cap:Aa (Ak Ai)}{fi:DI}{g:DG}{t:DT}{fe:DE}
def jU (X:Cx)(pins:Aa (Ad × AR))(σ : _L.St)(P1:Hp)(α1:Aa Ad)(ds:Aa D)(SF:Sto)(acc C:Ad)(s:Ag):Prop:=
 ∃ (H' P':Hp) (α' : Aa Ad) (vs:Aa V),Inv X pins σ (upd H' acc (.lst vs)) s/\Rel X.K H' P' α' SF/\H' acc=none/\qF P1 P'/\α1<+:α'/\qE X.K P' α' ds vs/\H' C=none
theorem aK {Y:Cx}{pins:Aa (Ad × AR)}{σ σ':_L.St}{H2:Hp}{s2 s':Ag}{fp:Aa Ad}{acc:Ad}{H' P':Hp}{α':Aa Ad}{envF:qH}{SF:Sto}{cl:Aa (Ap × Ad)}(I2:Inv X pins σ H2 s2)
  (hf:∀ b∈fp,zT X pins H2 b) (hY:Y=zC X N' scope cl C fp s2 H2) (hC:s2.heap.objs.size<=C) (hA:s2.heap.objs.size<=acc) (hne:acc≠C) (st:TurnSt Y [] P1 α1 fp acc envF SF ds s' σ' H' P' α' o)
  {h':AC} (sb:Er C s'.heap h'):jU X pins σ P1 α1 ds SF acc C { s' with heap:=h' }:=by
 subst hY;obtain⟨its,n,vs,rfl,rv,rp,hz⟩:=st.acc;have kC:∀ b o,b≠C->s'.heap.get? b=Ab o->h'.get? b=Ab o:=λb o hb e=>(sb.2 b hb).trans e;have nC:∀ b o,s2.heap.get? b=Ab o->b≠C:=λb o e=>AX (Ax (Ay e) hC);have nA:∀ b o,s2.heap.get? b=Ab o->b≠acc:=λb o e=>AX (Ax (Ay e) hA);have base:Un (frs X.stack) fp H2 H' s2.heap s'.heap:=st.inv.base;have nt:∀ b u,H' b=Ab u->b≠acc:=λb u e=>qN e st.acn;have un:Un (frs X.stack) fp H2 (upd H' acc (.lst vs)) s2.heap h':=by
  refine⟨λb ob q hn hb hx=>kC b ob (nC b ob q) (base.keep b ob q hn hb hx),λb ob q hn hb hx=>?_,λb ob q hn hx=>?_,λb ob q hx=>?_,λb xs q=>?_,λb ob u q=>?_,λb ps q=>?_⟩
  .obtain⟨sl,e⟩:=base.slot b ob q hn hb hx
   exact⟨sl,kC b _ (nC b ob q) e⟩
  .rw[qG (nA b ob q)];exact base.free b ob q hn hx
  .obtain⟨o',e⟩:=base.there b ob q hx
   exact⟨o',kC b o' (nC b ob q) e⟩
  .have:=base.tups b xs q;rw[qG (nt _ _ this)];exact this
  .have:=base.frzs b ob u q;rw[qG (nt _ _ this)];exact this
  .obtain⟨more,e⟩:=base.tbls b ps q
   exact⟨more,by rw[qG (nt _ _ e)];exact e⟩
 have hok':HOk X.prog X.w H' h':=rR st.inv.hok st.inv.free kC;have hat:h'.get? acc=Ab { cls:=.type "list",data:=.seq its.toArray n }:=kC acc _ hne st.at';have hok:HOk X.prog X.w (upd H' acc (.lst vs)) h':=rS hok' st.acn ⟨by rw[<- rp.length,<- zL];exact hz,its,n,rv,hat⟩
 refine⟨H',P',α',vs,?_,st.rel,st.acn,st.same,st.pre,rp,st.inv.free⟩;exact I2.call' (s':={ s' with heap:=h' }) (ch:=fp) (st.inv.os) un hok st.inv.bare λb hb=>by
  obtain⟨_,h1,h2,h3,h4,h5⟩:=hf b hb;exact⟨h3,h1,h4,h5⟩
theorem ZL (S:CompSc X.env.scope X.N scope N' cap)(ok:X.Ok):Ip scope X.env=pure (w4 X.env.cells scope.names []):=jD λy hy hk=>ok.has y.1 (S.free y hy hk)
theorem X9 {pins:Aa (Ad × AR)}{σ:_L.St}{SF:Sto}{acc:Ad}{Q:VK}(c:jU X pins σ P1 α1 ds SF acc C s)(ok:OkV X P1 α1 Q (.lst ds) SF):EP X pins σ Q (.ref acc) s:=by
 obtain⟨H',P',α',vs,I,r,hn,e1,e2,rp,_⟩:=c;exact⟨.ref acc,_,I,rfl,yZ r hn rp λv H2 P2 α2 r2 q1 q2 q3=>ok v H2 P2 α2 r2 (e1.trans q1) (e2.trans q2) q3⟩
end
end _D
section
namespace _D
open PySem PySem.Spec PyProof.Rows _L PySem.SeqAt
noncomputable def b01 (b:Aq):Am:=if b then 1 else 0
mutual
noncomputable def eqD:D->D->Aq
 |.non,.non=>true
 |.bl a,.bl b=>a == b
 |.bl a,.int b=>b01 a == b
 |.int a,.bl b=>a == b01 b
 |.int a,.int b=>a == b
 |.str a,.str b=>a == b
 |.tup xs,.tup ys=>zV xs ys
 |.lst xs,.lst ys=>zV xs ys
 |_,_=>false
noncomputable def zV:Aa D->Aa D->Aq
 |[],[]=>true
 |x::xs,y::ys=>eqD x y&&zV xs ys
 |_,_=>false
end
noncomputable def pl:Ai->D->Aq
 |_,.non=>true
 |_,.bl _=>true
 |_,.int _=>true
 |_,.str _=>true
 |n+1,.tup xs=>xs.all (pl n)
 |n+1,.lst xs=>xs.all (pl n)
 |_,_=>false
theorem bT (x y:D)(xs ys:Aa D):zV (x::xs) (y::ys)=(eqD x y&&zV xs ys):=rfl
theorem y7:∀ (xs ys:Aa D),zV xs ys=((DD (min xs.length ys.length)).all (λj=>eqD (xs.getD j .non) (ys.getD j .non))&&xs.length == ys.length)
 |[],[]=>rfl
 |[],y::ys=>rfl
 |x::xs,[]=>rfl
 |x::xs,y::ys=>by
  have ih:=y7 xs ys;rw[bT,ih,AV,AV,Nat.succ_min_succ,IS,Ny,List.all_map,Bool.and_assoc];have e:(xs.length+1 == ys.length+1)=(xs.length == ys.length):=by simp
  rw[e];rfl
theorem i9 {xs ys:Aa D}(h:xs.length≠ys.length):zV xs ys=false:=by
 rw[y7];simp[h]
theorem pX (xs ys:Aa D):eqD (.tup xs) (.tup ys)=zV xs ys:=rfl
theorem pW (xs ys:Aa D):eqD (.lst xs) (.lst ys)=zV xs ys:=rfl
section
variable {X:Cx}{pins:Aa (Ad × AR)}{σ : _L.St}{H P:Hp}{α : Aa Ad}{S:Sto}{s:Ag}
inductive Kd (X:Cx)(P:Hp)(α : Aa Ad)(s:Ag):D->Ac->Prop where
 |non:Kd X P α s .non .none
 |bl (b:Aq):Kd X P α s (.bl b) (.bool b)
 |int (i:Am) (t:IM):Kd X P α s (.int i) (.int i t)
 |str (x:Ap) (t:IM):Kd X P α s (.str x) (.str x t)
 |tup (a:Ad) (xs:Aa D) (its:Aa Ac) (vs:Aa V) (rp:qE X.K P α xs vs) (rv:qL vs its) (h:s.heap.IsTuple a its.toArray) (q:SqT X.K P a vs):Kd X P α s (.tup xs) (.ref a)
 |lst (a:Ad) (xs:Aa D) (its:Aa Ac) (vs:Aa V) (rp:qE X.K P α xs vs) (rv:qL vs its) (h:s.heap.IsList a its.toArray) (q:SqX X.K P a vs):Kd X P α s (.lst xs) (.ref a)
theorem vF (I:Inv X pins σ H s)(r:Rel X.K H P α S){n:Ai}{d:D}{v:V}{u:Ac}(h:pl n d=true)(p:Rep X.K P α d v)(rv:qI v u):Kd X P α s d u:=by
 cases d with
 |non=>simp only[Rep] at p;subst p;cases rv;exact .non
 |bl b=>simp only[Rep] at p;subst p;cases rv;exact .bl b
 |int i=>simp only[Rep] at p;subst p;obtain⟨t,rfl⟩:=rv;exact .int i t
 |str x=>simp only[Rep] at p;subst p;obtain⟨t,rfl⟩:=rv;exact .str x t
 |tup xs =>
  simp only[Rep] at p;obtain⟨a,vs,rfl,q,t⟩:=p;cases rv;obtain⟨its,r1,p1,_⟩:=I.tuple (xF r.sub q);exact .tup a xs its vs t r1 p1 q
 |lst xs =>
  simp only[Rep] at p;obtain⟨a,vs,rfl,q,t⟩:=p;cases rv;obtain⟨its,r1,p1,_⟩:=I.list ((xB r.sub q).l);exact .lst a xs its vs t r1 p1.isList q
 |_=>cases n <;> exact Bb h
theorem uR {ds:Aa D}{vs:Aa V}{its:Aa Ac}(rp:qE X.K P α ds vs)(rv:qL vs its){j:Ai}(h:j<its.toArray.size):∃ v,Rep X.K P α (ds.getD j .non) v/\qI v its.toArray[j]/\ds.getD j .non∈ds:=by
 have l1:=rp.length;have l2:=rv.length;have hj:j<its.length:=by simpa using h
 have hd:j<ds.length:=by lia
 obtain⟨v,e1,p⟩:=rp.get (Ao hd);obtain⟨u,e2,q⟩:=rv.get e1;have e3:its.toArray[j]=u:=by
  have:its[j]? = Ab its[j]:=Ao hj;rw[this] at e2;simpa using Bg e2
 have e4:ds.getD j .non=ds[j]:=by simp[ET,hd]
 rw[e3,e4];exact⟨v,p,q,DM hd⟩
theorem vJ {n:Ai}{ds:Aa D}(h:ds.all (pl n)=true){d:D}(hd:d∈ds):pl n d=true:=AJ.mp h d hd
theorem l7 {h:AC}{a:Ad}{xs ys:A5 Ac}(h1:h.IsTuple a xs)(h2:h.IsTuple a ys):xs=ys:=by
 obtain⟨o,e,_,n,d⟩:=h1;obtain⟨o',e',_,n',d'⟩:=h2;cases e.symm.trans e';cases d.symm.trans d';rfl
theorem XH {h:AC}{a:Ad}{xs ys:A5 Ac}(h1:h.IsList a xs)(h2:h.IsList a ys):xs=ys:=by
 obtain⟨o,e,_,n,d⟩:=h1;obtain⟨o',e',_,n',d'⟩:=h2;cases e.symm.trans e';cases d.symm.trans d';rfl
theorem UE {h:AC}{a:Ad}{xs ys:A5 Ac}(h1:h.IsTuple a xs)(h2:h.IsList a ys):CF:=by
 obtain⟨o,e,c,_⟩:=h1;obtain⟨o',e',c',_⟩:=h2;cases e.symm.trans e';exact absurd (c.symm.trans c') (by decide)
inductive Seqs (X:Cx)(P:Hp)(α : Aa Ad)(xs ys:Aa D)(its its2:Aa Ac):Prop
 |mk (vs ws:Aa V) (rp:qE X.K P α xs vs) (rv:qL vs its) (rp2:qE X.K P α ys ws) (rv2:qL ws its2):Seqs X P α xs ys its its2
theorem Seqs.len1 {xs ys:Aa D}{its its2:Aa Ac}(q:Seqs X P α xs ys its its2):xs.length=its.length:=by
 obtain⟨vs,ws,rp,rv,_,_⟩:=q;exact rp.length.trans rv.length
theorem Seqs.len2 {xs ys:Aa D}{its its2:Aa Ac}(q:Seqs X P α xs ys its its2):ys.length=its2.length:=by
 obtain⟨vs,ws,_,_,rp,rv⟩:=q;exact rp.length.trans rv.length
inductive SameR (X:Cx)(P:Hp)(α : Aa Ad):D->D->Prop
 |eq {d d':D} (h:eqD d d'=true):SameR X P α d d'
 |tt (xs ys:Aa D) (its:Aa Ac) (q:Seqs X P α xs ys its its):SameR X P α (.tup xs) (.tup ys)
 |ll (xs ys:Aa D) (its:Aa Ac) (q:Seqs X P α xs ys its its):SameR X P α (.lst xs) (.lst ys)
theorem lW {d d':D}{u:Ac}(k1:Kd X P α s d u)(k2:Kd X P α s d' u):SameR X P α d d':=by
 cases k1 with
 |non=>cases k2;exact .eq rfl
 |bl b=>cases k2;exact .eq (Dh _)
 |int i t=>cases k2;exact .eq (Dh _)
 |str x t=>cases k2;exact .eq (Dh _)
 |tup a xs its vs rp rv h q =>
  cases k2 with
  |tup _ ys its2 ws rp2 rv2 h2 q2 =>
   cases l7 h h2;exact .tt xs ys its ⟨vs,ws,rp,rv,rp2,rv2⟩
  |lst _ ys its2 ws rp2 rv2 h2 q2=>exact(UE h h2).elim
 |lst a xs its vs rp rv h q =>
  cases k2 with
  |lst _ ys its2 ws rp2 rv2 h2 q2 =>
   cases XH h h2;exact .ll xs ys its ⟨vs,ws,rp,rv,rp2,rv2⟩
  |tup _ ys its2 ws rp2 rv2 h2 q2=>exact(UE h2 h).elim
theorem bU (I:Inv X pins σ H s)(r:Rel X.K H P α S){m:Ai}(ih:∀ (d d':D) (u:Ac),pl m d=true->pl m d'=true->Kd X P α s d u->Kd X P α s d' u->eqD d d'=true){xs ys:Aa D}{its:Aa Ac}(h1:xs.all (pl m)=true)(h2:ys.all (pl m)=true)(q:Seqs X P α xs ys its its):zV xs ys=true:=by
 obtain⟨vs,ws,rp,rv,rp2,rv2⟩:=q;have l1:=rp.length.trans rv.length;have l2:=rp2.length.trans rv2.length;rw[y7,l1,l2,IA,Az];refine⟨AJ.mpr λj hj=>?_,Ob⟩;have hj:j<its.toArray.size:=Ej.mp hj;obtain⟨w1,y1,z1,m1⟩:=uR rp rv hj;obtain⟨w2,y2,z2,m2⟩:=uR rp2 rv2 hj;exact ih _ _ _ (vJ h1 m1) (vJ h2 m2) (vF I r (vJ h1 m1) y1 z1) (vF I r (vJ h2 m2) y2 z2)
theorem nY (I:Inv X pins σ H s)(r:Rel X.K H P α S):∀ (n:Ai) (d d':D) (u:Ac),pl n d=true->pl n d'=true->Kd X P α s d u->Kd X P α s d' u->eqD d d'=true:=by
 intro n
 induction n with
 |zero =>
  intro d d' u h1 h2 k1 k2;cases lW k1 k2 with
  |eq h=>exact h
  |tt=>exact Bb h1
  |ll=>exact Bb h1
 |succ m ih =>
  intro d d' u h1 h2 k1 k2;cases lW k1 k2 with
  |eq h=>exact h
  |tt xs ys its q=>exact(pX xs ys).trans (bU I r ih h1 h2 q)
  |ll xs ys its q=>exact(pW xs ys).trans (bU I r ih h1 h2 q)
structure E3 (A:AB)(s:Ag)(u u':Ac)(b:Aq):Prop where
 eq:Nz A s u u' b
 rc:RcAt A s u u' b
 ne:RcNeAt A s u u' (!b)
inductive EqR (X:Cx)(P:Hp)(α : Aa Ad)(A:AB)(s:Ag):D->D->Ac->Ac->Prop
 |of {d d':D} {u u':Ac} (b:Aq) (e:eqD d d'=b) (h:E3 A s u u' b):EqR X P α A s d d' u u'
 |tt (a b:Ad) (xs ys:Aa D) (its its2:Aa Ac) (ha:s.heap.IsTuple a its.toArray) (hb:s.heap.IsTuple b its2.toArray) (q:Seqs X P α xs ys its its2):EqR X P α A s (.tup xs) (.tup ys) (.ref a) (.ref b)
 |ll (a b:Ad) (xs ys:Aa D) (its its2:Aa Ac) (ha:s.heap.IsList a its.toArray) (hb:s.heap.IsList b its2.toArray) (q:Seqs X P α xs ys its its2):EqR X P α A s (.lst xs) (.lst ys) (.ref a) (.ref b)
theorem QF {A:AB}{d d':D}{u u':Ac}(hu:A.units<CZ)(k1:Kd X P α s d u)(k2:Kd X P α s d' u'):EqR X P α A s d d' u u':=by
 cases k1 with
 |non  =>
  cases k2 with
  |non  => exact .of _ rfl ⟨N5 _,RcAt.none_none,RcNeAt.none_none⟩
  |bl b=>exact .of _ rfl ⟨EqAt.none_bool b,RcAt.none_bool b,RcNeAt.none_bool b⟩
  |int b tb=>exact .of _ rfl ⟨EqAt.none_int b tb,RcAt.none_int b tb,RcNeAt.none_int b tb⟩
  |str b tb=>exact .of _ rfl ⟨EqAt.none_str b tb,RcAt.none_str b tb,RcNeAt.none_str b tb⟩
  |tup b ys its2 ws rp2 rv2 hb qb=>exact .of _ rfl ⟨EqAt.none_tuple hb hu,RcAt.none_tuple hb hu,RcNeAt.none_tuple hb hu⟩
  |lst b ys its2 ws rp2 rv2 hb qb=>exact .of _ rfl ⟨EqAt.none_list hb hu,RcAt.none_list hb hu,RcNeAt.none_list hb hu⟩
 |bl a =>
  cases k2 with
  |non  => exact .of _ rfl ⟨EqAt.bool_none a,RcAt.bool_none a,RcNeAt.bool_none a⟩
  |bl b=>exact .of _ rfl ⟨EqAt.bool_bool a b,RcAt.bool_bool a b,RcNeAt.bool_bool a b⟩
  |int b tb=>exact .of _ rfl ⟨EqAt.bool_int a b tb,RcAt.bool_int a b tb,RcNeAt.bool_int a b tb⟩
  |str b tb=>exact .of _ rfl ⟨EqAt.bool_str a b tb,RcAt.bool_str a b tb,RcNeAt.bool_str a b tb⟩
  |tup b ys its2 ws rp2 rv2 hb qb=>exact .of _ rfl ⟨EqAt.bool_tuple a hb hu,RcAt.bool_tuple a hb hu,RcNeAt.bool_tuple a hb hu⟩
  |lst b ys its2 ws rp2 rv2 hb qb=>exact .of _ rfl ⟨EqAt.bool_list a hb hu,RcAt.bool_list a hb hu,RcNeAt.bool_list a hb hu⟩
 |int a ta =>
  cases k2 with
  |non  => exact .of _ rfl ⟨EqAt.int_none a ta,RcAt.int_none a ta,RcNeAt.int_none a ta⟩
  |bl b=>exact .of _ rfl ⟨EqAt.int_bool a ta b,RcAt.int_bool a ta b,RcNeAt.int_bool a ta b⟩
  |int b tb=>exact .of _ rfl ⟨NI a ta b tb,RcAt.int_int a ta b tb,RcNeAt.int_int a ta b tb⟩
  |str b tb=>exact .of _ rfl ⟨EqAt.int_str a ta b tb,RcAt.int_str a ta b tb,RcNeAt.int_str a ta b tb⟩
  |tup b ys its2 ws rp2 rv2 hb qb=>exact .of _ rfl ⟨EqAt.int_tuple a ta hb hu,RcAt.int_tuple a ta hb hu,RcNeAt.int_tuple a ta hb hu⟩
  |lst b ys its2 ws rp2 rv2 hb qb=>exact .of _ rfl ⟨EqAt.int_list a ta hb hu,RcAt.int_list a ta hb hu,RcNeAt.int_list a ta hb hu⟩
 |str a ta =>
  cases k2 with
  |non  => exact .of _ rfl ⟨EqAt.str_none a ta,RcAt.str_none a ta,RcNeAt.str_none a ta⟩
  |bl b=>exact .of _ rfl ⟨EqAt.str_bool a ta b,RcAt.str_bool a ta b,RcNeAt.str_bool a ta b⟩
  |int b tb=>exact .of _ rfl ⟨EqAt.str_int a ta b tb,RcAt.str_int a ta b tb,RcNeAt.str_int a ta b tb⟩
  |str b tb=>exact .of _ rfl ⟨EqAt.str_str a ta b tb,RcAt.str_str a ta b tb,RcNeAt.str_str a ta b tb⟩
  |tup b ys its2 ws rp2 rv2 hb qb=>exact .of _ rfl ⟨EqAt.str_tuple a ta hb hu,RcAt.str_tuple a ta hb hu,RcNeAt.str_tuple a ta hb hu⟩
  |lst b ys its2 ws rp2 rv2 hb qb=>exact .of _ rfl ⟨EqAt.str_list a ta hb hu,RcAt.str_list a ta hb hu,RcNeAt.str_list a ta hb hu⟩
 |tup a xs its vs rp rv ha qa =>
  cases k2 with
  |non  => exact .of _ rfl ⟨EqAt.tuple_none ha hu,RcAt.tuple_none ha hu,RcNeAt.tuple_none ha hu⟩
  |bl b=>exact .of _ rfl ⟨EqAt.tuple_bool b ha hu,RcAt.tuple_bool b ha hu,RcNeAt.tuple_bool b ha hu⟩
  |int b tb=>exact .of _ rfl ⟨EqAt.tuple_int b tb ha hu,RcAt.tuple_int b tb ha hu,RcNeAt.tuple_int b tb ha hu⟩
  |str b tb=>exact .of _ rfl ⟨EqAt.tuple_str b tb ha hu,RcAt.tuple_str b tb ha hu,RcNeAt.tuple_str b tb ha hu⟩
  |tup b ys its2 ws rp2 rv2 hb qb=>exact .tt a b xs ys its its2 ha hb ⟨vs,ws,rp,rv,rp2,rv2⟩
  |lst b ys its2 ws rp2 rv2 hb qb=>exact .of _ rfl ⟨EqAt.tuple_list ha hb hu,RcAt.tuple_list ha hb hu,RcNeAt.tuple_list ha hb hu⟩
 |lst a xs its vs rp rv ha qa =>
  cases k2 with
  |non  => exact .of _ rfl ⟨EqAt.list_none ha hu,RcAt.list_none ha hu,RcNeAt.list_none ha hu⟩
  |bl b=>exact .of _ rfl ⟨EqAt.list_bool b ha hu,RcAt.list_bool b ha hu,RcNeAt.list_bool b ha hu⟩
  |int b tb=>exact .of _ rfl ⟨EqAt.list_int b tb ha hu,RcAt.list_int b tb ha hu,RcNeAt.list_int b tb ha hu⟩
  |str b tb=>exact .of _ rfl ⟨EqAt.list_str b tb ha hu,RcAt.list_str b tb ha hu,RcNeAt.list_str b tb ha hu⟩
  |tup b ys its2 ws rp2 rv2 hb qb=>exact .of _ rfl ⟨EqAt.list_tuple ha hb hu,RcAt.list_tuple ha hb hu,RcNeAt.list_tuple ha hb hu⟩
  |lst b ys its2 ws rp2 rv2 hb qb=>exact .ll a b xs ys its its2 ha hb ⟨vs,ws,rp,rv,rp2,rv2⟩
theorem E3.cast {A:AB}{u u':Ac}{b c:Aq}(e:c=b)(h:E3 A s u u' b):E3 A s u u' c:=e▸h
theorem QH {A:AB}{a b:Ad}{xs ys:Aa D}{its its2:Aa Ac}(hu:A.units<CZ)(ha:s.heap.IsTuple a its.toArray)(hb:s.heap.IsTuple b its2.toArray)(l1:xs.length=its.length)(l2:ys.length=its2.length)
  (sub:∀ j (h1:j<its.toArray.size) (h2:j<its2.toArray.size),Nz A.in1 s its.toArray[j] its2.toArray[j] (eqD (xs.getD j .non) (ys.getD j .non))) (same:a=b->zV xs ys=true):E3 A s (.ref a) (.ref b) (zV xs ys):=by
 have e:zV xs ys=((DD (min its.toArray.size its2.toArray.size)).all (λj=>eqD (xs.getD j .non) (ys.getD j .non))&&its.toArray.size == its2.toArray.size):=by rw[y7,l1,l2];rfl
 have R1:=RcAt.tuples ha hb hu sub;have R2:=RcNeAt.tuples ha hb hu sub;rw[<- e] at R1 R2;refine⟨?_,R1,R2⟩;by_cases hab:a=b
 .rw[same hab,hab]
  exact N5 _
 .exact NJ hab R1
theorem PL {A:AB}{a b:Ad}{xs ys:Aa D}{its its2:Aa Ac}(hu:A.units<CZ)(ha:s.heap.IsList a its.toArray)(hb:s.heap.IsList b its2.toArray)(l1:xs.length=its.length)(l2:ys.length=its2.length)
  (sub:∀ j (h1:j<its.toArray.size) (h2:j<its2.toArray.size),Nz A.in1 s its.toArray[j] its2.toArray[j] (eqD (xs.getD j .non) (ys.getD j .non))) (same:a=b->zV xs ys=true):E3 A s (.ref a) (.ref b) (zV xs ys):=by
 have R:RcAt A s (.ref a) (.ref b) (zV xs ys)/\RcNeAt A s (.ref a) (.ref b) (!zV xs ys):=by
  by_cases hl:its.length=its2.length
  .have e:zV xs ys=(DD its.toArray.size).all (λj=>eqD (xs.getD j .non) (ys.getD j .non)):=by rw[y7,l1,l2,<- hl,IA,Ob,Ku];rfl
   rw[e];exact⟨RcAt.lists ha hb hl hu sub,RcNeAt.lists ha hb hl hu sub⟩
  .rw[i9 (by rw[l1,l2];exact hl)]
   have hn:(its.toArray.size != its2.toArray.size)=true:=bne_iff_ne.mpr hl;exact⟨RcAt.lists_lengths ha hb hn hu,RcNeAt.lists_lengths ha hb hn hu⟩
 refine⟨?_,R.1,R.2⟩;by_cases hab:a=b
 .rw[same hab,hab]
  exact N5 _
 .exact NJ hab R.1
theorem rJ (I:Inv X pins σ H s)(r:Rel X.K H P α S):∀ (n:Ai) (A:AB) (d d':D) (u u':Ac),A.units+n<CZ->pl n d=true->pl n d'=true->Kd X P α s d u->Kd X P α s d' u'->E3 A s u u' (eqD d d'):=by
 intro n
 induction n with
 |zero =>
  intro A d d' u u' hu h1 h2 k1 k2;cases QF hu k1 k2 with
  |of b e h=>exact h.cast e
  |tt=>exact Bb h1
  |ll=>exact Bb h1
 |succ m ih =>
  intro A d d' u u' hu h1 h2 k1 k2;have hu0:A.units<CZ:=Fo (Ha _ _) hu;have hu1:A.in1.units+m<CZ:=by show A.units+1+m<CZ;lia
  have sub:∀ {xs ys:Aa D} {its its2:Aa Ac},xs.all (pl m)=true->ys.all (pl m)=true->Seqs X P α xs ys its its2 ->
    ∀ j (h1:j<its.toArray.size) (h2:j<its2.toArray.size),Nz A.in1 s its.toArray[j] its2.toArray[j] (eqD (xs.getD j .non) (ys.getD j .non)):=λ{xs ys its its2} a1 a2 ⟨vs,ws,b1,b2,c1,c2⟩ j g1 g2=>by
   obtain⟨w1,y1,z1,m1⟩:=uR b1 b2 g1;obtain⟨w2,y2,z2,m2⟩:=uR c1 c2 g2;exact(ih A.in1 _ _ _ _ hu1 (vJ a1 m1) (vJ a2 m2) (vF I r (vJ a1 m1) y1 z1) (vF I r (vJ a2 m2) y2 z2)).eq
  cases QF hu0 k1 k2 with
  |of b e h=>exact h.cast e
  |tt a b xs ys its its2 ha hb q=>exact(QH hu0 ha hb q.len1 q.len2 (sub h1 h2 q) λe=>by subst e;exact(pX xs ys).symm.trans (nY I r (m+1) _ _ _ h1 h2 k1 k2)).cast (pX xs ys)
  |ll a b xs ys its its2 ha hb q=>exact(PL hu0 ha hb q.len1 q.len2 (sub h1 h2 q) λe=>by subst e;exact(pW xs ys).symm.trans (nY I r (m+1) _ _ _ h1 h2 k1 k2)).cast (pW xs ys)
noncomputable def yD:Ai:=30
noncomputable def gEq:G2:=λa b S=>if pl yD a&&pl yD b then .ok (.bl (eqD a b)) S else .bad
noncomputable def gNe:G2:=λa b S=>if pl yD a&&pl yD b then .ok (.bl (!eqD a b)) S else .bad
set_option tactic.hygienic true in
theorem BC (hu:X.A.units+64<CZ):OpD X (Bt .Eq) gEq:=by
 intro pins σ H s P α S v u vv uu a b Q I r rv ru pa pb af;unfold gEq at af
 split at af
 .rename_i h
  rw[Az] at h;exact(rJ I r yD X.A a b vv uu (by unfold yD;lia) h.1 h.2 (vF I r h.1 pa rv) (vF I r h.2 pb ru)).rc _ _ _ _ ⟨.bl _,H,I,rfl,xr af r (by simp only[Rep])⟩
 .exact Al af
set_option tactic.hygienic true in
theorem BI (hu:X.A.units+64<CZ):OpD X (Bt .NotEq) gNe:=by
 intro pins σ H s P α S v u vv uu a b Q I r rv ru pa pb af;unfold gNe at af
 split at af
 .rename_i h
  rw[Az] at h;exact(rJ I r yD X.A a b vv uu (by unfold yD;lia) h.1 h.2 (vF I r h.1 pa rv) (vF I r h.2 pb ru)).ne _ _ _ _ ⟨.bl _,H,I,rfl,xr af r (by simp only[Rep])⟩
 .exact Al af
end
end _D
end
namespace _D
open PySem PySem.Spec PyProof.Rows _L
variable {pins:Aa (Ad × AR)}{kvs:Aa (Key × D)}{its us:Aa Ac}{xs:Aa D}{vs:Aa V}{f:Ac->Ac->EZ Ac}{s:Ag}{d:D}{v:V}{Q:VK}{σ:_L.St}
section
variable {X:Cx}
noncomputable def i2 (C:Am->Am->Aq)(f:Am->Am->D):G2:=λa b S=>match a,b with
 |.int i,.int j=>if C i j then .ok (f i j) S else .bad
 |_,_=>.bad
theorem QM {C:Am->Am->Aq}{f:Am->Am->D}{a b:D}{S:Sto}{P:Hp}{α:Aa Ad}{Ok:D->Sto->Prop}(h:qJ X P α (i2 C f a b S) Ok):∃ i j,a=.int i/\b=.int j/\C i j=true/\Ok (f i j) S:=by
 cases a with
 |int i =>
  cases b with
  |int j =>
   obtain⟨hc,h⟩:=xY (X:=X) h;exact⟨i,j,rfl,rfl,hc,h⟩
  |_=>exact Al h
 |_=>exact Al h
theorem xA {P:Hp}{α:Aa Ad}{i:Am}(r:Rep X.K P α (.int i) v):v=.int i:=by simpa only [Rep] using r
theorem pB {C':Am->Am->Prop}{v:Am->Am->V}{C:Am->Am->Aq}{d:Am->Am->D}(h:OpR X f (rI C' v))(hC:∀ i j,C i j=true->C' i j)(hv:∀ P α i j,Rep X.K P α (d i j) (v i j)):OpD X f (i2 C d):=
 OpD.of h λH P α S x y a b Q r p1 p2 af=>by
  obtain⟨i,j,rfl,rfl,hc,ok⟩:=QM af;exact⟨i,j,xA p1,xA p2,hC i j hc,xr ok r (hv P α i j)⟩
theorem jQ {v:Am->Am->V}{d:Am->Am->D}(h:OpR X f (rI0 v))(hv:∀ P α i j,Rep X.K P α (d i j) (v i j)):OpD X f (i2 (λ_ _=>true) d):=
 OpD.of h λH P α S x y a b Q r p1 p2 af=>by
  obtain⟨i,j,rfl,rfl,_,ok⟩:=QM af;exact⟨i,j,xA p1,xA p2,xr ok r (hv P α i j)⟩
noncomputable def uM:G2:=i2 (λ_ _=>true) λi j=>.int (i-j)
theorem JI:OpD X (Co .Sub) uM:=jQ JR λP α i j=>by simp only[Rep]
noncomputable def pO (i j:Am):Aq:=decide (-(2 ^ 64)<i/\i<2 ^ 64)||decide (-(2 ^ 64)<j/\j<2 ^ 64)
theorem WA:OpD X (Co .Mult) (i2 pO λi j=>.int (i*j)):=pB JP (λi j h=>by
 unfold pO at h;rw[IT] at h;rcases h with h|h
 .exact .inl (AH h)
 .exact .inr (AH h)) λP α i j=>by simp only[Rep]
noncomputable def V1 (i j:Am):Aq:=decide (0<j/\j<1073741824)
noncomputable def pY:G2:=i2 V1 λi j=>.int (i/j)
theorem JF:OpD X (Co .FloorDiv) pY:=pB WD (λi j h=>(AH h:0<j/\j<1073741824)) λP α i j=>by simp only[Rep]
noncomputable def uK:G2:=i2 (λ_ j=>decide (0<j)) λi j=>.int (i % j)
theorem JG:OpD X (Co .Mod) uK:=pB JO (λi j h=>AH h) λP α i j=>by simp only[Rep]
noncomputable def FQ (i j:Am):Aq:=decide (0<=j/\j<=1000000/\i.natAbs<2 ^ 64)
noncomputable def t7:G2:=i2 FQ λi j=>.int (i ^ j.toNat)
theorem JH:OpD X (Co .Pow) t7:=pB JQ (λi j h=>(AH h:0<=j/\j<=1000000/\i.natAbs<2 ^ 64)) λP α i j=>by simp only[Rep]
noncomputable def gLt:G2:=i2 (λ_ _=>true) λi j=>.bl (decide (i<j))
noncomputable def gLe:G2:=i2 (λ_ _=>true) λi j=>.bl (decide (i<=j))
noncomputable def gGt:G2:=i2 (λ_ _=>true) λi j=>.bl (decide (j<i))
noncomputable def gGe:G2:=i2 (λ_ _=>true) λi j=>.bl (decide (j<=i))
theorem BH:OpD X (Bt .Lt) gLt:=jQ BM λP α i j=>by simp only[Rep]
theorem BG:OpD X (Bt .LtE) gLe:=jQ BL λP α i j=>by simp only[Rep]
theorem BE:OpD X (Bt .Gt) gGt:=jQ BK λP α i j=>by simp only[Rep]
theorem BD:OpD X (Bt .GtE) gGe:=jQ BJ λP α i j=>by simp only[Rep]
noncomputable def TJ:D->Sto->Res D:=λa S=>match a with
 |.int i=>.ok (.int (-i)) S
 |_=>.bad
noncomputable def gIs:G2:=λa b S=>match b with
 |.non=>match a with
  |.non=>.ok (.bl true) S
  |_=>.ok (.bl false) S
 |_=>.bad
theorem W5 {P:Hp}{α:Aa Ad}(r:Rep X.K P α d v):decide (v=.non)=(match d with|.non=>true|_=>false):=by
 cases d <;> simp only[Rep] at r
 case non=>subst r;rfl
 case bl=>subst r;rfl
 case int=>subst r;rfl
 case str=>subst r;rfl
 case ty=>subst r;rfl
 case clo=>obtain⟨rfl,_⟩:=r;rfl
 case obj=>obtain⟨rfl,_⟩:=r;rfl
 case tup=>obtain⟨a,vs,rfl,_⟩:=r;rfl
 case lst=>obtain⟨a,vs,rfl,_⟩:=r;rfl
 case dct0=>obtain⟨a,rfl,_⟩:=r;rfl
 case loc=>obtain⟨a,rfl,_⟩:=r;rfl
 case exn=>obtain⟨a,rfl,_⟩:=r;rfl
 case fd=>obtain⟨a,o,vs,rfl,_⟩:=r;rfl
theorem BF:OpD X (Bt .Is) gIs:=OpD.of JN λH P α S x y a b Q r p1 p2 af=>by
 cases b with
 |non =>
  simp only[Rep] at p2;refine⟨p2,?_⟩;rw[W5 p1];cases a <;> exact xr af r (by simp only[Rep])
 |_=>exact Al af
noncomputable def x6:G2:=λa b S=>match a,b with
 |.int i,.int j=>.ok (.int (i+j)) S
 |.str x,.str y=>if x.length+y.length<=lim then .ok (.str (x++y)) S else .bad
 |.tup xs,.tup ys=>if xs.length+ys.length<=lim then .ok (.tup (xs++ys)) S else .bad
 |.lst xs,.lst ys=>if xs.length+ys.length<=lim then .ok (.lst (xs++ys)) S else .bad
 |_,_=>.bad
theorem pI {H P:Hp}{α:Aa Ad}{S:Sto}(I:Inv X pins σ H s)(r:Rel X.K H P α S)(p:Rep X.K P α (.tup xs) v) :
  ∃ a vs its,v=.ref a/\SqT X.K P a vs/\qE X.K P α xs vs/\qL vs its/\Jb s.heap a its.toArray/\xs.length=its.length/\xs.length<=lim:=by
 simp only[Rep] at p;obtain⟨a,vs,rfl,q,t⟩:=p;obtain⟨its,rv,p1,z⟩:=I.tuple (xF r.sub q);exact⟨a,vs,its,rfl,q,t,rv,p1,by rw[t.length,rv.length],by rw[t.length,zL];exact z⟩
theorem yX {H P:Hp}{α:Aa Ad}{S:Sto}(I:Inv X pins σ H s)(r:Rel X.K H P α S)(p:Rep X.K P α (.lst xs) v) :
  ∃ a vs its n,v=.ref a/\SqX X.K P a vs/\qE X.K P α xs vs/\qL vs its/\s.heap.get? a=Ab { cls:=.type "list",data:=.seq its.toArray n } /\ xs.length=its.length/\xs.length<=lim:=by
 simp only[Rep] at p;obtain⟨a,vs,rfl,q,t⟩:=p;have:∃ its n,qL vs its/\s.heap.get? a=Ab { cls:=.type "list",data:=.seq its.toArray n } /\ vs.length<=sizeLine:=by
  rcases q with q|⟨its,n,e,z,rv⟩
  .obtain⟨z,its,n,rv,e⟩:=(lR r.sub q).ok I.hok
   exact⟨its,n,rv,e,z⟩
  .exact⟨its,n,rv,I.kIn _ _ e,z⟩
 obtain⟨its,n,rv,e,z⟩:=this;exact⟨a,vs,its,n,rfl,q,t,rv,e,by rw[t.length,rv.length],by rw[t.length,zL];exact z⟩
theorem iN {H P:Hp}{α:Aa Ad}{S:Sto}(I:Inv X pins σ H s)(r:Rel X.K H P α S)(t:qE X.K P α xs vs)(rv:qL vs its)(hz:xs.length<=lim)
  (ok:OkV X P α Q (.tup xs) S):EP X pins σ Q (.ref s.heap.objs.size) { s with heap:=s.heap.push { cls:=.type "tuple",data:=.seq its.toArray } }:=by
 refine⟨.ref s.heap.objs.size,_,I.laid (t':=s.toks) (o:=.tup vs) (λb ob q=>Aj _ q) (Au _) ⟨by rw[<- t.length,<- zL];exact hz,its,rv,Oe _ _⟩,rfl,gE r (I.hok.fresh (Au _)) t ok⟩
theorem tF {H P:Hp}{α:Aa Ad}{S:Sto}(I:Inv X pins σ H s)(r:Rel X.K H P α S)(t:qE X.K P α xs vs)(rv:qL vs its)(hz:xs.length<=lim)
  (ok:OkV X P α Q (.lst xs) S):EP X pins σ Q (.ref s.heap.objs.size) { s with heap:=s.heap.push { cls:=.type "list",data:=.seq its.toArray } }:=by
 refine⟨.ref s.heap.objs.size,_,I.laid (t':=s.toks) (o:=.lst vs) (λb ob q=>Aj _ q) (Au _) ⟨by rw[<- t.length,<- zL];exact hz,its,0,rv,AD _ rfl⟩,rfl,yZ r (I.hok.fresh (Au _)) t ok⟩
theorem YX {H P:Hp}{α:Aa Ad}{S:Sto}{ys:Aa D}{u:V}{vv uu:Ac}(I:Inv X pins σ H s)(r:Rel X.K H P α S)(rv:qI v vv)(ru:qI u uu)(pa:Rep X.K P α (.tup xs) v)(pb:Rep X.K P α (.tup ys) u)(hl:xs.length+ys.length<=lim)(af:OkV X P α Q (.tup (xs++ys)) S) :
  Ar (As X.prog X.w) X.A (Co .Add vv uu) (EP X pins σ Q) X.xe s:=by
 obtain⟨a,vs,its,rfl,q1,t1,rv1,h1,l1,_⟩:=pI I r pa;obtain⟨b,ws,its2,rfl,q2,t2,rv2,h2,l2,_⟩:=pI I r pb;cases rv;cases ru;by_cases hx:its=[]
 .obtain⟨⟨cls,dd,data,sl⟩,ho,hc,n,hd⟩:=id h1
  obtain⟨⟨cls2,dd2,data2,sl2⟩,ho2,hc2,n2,hd2⟩:=id h2;simp only at hc hd hc2 hd2;subst hc hd hc2 hd2;have hxs:xs=[]:=DC.mp (by rw[l1,hx];rfl)
  subst hxs;exact Lq ⟨_,ho,rfl⟩ ⟨_,ho2,rfl⟩ Io Kl Gh Fu (Fk _ _) (tuple_addW0 a b its.toArray its2.toArray n n2 dd dd2 sl sl2 (by simp[hx]))
   ⟨ho,ho2,⟨.ref b,H,I,rfl,xr af r pb⟩⟩
 .refine _H.cat_tup h1 h2 hx (λz=>⟨.ref a,H,I,rfl,xr af r ?_⟩) (λz=>?_) (by rw[<- l1,<- l2,<- zL];exact hl)
  .have hys:ys=[]:=DC.mp (by rw[l2,z];rfl)
   rw[hys,Ea];exact pa
  .exact iN I r (t1.append t2) (rv1.append rv2) (by rw[CP];exact hl) af
theorem YW {H P:Hp}{α:Aa Ad}{S:Sto}{ys:Aa D}{u:V}{vv uu:Ac}(I:Inv X pins σ H s)(r:Rel X.K H P α S)(rv:qI v vv)(ru:qI u uu)(pa:Rep X.K P α (.lst xs) v)(pb:Rep X.K P α (.lst ys) u)(hl:xs.length+ys.length<=lim)(af:OkV X P α Q (.lst (xs++ys)) S) :
  Ar (As X.prog X.w) X.A (Co .Add vv uu) (EP X pins σ Q) X.xe s:=by
 obtain⟨a,vs,its,n,rfl,q1,t1,rv1,h1,l1,_⟩:=yX I r pa;obtain⟨b,ws,its2,n2,rfl,q2,t2,rv2,h2,l2,_⟩:=yX I r pb;cases rv;cases ru;refine PySem.P.add_list h1 h2 ?_ (by rw[AG,AG,<- l1,<- l2,<- zL];exact hl)
 rw[List.append_toArray];exact tF I r (t1.append t2) (rv1.append rv2) (by rw[CP];exact hl) af
inductive AddV (a b:D)(S:Sto):Prop
 |bad (e:x6 a b S=.bad)
 |int (i j:Am) (ea:a=.int i) (eb:b=.int j)
 |str (x y:Ap) (ea:a=.str x) (eb:b=.str y)
 |tup (x y:Aa D) (ea:a=.tup x) (eb:b=.tup y)
 |lst (x y:Aa D) (ea:a=.lst x) (eb:b=.lst y)
theorem FO (a b:D)(S:Sto):AddV a b S:=by
 cases a with
 |int i=>cases b with
  |int j=>exact .int i j rfl rfl
  |_=>exact .bad rfl
 |str i=>cases b with
  |str j=>exact .str i j rfl rfl
  |_=>exact .bad rfl
 |tup i=>cases b with
  |tup j=>exact .tup i j rfl rfl
  |_=>exact .bad rfl
 |lst i=>cases b with
  |lst j=>exact .lst i j rfl rfl
  |_=>exact .bad rfl
 |_=>exact .bad rfl
theorem JE:OpD X (Co .Add) x6:=by
 intro pins σ H s P α S v u vv uu a b Q I r rv ru pa pb af;cases FO a b S with
 |bad e=>rw[e] at af;exact Al af
 |int i j ea eb =>
  subst ea eb;exact JM pins s σ H v u vv uu Q I rv ru ⟨i,j,xA pa,xA pb,xr af r (by simp only[Rep])⟩
 |str x y ea eb =>
  subst ea eb;obtain⟨hl,af⟩:=xY (X:=X) af;simp only[Rep] at pa pb;exact sC pins s σ H v u vv uu Q I rv ru ⟨x,y,pa,pb,by rw[<- zL];exact hl,xr af r (by simp only[Rep])⟩
 |tup xs ys ea eb =>
  subst ea eb;obtain⟨hl,af⟩:=xY (X:=X) af;exact YX I r rv ru pa pb hl af
 |lst xs ys ea eb =>
  subst ea eb;obtain⟨hl,af⟩:=xY (X:=X) af;exact YW I r rv ru pa pb hl af
noncomputable def gIx:G2:=λa b S=>match b with
 |.int k=>match a with
  |.tup xs=>yG (atI xs k) S
  |.lst xs=>yG (atI xs k) S
  |.loc i=>match S[i]? with
   |some (.lst xs)=>yG (atI xs k) S
   |_=>.bad
  |_=>.bad
 |_=>.bad
theorem pN {P:Hp}{α:Aa Ad}{ds:Aa D}{k:Am}(rp:qE X.K P α ds vs)(h:atI ds k=Ab d):∃ v,atI vs k=Ab v/\Rep X.K P α d v:=by
 unfold atI at h ⊢;rw[<- rp.length];cases q:ixN ds.length k with
 |none=>rw[q] at h;cases h
 |some j =>
  rw[q] at h;obtain⟨v,h1,h2⟩:=rp.get (show ds[j]? = Ab d from h)
  exact⟨v,h1,h2⟩
theorem UH:IxD X gIx:=by
 intro value slice pins σ H s P α S v u vv uu a b Q I r rv ru pa pb af hs;cases b with
 |int k =>
  have hk:=xA pb;cases a with
  |tup xs =>
   obtain⟨d,e,ok⟩:=yP (X:=X) af;simp only[Rep] at pa;obtain⟨p,vs,rfl,q,t⟩:=pa;obtain⟨w,e1,rw'⟩:=pN t e;exact UI value slice pins s σ H _ u vv uu Q I rv ru ⟨p,vs,k,w,rfl,hk,xF r.sub q,e1,xr ok r rw'⟩ hs
  |lst xs =>
   obtain⟨d,e,ok⟩:=yP (X:=X) af;simp only[Rep] at pa;obtain⟨p,vs,rfl,q,t⟩:=pa;obtain⟨w,e1,rw'⟩:=pN t e;exact l9 value slice pins s σ H _ u vv uu Q I rv ru ⟨p,vs,k,w,rfl,hk,(xB r.sub q).l,e1,xr ok r rw'⟩ hs
  |loc i =>
   obtain⟨xs,hS,af⟩:=gD (X:=X) (f:=λxs=>yG (atI xs k) S) af;obtain⟨d,e,ok⟩:=yP (X:=X) af;simp only[Rep] at pa;obtain⟨p,rfl,q⟩:=pa;obtain⟨vs,z,t⟩:=r.at' i p _ q hS;obtain⟨w,e1,rw'⟩:=pN t e;exact l9 value slice pins s σ H _ u vv uu Q I rv ru ⟨p,vs,k,w,rfl,hk,.of z,e1,xr ok r rw'⟩ hs
  |_=>exact Al af
 |_=>exact Al af
noncomputable def kZ:G3:=λo i d S=>match o,i with
 |.loc n,.int k=>match S[n]? with
  |some (.lst xs)=>match ixN xs.length k with
   |some j=>.ok () (S.set n (.lst (xs.set j d)))
   |none=>.bad
  |_=>.bad
 |_,_=>.bad
theorem BZ:mE X (mC X kZ):=by
 intro pins s σ H o i v ov iv u Q I ro ri rv h;obtain⟨P,α,S,a,b,d,r,pa,pb,pd,af⟩:=h;cases a with
 |loc n =>
  cases b with
  |int k =>
   obtain⟨xs,hS,af⟩:=gD (X:=X) (f:=λxs=>match ixN xs.length k with|some j=>.ok () (S.set n (.lst (xs.set j d)))|none=>.bad) af
   cases hj:ixN xs.length k with
   |none=>rw[hj] at af;exact Al af
   |some j =>
    rw[hj] at af;simp only[Rep] at pa;obtain⟨p,rfl,q⟩:=pa;obtain⟨vs,z,t⟩:=r.at' n p _ q hS;refine oY pins s σ H _ i v ov iv u Q I ro ri rv ⟨p,vs,k,j,rfl,xA pb,z,by rw[<- t.length];exact hj,?_⟩
    refine af _ P α (r.put (m':=.lst (xs.set j d)) q hS (by intro z;cases z) ⟨vs.set j v,qS,t.set pd j⟩) (qF.refl _) (AF _)
  |_=>exact Al af
 |_=>exact Al af
noncomputable def UR:D->Sto->Ak Ai
 |.tup xs,_=>Ab xs.length
 |.lst xs,_=>Ab xs.length
 |.str x,_=>if x.length<=lim then Ab x.length else none
 |.dct0,_=>Ab 0
 |.loc i,S=>match S[i]? with
  |some (.lst xs)=>Ab xs.length
  |_=>none
 |_,_=>none
noncomputable def mY:DF:=λds S=>match ds with
 |[d]=>match UR d S with
  |some n=>.ok (.int n) S
  |none=>.bad
 |_=>.bad
end
section
variable {X:Cx}
theorem yC {P:Hp}{α:Aa Ad}(rp:qE X.K P α [d] vs)(rv:qL vs us):∃ v u,vs=[v]/\us=[u]/\Rep X.K P α d v/\qI v u:=by
 obtain⟨v,ws,rfl,p,t⟩:=rp.cons_inv;have:=t.nil_inv;subst this;obtain⟨u,rfl,q⟩:=kJ rv;exact⟨v,u,rfl,rfl,p,q⟩
theorem kH {P:Hp}{α:Aa Ad}{e:D}(rp:qE X.K P α [d,e] vs)(rv:qL vs us):∃ v w u x,vs=[v,w]/\us=[u,x]/\Rep X.K P α d v/\Rep X.K P α e w/\qI v u/\qI w x:=by
 obtain⟨v,ws,rfl,p,t⟩:=rp.cons_inv;obtain⟨w,ws,rfl,p',t⟩:=t.cons_inv;have:=t.nil_inv;subst this;obtain⟨u,x,rfl,q,q'⟩:=sO rv;exact⟨v,w,u,x,rfl,rfl,p,p',q,q'⟩
noncomputable def dX (d:D)(S:Sto):Ak Ai:=match d with
 |.dct0=>none
 |_=>UR d S
theorem US {H P:Hp}{α:Aa Ad}{S:Sto}{n:Ai}(r:Rel X.K H P α S)(p:Rep X.K P α d v)(hn:dX d S=Ab n):YT X.K v H n:=by
 cases d with
 |str x =>
  cases (show v=.str x from p)
  obtain⟨hl,rfl⟩:=uQ hn;exact⟨by rw[<- zL];exact hl,rfl⟩
 |tup xs =>
  simp only[Rep] at p;obtain⟨a,ws,rfl,sq,t⟩:=p;cases hn;exact .inr ⟨ws,xF r.sub sq,t.length⟩
 |lst xs =>
  simp only[Rep] at p;obtain⟨a,ws,rfl,sq,t⟩:=p;cases hn;exact .inl ⟨ws,(xB r.sub sq).l,t.length⟩
 |loc i =>
  simp only[Rep] at p;obtain⟨a,rfl,e⟩:=p;obtain⟨xs,hS,hn⟩:=UY (f:=λxs=>Ab xs.length) hn;cases hn;obtain⟨ws,z,t⟩:=r.at' i a _ e hS;exact .inl ⟨ws,.of z,t.length⟩
 |_=>exact nn hn
inductive LenD1 (ds:Aa D)(S:Sto)(r:Res D):Prop
 |bad (e:r=.bad)
 |of (d:D) (n:Ai) (ed:ds=[d]) (hn:dX d S=Ab n) (e:r=.ok (.int n) S)
theorem PY (ds:Aa D)(S:Sto):LenD1 ds S (match ds with|[.dct0]=>.bad|_=>mY ds S):=by
 cases ds with
 |nil=>exact .bad rfl
 |cons d ds =>
  cases ds with
  |cons _ _=>cases d <;> exact .bad rfl
  |nil =>
   have z:(match [d] with|[D.dct0]=>Res.bad|_=>mY [d] S)=(match dX d S with|some n=>Res.ok (D.int n) S|none=>.bad):=by cases d <;> rfl
   rw[z];cases hn:dX d S with
   |none=>exact .bad rfl
   |some n=>exact .of d n rfl hn rfl
theorem V3 (hD:Ht):yA X (.builtin "len") (λds S=>match ds with|[.dct0]=>.bad|_=>mY ds S):=by
 intro pins σ H s P α S vs us ds Q I r rv rp af;have af1:qJ X P α (match ds with|[D.dct0]=>Res.bad|_=>mY ds S) (OkV X P α Q):=af
 clear af;cases PY ds S with
 |bad e=>rw[e] at af1;exact Al af1
 |of d n ed hn e =>
  rw[e] at af1;subst ed;obtain⟨v,u,rfl,rfl,p,q⟩:=yC rp rv;exact aG pins s σ H _ _ Q I rv ⟨v,n,rfl,US r p hn,xr af1 r (by simp only[Rep])⟩
noncomputable def tyD:D->Sto->Ak Bk
 |.non,_=>Ab "NoneType"
 |.bl _,_=>Ab "bool"
 |.int _,_=>Ab "int"
 |.str _,_=>Ab "str"
 |.tup _,_=>Ab "tuple"
 |.lst _,_=>Ab "list"
 |.dct0,_=>Ab "dict"
 |.loc i,S=>match S[i]? with
  |some (.lst _)=>Ab "list"
  |some (.dct _)=>Ab "dict"
  |_=>none
 |_,_=>none
noncomputable def uP (a b:Bk):Aq:=a == b||(a == "bool" && b == "int")
noncomputable def gC (b:Bk):Aq:=b == "int" || b == "bool" || b == "tuple" || b == "list" || b == "str" || b == "dict"
noncomputable def UO (a b:Bk):Ak Aq:=if (Hs a == Hs b)=true then Ab true else if PySem.W.kitMeta b=true then (fastBuiltinMro a).map (·.contains (.type b)) else none
noncomputable def tyL:Aa Bk:=["NoneType","bool","int","str","tuple","list","dict"]
noncomputable def okL:Aa Bk:=["int","bool","tuple","list","str","dict"]
theorem XO:(tyL.all λa=>okL.all λb=>decide (UO a b=Ab (uP a b)))=true:=by decide +kernel
theorem JJ {b:Bk}(hb:gC b=true):b∈okL:=by simpa [gC,okL,or_assoc] using hb
theorem XQ {K:Ah}{a b:Bk}(ha:a∈tyL)(hb:gC b=true):ED K (.type a) (.type b)=Ab (uP a b):=
 AH (p:=UO a b=Ab (uP a b)) (AJ.mp (AJ.mp XO a ha) b (JJ hb))
noncomputable def zP:DF:=λds S=>match ds with
 |[d,.ty b]=>if gC b then match tyD d S with
   |some a=>.ok (.bl (uP a b)) S
   |none=>.bad
  else .bad
 |_=>.bad
inductive TyV (X:Cx)(H:Hp)(v:V)(a:Bk):Prop
 |of (t:TyOf X.K H v (.type a))
 |tup (p:Ad) (vs:Aa V) (e:v=.ref p) (q:SqT X.K H p vs) (ea:a = "tuple")
 |lst (p:Ad) (vs:Aa V) (e:v=.ref p) (q:SqL X.K H p vs) (ea:a = "list")
theorem GK {S:Sto}{a:Bk}(h:tyD d S=Ab a):a∈tyL:=by
 cases d with
 |non=>cases h;exact .head _
 |bl b=>cases h;exact .tail _ (.head _)
 |int i=>cases h;exact .tail _ (.tail _ (.head _))
 |str x=>cases h;exact .tail _ (.tail _ (.tail _ (.head _)))
 |tup xs=>cases h;exact .tail _ (.tail _ (.tail _ (.tail _ (.head _))))
 |lst xs=>cases h;exact .tail _ (.tail _ (.tail _ (.tail _ (.tail _ (.head _)))))
 |dct0=>cases h;exact .tail _ (.tail _ (.tail _ (.tail _ (.tail _ (.tail _ (.head _))))))
 |loc i =>
  rcases bB (f:=λ_=>Ab "list") (g:=λ_=>Ab "dict") h with⟨_,_,h⟩|⟨_,_,h⟩
  .cases h;exact .tail _ (.tail _ (.tail _ (.tail _ (.tail _ (.head _)))))
  .cases h;exact .tail _ (.tail _ (.tail _ (.tail _ (.tail _ (.tail _ (.head _))))))
 |_=>exact nn h
theorem F5 {H P:Hp}{α:Aa Ad}{S:Sto}{a:Bk}(r:Rel X.K H P α S)(p:Rep X.K P α d v)(h:tyD d S=Ab a):TyV X H v a:=by
 cases d with
 |non=>cases h;cases (show v=.non from p);exact .of .non
 |bl b=>cases h;cases (show v=.bl b from p);exact .of (.bl b)
 |int i=>cases h;cases (show v=.int i from p);exact .of (.int i)
 |str x=>cases h;cases (show v=.str x from p);exact .of (.str x)
 |tup xs =>
  cases h;simp only[Rep] at p;obtain⟨a,vs,e,q,t⟩:=p;exact .tup a vs e (xF r.sub q) rfl
 |lst xs =>
  cases h;simp only[Rep] at p;obtain⟨a,vs,e,q,t⟩:=p;exact .lst a vs e (xB r.sub q).l rfl
 |dct0 =>
  cases h;simp only[Rep] at p;obtain⟨a,rfl,q⟩:=p;exact .of (.dK (r.sub _ _ q))
 |loc i =>
  simp only[Rep] at p;obtain⟨a,rfl,q⟩:=p;rcases bB (f:=λ_=>Ab "list") (g:=λ_=>Ab "dict") h with⟨xs,hS,h⟩|⟨kvs,hS,h⟩
  .cases h
   obtain⟨vs,z,t⟩:=r.at' i a _ q hS;exact .of (.lst z)
  .cases h
   obtain⟨vs,z,t⟩:=r.at' i a _ q hS;exact .of (.dK z)
 |_=>exact nn h
inductive IsiV (ds:Aa D)(S:Sto):Prop
 |bad (e:zP ds S=.bad)
 |of (d:D) (b a:Bk) (ed:ds=[d,.ty b]) (hb:gC b=true) (ha:tyD d S=Ab a) (e:zP ds S=.ok (.bl (uP a b)) S)
theorem M2 (ds:Aa D)(S:Sto):IsiV ds S:=by
 cases ds with
 |nil=>exact .bad rfl
 |cons d ds =>
  cases ds with
  |nil=>exact .bad rfl
  |cons e ds =>
   cases ds with
   |cons _ _=>cases e <;> exact .bad rfl
   |nil =>
    cases e with
    |ty b =>
     have z:zP [d,.ty b] S=if gC b then (match tyD d S with|some a=>.ok (.bl (uP a b)) S|none=>.bad) else .bad:=rfl
     by_cases hb:gC b=true
     .rw[A0 hb] at z
      cases ha:tyD d S with
      |none=>rw[ha] at z;exact .bad z
      |some a=>rw[ha] at z;exact .of d b a rfl hb ha z
     .rw[Aw hb] at z
      exact .bad z
    |_=>exact .bad rfl
theorem sX:yA X (.builtin "isinstance") zP:=by
 intro pins σ H s P α S vs us ds Q I r rv rp af;cases M2 ds S with
 |bad e=>rw[e] at af;exact Al af
 |of d b a ed hb ha e =>
  subst ed;rw[e] at af;obtain⟨v,w,u,x,rfl,rfl,p,p',q,q'⟩:=kH rp rv;simp only[Rep] at p';subst p';cases (show x=Hs b from q')
  have kit:=XQ (K:=X.K) (GK ha) hb;have fin:∀ tk,EP X pins σ Q (.bool (uP a b)) { s with toks:=tk }:=λtk=>⟨.bl _,H,I.tok tk,rfl,xr af r (by simp only[Rep])⟩
  cases F5 r p ha with
  |of ht=>exact rU I q ht kit fin
  |tup p' ws e sq ea =>
   subst e ea;cases (show u=AL p' from q)
   obtain⟨its,rv',⟨o,h1,h2,_⟩,_⟩:=I.tuple sq;exact Bz Lf I.kIn ⟨o,h1,h2⟩ kit (λz=>nomatch z) fin
  |lst p' ws e sq ea =>
   subst e ea;cases (show u=AL p' from q)
   obtain⟨its,rv',⟨o,_,h1,h2,_⟩,_⟩:=I.list sq;exact Bz HQ I.kIn ⟨o,h1,h2⟩ kit (λz=>nomatch z) fin
noncomputable def wG:Aa D->Ak (Aa Aq)
 |[]=>Ab []
 |.bl b::r=>(wG r).map (b::·)
 |_=>none
theorem uA {P:Hp}{α:Aa Ad}:∀ {ds:Aa D} {bs:Aa Aq} {vs:Aa V} {us:Aa Ac},wG ds=Ab bs->qE X.K P α ds vs->qL vs us->us=bs.map De
 |[],bs,vs,us,h,rp,rv=>by
  cases h;have:=rp.nil_inv;subst this;cases rv;rfl
 |d::ds,bs,vs,us,h,rp,rv=>by
  cases d with
  |bl b =>
   obtain⟨bs',q,rfl⟩:=E0.mp (show (wG ds).map (b::·)=Ab bs from h)
   obtain⟨w,ws,rfl,p,t⟩:=rp.cons_inv;simp only[Rep] at p;subst p;cases rv with
   |cons q1 q2 =>
    cases (show _=De b from q1)
    rw[uA q t q2];rfl
  |_=>exact nn h
noncomputable def mX:DF:=λds S=>match ds with
 |[.int i]=>.ok (.int i) S
 |[.bl b]=>.ok (.int (b01 b)) S
 |_=>.bad
inductive IntV (ds:Aa D)(S:Sto):Prop
 |bad (e:mX ds S=.bad)
 |int (i:Am) (e:ds=[.int i])
 |bl (b:Aq) (e:ds=[.bl b])
theorem FZ (ds:Aa D)(S:Sto):IntV ds S:=by
 cases ds with
 |nil=>exact .bad rfl
 |cons d ds =>
  cases ds with
  |cons _ _=>cases d <;> exact .bad rfl
  |nil =>
   cases d with
   |int i=>exact .int i rfl
   |bl b=>exact .bl b rfl
   |_=>exact .bad rfl
theorem V2:yA X (.type "int") mX:=by
 intro pins σ H s P α S vs us ds Q I r rv rp af;cases FZ ds S with
 |bad e=>rw[e] at af;exact Al af
 |int i e =>
  subst e;obtain⟨v,u,rfl,rfl,p,q⟩:=yC rp rv;exact bP pins s σ H _ _ Q I rv (.inl ⟨_,by rw[xA p],xr af r (by simp only[Rep])⟩)
 |bl b e =>
  subst e;obtain⟨v,u,rfl,rfl,p,q⟩:=yC rp rv;simp only[Rep] at p;subst p;exact bP pins s σ H _ _ Q I rv (.inr ⟨_,rfl,xr af r (by simp only[Rep];rfl)⟩)
end
section
variable {X:Cx}
structure ClsK (K:Ah)(cl:Aa Ad):Prop where
 ex:∀ C∈cl,ExnK K C
 one:∀ C∈cl,∀ B∈cl,ED K (.ref C) (.ref B)=Ab (C == B)
 ve:∀ C∈cl,ED K (.ref C) (.type "ValueError")=Ab true
noncomputable def zJ (cl:Aa Ad):DF:=λds S=>match ds with
 |[.exn (.ref C),.obj B]=>if cl.contains C&&cl.contains B then .ok (.bl (C == B)) S else .bad
 |[.exn (.ref C),.ty b]=>if cl.contains C&&(b == "ValueError") then .ok (.bl true) S else .bad
 |_=>zP ds S
theorem rK {H P:Hp}{α:Aa Ad}{S:Sto}{C:Ad}{u:Ac}(I:Inv X pins σ H s)(r:Rel X.K H P α S)(p:Rep X.K P α (.exn (.ref C)) v)(q:qI v u):∃ a,u=.ref a/\yB a C s.heap:=by
 simp only[Rep] at p;obtain⟨a,rfl,z⟩:=p;obtain⟨y,_⟩:=I.hok a _ (r.sub _ _ z);exact⟨a,q,y⟩
inductive IsiE (cl:Aa Ad)(ds:Aa D)(S:Sto):Prop
 |bad (e:zJ cl ds S=.bad)
 |old (e:zJ cl ds S=zP ds S)
 |obj (C B:Ad) (ed:ds=[.exn (.ref C),.obj B]) (h1:C∈cl) (h2:B∈cl) (e:zJ cl ds S=.ok (.bl (C == B)) S)
 |ve (C:Ad) (ed:ds=[.exn (.ref C),.ty "ValueError"]) (h1:C∈cl) (e:zJ cl ds S=.ok (.bl true) S)
theorem PV (cl:Aa Ad)(C:Ad)(d:D)(S:Sto):IsiE cl [.exn (.ref C),d] S:=by
 cases d with
 |obj B =>
  have z:zJ cl [.exn (.ref C),.obj B] S=if (cl.contains C&&cl.contains B)=true then .ok (.bl (C == B)) S else .bad:=rfl
  by_cases h:(cl.contains C&&cl.contains B)=true
  .rw[A0 h] at z
   have h':=CQ.mp h;exact .obj C B rfl (CK.mp h'.1) (CK.mp h'.2) z
  .rw[Aw h] at z
   exact .bad z
 |ty b =>
  have z:zJ cl [.exn (.ref C),.ty b] S=if (cl.contains C&&(b == "ValueError"))=true then .ok (.bl true) S else .bad:=rfl
  by_cases h:(cl.contains C&&(b == "ValueError"))=true
  .rw[A0 h] at z
   have h':=CQ.mp h;cases (Hw.mp h'.2);exact .ve C rfl (CK.mp h'.1) z
  .rw[Aw h] at z
   exact .bad z
 |_=>exact .old rfl
theorem M1 (cl:Aa Ad)(ds:Aa D)(S:Sto):IsiE cl ds S:=by
 cases ds with
 |nil=>exact .old rfl
 |cons a ds =>
  cases a with
  |exn c =>
   cases c with
   |ref C =>
    cases ds with
    |nil=>exact .old rfl
    |cons b ds =>
     cases ds with
     |nil=>exact PV cl C b S
     |cons _ _=>cases b <;> exact .old rfl
   |_=>exact .old rfl
  |_=>exact .old rfl
theorem ZI {cl:Aa Ad}(hK:ClsK X.K cl):yA X (.builtin "isinstance") (zJ cl):=by
 intro pins σ H s P α S vs us ds Q I r rv rp af;cases M1 cl ds S with
 |bad e=>rw[e] at af;exact Al af
 |old e=>rw[e] at af;exact sX pins σ H s P α S vs us ds Q I r rv rp af
 |obj C B ed h1 h2 e =>
  rw[e] at af;subst ed;obtain⟨v,w,u,x,rfl,rfl,p,p',q,q'⟩:=kH rp rv;simp only[Rep] at p';obtain⟨rfl,_⟩:=p';cases (show x=AL B from q')
  obtain⟨a,rfl,ha⟩:=rK I r p q;exact Bz (tE (hK.ex C h1)) I.kIn ha (hK.one C h1 B h2) (λz=>nomatch z) λtk=>⟨.bl _,H,I.tok tk,rfl,xr af r (by simp only[Rep])⟩
 |ve C ed h1 e =>
  rw[e] at af;subst ed;obtain⟨v,w,u,x,rfl,rfl,p,p',q,q'⟩:=kH rp rv;simp only[Rep] at p';subst p';cases (show x=Hs "ValueError" from q')
  obtain⟨a,rfl,ha⟩:=rK I r p q;exact Bz (tE (hK.ex C h1)) I.kIn ha (hK.ve C h1) (λz=>nomatch z) λtk=>⟨.bl _,H,I.tok tk,rfl,xr af r (by simp only[Rep])⟩
def MtD (X:Cx)(id:Bk)(g:D->Aa D->Sto->Res D):Prop:=
 ∀ (pins:Aa (Ad × AR)) (σ : _L.St) (H:Hp) (s:Ag) (P:Hp) (α : Aa Ad) (S:Sto) (v:V) (vv:Ac) (vs:Aa V) (us:Aa Ac) (a:D) (ds:Aa D) (Q:VK),Inv X pins σ H s->Rel X.K H P α S->qI v vv->Rep X.K P α a v->qL vs us->qE X.K P α ds vs->qR X P α (g a ds S) Q ->
  Ar (As X.prog X.w) X.A (call (.builtin id) (vv::us)) (EP X pins σ Q) X.xe s
noncomputable def dBm (T:Bk)(g:D->Aa D->Sto->Res D)(fo:DE)(fa:DA):DE:=λenv S=>(fo env S).bind λa S1=>if (tyD a S1 == Ab T)=true then (fa env S1).bind λds S2=>g a ds S2 else .bad
theorem cN {H P:Hp}{α:Aa Ad}{S:Sto}{a:D}{T:Bk}(r:Rel X.K H P α S)(p:Rep X.K P α a v)(h:tyD a S=Ab T)(hT:T = "list" \/ T = "dict" \/ T = "int" \/ T = "str"):tyV X.K T v H:=by
 cases a with
 |int i=>cases h;simp only[Rep] at p;subst p;rfl
 |str x=>cases h;simp only[Rep] at p;subst p;rfl
 |lst xs =>
  cases h;simp only[Rep] at p;obtain⟨b,vs,rfl,q,t⟩:=p;exact .inl ⟨rfl,vs,(xB r.sub q).l⟩
 |dct0 =>
  cases h;simp only[Rep] at p;obtain⟨b,rfl,q⟩:=p;exact .inr (.inr (.inl ⟨rfl,.inl ⟨[],r.sub _ _ q⟩⟩))
 |loc i =>
  simp only[Rep] at p;obtain⟨b,rfl,q⟩:=p;rcases bB (f:=λ_=>Ab "list") (g:=λ_=>Ab "dict") h with⟨xs,hS,h⟩|⟨kvs,hS,h⟩
  .cases h
   obtain⟨vs,z,t⟩:=r.at' i b _ q hS;exact .inl ⟨rfl,vs,SqL.of z⟩
  .cases h
   obtain⟨vs,z,t⟩:=r.at' i b _ q hS;exact .inr (.inr (.inl ⟨rfl,.inl ⟨vs,z⟩⟩))
 |non=>cases h;exact absurd hT (by decide)
 |bl b=>cases h;exact absurd hT (by decide)
 |tup xs=>cases h;exact absurd hT (by decide)
 |_=>exact nn h
variable {o e:AA}{es:Aa AA}{fo:DE}{fa:DA}{name:Ap}{apos cpos:CG}{T id:Bk}{g:D->Aa D->Sto->Res D}
theorem V8 {P:Hp}{α:Aa Ad}{a:D}{S:Sto}{β:Type}{k:Res β}{Ok:β->Sto->Prop}(h:qJ X P α (if (tyD a S == Ab T)=true then k else .bad) Ok):tyD a S=Ab T/\qJ X P α k Ok:=by
 by_cases z:(tyD a S == Ab T)=true
 .rw[A0 z] at h;exact⟨Hw.mp z,h⟩
 .rw[Aw z] at h;exact Al h
theorem P7 (pa:PlainAttrs T)(slot:Slot T name id)(hty:typeOf (.builtin id)=pure (.type "method_descriptor"))(hT:T = "list" \/ T = "dict" \/ T = "int" \/ T = "str")(hm:MtD X id g)(ho:PE X o (tD X fo))(ha:PA X (e::es) (tDA X fa))
  (hbase:EU o name X.env (eval o X.env)=eval o X.env:=by rfl)
  (hfew:((Dm cpos (A3 (e::es) X.env)).all (λx=>!x.1)&&(backToKw cpos (keywordEach [] X.env)).all (λx=>x.1.isSome)
   && decide ((e::es).length+([]:Aa N6).length+(if ([] : Aa N6).isEmpty then 0 else 1)<30))=true:=by rfl)
  (hline:(apos.endLine == cpos.line)=true:=by rfl) (hs:A3 (e::es) X.env=(false,eval e X.env)::A3 es X.env:=by rfl) (hplain:(Dm cpos (A3 es X.env)).any (·.1)=false:=by rfl) :
  PE X (.Call (.Attribute o name apos) (e::es) [] cpos) (tD X (dBm T g fo fa)):=by
 intro pins s σ H Q I h;obtain⟨P,α,env,S,r,re,af⟩:=h;refine wpAny_Call_method_late hbase hfew hline rfl (thn (zI ho I r re af) λvv s1 ⟨v,H1,P1,α1,d,S1,G1,af1⟩=>?_);obtain⟨ht,af2⟩:=V8 af1;obtain⟨h1,h2⟩:=cM G1.inv G1.val (cN G1.rel G1.rep ht hT);refine⟨T,id,pa,slot,hty,h1,h2,?_⟩;have hA:=xD ha G1.inv G1.rel G1.env (P:=P1) (α:=α1) (Ok:=OkV X P1 α1 Q) (qR.base G1.same G1.pre (r:=(fa env S1).bind λds S2=>g d ds S2) af2) cpos;rw[hs] at hA ⊢;refine Gj (by show (false||(Dm cpos (A3 es X.env)).any (·.1))=false;rw[hplain] <;> rfl) (Ka ?_)
 exact thn hA λus s2 ⟨vs,H2,P2,α2,ds,S2,I2,rv,r2,re2,rp2,e1,e2,af3⟩=>hm pins σ H2 s2 P2 α2 S2 v vv vs us d ds Q I2 r2 G1.val (Rep.mono e1 e2 _ _ G1.rep) rv rp2 (qR.base e1 e2 af3)
noncomputable def XE:D->Aa D->Sto->Res D:=λa ds S=>match a,ds with
 |.loc i,[d]=>match S[i]? with
  |some (.lst xs)=>if xs.length<lim then .ok .non (S.set i (.lst (xs++[d]))) else .bad
  |_=>.bad
 |_,_=>.bad
end
noncomputable def xN:D->Ak Key
 |.int i=>Ab (.inl i)
 |.str x=>Ab (.inr x)
 |_=>none
noncomputable def zN (kvs:Aa (Key × D))(k:Key):Ak D:=(kvs.find? λkv=>decide (kv.1=k)).map (·.2)
noncomputable def v7 (kvs:Aa (Key × D))(k:Key)(v:D):Aa (Key × D):=
 if (kvs.any λkv=>decide (kv.1=k))=true then kvs.map (λkv=>if kv.1=k then (kv.1,v) else kv) else kvs++[(k,v)]
section
variable {K:Ah}{P:Hp}{α : Aa Ad}
theorem lB {vs:Aa (Key × V)}(r:KVs K P α kvs vs):kvs.length=vs.length:=Paired.length r
theorem b7 {k:Key}:∀ {kvs:Aa (Key × D)} {vs:Aa (Key × V)},KVs K P α kvs vs->(∀ d,zN kvs k=Ab d->∃ v,xK vs k=Ab v/\Rep K P α d v)/\(zN kvs k=none->xK vs k=none)
 |_,_,.nil=>⟨λd h=>by simp[zN] at h,λ_=>rfl⟩
 |(k1,d1)::kvs,(k2,v2)::vs,.cons z t=>by
  obtain⟨e,r⟩:=z;dsimp only at e r;subst e;obtain⟨h1,h2⟩:=b7 (k:=k) t;unfold zN xK at *;by_cases hk:k1=k
  .subst hk
   constructor
   .intro d h
    simp at h;subst h;exact⟨v2,by simp,r⟩
   .intro h
    simp at h
  .constructor
   .intro d h
    rw[IU (by simpa using hk)] at h ⊢
    exact h1 d h
   .intro h
    rw[IU (by simpa using hk)] at h ⊢
    exact h2 h
theorem XS {k:Key}{vs:Aa (Key × V)}(h:KVs K P α kvs vs):(kvs.any λkv=>decide (kv.1=k))=(vs.any λkv=>decide (kv.1=k)):=by
 induction h with
 |nil=>rfl
 |cons z t ih=>rw[Gs,Gs,ih,z.1]
theorem XW {k:Key}(q:Rep K P α d v){kvs:Aa (Key × D)}{vs:Aa (Key × V)}(h:KVs K P α kvs vs):KVs K P α (kvs.map λkv=>if kv.1=k then (kv.1,d) else kv) (vs.map λkv=>if kv.1=k then (kv.1,v) else kv):=by
 induction h with
 |nil=>exact .nil
 |cons z t ih =>
  rw[AQ,AQ];refine .cons ?_ ih;rw[<- z.1]
  split
  .exact⟨rfl,q⟩
  .exact z
theorem XT {k:Key}(q:Rep K P α d v){kvs:Aa (Key × D)}{vs:Aa (Key × V)}(h:KVs K P α kvs vs):KVs K P α (kvs++[(k,d)]) (vs++[(k,v)]):=by
 induction h with
 |nil=>exact .cons ⟨rfl,q⟩ .nil
 |cons z t ih=>exact .cons z ih
theorem XX {k:Key}(q:Rep K P α d v){kvs:Aa (Key × D)}{vs:Aa (Key × V)}(r:KVs K P α kvs vs):KVs K P α (v7 kvs k d) (wQ vs k v):=by
 unfold v7 wQ;rw[XS r]
 split
 .exact XW q r
 .exact XT q r
theorem gZ {k:Key}(h:xN d=Ab k)(r:Rep K P α d v):v=kV k:=by
 cases d with
 |int i=>cases h;simp only[Rep] at r;exact r
 |str x=>cases h;simp only[Rep] at r;exact r
 |_=>cases h
end
section
variable {X:Cx}{o i e:AA}{pos:CG}{fo fi:DE}
noncomputable def mP:DE:=λ_ S=>.ok (.loc S.length) (S++[.dct []])
theorem VD:PE X (.Dict [] [] pos) (tD X mP):=by
 refine peW oG λσ H Q ⟨P,α,env,S,r,re,af⟩ p hp=>?_;have hpre:α<+:α++[p]:=Fn _ _;have r1:=r.new (o:=.dK []) (m:=.dct []) hp ⟨[],qS,.nil⟩;refine af _ _ _ _ r1 (qF.refl _) hpre ?_;simp only[Rep];exact⟨p,rfl,by rw[<- r.len];simp⟩
noncomputable def xU:G3:=λo i d S=>match o with
 |.loc n=>match S[n]? with
  |some (.dct kvs)=>match xN i with
   |some k=>if kvs.length<lim then .ok () (S.set n (.dct (v7 kvs k d))) else .bad
   |none=>.bad
  |_=>kZ o i d S
 |_=>kZ o i d S
inductive Set2V (a b d:D)(S:Sto):Prop
 |bad (e:xU a b d S=.bad)
 |old (e:xU a b d S=kZ a b d S)
 |of (n:Ai) (kvs:Aa (Key × D)) (k:Key) (ea:a=.loc n) (hS:S[n]? = Ab (.dct kvs)) (hk:xN b=Ab k) (hl:kvs.length<lim) (e:xU a b d S=.ok () (S.set n (.dct (v7 kvs k d))))
theorem BY (a b d:D)(S:Sto):Set2V a b d S:=by
 cases a with
 |loc n =>
  have z:xU (.loc n) b d S=(match S[n]? with|some (.dct kvs)=>(match xN b with|some k=>(if kvs.length<lim then .ok () (S.set n (.dct (v7 kvs k d))) else .bad)|none=>.bad)|_=>kZ (.loc n) b d S):=rfl
  cases hS:S[n]? with
  |none=>rw[hS] at z;exact .old z
  |some m =>
   rw[hS] at z;cases m with
   |dct kvs =>
    cases hk:xN b with
    |none=>rw[hk] at z;exact .bad z
    |some k =>
     rw[hk] at z;by_cases hl:kvs.length<lim
     .exact .of n kvs k rfl hS hk hl (z.trans (A0 hl))
     .exact .bad (z.trans (Aw hl))
   |_=>exact .old z
 |_=>exact .old rfl
theorem G6 (hu:X.A.units+1<CZ):mE X (mC X xU):=by
 intro pins s σ H o i v ov iv u Q I ro ri rv h;obtain⟨P,α,S,a,b,d,r,pa,pb,pd,af⟩:=h;cases BY a b d S with
 |bad e=>rw[e] at af;exact Al af
 |old e =>
  rw[e] at af;exact BZ pins s σ H o i v ov iv u Q I ro ri rv ⟨P,α,S,a,b,d,r,pa,pb,pd,af⟩
 |of n kvs k ea hS hk hl e =>
  rw[e] at af;subst ea;simp only[Rep] at pa;obtain⟨p,rfl,q⟩:=pa;obtain⟨vs,z,t⟩:=r.at' n p _ q hS;cases gZ hk pb;cases (show ov=AL p from ro)
  refine r8 hu I (pL.k (v:=v) z (by rw[<- lB t,<- zL];exact hl)) ri rv λs' I'=>⟨_,I',?_⟩
  exact af _ P α (r.put (m':=.dct (v7 kvs k d)) q hS (by intro z;cases z) ⟨_,qS,XX pd t⟩) (qF.refl _) (AF _)
noncomputable def jK:D->Aa D->Sto->Res D:=λa ds S=>match a,ds with
 |.loc n,[i,x]=>match S[n]? with
  |some (.dct kvs)=>match xN i with
   |some k=>.ok ((zN kvs k).getD x) S
   |none=>.bad
  |_=>.bad
 |_,_=>.bad
inductive GetV (a:D)(ds:Aa D)(S:Sto):Prop
 |bad (e:jK a ds S=.bad)
 |of (n:Ai) (i x:D) (kvs:Aa (Key × D)) (k:Key) (ea:a=.loc n) (ed:ds=[i,x]) (hS:S[n]? = Ab (.dct kvs)) (hk:xN i=Ab k) (e:jK a ds S=.ok ((zN kvs k).getD x) S)
theorem FY (a:D)(ds:Aa D)(S:Sto):GetV a ds S:=by
 cases a with
 |loc n =>
  cases ds with
  |nil=>exact .bad rfl
  |cons i ds =>
   cases ds with
   |nil=>exact .bad rfl
   |cons x ds =>
    cases ds with
    |cons _ _=>exact .bad rfl
    |nil =>
     have z:jK (.loc n) [i,x] S=(match S[n]? with|some (.dct kvs)=>(match xN i with|some k=>.ok ((zN kvs k).getD x) S|none=>.bad)|_=>.bad):=rfl
     cases hS:S[n]? with
     |none=>rw[hS] at z;exact .bad z
     |some m =>
      rw[hS] at z;cases m with
      |dct kvs =>
       cases hk:xN i with
       |none=>rw[hk] at z;exact .bad z
       |some k=>rw[hk] at z;exact .of n i x kvs k rfl rfl hS hk z
      |_=>exact .bad z
 |_=>exact .bad rfl
theorem UV (hu:X.A.units+1<CZ):MtD X "dict.get" jK:=by
 intro pins σ H s P α S v vv vs us a ds Q I r rv p rvs rps af;cases FY a ds S with
 |bad e=>rw[e] at af;exact Al af
 |of n i x kvs k ea ed hS hk e =>
  rw[e] at af;subst ea ed;obtain⟨vi,vx,ui,ux,rfl,rfl,pi,px,qi,qx⟩:=kH rps rvs;simp only[Rep] at p;obtain⟨b,rfl,q⟩:=p;obtain⟨ws,z,t⟩:=r.at' n b _ q hS;cases gZ hk pi;cases (show vv=AL b from rv)
  refine V7 hu I (u9.k z) qi qx λw' s' I' rw'=>⟨_,H,I',rw',xr af r ?_⟩;obtain⟨h1,h2⟩:=b7 (k:=k) t;cases hv:zN kvs k with
  |none=>rw[h2 hv];exact px
  |some d =>
   obtain⟨w,e1,e2⟩:=h1 d hv;rw[e1];exact e2
noncomputable def gS:D->Aa D->Sto->Res D:=λa ds S=>match a,ds with
 |.lst xs,[.bl k]=>match wG xs with
  |some bs=>.ok (.int (bs.countP (· == k):Ai)) S
  |none=>.bad
 |_,_=>.bad
noncomputable def b0 (k:Aq):Aa Aq->Ak Ai
 |[]=>none
 |b::r=>if b=k then Ab 0 else (b0 k r).map (· + 1)
noncomputable def gT:D->Aa D->Sto->Res D:=λa ds S=>match a,ds with
 |.lst xs,[.bl k]=>match (wG xs).bind (b0 k) with
  |some j=>.ok (.int j) S
  |none=>.bad
 |_,_=>.bad
theorem mS (k:Aq){bs:Aa Aq}{y:Ac}(hy:y∈(bs.map De).toArray):NP y (.bool k) (IV k y):=by
 have hy':y∈bs.map De:=by rwa [List.mem_toArray] at hy
 obtain⟨b,_,rfl⟩:=AZ.mp hy';exact λprog w A E s Q h=>Np b k prog w E Q h
theorem nG (k:Aq)(bs:Aa Aq):(bs.map De).countP (IV k)=bs.countP (· == k):=by
 rw[List.countP_map];rfl
theorem sS {β:Type}{r:Res β}{P:Hp}{α:Aa Ad}{Ok:β->Sto->Prop}(e:r=.bad)(h:qJ X P α r Ok):CF:=by
 rw[e] at h;exact h
inductive BlV (a:D)(ds:Aa D):Prop
 |no (h:∀ (g:Aa D->Aq->Res D),(match a,ds with|.lst xs,[.bl k]=>g xs k|_,_=>.bad)=.bad)
 |of (xs:Aa D) (k:Aq) (ea:a=.lst xs) (ed:ds=[.bl k])
theorem blV (a:D)(ds:Aa D):BlV a ds:=by
 cases a with
 |lst xs =>
  cases ds with
  |nil=>exact .no λ_=>rfl
  |cons d ds =>
   cases ds with
   |cons _ _=>cases d <;> exact .no λ_=>rfl
   |nil =>
    cases d with
    |bl k=>exact .of xs k rfl rfl
    |_=>exact .no λ_=>rfl
 |_=>exact .no λ_=>rfl
theorem iV:MtD X "list.count" gS:=by
 intro pins σ H s P α S v vv vs us a ds Q I r rv p rvs rps af;cases blV a ds with
 |no h=>exact(sS (X:=X) (r:=gS a ds S) (h _) af).elim
 |of xs k ea ed =>
  subst ea ed;have af:qJ X P α (match wG xs with|some bs=>Res.ok (D.int (bs.countP (· == k):Ai)) S|none=>.bad) (OkV X P α Q):=af
  cases hb:wG xs with
  |none=>rw[hb] at af;exact Al af
  |some bs =>
   rw[hb] at af;obtain⟨vx,ux,rfl,rfl,px,qx⟩:=yC rps rvs;simp only[Rep] at px;subst px;cases (show ux=De k from qx)
   obtain⟨b,ws,its,n,rfl,sq,t,rvi,ht,hl,_⟩:=yX I r p;cases (show vv=AL b from rv)
   have hi:=uA hb t rvi;subst hi;refine Iq IB ⟨_,ht,rfl⟩ PySem.F.entry_list_count (PySem.F.args_list_count_2 _ _) (PySem.SeqAt.list_countAt b (bs.map De).toArray n none #[] (.bool k) (IV k)) ⟨ht,λy hy=>(mS k hy).at _ _,?_⟩;refine⟨.int _,H,I.tok _,⟨_,rfl⟩,?_⟩;rw[show (bs.map De).toArray.toList=bs.map De from rfl,nG]
   exact xr af r (by simp only[Rep])
theorem l6 {k:Aq}:∀ {bs:Aa Aq} {j:Ai},b0 k bs=Ab j->∃ h:j<bs.length,bs[j]=k/\∀ m (hm:m<bs.length),m<j->bs[m]≠k
 |[],j,h=>by cases h
 |b::r,j,h=>by
  unfold b0 at h;by_cases hb:b=k
  .rw[A0 hb] at h
   cases h;exact⟨by simp,by simpa using hb,λm hm z=>absurd z (Nat.not_lt_zero _)⟩
  .rw[Aw hb] at h
   obtain⟨i,hi,rfl⟩:=E0.mp h;obtain⟨h1,h2,h3⟩:=l6 hi;refine⟨by simp;lia,by simpa using h2,λm hm hl=>?_⟩
   cases m with
   |zero=>simpa using hb
   |succ m=>simpa using h3 m (by simp at hm;lia) li
theorem iW:MtD X "list.index" gT:=by
 intro pins σ H s P α S v vv vs us a ds Q I r rv p rvs rps af;cases blV a ds with
 |no h=>exact(sS (X:=X) (r:=gT a ds S) (h _) af).elim
 |of xs k ea ed =>
  subst ea ed;have af:qJ X P α (match (wG xs).bind (b0 k) with|some j=>Res.ok (D.int j) S|none=>.bad) (OkV X P α Q):=af
  cases hj:(wG xs).bind (b0 k) with
  |none=>rw[hj] at af;exact Al af
  |some j =>
   rw[hj] at af;obtain⟨bs,hb,hi⟩:=Es.mp hj;obtain⟨vx,ux,rfl,rfl,px,qx⟩:=yC rps rvs;simp only[Rep] at px;subst px;cases (show ux=De k from qx)
   obtain⟨b,ws,its,n,rfl,sq,t,rvi,ht,hl,hz⟩:=yX I r p;cases (show vv=AL b from rv)
   have hi':=uA hb t rvi;subst hi';obtain⟨h1,h2,h3⟩:=l6 hi;have hlen:bs.length<=sizeLine:=by
    have e1:=t.length;have e2:=rvi.length;rw[AW] at e2;rw[zL] at hz
    lia
   refine Iq IC ⟨_,ht,rfl⟩ PySem.F.entry_list_index (PySem.F.args_list_index_2 _ _) (N7 b (bs.map De).toArray n (.bool k) (IV k) (λy hy=>mS k hy) j (by simpa using h1) ?_ ?_ ?_) ⟨ht,?_⟩
   .rw[DB] at hlen;lia
   .simp[IV,h2]
   .intro m hm hl'
    have hm':m<bs.length:=by simpa using hm
    have:=h3 m hm' hl';simp[IV,this]
   .exact⟨.int _,H,I.tok _,⟨_,rfl⟩,xr af r (by simp only[Rep])⟩
end
noncomputable def fR (S:Sto):Sto:=S.map λ_=>.dead
noncomputable def dQ (H P:Hp)(α : Aa Ad):Hp:=λb=>if (P b).isSome then P b else if b∈α then H b else none
section
variable {K:Ah}{H P:Hp}{α : Aa Ad}{S:Sto}
theorem iC (r:Rel K H P α S):qF (dQ H P α) H:=λb o e=>by
 unfold dQ at e
 split at e
 .exact r.sub b o e
 .split at e
  .exact e
  .cases e
theorem Rel.frz (r:Rel K H P α S):Rel K H (dQ H P α) α (fR S) where
 tb:=r.tb.keep (λ_ _ q _=>q) λb u q _ p n=>⟨by unfold dQ;rw[p];simp[n],n⟩
 sub:=iC r
 len:=by rw[r.len];simp[fR]
 nd:=r.nd
 sep:=λi a o h1 h2 h3=>by
  unfold fR at h2;rw[CV] at h2;cases q:S[i]? with
  |none=>rw[q] at h2;cases h2
  |some m=>rw[q] at h2;cases h2;exact absurd rfl h3
 at':=λi a o h1 h2=>by
  unfold fR at h2;rw[CV] at h2;cases q:S[i]? with
  |none=>rw[q] at h2;cases h2
  |some m=>rw[q] at h2;cases h2;trivial
 own:=r.own
end
section
variable {X:Cx}{a b c e:AA}{pos:CG}{fa fe:DE}
noncomputable def N2 (i:Ai)(g:G2)(fe:DE):DS:=λenv S=>match env[i]? with
 |some (Ab x)=>(fe env S).toS env λy S1=>(g x y S1).toS env λz S2=>.nx (env.set i (Ab z)) S2
 |_=>.bad
noncomputable def yT (xs:Aa D)(lo hi:Ak Am):Aa D:=(xs.drop (_H.sIx xs.length 0 lo)).take (_H.sIx xs.length xs.length hi-_H.sIx xs.length 0 lo)
abbrev DO:=qH->Sto->Res (Ak Am)
def OkO (X:Cx)(P:Hp)(α : Aa Ad)(Q:Ak Am->Hp->Prop)(o:Ak Am)(S':Sto):Prop:=∀ H' P' α',Rel X.K H' P' α' S'->qF P P'->α<+:α'->Q o H'
def tDO (X:Cx)(f:DO):TO:=λσ H Q=>∃ P α env S,Rel X.K H P α S/\qV X.K P α σ env/\qJ X P α (f env S) (OkO X P α Q)
noncomputable def yV (f:DE):DO:=λenv S=>(f env S).bind λd S1=>match d with
 |.int i=>.ok (Ab i) S1
 |_=>.bad
theorem X2 (he:PE X e (tD X fe)):PO X (Ab e) (tDO X (yV fe)):=by
 intro pins s σ H Q I h;obtain⟨P,α,env,S,r,re,af⟩:=h;refine WL (te:=tD X fe) he pins s σ H Q I ⟨P,α,env,S,r,re,?_⟩;have af':qJ X P α ((fe env S).bind λd S1=>match d with|.int i=>.ok (Ab i) S1|_=>.bad) (OkO X P α Q):=af
 cases q:fe env S with
 |bad=>rw[q] at af';exact af'
 |ex c x S'=>rw[q] at af';exact af'
 |ok d S1 =>
  rw[q] at af';intro v H1 P1 α1 r1 e1 e2 rp;cases d with
  |int i=>exact⟨i,xA rp,af' H1 P1 α1 r1 e1 e2⟩
  |_=>exact Al af'
theorem qE.cut {K:Ah}{P:Hp}{α:Aa Ad}{ds:Aa D}(r:qE K P α ds vs)(lo hi:Ak Am):qE K P α (yT ds lo hi) (jH vs lo hi):=by
 unfold yT jH;rw[r.length];exact(r.drop _).take _
noncomputable def gSl (d:D)(lo hi:Ak Am)(S:Sto):Res D:=match d with
 |.lst xs=>.ok (.lst (yT xs lo hi)) S
 |.loc i=>match S[i]? with
  |some (.lst xs)=>.ok (.lst (yT xs lo hi)) S
  |_=>.bad
 |.tup xs=>.ok (.tup (yT xs lo hi)) S
 |_=>.bad
noncomputable def dSl (fe:DE)(fl fh:DO):DE:=λenv S=>(fe env S).bind λd S1=>(fl env S1).bind λlo S2=>(fh env S2).bind λhi S3=>gSl d lo hi S3
end
end _D
namespace _D
open PySem PySem.Spec PyProof.Rows _L _H
section
variable {prog:A6}{w:AK}{A:AB}{E:Ac->Ag->Prop}{s:Ag}
theorem jE {t sl:Ad}{items:A5 Ac}{vl vu:Ac}{lo hi:Ak Am}{Q:Ac->Ag->Prop}(ht:Jb s.heap t items)(hs:s.heap.IsSliceOf sl vl vu .none)(pl:HF vl lo)(pu:HF vu hi)
  (hw:sIx items.size 0 lo=0/\sIx items.size items.size hi=items.size) (h:Q (.ref t) s):Ar (As prog w) A (Fv (.ref t) (.ref sl)) Q E s:=by
 obtain⟨ob,hob,hcb,_⟩:=id hs;have hTs:s.TypeIs (.ref sl) "slice":=⟨ob,hob,hcb⟩;unfold Fv
 try with_reducible refine Bx ?_
 first|refine Af (An ?_)|skip
 refine Af (LA ht.typeIs (by decide) ?_)
 refine Af (Dj (name:=Bo "__getitem__") ht.typeIs Ct
  (DL Ct ht.typeIs Km ?_ (Lh _ _)))
 show Ar _ _ (HH (.ref t) >>= _) _ _ s;refine Af (tupleItemsOf_ ht ?_);refine Af (Lr hTs ?_);rw[A0 (by decide)]
 refine Af (vA hs pl pu ?_);show Ar _ _ (if (((sIx items.size 0 lo:Ai):Am) == 0&&(1:Am) == 1&&(sIx items.size items.size hi-sIx items.size 0 lo) == items.size)=true then _ else _) _ _ s
 rw[hw.1,hw.2,A0 (by simp)]
 unfold Nq;refine Af (Af (Lr ht.typeIs (An ?_)));rw[A0 (by decide)]
 exact Af (D3 (An ⟨_,rfl,An h⟩))
end
section
variable {X:Cx}{e:AA}{fe:DE}{pos p2:CG}
def MC (X:Cx):V->Ak Am->Ak Am->Hp->VK->Prop:=λx lo hi H Q=>∃ P α S d,Rel X.K H P α S/\Rep X.K P α d x/\qR X P α (gSl d lo hi S) Q
theorem MF:SlR X (MC X):=by
 intro pins s σ H x v vl vu lo hi sl Q I rx hs pl pu h;obtain⟨P,α,S,d,r,p,af⟩:=h;cases d with
 |lst xs =>
  simp only[Rep] at p;obtain⟨a,vs,rfl,q,t⟩:=p;exact lZ pins s σ H _ v vl vu lo hi sl Q I rx hs pl pu ⟨a,vs,rfl,(xB r.sub q).l,λb hb=>yZ r hb (qE.cut t lo hi) af⟩
 |loc i =>
  obtain⟨xs,hS,af⟩:=gD (X:=X) (f:=λxs=>Res.ok (D.lst (yT xs lo hi)) S) af;simp only[Rep] at p;obtain⟨a,rfl,q⟩:=p;obtain⟨vs,z,t⟩:=r.at' i a _ q hS;exact lZ pins s σ H _ v vl vu lo hi sl Q I rx hs pl pu ⟨a,vs,rfl,SqL.of z,λb hb=>yZ r hb (qE.cut t lo hi) af⟩
 |tup xs =>
  have p0:=p;simp only[Rep] at p;obtain⟨a,vs,rfl,q,t⟩:=p;by_cases hw:sIx vs.length 0 lo=0/\sIx vs.length vs.length hi=vs.length
  .cases rx
   obtain⟨its,rv,ht,hz⟩:=I.tuple (xF r.sub q);have hlen:its.toArray.size=vs.length:=by rw[AG];exact rv.length.symm
   refine⟨"tuple",_,Ct.lookup,ht.typeIs,jE ht hs pl pu (by rw[hlen];exact hw) ⟨.ref a,H,I,rfl,xr af r ?_⟩⟩
   have e:yT xs lo hi=xs:=by
    unfold yT;rw[t.length,hw.1,hw.2,<- t.length];simp
   rw[e];exact p0
  .exact G7 pins s σ H _ v vl vu lo hi sl Q I rx hs pl pu ⟨a,vs,rfl,xF r.sub q,hw,λb hb=>gE r hb (qE.cut t lo hi) af⟩
 |_=>exact Al af
theorem aX {lo hi:Ak AA}{fl fh:DO}(he:PE X e (tD X fe))(hl:PO X lo (tDO X fl))(hu:PO X hi (tDO X fh)):PE X (.Subscript e (.Slice lo hi none p2) pos) (tD X (dSl fe fl fh)):=
 peW (oH MF he hl hu) λσ H Q ⟨P,α,env,S,r,re,af⟩=>by
  refine⟨P,α,env,S,r,re,?_⟩;have af':qJ X P α ((fe env S).bind λd S1=>(fl env S1).bind λlo S2=>(fh env S2).bind λhi S3=>gSl d lo hi S3) (OkV X P α Q):=af;cases q:fe env S with
  |bad=>rw[q] at af';exact af'
  |ex c x S'=>rw[q] at af';exact af'
  |ok d S1 =>
   rw[q] at af';intro v H1 P1 α1 r1 e1 e2 rp;refine⟨P1,α1,env,S1,r1,re.mono e1 e2,?_⟩;have af2:qJ X P1 α1 ((fl env S1).bind λlo S2=>(fh env S2).bind λhi S3=>gSl d lo hi S3) (OkV X P1 α1 Q):=qR.base e1 e2 af';cases q2:fl env S1 with
   |bad=>rw[q2] at af2;exact af2
   |ex c x S'=>rw[q2] at af2;exact af2
   |ok l S2 =>
    rw[q2] at af2;intro H2 P2 α2 r2 e3 e4;refine⟨P2,α2,env,S2,r2,(re.mono e1 e2).mono e3 e4,?_⟩;have af3:qJ X P2 α2 ((fh env S2).bind λhi S3=>gSl d l hi S3) (OkV X P2 α2 Q):=qR.base e3 e4 af2;cases q3:fh env S2 with
    |bad=>rw[q3] at af3;exact af3
    |ex c x S'=>rw[q3] at af3;exact af3
    |ok u S3 =>
     rw[q3] at af3;intro H3 P3 α3 r3 e5 e6;exact⟨P3,α3,S3,d,r3,Rep.mono (e3.trans e5) (e4.trans e6) _ _ rp,qR.base e5 e6 af3⟩
noncomputable def vO (d:D)(S:Sto):Res D:=match d with
 |.int i=>if i.natAbs.log2<1920 then .ok (.str (toString i)) S else .bad
 |.str x=>if x.length<=lim then .ok (.str x) S else .bad
 |_=>.bad
set_option tactic.hygienic true in
theorem VE (he:PE X e (tD X fe)):PE X (.FormattedValue e (-1) none pos) (tD X (d1 vO fe)):=by
 intro pins s σ H Q I h;obtain⟨P,α,env,S,r,re,af⟩:=h;refine FormattedValue_plain (thn (zI he I r re af) λvv s1 ⟨v,H1,P1,α1,d,S1,G1,af1⟩=>?_);have p:=G1.rep;have rv:=G1.val;have af2:=qR.base G1.same G1.pre af1;cases d with
 |int i =>
  simp only[vO] at af2
  split at af2
  .rename_i hd
   simp only[Rep] at p;subst p;obtain⟨t,rfl⟩:=rv;exact formatField_int_small hd ⟨.str _,H1,G1.inv.tok _,⟨_,rfl⟩,xr af2 G1.rel (by simp only[Rep])⟩
  .exact Al af2
 |str x =>
  simp only[vO] at af2
  split at af2
  .rename_i hd
   simp only[Rep] at p;subst p;obtain⟨t,rfl⟩:=rv;exact formatField_str (λt' tk=>⟨.str _,H1,G1.inv.tok _,⟨_,rfl⟩,xr af2 G1.rel (by simp only[Rep])⟩) (by rw[<- zL];exact hd)
  .exact Al af2
 |_=>exact Al af2
noncomputable def uS (out:Ap):Aa DE->qH->Sto->Res D
 |[],_,S=>if out.length<=lim then .ok (.str out) S else .bad
 |p::ps,env,S=>(p env S).bind λd S1=>match d with
  |.str y=>if (out++y).length<=lim then uS (out++y) ps env S1 else .bad
  |_=>.bad
def PJ (X:Cx)(es:Aa AA)(fs:Aa DE):Prop:=
 ∀ (out:Ap) (pins:Aa (Ad × AR)) (s:Ag) (σ : _L.St) (H P:Hp) (α : Aa Ad) (env:qH) (S:Sto) (Q:VK),Inv X pins σ H s->Rel X.K H P α S->qV X.K P α σ env->qR X P α (uS out fs env S) Q ->
  Ar (As X.prog X.w) X.A (joinParts out (evalEach es X.env)) (EP X pins σ Q) X.xe s
theorem K2:PJ X [] []:=by
 intro out pins s σ H P α env S Q I r re af;obtain⟨hl,af⟩:=xY (X:=X) af;exact joinParts_nil ⟨.str _,H,I.tok _,⟨_,rfl⟩,xr af r (by simp only[Rep])⟩ (by rw[<- zL];exact hl)
theorem WJ {es:Aa AA}{fs:Aa DE}(he:PE X e (tD X fe))(hr:PJ X es fs):PJ X (e::es) (fe::fs):=by
 intro out pins s σ H P α env S Q I r re af;have af:qJ X P α ((fe env S).bind λd S1=>match d with|.str y=>if (out++y).length<=lim then uS (out++y) fs env S1 else .bad|_=>.bad) (OkV X P α Q):=af
 refine joinParts_cons (thn (zI he I r re af) λvv s1 ⟨v,H1,P1,α1,d,S1,G1,af1⟩=>?_);cases d with
 |str y =>
  have p:=G1.rep;simp only[Rep] at p;subst p;obtain⟨t,rfl⟩:=G1.val;obtain⟨hl,af1⟩:=xY (X:=X) af1;exact⟨by rw[<- zL];exact hl,hr (out++y) pins s1 σ H1 P1 α1 env S1 Q G1.inv G1.rel G1.env (qR.base G1.same G1.pre af1)⟩
 |_=>exact Al af1
noncomputable def fO (fs:Aa DE):DE:=λenv S=>uS EN fs env S
theorem ZS {v₁ v₂:AA}{rest:Aa AA}{fs:Aa DE}(h:PJ X (v₁::v₂::rest) fs):PE X (.JoinedStr (v₁::v₂::rest) pos) (tD X (fO fs)):=by
 intro pins s σ H Q I hq;obtain⟨P,α,env,S,r,re,af⟩:=hq;exact JoinedStr_many (h EN pins s σ H P α env S Q I r re af)
end
end _D
namespace _D
open PySem PySem.Spec PyProof.Rows _L
variable {xs ys:A5 Ac}{h':AC}{Fs:Aa (Ai × DF)}{N ps:Aa Ap}{body:Aa Cs}{ds dsF:Aa D}{ks:Aa Key}{vs:Aa V}{Q:Ac->Ag->Prop}{I C:Ad}{Qa Qd:Ag->Prop}{m:Ai}{o':Ak (Ai × MO)}{tp:Aq}{fd:CN}{SF:Sto}{env envF:qH}
def zF (tp:Aq)(h:AC)(it l:Ad)(k:Ai):Prop:=if tp then h.IsTupleIter it l k else h.IsListIter it l k
def zY (tp:Aq)(h:AC)(l:Ad)(xs:A5 Ac):Prop:=if tp then h.IsTuple l xs else h.IsList l xs
theorem zF.keep {h:AC}{it l:Ad}{k:Ai}(x:zF tp h it l k)(q:∀ o,h.get? it=Ab o->h'.get? it=Ab o):zF tp h' it l k:=by
 cases tp <;> (obtain⟨o,e,r⟩:=x;exact⟨o,q o e,r⟩)
theorem zY.keep {h:AC}{l:Ad}(x:zY tp h l xs)(q:∀ o,h.get? l=Ab o->h'.get? l=Ab o):zY tp h' l xs:=by
 cases tp <;> (obtain⟨o,e,r⟩:=x;exact⟨o,q o e,r⟩)
theorem zF.there {h:AC}{it l:Ad}{k:Ai}(x:zF tp h it l k):∃ o,h.get? it=Ab o/\∀ v,o.data≠.cell v:=by
 cases tp <;> (obtain⟨o,e,_,d⟩:=x;exact⟨o,e,λv z=>by rw[d] at z;cases z⟩)
section
variable {prog:A6}{w:AK}{A:AB}{E:Ac->Ag->Prop}{s:Ag}
theorem oB {it t:Ad}{i:Ai}{items:A5 Ac}{x:Ac}(hit:s.heap.IsTupleIter it t i)(ht:s.heap.IsTuple t items)(hx:items[i]? = Ab x)
  (hQ:∀ h',h'.IsTupleIter it t (i+1)->Er it s.heap h'->Q x { s with heap:=h' }) : Ar (As prog w) A (Bp (.ref it)) Q E s:=by
 obtain⟨o,e,c,d⟩:=id hit;obtain⟨u,eu,_,m,du⟩:=ht;unfold Bp;refine Af (Dj (name:=Bo "__next__") hit.typeIs DR (DL DR hit.typeIs Hy ?_ (Hx _)));show Ar _ _ (field (.ref it) 0 >>= _) _ _ s;refine Af (CH e d (x:=.ref t) rfl ?_);show Ar _ _ (if (AL t == Bi)=true then _ else _) _ _ s;rw[Aw (show ¬ ((AL t == Bi)=true) from Dy)]
 show Ar _ _ (field (.ref it) 1 >>= _) _ _ s;refine Af (CH e d (x:=.int i 0) rfl ?_);show Ar _ _ (seqItems? (.ref t) >>= _) _ _ s;refine Af (Bm eu du ?_);simp only[D9,hx];refine Af (wpAny_setField e d (by simp) (An ⟨x,rfl,An (hQ _ ⟨_,CJ _ e (Obj.isFreed_of_fields (Lo d _)),(Obj.cls_mapFields ..).trans c,?_⟩ (Kv ..))⟩))
 rw[Lo d];simp[D4]
theorem tK {it t:Ad}{i:Ai}{items:A5 Ac}{Q:Ac->Ag->Prop}(hh:A.handled=none)(hit:s.heap.IsTupleIter it t i)(ht:s.heap.IsTuple t items)(hx:items[i]? = none)
  (hE:∀ h' e,NU it s.heap h'->(∃ o,h'.get? e=Ab o/\o.cls=.type "StopIteration")->E (.ref e) { s with heap:=h' }) : Ar (As prog w) A (Bp (.ref it)) Q E s:=by
 obtain⟨o,e,c,d⟩:=id hit;obtain⟨u,eu,_,m,du⟩:=ht;unfold Bp;refine Af (Dj (name:=Bo "__next__") hit.typeIs DR (DL DR hit.typeIs Hy ?_ (Hx _)));show Ar _ _ (field (.ref it) 0 >>= _) _ _ s;refine Af (CH e d (x:=.ref t) rfl ?_);show Ar _ _ (if (AL t == Bi)=true then _ else _) _ _ s;rw[Aw (show ¬ ((AL t == Bi)=true) from Dy)]
 show Ar _ _ (field (.ref it) 1 >>= _) _ _ s;refine Af (CH e d (x:=.int i 0) rfl ?_);show Ar _ _ (seqItems? (.ref t) >>= _) _ _ s;refine Af (Bm eu du ?_);simp only[D9,hx];refine Af (D3 (Af (wpAny_setField e d (by simp) ?_)))
 show Ar _ _ (newExc (.type "StopIteration") [] >>= _) _ _ _;refine Af ?_;simp only[newExc,newTuple];refine Af (CI ?_ (by size_fits))
 refine Af (m:=firstArgMember _ _) (Gw (a:=Bi) (by first|rfl|(simp only[firstArgMember];rfl)) (CI ?_ (by size_fits)))
 simp only[raiseNew];refine Af (wpAny_handled ?_)
 first|rw[show A.in1.handled=none from hh]|rw[hh]
 exact Af (An (wpAny_throw (hE _ _ (((Kv ..).extBut.push _).push _) ⟨_,AD _ rfl,rfl⟩)))
theorem gA {it l:Ad}{k:Ai}{x:Ac}(hit:zF tp s.heap it l k)(hl:zY tp s.heap l xs)(hx:xs[k]? = Ab x)
  (hQ:∀ h',zF tp h' it l (k+1)->Er it s.heap h'->Q x { s with heap:=h' }) : Ar (As prog w) A (Bp (.ref it)) Q E s:=by
 cases tp with
 |false=>exact wpAny_nextOf_list_item hit hl hx hQ
 |true=>exact oB hit hl hx hQ
theorem jN {it l:Ad}{k:Ai}{Q:Ac->Ag->Prop}(hh:A.handled=none)(hit:zF tp s.heap it l k)(hl:zY tp s.heap l xs)(hx:xs[k]? = none)
  (hE:∀ h' e,NU it s.heap h'->(∃ o,h'.get? e=Ab o/\o.cls=.type "StopIteration")->E (.ref e) { s with heap:=h' }) : Ar (As prog w) A (Bp (.ref it)) Q E s:=by
 cases tp with
 |false=>exact wpAny_nextOf_list_end hh hit hl hx hE
 |true=>exact tK hh hit hl hx hE
structure ZA (z I O i j:Ad):Prop where
 Iz:I≠z
 Oz:O≠z
 iz:i≠z
 jz:j≠z
 IO:I≠O
 Ii:I≠i
 Ij:I≠j
 Oi:O≠i
 Oj:O≠j
 ij:i≠j
structure Off (z O i j a:Ad):Prop where
 z:a≠z
 O:a≠O
 i:a≠i
 j:a≠j
abbrev a8 (z O i j:Ad)(h h':AC):Prop:=∀ c o,c≠z->c≠O->c≠i->c≠j->h.get? c=Ab o->h'.get? c=Ab o
theorem Q2 {tq:Aq}{z O i j a b:Ad}{k:Ai}{x y p q:Ac}(D:ZA z I O i j)(Da:Off z O i j a)(Db:Off z O i j b)
  (hz:Hz s.heap z I O .none) (hI:Ew s.heap I (.ref i) (.ref j)) (hO:Ew s.heap O p q) (h1:zF tp s.heap i a k) (h2:zF tq s.heap j b k) (ha:zY tp s.heap a xs) (hb:zY tq s.heap b ys) (hx:xs[k]? = Ab x) (hy:ys[k]? = Ab y)
  (hQ:∀ h',Hz h' z I O (D4 s.heap.objs.size)->Ew h' O x y->zF tp h' i a (k+1)->zF tq h' j b (k+1)->Ew h' s.heap.objs.size x y->h'.objs.size=s.heap.objs.size+1->a8 z O i j s.heap h'->Q (.ref s.heap.objs.size) { s with heap:=h' }) :
  Ar (As prog w) A (Hv.«zip.__next__» ⟨[.ref z],[]⟩) (λfin s'=>∃ v,fin=.done (.ret v)/\Q v s') E s:=by
 show Ar _ _ (field (.ref z) 2 >>= _) _ _ _;refine Af (CH hz rfl (x:=.bool false) rfl ?_);show Ar _ _ (field (.ref z) 3 >>= _) _ _ _;refine Af (CH hz rfl (x:=.ref I) rfl (Af (Bm hI rfl ?_)));show Ar _ _ (Dc (.ref z) >>= _) _ _ _;refine Af ?_;unfold Dc;refine Af (CH hz rfl (x:=.none) rfl (An ?_));simp only[Ca];refine Af (D3 (Af (CH hz rfl (x:=.ref O) rfl (Af (DP hz (by simp) λg1 z1 s1=>?_)))))
 replace z1:Hz g1 z I O .ellipsis:=z1
 refine Af ?_;simp only[Ir,Ms,Fe,Gc];refine Af (Af (HZ ?_));show Ar _ _ (Bp (.ref i) >>= _) _ _ _;refine Af (gA (h1.keep λo e=>s1.extBut _ _ D.iz e) (ha.keep λo e=>s1.extBut _ _ Da.z e) hx λg2 i2 s2=>An ?_);have O2:Ew g2 O p q:=s2.extBut _ _ D.Oi (s1.extBut _ _ D.Oz hO);refine Af (Bm O2 rfl (Af (He O2 λg3 O3 s3=>Af (CS (An ?_)))))
 replace O3:Ew g3 O x q:=O3
 refine Af (Af (HZ ?_));show Ar _ _ (Bp (.ref j) >>= _) _ _ _;refine Af (gA (h2.keep λo e=>s3.extBut _ _ D.Oj.symm (s2.extBut _ _ D.ij.symm (s1.extBut _ _ D.jz e))) (hb.keep λo e=>s3.extBut _ _ Db.O (s2.extBut _ _ Db.i (s1.extBut _ _ Db.z e))) hy λg4 j4 s4=>An ?_);have O4:Ew g4 O x q:=s4.extBut _ _ D.Oj O3;refine Af (Bm O4 rfl (Af (He O4 λg5 O5 s5=>Af (CS (An (An ?_))))))
 replace O5:Ew g5 O x y:=O5
 refine Af (Bm O5 rfl (Af (wpAny_newTuple ?_)));have sz:g5.objs.size=s.heap.objs.size:=by rw[s5.1,s4.1,s3.1,s2.1,s1.1]
 have z5:Hz g5 z I O .ellipsis:=s5.extBut _ _ D.Oz.symm (s4.extBut _ _ D.jz.symm (s3.extBut _ _ D.Oz.symm (s2.extBut _ _ D.iz.symm z1)));have k5:a8 z O i j s.heap g5:=λc o c1 c2 c3 c4 e=>s5.extBut _ _ c2 (s4.extBut _ _ c4 (s3.extBut _ _ c2 (s2.extBut _ _ c3 (s1.extBut _ _ c1 e))));have i5:zF tp g5 i a (k+1):=i2.keep λo e=>s5.extBut _ _ D.Oi.symm (s4.extBut _ _ D.ij (s3.extBut _ _ D.Oi.symm e));have j5:zF tq g5 j b (k+1):=j4.keep λo e=>s5.extBut _ _ D.Oj.symm e;have zl:z<g5.objs.size:=Ay z5;show Ar _ _ (Ff (.ref z) (.ref g5.objs.size) >>= _) _ _ _;refine Af ?_;unfold Ff;have z6:Hz (g5.push { cls:=.type "tuple",data:=.seq #[x,y] }) z I O .ellipsis:=Aj _ z5;refine Af (DP z6 (by simp) λg7 z7 s7=>?_)
 replace z7:Hz g7 z I O (D4 g5.objs.size):=z7
 refine DP z7 (by simp) λg8 z8 s8=>?_
 replace z8:Hz g8 z I O (D4 g5.objs.size):=z8
 have up:∀ c o,c≠z->g5.get? c=Ab o->g8.get? c=Ab o:=λc o c1 e=>s8.extBut _ _ c1 (s7.extBut _ _ c1 (Aj _ e));have T8:Ew g8 g5.objs.size x y:=s8.extBut _ _ (Fq zl) (s7.extBut _ _ (Fq zl) (AD _ rfl));have sz8:g8.objs.size=g5.objs.size+1:=by rw[s8.1,s7.1,CM]
 rw[sz] at z8 T8 sz8;refine An ⟨_,rfl,?_⟩;show Q (.ref g5.objs.size) _;rw[sz];exact hQ g8 z8 (up _ _ D.Oz O5) (i5.keep λo e=>up _ o D.iz e) (j5.keep λo e=>up _ o D.jz e) T8 sz8 λc o c1 c2 c3 c4 e=>up c o c1 (k5 c o c1 c2 c3 c4 e)
end
section
variable {prog:A6}{w:AK}{A:AB}{E:Ac->Ag->Prop}{s:Ag}
theorem Q4 {tq:Aq}{z O i j a b:Ad}{k:Ai}{p q:Ac}{Q:Fin->Ag->Prop}(hh:A.handled=none)(D:ZA z I O i j)(Da:Off z O i j a)(Db:Off z O i j b)
  (hz:Hz s.heap z I O .none) (hI:Ew s.heap I (.ref i) (.ref j)) (hO:Ew s.heap O p q) (h1:zF tp s.heap i a k) (h2:zF tq s.heap j b k) (ha:zY tp s.heap a xs) (hb:zY tq s.heap b ys) (hend:xs[k]? = none\/ys[k]? = none)
  (hE:∀ h' e,a8 z O i j s.heap h'->(∃ o,h'.get? e=Ab o/\o.cls=.type "StopIteration")->E (.ref e) { s with heap:=h' }) : Ar (As prog w) A (Hv.«zip.__next__» ⟨[.ref z],[]⟩) Q E s:=by
 show Ar _ _ (field (.ref z) 2 >>= _) _ _ _;refine Af (CH hz rfl (x:=.bool false) rfl ?_);show Ar _ _ (field (.ref z) 3 >>= _) _ _ _;refine Af (CH hz rfl (x:=.ref I) rfl (Af (Bm hI rfl ?_)));show Ar _ _ (Dc (.ref z) >>= _) _ _ _;refine Af ?_;unfold Dc;refine Af (CH hz rfl (x:=.none) rfl (An ?_));simp only[Ca];refine Af (D3 (Af (CH hz rfl (x:=.ref O) rfl (Af (DP hz (by simp) λg1 z1 s1=>?_)))))
 replace z1:Hz g1 z I O .ellipsis:=z1
 refine Af ?_;simp only[Ir,Ms,Fe,Gc];refine Af (Af (HZ ?_));show Ar _ _ (Bp (.ref i) >>= _) _ _ _;have it1:zF tp g1 i a k:=h1.keep λo e=>s1.extBut _ _ D.iz e;have sq1:zY tp g1 a xs:=ha.keep λo e=>s1.extBut _ _ Da.z e;cases hx:xs[k]? with
 |none =>
  refine Af (jN hh it1 sq1 hx λg2 e x2 he=>?_);obtain⟨oe,h3,h4⟩:=he;have z2:Hz g2 z I O .ellipsis:=x2 _ _ D.iz.symm z1;have ne:e≠z:=λy=>by subst y;rw[z2] at h3;cases h3;simp at h4
  exact DP z2 (by simp) λg3 _ s3=>hE g3 e (λc o c1 _ c3 _ y=>s3.extBut _ _ c1 (x2 _ _ c3 (s1.extBut _ _ c1 y))) ⟨oe,s3.extBut _ _ ne h3,h4⟩
 |some x =>
  have hy:ys[k]? = none:=by
   rcases hend with y|y
   .rw[hx] at y;cases y
   .exact y
  refine Af (gA it1 sq1 hx λg2 i2 s2=>An ?_);have O2:Ew g2 O p q:=s2.extBut _ _ D.Oi (s1.extBut _ _ D.Oz hO);refine Af (Bm O2 rfl (Af (He O2 λg3 O3 s3=>Af (CS (An ?_)))));refine Af (Af (HZ ?_));show Ar _ _ (Bp (.ref j) >>= _) _ _ _;refine Af (jN hh (h2.keep λo e=>s3.extBut _ _ D.Oj.symm (s2.extBut _ _ D.ij.symm (s1.extBut _ _ D.jz e))) (hb.keep λo e=>s3.extBut _ _ Db.O (s2.extBut _ _ Db.i (s1.extBut _ _ Db.z e))) hy λg4 e x4 he=>?_);obtain⟨oe,h3,h4⟩:=he;have z4:Hz g4 z I O .ellipsis:=x4 _ _ D.jz.symm (s3.extBut _ _ D.Oz.symm (s2.extBut _ _ D.iz.symm z1));have ne:e≠z:=λy=>by subst y;rw[z4] at h3;cases h3;simp at h4
  exact DP z4 (by simp) λg5 _ s5=>hE g5 e (λc o c1 c2 c3 c4 y=>s5.extBut _ _ c1 (x4 _ _ c4 (s3.extBut _ _ c2 (s2.extBut _ _ c3 (s1.extBut _ _ c1 y))))) ⟨oe,s5.extBut _ _ ne h3,h4⟩
noncomputable abbrev gX (tp:Aq)(l:Ad):AR:={ cls:=.type (if tp then "tuple_iterator" else "list_iterator"),data:=.fields #[.ref l,.int 0 0] }
noncomputable abbrev zh1 (tp:Aq)(h:AC)(a:Ad):AC:=h.push (gX tp a)
noncomputable abbrev zh2 (tp tq:Aq)(h:AC)(a b:Ad):AC:=(zh1 tp h a).push (gX tq b)
noncomputable abbrev zh3 (tp tq:Aq)(h:AC)(a b:Ad):AC:=(zh2 tp tq h a b).push { cls:=.type "tuple",data:=.seq #[.ref h.objs.size,.ref (zh1 tp h a).objs.size] }
noncomputable abbrev zh4 (tp tq:Aq)(h:AC)(a b:Ad):AC:=(zh3 tp tq h a b).push { cls:=.type "tuple",data:=.seq #[.none,.none] }
noncomputable abbrev zh5 (tp tq:Aq)(h:AC)(a b:Ad):AC:=(zh4 tp tq h a b).push { cls:=.type "zip",data:=.fields #[.none,.bool false,.bool false,.ref (zh2 tp tq h a b).objs.size,.ref (zh3 tp tq h a b).objs.size] }
set_option maxHeartbeats 4000000 in
theorem YR (tp:Aq)(a b:Ad)(xs ys:A5 Ac) :
  Meets (Hv.«zip.__new__» ⟨[.type "zip",.ref a,.ref b],[]⟩) (λ_ R s=>zY tp s.heap a xs/\zY tp s.heap b ys/\R (.ok (.ret (.ref (zh4 tp tp s.heap a b).objs.size))) { s with heap:=zh5 tp tp s.heap a b }):=
 .of_wp λprog w A R s h=>by
  obtain⟨hp,g,d,tk,os⟩:=s;obtain⟨q1,q2,h⟩:=h;have hsub:=sub_zip;have e2:∀ ob:AR,zY tp (hp.push ob) b ys:=λob=>q2.keep λo e=>Aj _ e;cases tp
  .have l1:NV (Jh ⟨hp,g,d,tk,os⟩) a xs:=q1
   have l2:NV (Jh ⟨hp.push { cls:=.type "list_iterator",data:=.fields #[.ref a,.int 0 0] },g,d,tk,os⟩) b ys:=e2 _
   wp_walk using E7 l1,E7 l2
   exact⟨_,rfl,h⟩
  .have l1:NK (Jh ⟨hp,g,d,tk,os⟩) a xs:=q1
   have l2:NK (Jh ⟨hp.push { cls:=.type "tuple_iterator",data:=.fields #[.ref a,.int 0 0] },g,d,tk,os⟩) b ys:=e2 _
   wp_walk using HB l1,HB l2
   exact⟨_,rfl,h⟩
theorem gY {h:AC}{it l:Ad}(e:h.get? it=Ab (gX tp l)):zF tp h it l 0:=by
 cases tp
 .exact⟨_,e,rfl,rfl⟩
 .exact⟨_,e,rfl,rfl⟩
theorem aH {a b:Ad}(ha:zY tp s.heap a xs)(hb:zY tp s.heap b ys)
  (h:∀ h',Hz h' (s.heap.objs.size+4) (s.heap.objs.size+2) (s.heap.objs.size+3) .none->Ew h' (s.heap.objs.size+2) (.ref s.heap.objs.size) (.ref (s.heap.objs.size+1)) ->
   Ew h' (s.heap.objs.size+3) .none .none->zF tp h' s.heap.objs.size a 0->zF tp h' (s.heap.objs.size+1) b 0->h'.objs.size=s.heap.objs.size+5->(∀ c o,s.heap.get? c=Ab o->h'.get? c=Ab o)->Q (.ref (s.heap.objs.size+4)) { s with heap:=h' }) :
  Ar (As prog w) A (call (.type "zip") [.ref a,.ref b]) Q E s:=by
 refine callType_new F.called_zip (by decide) (F.typeCall_zip_2 _ _) (F.newCall_zip_2 _ _) (λobj=>F.args_object_init_3 obj _ _) F.entry_zip_new (YR tp a b xs ys) ⟨ha,hb,?_⟩
 have y1:(zh1 tp s.heap a).objs.size=s.heap.objs.size+1:=CM ..;have y2:(zh2 tp tp s.heap a b).objs.size=s.heap.objs.size+2:=by rw[CM,y1]
 have y3:(zh3 tp tp s.heap a b).objs.size=s.heap.objs.size+3:=by rw[CM,y2]
 have y4:(zh4 tp tp s.heap a b).objs.size=s.heap.objs.size+4:=by rw[CM,y3]
 have y5:(zh5 tp tp s.heap a b).objs.size=s.heap.objs.size+5:=by rw[CM,y4]
 have g5:(zh5 tp tp s.heap a b).get? (zh4 tp tp s.heap a b).objs.size=Ab _:=AD _ rfl;have g4:(zh5 tp tp s.heap a b).get? (zh3 tp tp s.heap a b).objs.size=Ab _:=Aj _ (AD _ rfl);have g3:(zh5 tp tp s.heap a b).get? (zh2 tp tp s.heap a b).objs.size=Ab _:=Aj _ (Aj _ (AD _ rfl));have g2:(zh5 tp tp s.heap a b).get? (zh1 tp s.heap a).objs.size=Ab (gX tp b):=Aj _ (Aj _ (Aj _ (AD _ rfl)));have g1:(zh5 tp tp s.heap a b).get? s.heap.objs.size=Ab (gX tp a):=Aj _ (Aj _ (Aj _ (Aj _ (AD _ rfl))));have kp:∀ c o,s.heap.get? c=Ab o->(zh5 tp tp s.heap a b).get? c=Ab o:=λc o e=>Aj _ (Aj _ (Aj _ (Aj _ (Aj _ e))));show _/\_;rw[y2,y3,y4] at g5;rw[y1,y2] at g3;rw[y3] at g4;rw[y1] at g2;rw[y4];exact⟨⟨_,g5,rfl⟩,h _ g5 g3 g4 (gY g1) (gY g2) y5 kp⟩
end
def Sq (tp:Aq)(K:Ah)(H:Hp)(a:Ad)(xs:Aa V):Prop:=if tp then SqT K H a xs else SqL K H a xs
section
variable {X:Cx}{pins:Aa (Ad × AR)}{σ : _L.St}{H:Hp}{s:Ag}
theorem Sq.at {a:Ad}{xs:Aa V}(I:Inv X pins σ H s)(q:Sq tp X.K H a xs):∃ its,qL xs its/\zY tp s.heap a its.toArray:=by
 cases tp with
 |true =>
  obtain⟨its,rv,p,_⟩:=I.tuple q;exact⟨its,rv,p⟩
 |false =>
  obtain⟨its,rv,p,_⟩:=I.list q;exact⟨its,rv,p.isList⟩
theorem Sq.inj {a:Ad}{xs ys:Aa V}(I:Inv X pins σ H s)(q:Sq tp X.K H a xs)(q':Sq tp X.K H a ys):xs=ys:=by
 cases tp with
 |true=>exact I.tuple_inj q q'
 |false=>exact I.list_inj q q'
theorem Sq.off {a b:Ad}{xs:Aa V}(I:Inv X pins σ H s)(q:Sq tp X.K H a xs)(f:zT X pins H b):a≠b:=by
 have key:H a≠none\/∃ o,X.K.lookup a=Ab o:=by
  cases tp with
  |true =>
   rcases q with (q|⟨o,q⟩)|⟨o,_,_,q,_⟩
   .exact .inl (by rw[q];intro z;cases z)
   .exact .inl (by rw[q];intro z;cases z)
   .exact .inr ⟨_,q⟩
  |false =>
   rcases q with (q|⟨o,q⟩)|⟨o,_,_,q,_⟩
   .exact .inl (by rw[q];intro z;cases z)
   .exact .inl (by rw[q];intro z;cases z)
   .exact .inr ⟨_,q⟩
 rintro rfl;rcases key with k|⟨o,k⟩
 .exact k f.1
 .have e:=I.mod.kin a o k
  rcases f.2.2.2.1 with z|z
  .exact I.ok.noex a o e z
  .exact absurd (Ay (I.ok.bs a o e).1) (ES.mpr z)
theorem Inv.turnLay {fp:Aa Ad}{T:Ad}{xs:Aa V}{its:Aa Ac}(I:Inv X pins σ H s)(hf:∀ b∈fp,zT X pins H b)(k:∀ b o,b ∉ fp->s.heap.get? b=Ab o->h'.get? b=Ab o)(th:∀ b∈fp,∃ o,h'.get? b=Ab o)
  (hT:s.heap.objs.size<=T) (rv:qL xs its) (hx:Jb h' T its.toArray) (hz:xs.length<=sizeLine):Inv X pins σ (upd H T (.tup xs)) { s with heap:=h' }:=by
 have hn:H T=none:=I.hok.fresh hT;have ne:∀ b o,s.heap.get? b=Ab o->b≠T:=λb o e=>AX (Ax (Ay e) hT);refine I.step (g':=s.gens) (d':=s.drawn) (t':=s.toks) (ch:=fp) (λb hb=>⟨(hf b hb).2.2.2.1,(hf b hb).2.1,(hf b hb).2.2.2.2.1,(hf b hb).2.2.2.2.2⟩) (λb o _ _ hc e _=>k b o hc e) (λb o _ _ hc e _=>⟨o.slots,k b o hc e⟩)
  (λb o _ e n=>by rw[qG (ne b o e)];exact n) (λb o hc e=>⟨o,k b o hc e⟩) (λb ys e=>by rw[qG (qN e hn)];exact e) (λb o u e=>by rw[qG (qN e hn)];exact e)
  (λb ps e=>⟨#[],by rw[qG (qN e hn),e];simp⟩) (λm hm=>?_) (λb u e=>?_) I.bare
 .obtain⟨o,es,ep,ho,r⟩:=hm
  exact⟨o,es,ep,k _ o (λz=>(hf _ z).2.1 rfl) ho,r⟩
 .by_cases hb:b=T
  .subst hb
   rw[qS] at e;cases e;exact⟨hz,its,rv,hx⟩
  .rw[qG hb] at e
   refine(I.hok b u e).stay (λc v hc q=>k c v (λz=>?_) q) (λc q=>by rw[qG (qN q hn)];exact q) λc ys q=>by rw[qG (qN q hn)];exact q
   have hcn:=(hf c z).1;rcases hc with rfl|hc
   .rw[hcn] at e;cases e
   .rw[hcn] at hc;cases hc
theorem Inv.turnL {fp:Aa Ad}(I:Inv X pins σ H s)(hf:∀ b∈fp,zT X pins H b)(k:∀ b o,b ∉ fp->s.heap.get? b=Ab o->h'.get? b=Ab o):Inv X pins σ H { s with heap:=h' }:=by
 refine I.step (g':=s.gens) (d':=s.drawn) (t':=s.toks) (ch:=fp) (λb hb=>⟨(hf b hb).2.2.2.1,(hf b hb).2.1,(hf b hb).2.2.2.2.1,(hf b hb).2.2.2.2.2⟩) (λb o _ _ hc e _=>k b o hc e) (λb o _ _ hc e _=>⟨o.slots,k b o hc e⟩)
  (λb o _ e n=>n) (λb o hc e=>⟨o,k b o hc e⟩) (λb ys e=>e) (λb o u e=>e) (λb ps e=>⟨#[],by rw[e];simp⟩) (λm hm=>?_) (λb u e=>?_) I.bare
 .obtain⟨o,es,ep,ho,r⟩:=hm
  exact⟨o,es,ep,k _ o (λz=>(hf _ z).2.1 rfl) ho,r⟩
 .refine(I.hok b u e).stay (λc v hc q=>k c v (λz=>?_) q) (λc q=>q) λc ys q=>q
  have hcn:=(hf c z).1;rcases hc with rfl|hc
  .rw[hcn] at e;cases e
  .rw[hcn] at hc;cases hc
end
noncomputable def Itz (tp:Aq)(K:Ah)(a b:Ad):It:=
  ⟨λi H=>∃ xs ys x y,Sq tp K H a xs/\Sq tp K H b ys/\xs[i]? = Ab x/\ys[i]? = Ab y,
   λi H v H'=>∃ T x y,v=.ref T/\H T=none/\H'=upd H T (.tup [x,y])/\(∀ xs,Sq tp K H a xs->xs[i]? = Ab x)/\∀ ys,Sq tp K H b ys->ys[i]? = Ab y,
   λi H=>∃ xs ys,Sq tp K H a xs/\Sq tp K H b ys/\(xs.length<=i\/ys.length<=i)⟩
def dG (tp:Aq)(z I O i j a b:Ad)(k:Ai)(h:AC):Prop:=∃ p q,Hz h z I O .none/\Ew h I (.ref i) (.ref j)/\Ew h O p q/\zF tp h i a k/\zF tp h j b k
theorem jS {z O i j a b:Ad}{k:Ai}{h:AC}(st:dG tp z I O i j a b k h):∀ c∈[z,I,O,i,j],∃ o,h.get? c=Ab o/\∀ v,o.data≠.cell v:=λc hc=>by
 obtain⟨p,q,s1,s2,s3,s4,s5⟩:=st;simp only[A8,Cb,Eb] at hc;rcases hc with rfl|rfl|rfl|rfl|rfl
 .exact⟨_,s1,λv y=>by cases y⟩
 .exact⟨_,s2,λv y=>by cases y⟩
 .exact⟨_,s3,λv y=>by cases y⟩
 .exact s4.there
 .exact s5.there
theorem QX {c z O i j:Ad}(h:c ∉ [z,I,O,i,j]):c≠z/\c≠O/\c≠i/\c≠j:=by
 simp only[A8,Cb,Eb,Nr] at h;exact⟨h.1,h.2.2.1,h.2.2.2.1,h.2.2.2.2⟩
theorem Q0 {P:A6}{w:AK}{K:Ah}{elts:Aa AA}{x1:Ai}{tpos:CG}{z O i j a b:Ad}(D:ZA z I O i j):Turn P w K (.Tuple elts x1 tpos) (Itz tp K a b) [z,I,O,i,j] z (dG tp z I O i j a b) where
 mem:=.head _
 obj:=λk h st=>jS st
 keep:=λk h h' st kp=>by
  obtain⟨p,q,s1,s2,s3,s4,s5⟩:=st;exact⟨p,q,kp z (.head _) _ s1,kp I (.tail _ (.head _)) _ s2,kp O (.tail _ (.tail _ (.head _))) _ s3,s4.keep λo e=>kp i (.tail _ (.tail _ (.tail _ (.head _)))) o e,s5.keep λo e=>kp j (.tail _ (.tail _ (.tail _ (.tail _ (.head _))))) o e⟩
 item:=by
  intro X hP hw hK hc k pins s σ H E Iv hf st hg;subst hP hw hK;obtain⟨p,q,s1,s2,s3,s4,s5⟩:=st;obtain⟨xs,ys,x,y,qa,qb,hx,hy⟩:=hg;obtain⟨ia,ra,ha⟩:=qa.at Iv;obtain⟨ib,rb,hb⟩:=qb.at Iv;obtain⟨u,hu,ru⟩:=ra.get hx;obtain⟨u',hu',ru'⟩:=rb.get hy;have off:∀ {c:Ad} {zs:Aa V},Sq tp X.K H c zs->Off z O i j c:=λ{c zs} qc=>⟨qc.off Iv (hf z (.head _)),qc.off Iv (hf O (.tail _ (.tail _ (.head _)))),qc.off Iv (hf i (.tail _ (.tail _ (.tail _ (.head _))))),qc.off Iv (hf j (.tail _ (.tail _ (.tail _ (.tail _ (.head _))))))⟩;have hT:s.TypeIs (.ref z) "zip":=⟨_,s1,rfl⟩;unfold Lb;refine Af (Gx (Dj (name:=Bo "__next__") hT Hl (DL Hl hT LX
   (Q2 D (off qa) (off qb) s1 s2 s3 s4 s5 ha hb (by simpa using hu) (by simpa using hu') λh' a1 a2 a3 a4 a5 a6 a7=>An ?_) (LH _))))
  refine⟨_,rfl,wpAny_letOwnedTupleGo_zip (s:={ s with heap:=h' }) a1 λh2 b1 b2=>?_⟩
  have up:∀ c o,c≠z->h'.get? c=Ab o->h2.get? c=Ab o:=λc o n e=>(b2.2 c n).trans e;have zl:z<s.heap.objs.size:=Ay s1;have T2:Ew h2 s.heap.objs.size u u':=up _ _ (Fq zl) a5;have st2:dG tp z I O i j a b (k+1) h2:=⟨u,u',b1,up _ _ D.Iz (a7 I _ D.Iz D.IO D.Ii D.Ij s2),up _ _ D.Oz a2,a3.keep λo e=>up _ o D.iz e,a4.keep λo e=>up _ o D.jz e⟩;refine⟨.ref s.heap.objs.size,upd H s.heap.objs.size (.tup [x,y]),?_,rfl,⟨_,x,y,rfl,Iv.hok.fresh (Au _),rfl,λzs qz=>by rw[qz.inj Iv qa];exact hx,λzs qz=>by rw[qz.inj Iv qb];exact hy⟩,st2,λc hc=>?_⟩
  .show _L.Inv X pins σ (upd H s.heap.objs.size (.tup [x,y])) { s with heap:=h2 }
   refine Inv.turnLay (fp:=[z,I,O,i,j]) (its:=[u,u']) Iv hf (λc o hc e=>?_) (λc hc=>?_) (Au _) (.cons ru (.cons ru' .nil)) ⟨_,T2,rfl,_,rfl⟩ (by show 2<=sizeLine;decide)
   .have hc:=QX hc
    exact up c o hc.1 (a7 c o hc.1 hc.2.1 hc.2.2.1 hc.2.2.2 e)
   .obtain⟨o,e,_⟩:=jS st2 c hc
    exact⟨o,e⟩
  .have hn:=(hf c hc).1
   rw[qG ?_]
   .exact hn
   .rintro rfl
    obtain⟨o,e,_⟩:=jS ⟨p,q,s1,s2,s3,s4,s5⟩ _ hc;exact absurd (Ay e) (Bw _)
 done:=by
  intro X hP hw hK hc k pins s σ H E Iv hf st hg;subst hP hw hK;obtain⟨p,q,s1,s2,s3,s4,s5⟩:=st;obtain⟨xs,ys,qa,qb,hend⟩:=hg;obtain⟨ia,ra,ha⟩:=qa.at Iv;obtain⟨ib,rb,hb⟩:=qb.at Iv;have off:∀ {c:Ad} {zs:Aa V},Sq tp X.K H c zs->Off z O i j c:=λ{c zs} qc=>⟨qc.off Iv (hf z (.head _)),qc.off Iv (hf O (.tail _ (.tail _ (.head _)))),qc.off Iv (hf i (.tail _ (.tail _ (.tail _ (.head _))))),qc.off Iv (hf j (.tail _ (.tail _ (.tail _ (.tail _ (.head _))))))⟩;have hT:s.TypeIs (.ref z) "zip":=⟨_,s1,rfl⟩;have l1:=ra.length;have l2:=rb.length;unfold Lb;refine Af (Gx (Dj (name:=Bo "__next__") hT Hl (DL Hl hT LX
   (Q4 (Iv.ok.hd hc) D (off qa) (off qb) s1 s2 s3 s4 s5 ha hb ?_ λh' e kp he=>?_) (LH _))))
  .rcases hend with y|y
   .exact .inl (by simp;lia)
   .exact .inr (by simp;lia)
  .obtain⟨o,ho,hcl⟩:=he
   refine Af (wpAny_isInstance (T:="StopIteration") (b:=true) ⟨o,ho,hcl⟩ isSubtype_stop (An ⟨rfl,Inv.turnL (fp:=[z,I,O,i,j]) Iv hf λc o hc e=>?_⟩));have hc:=QX hc;exact kp c o hc.1 hc.2.1 hc.2.2.1 hc.2.2.2 e
 self:=λ_ _ _ _ _ st h=>by
  obtain⟨p,q,s1,_⟩:=st;exact LY s1 h
noncomputable def vD (xs ys:Aa D):Aa D:=NL (λx y=>D.tup [x,y]) xs ys
noncomputable def GV (ds:Aa D):Ak (Aa D):=match ds with
 |[.tup xs,.tup ys]=>Ab (vD xs ys)
 |[.lst xs,.lst ys]=>Ab (vD xs ys)
 |_=>none
noncomputable def dP (f:DA):DI:=λenv S=>(f env S).bind λds S1=>yG (GV ds) S1
theorem Q1 {xs ys:Aa D}{i:Ai}:(vD xs ys)[i]? = match xs[i]?,ys[i]? with|some x,Ab y=>Ab (D.tup [x,y])|_,_=>none:=by
 unfold vD;rw[List.getElem?_zipWith];cases xs[i]? <;> cases ys[i]? <;> rfl
theorem gM (xs ys:Aa D):(vD xs ys).length=min xs.length ys.length:=by simp[vD]
section
variable {K:Ah}
theorem Sq.mono {P P':Hp}(e:qF P P'){a:Ad}{xs:Aa V}(q:Sq tp K P a xs):Sq tp K P' a xs:=by
 cases tp with
 |true=>exact y9 e q
 |false=>exact e.seq q
theorem XN {P:Hp}{α:Aa Ad}{a b:Ad}{xs ys:Aa D}{ws:Aa V}(qa:Sq tp K P a vs)(qb:Sq tp K P b ws)(ta:qE K P α xs vs)(tb:qE K P α ys ws):ItD K (Itz tp K a b) P α (vD xs ys) where
 go:=λi H P1 α1 S hi r e _=>by
  rw[gM] at hi;have h1:i<vs.length:=by rw[<- ta.length];lia
  have h2:i<ws.length:=by rw[<- tb.length];lia
  exact⟨vs,ws,vs[i],ws[i],qa.mono (e.trans r.sub),qb.mono (e.trans r.sub),by simp,by simp⟩
 yld:=λi H x H' P1 α1 S hi r e e2 y=>by
  obtain⟨T,u,w,rfl,hT,rfl,hu,hw⟩:=y;rw[gM] at hi;have h1:i<xs.length:=by lia
  have h2:i<ys.length:=by lia
  obtain⟨v1,z1,p1⟩:=ta.get (Ao h1);obtain⟨v2,z2,p2⟩:=tb.get (Ao h2);have eu:=hu vs (qa.mono (e.trans r.sub));have ew:=hw ws (qb.mono (e.trans r.sub));rw[z1] at eu;cases eu;rw[z2] at ew;cases ew;obtain⟨r1,s1⟩:=r.pure (o:=.tup [u,w]) hT;refine⟨_,.tup [xs[i],ys[i]],?_,r1,s1,?_⟩
  .rw[Q1,Ao h1,Ao h2]
  .exact lS (.of qS) (.cons (Rep.mono (e.trans s1) e2 _ _ p1) (.cons (Rep.mono (e.trans s1) e2 _ _ p2) .nil))
 stop:=λi H P1 α1 S hi r e _=>by
  rw[gM] at hi;have l1:=ta.length;have l2:=tb.length;exact⟨vs,ws,qa.mono (e.trans r.sub),qb.mono (e.trans r.sub),by lia⟩
end
section
variable {X:Cx}{e1 e2:AA}{elts:Aa AA}{x1:Ai}{tpos:CG}{f:DA}{p pos:CG}
theorem cU {pins:Aa (Ad × AR)}{σ:_L.St}{H P:Hp}{α:Aa Ad}{S:Sto}{s:Ag}{a b:Ad}{xs ys:Aa D}{ws:Aa V}{R:It->Hp->Prop}(I:Inv X pins σ H s)(r:Rel X.K H P α S)(qa:Sq tp X.K P a vs)(qb:Sq tp X.K P b ws)(ta:qE X.K P α xs vs)(tb:qE X.K P α ys ws)
  (q:OkI X P α R (vD xs ys) S):Ar (As X.prog X.w) X.A (call (.type "zip") [.ref a,.ref b]) (λv s1=>Ar (As X.prog X.w) X.A (LQ v) (PIE X pins σ (.Tuple elts x1 tpos) R) X.xe s1) X.xe s:=by
 obtain⟨ia,ra,ha⟩:=(qa.mono r.sub).at I;obtain⟨ib,rb,hb⟩:=(qb.mono r.sub).at I;refine aH ha hb λh' z1 z2 z3 z4 z5 z6 z7=>?_;refine LY (s:={ s with heap:=h' }) z1 ?_
 have D:ZA (s.heap.objs.size+4) (s.heap.objs.size+2) (s.heap.objs.size+3) s.heap.objs.size (s.heap.objs.size+1):=by constructor <;> (intro z;simp at z)
 refine⟨_,[s.heap.objs.size+4,s.heap.objs.size+2,s.heap.objs.size+3,s.heap.objs.size,s.heap.objs.size+1],_,_,H,rfl,I.kept (t':=s.toks) z7,Q0 (a:=a) (b:=b) D,⟨_,_,z1,z2,z3,z4,z5⟩,λc hc=>?_,q _ _ P α r (qF.refl _) (AF _) (XN qa qb ta tb)⟩;have hl:s.heap.objs.size<=c:=by
  simp only[A8,Cb,Eb] at hc;rcases hc with rfl|rfl|rfl|rfl|rfl <;> simp
 exact I.fpOk hl (I.hok.fresh hl)
inductive ZipV (ds:Aa D)(its:Aa D):Prop
 |tup (xs ys:Aa D) (ed:ds=[.tup xs,.tup ys]) (e:its=vD xs ys)
 |lst (xs ys:Aa D) (ed:ds=[.lst xs,.lst ys]) (e:its=vD xs ys)
theorem YQ {its:Aa D}(h:GV ds=Ab its):ZipV ds its:=by
 cases ds with
 |nil=>exact nn h
 |cons a ds =>
  cases a with
  |tup xs =>
   cases ds with
   |nil=>exact nn h
   |cons b ds =>
    cases b with
    |tup ys =>
     cases ds with
     |nil=>exact .tup xs ys rfl (Bg h).symm
     |cons _ _=>exact nn h
    |_=>exact nn h
  |lst xs =>
   cases ds with
   |nil=>exact nn h
   |cons b ds =>
    cases b with
    |lst ys =>
     cases ds with
     |nil=>exact .lst xs ys rfl (Bg h).symm
     |cons _ _=>exact nn h
    |_=>exact nn h
  |_=>exact nn h
theorem VS (hg:Gl X "zip")(hm:X.mg "zip" = none)(ha:PA X [e1,e2] (tDA X f))(hs:A3 [e1,e2] X.env=(false,eval e1 X.env)::A3 [e2] X.env:=by rfl)(hpl:(Dm pos (A3 [e2] X.env)).any (·.1)=false:=by rfl) :
  PI X (.Tuple elts x1 tpos) (.Call (.Name "zip" p) [e1,e2] [] pos) (tDI X (dP f)):=by
 intro pins s σ H R I h;obtain⟨P,α,env,S,r,re,af⟩:=h;refine Call_ (xZ I hg hm boot_zip (DN (thn (xD ha I r re af pos) λus s1 ⟨vs,H1,P1,α1,ds,S1,I1,rv,r1,re1,rp,e1,e2,af1⟩=>?_) hs hpl));obtain⟨its,hi,q⟩:=yP af1;cases YQ hi with
 |tup xs ys ed e =>
  subst ed e;obtain⟨v,w,u,x,rfl,rfl,p1,p2,q1,q2⟩:=kH rp rv;simp only[Rep] at p1 p2;obtain⟨a,va,rfl,qa,ta⟩:=p1;obtain⟨b,vb,rfl,qb,tb⟩:=p2;cases (show u=AL a from q1)
  cases (show x=AL b from q2)
  exact cU (tp:=true) I1 r1 qa qb ta tb (q.base e1 e2)
 |lst xs ys ed e =>
  subst ed e;obtain⟨v,w,u,x,rfl,rfl,p1,p2,q1,q2⟩:=kH rp rv;simp only[Rep] at p1 p2;obtain⟨a,va,rfl,qa,ta⟩:=p1;obtain⟨b,vb,rfl,qb,tb⟩:=p2;cases (show u=AL a from q1)
  cases (show x=AL b from q2)
  exact cU (tp:=false) I1 r1 qa.l qb.l ta tb (q.base e1 e2)
end
def Src (K:Ah)(mg:Ap->Ak Ac)(x:Ap)(st:Cs)(ps:Aa Ap):Prop:=∃ f fd,mg x=Ab (.ref f)/\Fun K x x st f fd/\yK K fd ps []
def Lk (K:Ah)(f:Ad)(fd:CN):Prop:=∃ oc od osl,K.lookup f=Ab ⟨oc,od,.func fd,osl⟩
theorem kB {K:Ah}{x q:Ap}{st:Cs}{f:Ad}(F:Fun K x q st f fd):Lk K f fd:=by
 obtain⟨oc,od,kV,doc,pm,an,cdv,ct,osl,_,lk,_⟩:=F.ex;exact⟨oc,od,osl,lk⟩
theorem Lk.one {K:Ah}{f:Ad}{fd':CN}(h:Lk K f fd)(h':Lk K f fd'):fd=fd':=by
 obtain⟨oc,od,osl,e⟩:=h;obtain⟨oc',od',osl',e'⟩:=h';rw[e] at e';cases e';rfl
noncomputable def Def (P:A6)(w:AK)(K:Ah)(mg:Ap->Ak Ac)(base:AC)(cm:Aq)(k:Ai)(x:Ap)(n:Ai)(F:DF):Prop:=
 ∃ f fd ps,ps.length=n/\mg x=Ab (.ref f)/\Ci K (.ref f)=true/\yK K fd ps [] /\ Lk K f fd/\FnX P w K mg base cm k f fd ps (spD K n F)
def mD (P:A6)(w:AK)(K:Ah)(mg:Ap->Ak Ac)(base:AC)(cm:Aq)(k:Ai)(x:Ap)(ps:Aa Ap)(F:DF):Prop:=
 ∃ f fd,mg x=Ab (.ref f)/\Ci K (.ref f)=true/\yK K fd ps [] /\ Lk K f fd/\FnX P w K mg base cm k f fd ps (spD K ps.length F)
section
variable {P:A6}{w:AK}{K:Ah}{mg:Ap->Ak Ac}{base:AC}{cm:Aq}
theorem QC {x:Ap}{f:Ad}{cdv:Ac}(hm:mg x=Ab (.ref f))(lk:Lk K f fd)(h:fd.code=cdv/\Mod K mg base):u7 K x cdv:=λc T e=>by
 obtain⟨oc,od,osl,lk⟩:=lk;rw[<- h.1];exact PySem.W.law_code h.2.kin h.2.glob e hm (h.2.kin _ _ lk) rfl
theorem VO {x:Ap}{st:Cs}{k:Ai}{g:DS}(h:Src K mg x st ps)(S:FnScope N ps (qK st))
  (hbody:∀ (f:Ad) (cdv:Ac) (A:AB) (outer:Aa El) (s:Ag) (H:Hp) (E:XK),u7 K x cdv->RoomC cm k (A.deeper (Dg x (qK st) s.heap.objs.size f cdv)) ->
   PSs (cxC cm P w K mg base N x (qK st) f cdv A outer s H E) (zG st) (tDS (cxC cm P w K mg base N x (qK st) f cdv A outer s H E) g)):Def P w K mg base cm (k+1) x ps.length (qU N.length g):=by
 obtain⟨f,fd,hm,F,hb⟩:=h;exact⟨f,fd,ps,rfl,hm,F.kp,hb,kB F,fnX F S λcdv A outer s H E hc hr=>hbody f cdv A outer s H E (QC hm (kB F) hc) hr⟩
theorem ZX {x:Ap}{st:Cs}{k:Ai}{g:DS}(h:Src K mg x st ps)(S:FnScope N ps (qK st))
  (hbody:∀ (f:Ad) (cdv:Ac) (A:AB) (outer:Aa El) (s:Ag) (H:Hp) (E:XK),u7 K x cdv->RoomC cm k (A.deeper (Dg x (qK st) s.heap.objs.size f cdv)) ->
   PSs (cxC cm P w K mg base N x (qK st) f cdv A outer s H E) (zG st) (tDS (cxC cm P w K mg base N x (qK st) f cdv A outer s H E) g)):mD P w K mg base cm (k+1) x ps (qU N.length g):=by
 obtain⟨f,fd,hm,F,hb⟩:=h;exact⟨f,fd,hm,F.kp,hb,kB F,fnX F S λcdv A outer s H E hc hr=>hbody f cdv A outer s H E (QC hm (kB F) hc) hr⟩
theorem Def.mono {x:Ap}{j k n:Ai}{F:DF}(h:Def P w K mg base cm j x n F)(hk:j<=k:=by decide):Def P w K mg base cm k x n F:=by
 obtain⟨f,fd,ps,hn,hm,kp,hb,hl,X⟩:=h;exact⟨f,fd,ps,hn,hm,kp,hb,hl,X.len,λA outer s H args us vs Q E hr=>X.run A outer s H args us vs Q E (hr.mono hk)⟩
theorem Def.any {x:Ap}{k n:Ai}{F:DF}(h:Def P w K mg base false k x n F):Def P w K mg base cm k x n F:=by
 obtain⟨f,fd,ps,hn,hm,kp,hb,hl,X⟩:=h;exact⟨f,fd,ps,hn,hm,kp,hb,hl,X.any⟩
end
section
variable {X:Cx}{cm:Aq}{k n:Ai}{F:DF}{x:Ap}{p pos:CG}{e:AA}{es:Aa AA}{fa:DA}
theorem dcN (G:Def X.prog X.w X.K X.mg X.base cm k x n F)(hr:RoomC cm k X.A)(hF:Fn1 X)(hg:Gl X x)(ha:PA X (e::es) (tDA X fa))(hdb:(x == ("__debug__" : Ap))=false:=by decide)(he:A3 (e::es) X.env=(false,eval e X.env)::A3 es X.env:=by rfl)(hpl:(Dm pos (A3 es X.env)).any (·.1)=false:=by rfl) :
  PE X (.Call (.Name x p) (e::es) [] pos) (tD X (qW n F fa)):=by
 obtain⟨f,fd,ps,hn,hm,kp,hb,hl,G⟩:=G;exact ZQ G hr hF hg hm kp hb ha hdb he hpl
theorem rD (hg:Gl X x)(hm:X.mg x=Ab (.ref C))(hk:Ci X.K (.ref C)=true)(hd:(x == ("__debug__" : Ap))=false:=by decide):PE X (.Name x pos) (tD X (dC (.obj C))):=
 nX hg hm (v:=.ref C) rfl (λP α => by simp only[Rep];exact⟨trivial,hk⟩) hd
end
noncomputable def uJ:DF:=λds S=>match ds with
 |[.dct0]=>.bad
 |_=>mY ds S
theorem ZJ {X:Cx}:yA X (.builtin "len") uJ:=V3 trivial
noncomputable def jI:DE:=λ_ _=>.bad
theorem VB {X:Cx}{e:AA}:PE X e (tD X jI):=λ_ _ _ _ _ _ ⟨_,_,_,_,_,_,h⟩=>Al h
theorem Q9:∃ C:Am->Am->Aq,C=pO:=⟨_,rfl⟩
def Q8:Am->Am->Aq:=LZ Q9
theorem kT:Q8=pO:=Ji Q9
def zQ:G2:=i2 Q8 λi j=>.int (i*j)
theorem lN {X:Cx}:OpD X (Co .Mult) zQ:=by
 unfold zQ;rw[kT];exact WA
theorem hu1 {cm:Aq}{k:Ai}{A:AB}(hr:RoomC cm k A):A.units+1<CZ:=by have:=hr.units;lia
structure QE (X:Cx)(e:AA)(f:DE):Prop where
 get:PE X e (tD X f)
structure QT (X:Cx)(e:AA)(t:DT):Prop where
 get:PT X e (tDT X t)
structure QW (X:Cx)(e:AA)(t:DT):Prop where
 get:PWD X e t
structure QA (X:Cx)(es:Aa AA)(f:DA):Prop where
 get:PA X es (tDA X f)
structure QO (X:Cx)(e:Ak AA)(f:DO):Prop where
 get:PO X e (tDO X f)
structure QG (X:Cx)(t:AA)(g:DG):Prop where
 get:PG X t (tDG X g)
structure QGs (X:Cx)(ts:Aa AA)(g:DGs):Prop where
 get:PGs X ts (tY X g)
structure QI (X:Cx)(tg it:AA)(f:DI):Prop where
 get:PI X tg it (tDI X f)
structure QS (X:Cx)(s:Cs)(f:DS):Prop where
 get:PS X s (tDS X f)
structure QB (X:Cx)(ss:Aa Cs)(f:DS):Prop where
 get:PSs X ss (tDS X f)
structure QJ (X:Cx)(es:Aa AA)(fs:Aa DE):Prop where
 get:PJ X es fs
structure ZOp (X:Cx)(f:Ac->Ac->EZ Ac)(g:G2):Prop where
 get:OpD X f g
structure ZIx (X:Cx)(g:G2):Prop where
 get:IxD X g
structure ZCall (X:Cx)(f:Ac)(F:DF):Prop where
 get:yA X f F
structure ZMt (X:Cx)(id:Bk)(g:D->Aa D->Sto->Res D):Prop where
 get:MtD X id g
structure ZSet (X:Cx)(g:G3):Prop where
 get:mE X (mC X g)
structure ZPass (X:Cx):Prop where
 get:Jc (As X.prog X.w) X.A X.env X.xe
section
variable {X:Cx}{a b c e e1 e2 o i:AA}{es rest:Aa AA}{fa fb fc fe fo fi:DE}{ta tb:DT}{fA:DA}{f g:DS}{st:Cs}{sts:Aa Cs}{x:Ap}{p pos:CG}{n k:Ai}{cm:Aq}{F:DF}{G2':G2}
theorem h8:QE X (.Constant .none j pos) (dC .non):=⟨VH⟩
theorem Z1:QE X (.Constant (.bool v) j pos) (dC (.bl v)):=⟨P6⟩
theorem KD:QE X (.Constant (.int v) j pos) (dC (.int v)):=⟨VG⟩
theorem KH:QE X (.Constant (.str v) j pos) (dC (.str v)):=⟨VL⟩
theorem KM (m:Ai)(hN:X.N[m]? = Ab x)(hv:Vis X.env.scope x)(hd:(x == ("__debug__" : Ap))=false)(hcd:(x == ("__classdict__" : Ap))=false):QE X (.Name x pos) (qB m):=⟨dv m hN hv hd hcd⟩
theorem WR {nm:Bk}(hg:Gl X x)(hm:X.mg x=none)(hv:CW x=Ab (.type nm))(hn:x ≠ "__name__")(hd:(x == ("__debug__" : Ap))=false):QE X (.Name x pos) (dC (.ty nm)):=⟨ZP hg hm hv hn hd⟩
theorem K9 (hg:Gl X x)(hm:X.mg x=Ab (.ref C))(hk:Ci X.K (.ref C)=true)(hd:(x == ("__debug__" : Ap))=false):QE X (.Name x pos) (dC (.obj C)):=⟨rD hg hm hk hd⟩
theorem WT {v:Am}(hg:Gl X x)(hm:∃ t,X.mg x=Ab (.int v t))(hd:(x == ("__debug__" : Ap))=false):QE X (.Name x pos) (dC (.int v)):=⟨let ⟨_,h⟩:=hm;nX (v:=.int v) hg h ⟨_,rfl⟩ (λ_ _=>by simp only[Rep]) hd⟩
theorem K8:QE X e jI:=⟨VB⟩
theorem KG (ha:QE X a fa):QE X (.UnaryOp .Not a pos) (aQ fa):=⟨VI ha.1⟩
theorem BS {op:Operator}(ho:ZOp X (Co op) G2')(ha:QE X a fa)(hb:QE X b fb):QE X (.BinOp a op b pos) (d2 G2' fa fb):=⟨P9 ho.1 ha.1 hb.1⟩
theorem eZ {op:L7}(ho:ZOp X (Bt op) G2')(ha:QE X a fa)(hb:QE X b fb)(hm:EM op b=false:=by first|exact vX _|with_unfolding_all rfl):QE X (.Compare a [op] [b] pos) (d2 G2' fa fb):=⟨VC ho.1 ha.1 hb.1 hm⟩
theorem oO {op op':L7}{g':G2}(ho:ZOp X (Bt op) G2')(ho':ZOp X (Bt op') g')(ha:QE X a fa)(hb:QE X b fb)(hc:QE X c fc)(hm:lastMarks [op,op'] [b,c]=false:=by with_unfolding_all rfl):QE X (.Compare a [op,op'] [b,c] pos) (jJ G2' g' fa fb fc):=⟨aS ho.1 ho'.1 ha.1 hb.1 hc.1 hm⟩
theorem h9  (h:QE X a fa):QE X (.BoolOp op [a] pos) fa:=⟨VJ h.1⟩
theorem eX (ha:QE X a fa)(hb:QE X (.BoolOp .And (b::rest) pos) fb):QE X (.BoolOp .And (a::b::rest) pos) (uE fa fb):=⟨VA ha.1 hb.1⟩
theorem BQ (hc:QT X c ta)(ha:QE X a fa)(hb:QE X b fb):QE X (.IfExp c a b pos) (dIf ta fa fb):=⟨P8 hc.1 ha.1 hb.1⟩
theorem KL  (h:QA X es fA):QE X (.Tuple es x1 pos) (w8 fA):=⟨VN h.1⟩
theorem KE (h:QA X es fA):QE X (.List es pos) (zS fA):=⟨rE h.1⟩
theorem WV (h:QA X es fA):QE X (.List es pos) (fP fA):=⟨ZT h.1⟩
theorem KA:QE X (.Dict [] [] pos) mP:=⟨VD⟩
theorem BR (ho:ZIx X G2')(ha:QE X a fa)(hb:QE X b fb)(hs:yO b:=by intro _ _;rfl):QE X (.Subscript a b pos) (d2 G2' fa fb):=⟨QD ho.1 ha.1 hb.1 hs⟩
theorem oQ {lo hi:Ak AA}{fl fh:DO}{p2:CG}(he:QE X e fe)(hl:QO X lo fl)(hu:QO X hi fh):QE X (.Subscript e (.Slice lo hi none p2) pos) (dSl fe fl fh):=⟨aX he.1 hl.1 hu.1⟩
theorem Y2 (he:QE X e fe):QO X (Ab e) (yV fe):=⟨X2 he.1⟩
theorem KB (he:QE X e fe):QE X (.FormattedValue e (-1) none pos) (d1 vO fe):=⟨VE he.1⟩
theorem KQ:QJ X [] []:=⟨K2⟩
theorem Y0 {fs:Aa DE}(he:QE X e fe)(hr:QJ X es fs):QJ X (e::es) (fe::fs):=⟨WJ he.1 hr.1⟩
theorem WU {fs:Aa DE}(h:QJ X (e1::e2::rest) fs):QE X (.JoinedStr (e1::e2::rest) pos) (fO fs):=⟨ZS h.1⟩
theorem eU:QA X [] qC:=⟨r9⟩
theorem lO (ha:QE X e fa)(hr:QA X es fA)(hs:A3 (e::es) X.env=(false,eval e X.env)::A3 es X.env:=by rfl):QA X (e::es) (qA fa fA):=⟨nW ha.1 hr.1 hs⟩
theorem qcN (G:Def X.prog X.w X.K X.mg X.base cm k x n F)(hr:RoomC cm k X.A)(hF:Fn1 X)(hg:Gl X x)(ha:QA X (e::es) fA)(hdb:(x == ("__debug__" : Ap))=false)(he:A3 (e::es) X.env=(false,eval e X.env)::A3 es X.env:=by rfl)(hpl:(Dm pos (A3 es X.env)).any (·.1)=false:=by rfl):QE X (.Call (.Name x p) (e::es) [] pos) (qW n F fA):=⟨dcN G hr hF hg ha.1 hdb he hpl⟩
theorem oN {id:Bk}(hc:ZCall X (.builtin id) F)(hg:Gl X x)(hm:X.mg x=none)(hv:CW x=Ab (.builtin id))(ha:QA X (e::es) fA)(hn:x ≠ "__name__")(hdb:(x == ("__debug__" : Ap))=false)(he:A3 (e::es) X.env=(false,eval e X.env)::A3 es X.env:=by rfl)(hpl:(Dm pos (A3 es X.env)).any (·.1)=false:=by rfl):QE X (.Call (.Name x p) (e::es) [] pos) (qP F fA):=⟨aR hc.1 hg hm hv ha.1 hn hdb he hpl⟩
theorem eY {T:Bk}(hc:ZCall X (.type T) F)(hg:Gl X x)(hm:X.mg x=none)(hv:CW x=Ab (.type T))(ha:QA X (e::es) fA)(hn:x ≠ "__name__")(hdb:(x == ("__debug__" : Ap))=false)(he:A3 (e::es) X.env=(false,eval e X.env)::A3 es X.env:=by rfl)(hpl:(Dm pos (A3 es X.env)).any (·.1)=false:=by rfl):QE X (.Call (.Name x p) (e::es) [] pos) (qP F fA):=⟨rC hc.1 hg hm hv ha.1 hn hdb he hpl⟩
theorem m8 {T id:Bk}{name:Ap}{apos:CG}{h:D->Aa D->Sto->Res D}(pa:PlainAttrs T)(slot:Slot T name id)(hty:typeOf (.builtin id)=pure (.type "method_descriptor"))(hT:T = "list" \/ T = "dict" \/ T = "int" \/ T = "str")(hm:ZMt X id h)(ho:QE X o fo)(ha:QA X (e::es) fA)
  (hbase:EU o name X.env (eval o X.env)=eval o X.env:=by rfl)
  (hfew:((Dm pos (A3 (e::es) X.env)).all (λx=>!x.1)&&(backToKw pos (keywordEach [] X.env)).all (λx=>x.1.isSome)&&decide ((e::es).length+([]:Aa N6).length+(if ([] : Aa N6).isEmpty then 0 else 1)<30))=true:=by rfl)
  (hline:(apos.endLine == pos.line)=true:=by rfl) (hs:A3 (e::es) X.env=(false,eval e X.env)::A3 es X.env:=by rfl) (hplain:(Dm pos (A3 es X.env)).any (·.1)=false:=by rfl):QE X (.Call (.Attribute o name apos) (e::es) [] pos) (dBm T h fo fA):=⟨P7 pa slot hty hT hm.1 ho.1 ha.1 hbase hfew hline hs hplain⟩
theorem Z3 (h:QW X e ta):QT X e ta:=⟨PWD.pt h.1⟩
theorem lQ (ha:QT X a ta):QW X (.BoolOp .And [a] pos) ta:=⟨X8 ha.1⟩
theorem pE (ha:QT X a ta):QW X (.BoolOp .Or [a] pos) ta:=⟨U4 ha.1⟩
theorem c8 (ha:QT X a ta)(hb:QW X (.BoolOp .And (b::rest) pos) tb):QW X (.BoolOp .And (a::b::rest) pos) (wI ta tb):=⟨U3 ha.1 hb.1⟩
theorem m9 (ha:QT X a ta)(hb:QW X (.BoolOp .Or (b::rest) pos) tb):QW X (.BoolOp .Or (a::b::rest) pos) (pQ ta tb):=⟨PH ha.1 hb.1⟩
theorem c6 (ha:QT X a ta):QT X (.UnaryOp .Not a pos) (uF ta):=⟨U1 ha.1⟩
theorem c5 {op:L7}(ho:ZOp X (Bt op) G2')(ha:QE X a fa)(hb:QE X b fb)(hm:EM op b=false:=by first|exact vX _|with_unfolding_all rfl):QT X (.Compare a [op] [b] pos) (dTr (d2 G2' fa fb)):=⟨U0 ho.1 ha.1 hb.1 hm⟩
theorem c7 (ha:QE X a fa)(he:∀ whole,isTrue a X.env whole=(do let v <- whole;Kq a.pos;holding [v] (truthy v)):=by intro _;rfl):QT X a (dTr fa):=⟨U2 ha.1 he⟩
theorem WY (hN:X.N.Nodup)(hi:X.N[m]? = Ab x)(hx:Loc X.env.scope x)(hf:X.fn x=true\/X.env.scope.names.lookup x=Ab .local):QG X (.Name x pos) (gNm m):=⟨ZY hN hi hx hf⟩
theorem lP:QGs X [] k9:=⟨ZZ⟩
theorem tO {h:DG}{gs:DGs}(h1:QG X e h)(h2:QGs X es gs)(hs:(Df (e::es) X.env).map (·.2)=assign e X.env::(Df es X.env).map (·.2):=by rfl):QGs X (e::es) (wK h gs):=⟨aZ h1.1 h2.1 hs⟩
theorem hV {kk:Ai}{gs:DGs}(hc:X.calm=true)(h:QGs X es gs)(hn:(Df es X.env).length=n:=by rfl)(hst:(Df es X.env).findIdx? (·.1)=none:=by rfl):QG X (.Tuple es kk pos) (gTp n gs):=⟨VQ hc h.1 hn hst⟩
theorem KN {h:G3}(ho:QE X o fo)(hi:QE X i fi)(hs:ZSet X h)
  (ha:∀ v,assign (.Subscript o i pos) X.env v=(do
   let ov <- holding [v] (eval o X.env)
   let iv <- holding [v,ov] (eval i X.env)
   Kq pos
   holding [v,ov,iv] (Nu ov iv v)
   release [v,ov,iv] []):=by intro _;rfl):QG X (.Subscript o i pos) (gSb fo fi h):=⟨VP ho.1 hi.1 hs.1 ha⟩
theorem KP {tg:AA}(ha:QE X e fa):QI X tg e (yU fa):=⟨VR ha.1⟩
theorem oS {tg:AA}(hg:Gl X "range")(hm:X.mg "range" = none)(ha:QA X (e::es) fA)(hs:A3 (e::es) X.env=(false,eval e X.env)::A3 es X.env:=by rfl)(hpl:(Dm pos (A3 es X.env)).any (·.1)=false:=by rfl):QI X tg (.Call (.Name "range" p) (e::es) [] pos) (uG fA):=⟨i0 hg hm ha.1 hs hpl⟩
theorem hW {elts:Aa AA}{x1:Ai}{tpos:CG}(hg:Gl X "zip")(hm:X.mg "zip" = none)(ha:QA X [e1,e2] fA)(hs:A3 [e1,e2] X.env=(false,eval e1 X.env)::A3 [e2] X.env:=by rfl)(hpl:(Dm pos (A3 [e2] X.env)).any (·.1)=false:=by rfl):QI X (.Tuple elts x1 tpos) (.Call (.Name "zip" p) [e1,e2] [] pos) (dP fA):=⟨VS hg hm ha.1 hs hpl⟩
theorem eV:QB X [] zW:=⟨VV⟩
theorem pC (h:QS X st f):QB X [st] f:=⟨VW h.1⟩
theorem kG (h1:QS X st f)(h2:QB X sts g):QB X (st::sts) (qY f g):=⟨X3 h1.1 h2.1⟩
theorem Y3 (he:QE X e fa)(hs:Jg e none pos.line X.env=pure false:=by rfl):QS X (.Expr e pos) (w5 fa):=⟨X4 he.1 hs⟩
theorem hZ (he:QE X e fa):QS X (.Return (Ab e) pos) (zE fa):=⟨VX he.1⟩
theorem Z2 {as bs:Aa Cs}(hc:QT X c ta)(ha:QB X as f)(hb:QB X bs g):QS X (.If c as bs pos) (sIf ta f g):=⟨PD hc.1 ha.1 hb.1⟩
theorem hX {tg iter:AA}{fI:DI}{h:DG}(hp:ZPass X)(hc:X.calm=true)(hi:QI X tg iter fI)(hg:QG X tg h)(hb:QB X body f)(hs:∀ x,D5 iter X.env x=pure x:=by intro _;rfl):QS X (.For tg iter body [] pos) (yH fI h f):=⟨VU hp.1 hc hi.1 hg.1 hb.1 hs⟩
theorem KS {pos':CG}(hN:X.N.Nodup)(he:QE X e fa)(hi:X.N[m]? = Ab x)(hx:Loc X.env.scope x)(hs:Jg e (Ab (.Name x pos')) pos.line X.env=pure false)(hf:X.fn x=true\/X.env.scope.names.lookup x=Ab .local):QS X (.Assign [.Name x pos'] e pos) (zM fa (gNm m)):=⟨VY hN he.1 hi hx hs hf⟩
theorem KR {tg:AA}{h:DG}(he:QE X e fa)(hg:QG X tg h)(hs:swapsWithSole [tg] e pos.line X.env=pure false:=by rfl)(hw:swappedStores [tg] e X.env=pure none:=by rfl)(h1:(Df [tg] X.env).map (·.2)=[assign tg X.env]:=by rfl):QS X (.Assign [tg] e pos) (zM fa h):=⟨VT he.1 hg.1 hs hw h1⟩
theorem oT {Ae:Ad}{np cpos:CG}(hc:X.calm=true)(hF:Fn1 X)(hg:Gl X x)(hm:X.mg x=Ab (.ref C))(hx:kU X.K C Ae=true)(ha:QA X (e::rest) fA)(hdb:(x == ("__debug__" : Ap))=false)(he:A3 (e::rest) X.env=(false,eval e X.env)::A3 rest X.env:=by rfl)(hpl:(Dm cpos (A3 rest X.env)).any (·.1)=false:=by rfl) :
  QS X (.Raise (Ab (.Call (.Name x np) (e::rest) [] cpos)) none pos) (vZ (.ref C) fA):=⟨i6 hc hF hg hm hx ha.1 hdb he hpl⟩
theorem KU {nm:Ap}{C0:Ad}{b₀:Cs}{suite:Aa Cs}{np hpos:CG}{cs:Aa Ac}(hF:Fn1 X)(hb:∀ E pn,ZPass (Cx.tryIn X E pn)->QB (Cx.tryIn X E pn) body f)(hs:∀ e,QB (Cx.suite X e) (b₀::suite) g)(hg:Gl X x)(hm:X.mg x=Ab (.ref C0))(hcs:∀ c∈cs,Ek X.K c (.ref C0)=Ab true)(hN:X.N.Nodup)(hi:X.N[m]? = Ab nm)(hlo:X.env.scope.names.lookup nm=Ab .local)(hdb:(x == ("__debug__" : Ap))=false)(hn:X.N.length=n) :
  QS X (.Try body [.ExceptHandler (Ab (.Name x np)) (Ab nm) (b₀::suite) hpos] [] [] pos) (gG n m cs f g):=⟨hn▸VZ hF (λE pn hp=>(hb E pn ⟨hp⟩).1) (λe=>(hs e).1) hg hm hcs hN hi hlo hdb⟩
theorem F8:ZOp X (Co .Add) x6:=⟨JE⟩
theorem FH:ZOp X (Co .Sub) uM:=⟨JI⟩
theorem FD:ZOp X (Co .Mult) zQ:=⟨lN⟩
theorem F9:ZOp X (Co .FloorDiv) pY:=⟨JF⟩
theorem FC:ZOp X (Co .Mod) uK:=⟨JG⟩
theorem FF:ZOp X (Co .Pow) t7:=⟨JH⟩
theorem MR:ZOp X (Bt .Lt) gLt:=⟨BH⟩
theorem MQ:ZOp X (Bt .LtE) gLe:=⟨BG⟩
theorem MN:ZOp X (Bt .Gt) gGt:=⟨BE⟩
theorem MM:ZOp X (Bt .GtE) gGe:=⟨BD⟩
theorem GQ:ZOp X (Bt .Is) gIs:=⟨BF⟩
theorem GP (hr:RoomC cm k X.A):ZOp X (Bt .Eq) gEq:=⟨BC hr.units⟩
theorem GU (hr:RoomC cm k X.A):ZOp X (Bt .NotEq) gNe:=⟨BI hr.units⟩
theorem MP:ZIx X gIx:=⟨UH⟩
theorem ZD:ZCall X (.builtin "isinstance") zP:=⟨sX⟩
theorem GR {cl:Aa Ad}(h:ClsK X.K cl):ZCall X (.builtin "isinstance") (zJ cl):=⟨ZI h⟩
theorem ZE:ZCall X (.builtin "len") uJ:=⟨ZJ⟩
theorem FB:ZCall X (.type "int") mX:=⟨V2⟩
theorem FA (hr:RoomC cm k X.A):ZMt X "dict.get" jK:=⟨UV (hu1 hr)⟩
theorem YN:ZMt X "list.count" gS:=⟨iV⟩
theorem YO:ZMt X "list.index" gT:=⟨iW⟩
theorem FG (hr:RoomC cm k X.A):ZSet X xU:=⟨G6 (hu1 hr)⟩
end
section
variable {P:A6}{w:AK}{K:Ah}{mg:Ap->Ak Ac}{base:AC}{cm:Aq}
theorem d8 {qual:Ap}{scope:Cg}{f:Ad}{cd:Ac}{A:AB}{outer:Aa El}{s:Ag}{H:Hp}{E:XK}:ZPass (cxC cm P w K mg base N qual scope f cd A outer s H E):=⟨aM⟩
theorem FU {x:Ap}{st:Cs}{k:Ai}{g:DS}(h:Src K mg x st ps)(S:FnScope N ps (qK st))(hbd:zG st=body)
  (hbody:∀ (f:Ad) (cdv:Ac) (A:AB) (outer:Aa El) (s:Ag) (H:Hp) (E:XK),u7 K x cdv->RoomC cm k (A.deeper (Dg x (qK st) s.heap.objs.size f cdv)) ->
   QB (cxC cm P w K mg base N x (qK st) f cdv A outer s H E) body g):Def P w K mg base cm (k+1) x ps.length (qU N.length g):=
 VO h S λf cdv A outer s H E hc hr=>hbd▸(hbody f cdv A outer s H E hc hr).1
theorem PB {x:Ap}{st:Cs}{k:Ai}{g:DS}(h:Src K mg x st ps)(S:FnScope N ps (qK st))(hbd:zG st=body)
  (hbody:∀ (f:Ad) (cdv:Ac) (A:AB) (outer:Aa El) (s:Ag) (H:Hp) (E:XK),u7 K x cdv->RoomC cm k (A.deeper (Dg x (qK st) s.heap.objs.size f cdv)) ->
   QB (cxC cm P w K mg base N x (qK st) f cdv A outer s H E) body g):mD P w K mg base cm (k+1) x ps (qU N.length g):=
 ZX h S λf cdv A outer s H E hc hr=>hbd▸(hbody f cdv A outer s H E hc hr).1
theorem ZW {x:Ap}{st:Cs}(h:Src K mg x st ps):Def P w K mg base cm 0 x ps.length λ_ _=>.bad:=by
 obtain⟨f,fd,hm,F,hb⟩:=h;exact⟨f,fd,ps,rfl,hm,F.kp,hb,kB F,⟨λvs H Q E z=>z.1,λA outer s H args us vs Q E _ _ _ _ z=>by obtain⟨_,_,_,_,_,_,_,z⟩:=z;exact Al z⟩⟩
end
structure QTs (X:Cx)(ifs:Aa AA)(t:DT):Prop where
 get:PTs X ifs t
section
variable {X:Cx}{elt tg iter e:AA}{ifs es:Aa AA}{scope:Cg}{pos p:CG}{N':Aa Ap}{cap:Aa (Ak Ai)}{fi:DI}{g:DG}{t u:DT}{fe:DE}{fa:DA}{x:Ap}{cm:Aq}{k n:Ai}{F:DF}
theorem Y4:QTs X [] pS:=⟨X7⟩
theorem oU (h1:QT X e t)(h2:QTs X es u):QTs X (e::es) (wI t u):=⟨i7 h1.1 h2.1⟩
end
def stn (o:Ak (Ai × MO))(S:Sto):Prop:=match o with
 |none=>Ht
 |some p=>S[p.1]? = Ab p.2
open Classical in
def sI (o:Ak (Ai × MO))(S:Sto):Aq:=decide (stn o S)
theorem vB {o:Ak (Ai × MO)}{S:Sto}:sI o S=true↔stn o S:=by simp[sI]
structure ItD2 (K:Ah)(J:It)(P:Hp)(α : Aa Ad)(o:Ak (Ai × MO))(ds:Aa D):Prop where
 go:∀ i H P1 α1 S,i<ds.length->Rel K H P1 α1 S->stn o S->qF P P1->α<+:α1->J.go i H
 yld:∀ i H x H' P1 α1 S,i<ds.length->Rel K H P1 α1 S->stn o S->qF P P1->α<+:α1->J.yld i H x H'->∃ P2 d,ds[i]? = Ab d/\Rel K H' P2 α1 S/\qF P1 P2/\Rep K P2 α1 d x
 stop:∀ i H P1 α1 S,ds.length<=i->Rel K H P1 α1 S->stn o S->qF P P1->α<+:α1->J.stop i H
theorem ItD.two {K:Ah}{J:It}{P:Hp}{α:Aa Ad}(h:ItD K J P α ds):ItD2 K J P α none ds:=
 ⟨λi H P1 α1 S a b _ c d=>h.go i H P1 α1 S a b c d,λi H x H' P1 α1 S a b _ c d e=>h.yld i H x H' P1 α1 S a b c d e,λi H P1 α1 S a b _ c d=>h.stop i H P1 α1 S a b c d⟩
abbrev DI2:=qH->Sto->Res (Ak (Ai × MO) × Aa D)
inductive tDI2 (X:Cx)(f:DI2)(σ : _L.St)(H:Hp)(R:It->Hp->Prop):Prop
 |mk (P:Hp) (α : Aa Ad) (env:qH) (S:Sto) (r:Rel X.K H P α S) (re:qV X.K P α σ env) (af:qJ X P α (f env S) (λp S'=>∀ J H' P' α',Rel X.K H' P' α' S'->qF P P'->α<+:α'->ItD2 X.K J P' α' p.1 p.2->R J H')):tDI2 X f σ H R
noncomputable def uV (f:DI):DI2:=λenv S=>(f env S).bind λds S1=>.ok (none,ds) S1
section
variable {X:Cx}{K:Ah}{tg e:AA}{fa:DE}{pos:CG}
theorem X1 {f:DI}(h:PI X tg e (tDI X f)):PI X tg e (tDI2 X (uV f)):=PI.weak h λσ H R ⟨P,α,env,S,r,re,af⟩=>by
 refine⟨P,α,env,S,r,re,?_⟩;unfold uV at af;cases q:f env S with
 |bad=>rw[q] at af;exact af
 |ex c x S'=>rw[q] at af;exact af
 |ok ds S1 =>
  rw[q] at af;exact λJ H' P' α' r' e1 e2 it=>af J H' P' α' r' e1 e2 it.two
end
noncomputable def x5 (elt:AA)(gens:Aa Dk)(scope:Cg)(pos:CG)(k:Ai)(acc:Ac)(env:El):EZ H8:=
 match gens[k+1]? with
 |some g'=>do
  let x <- eval g'.iter env
  Kq g'.iter.pos
  let x <- D5 g'.iter env x
  let it <- holding [x] (LQ x)
  let _ <- runOwn (.compStart (.ListComp elt gens scope pos) (k+1) it acc env) env
 |none=>do let _ <- call (.builtin "list.append") [acc,<- eval elt env]
theorem oZ (elt target iter:AA)(ifs:Aa AA)(gens:Aa Dk)(scope:Cg)(pos:CG)(it acc:Ac)(env:El)(k:Ai)(hg:gens[k]? = Ab ⟨target,iter,ifs,0⟩)(ha:∀ g',gens[k+1]? = Ab g'->g'.is_async=0) :
  compTurn (.ListComp elt gens scope pos) k it acc env=(do
   Kq iter.pos
   match <- Lb it with
   |none=>pure (.done .next)
   |some v =>
    Ey target it v
    assign target env v
    let mut ok:=true
    for c in ifs do
     if ok then ok <- isTrue c env (eval c env)
    if ok then x5 elt gens scope pos k acc env
    again (.compLoop (.ListComp elt gens scope pos) k it acc env)):=by
 unfold compTurn x5;simp only[hg];cases q:gens[k+1]? with
 |none=>rfl
 |some g' =>
  have h0:=ha g' q;have e0:(g'.is_async != 0)=false:=by rw[h0];rfl
  simp only[e0,Bu,D6,bind_assoc,pure_bind];rfl
abbrev DK:=qH->Sto->Aa D->Res (qH × Aa D)
def goL (o:Ak (Ai × MO))(g:DG)(t:DT)(k:DK):Aa D->DK
 |[],env,S,acc=>if sI o S then .ok (env,acc) S else .bad
 |d::ds,env,S,acc=>if sI o S then (g d env S).bind λenv1 S1=>(t env1 S1).bind λb S2 =>
   if b then (k env1 S2 acc).bind λp S3=>goL o g t k ds p.1 S3 p.2 else goL o g t k ds env1 S2 acc
  else .bad
noncomputable def wL (fe:DE):DK:=λenv S acc=>(fe env S).bind λx S1=>if acc.length<lim then .ok (env,acc++[x]) S1 else .bad
def Q6 (Y:Cx)(pins:Aa (Ad × AR))(P1:Hp)(α1:Aa Ad)(acc:Ad)(env:qH)(S:Sto)(ds:Aa D)(s:Ag):Prop:=
 ∃ σ H P α o,TurnSt Y pins P1 α1 [] acc env S ds s σ H P α o
def PK (Y:Cx)(step:Ac->EZ H8)(k:DK):Prop:=
 ∀ (pins:Aa (Ad × AR)) (P1:Hp) (α1:Aa Ad) (acc:Ad) (env env':qH) (S S':Sto) (ds ds':Aa D) (s:Ag),(∀ H:Hp,H acc=none->zT Y pins H acc)->Q6 Y pins P1 α1 acc env S ds s->k env S ds=.ok (env',ds') S' ->
  Ar (As Y.prog Y.w) Y.A (step (.ref acc)) (λ_ s'=>Q6 Y pins P1 α1 acc env' S' ds' s') (λ_ _=>CF) s
section
variable {Y:Cx}{elt tg iter:AA}{ifs:Aa AA}{gens:Aa Dk}{scope:Cg}{pos:CG}{k:Ai}{g:DG}{t:DT}{fe:DE}{it acc:Ad}{fp:Aa Ad}{J:It}{tn:Ai->AC->Prop}{items:Aa D}{P1:Hp}{α1:Aa Ad}{pins:Aa (Ad × AR)}
theorem rP {X:Cx}{H:Hp}{b:Ad}{h:AC}(f:zT X pins H b)(hn:b ∉ fp):zT X (pins++wO fp h) H b:=by
 obtain⟨f0,f1,f2,f3,f4,f5⟩:=f;refine⟨f0,f1,f2,f3,f4,λp hp=>?_⟩;rcases Bq.mp hp with z|z
 .exact f5 p (Cc _ z)
 .rcases Bq.mp z with z|z
  .exact f5 p (AI _ z)
  .rintro rfl
   exact hn (fF z).1
theorem Res.bind_inv {β γ:Type}{r:Res β}{f:β->Sto->Res γ}{x:γ}{S:Sto}(h:r.bind f=.ok x S):∃ b S1,r=.ok b S1/\f b S1=.ok x S:=by
 cases r with
 |ok b S1=>exact⟨b,S1,rfl,h⟩
 |_=>cases h
inductive GoC (o:Ak (Ai × MO))(g:DG)(t:DT)(k:DK)(d:D)(ds acc:Aa D)(env:qH)(S SF:Sto)(x:qH × Aa D):Prop
 |no (env1:qH) (S1 S2:Sto) (z:stn o S) (q1:g d env S=.ok env1 S1) (q2:t env1 S1=.ok false S2) (r:goL o g t k ds env1 S2 acc=.ok x SF):GoC o g t k d ds acc env S SF x
 |yes (env1:qH) (S1 S2:Sto) (env5:qH) (ds5:Aa D) (S5:Sto) (z:stn o S) (q1:g d env S=.ok env1 S1) (q2:t env1 S1=.ok true S2) (q3:k env1 S2 acc=.ok (env5,ds5) S5) (r:goL o g t k ds env5 S5 ds5=.ok x SF):GoC o g t k d ds acc env S SF x
set_option tactic.hygienic true in
theorem iF {o:Ak (Ai × MO)}{k:DK}{d:D}{acc:Aa D}{S:Sto}{x:qH × Aa D}(h:goL o g t k (d::ds) env S acc=.ok x SF):GoC o g t k d ds acc env S SF x:=by
 simp only[goL] at h
 split at h
 .rename_i z
  obtain⟨env1,S1,q1,h⟩:=Res.bind_inv h;obtain⟨b,S2,q2,h⟩:=Res.bind_inv h;cases b with
  |false=>exact .no env1 S1 S2 (vB.mp z) q1 q2 h
  |true =>
   obtain⟨⟨env5,ds5⟩,S5,q3,h⟩:=Res.bind_inv h;exact .yes env1 S1 S2 env5 ds5 S5 (vB.mp z) q1 q2 q3 h
 .cases h
set_option tactic.hygienic true in
theorem XF {o:Ak (Ai × MO)}{k:DK}{acc:Aa D}{S:Sto}(h:goL o g t k [] env S acc=.ok (envF,dsF) SF):stn o S/\env=envF/\acc=dsF/\S=SF:=by
 simp only[goL] at h
 split at h
 .rename_i z
  cases h;exact⟨vB.mp z,rfl,rfl,rfl⟩
 .cases h
inductive LpI (Y:Cx)(pins:Aa (Ad × AR))(P1:Hp)(α1:Aa Ad)(fp:Aa Ad)(acc:Ad)(tn:Ai->AC->Prop)(G:Aa D->DK)(items:Aa D)(x:qH × Aa D)(SF:Sto)(n:Ai)(s:Ag):Prop
 |mk (i:Ai) (σ : _L.St) (H P:Hp) (α : Aa Ad) (o:AR) (env:qH) (S:Sto) (ds:Aa D) (hn:n=items.length-i) (hi:i<=items.length) (st:TurnSt Y pins P1 α1 fp acc env S ds s σ H P α o) (st1:tn i s.heap) (run:G (items.drop i) env S ds=.ok x SF):LpI Y pins P1 α1 fp acc tn G items x SF n s
theorem YE {M:E6}{A:AB}{Q:Fin->Ag->Prop}{E:Ac->Ag->Prop}{s:Ag}{it acc:Ac}{en:El}(hgk:gens[k]? = Ab ⟨tg,iter,ifs,0⟩)(has:∀ g',gens[k+1]? = Ab g'->g'.is_async=0)
  (ha:∀ s,Qa s->Q (.again (.compLoop (.ListComp elt gens scope pos) k it acc en)) s) (hd:∀ s,Qd s->Q (.done .next) s)
  (h:Ar M A (Lb it) (λr s1=>(r=none->Qd s1)/\∀ v,r=Ab v->Ar M A (Ey tg it v) (λ_ s2=>Ar M A (assign tg en v) (λ_ s3=>Ar M A (vC ifs en) (λb s4=>(b=false->Qa s4)/\(b=true->Ar M A (x5 elt gens scope pos k acc en) (λ_ s5=>Qa s5) E s4)) E s3) E s2) E s1) E s) :
  Ar M A (compTurn (.ListComp elt gens scope pos) k it acc en) Q E s:=by
 rw[oZ elt tg iter ifs gens scope pos it acc en k hgk has];refine Af (wpAny_standAt (Af (thn h λr s1 ⟨h0,h1⟩=>?_)));cases r with
 |none=>exact An (hd _ (h0 rfl))
 |some v =>
  refine Af (thn (h1 v rfl) λ_ s2 h2=>Af (thn h2 λ_ s3 h3=>Af (thn h3 λb s4 h4=>?_)));cases b with
  |false=>exact An (ha _ (h4.1 rfl))
  |true=>exact Af (thn (h4.2 rfl) λ_ s5 h5=>An (ha _ h5))
theorem XD (hfp:∀ H:Hp,(∀ b∈fp,H b=none)->∀ b∈fp,zT Y pins H b)(hne:acc ∉ fp)(o:AR)(H':Hp)(hn:∀ b∈fp,H' b=none):∀ b∈fp,zT Y (pins++[(acc,o)]) H' b:=λb hb=>by
 obtain⟨f0,f1,f2,f3,f4,f5⟩:=hfp H' hn b hb;refine⟨f0,f1,f2,f3,f4,λp hp=>?_⟩;rcases Bq.mp hp with z|z
 .exact f5 p (Cc _ z)
 .rcases Bq.mp z with z|z
  .exact f5 p (AI _ z)
  .rw[CA.mp z]
   rintro rfl;exact hne hb
theorem vM {i:Ai}{h:AC}(T:Turn Y.prog Y.w Y.K tg J fp it tn)(st2:tn (i+1) h)(pl:∀ b∈fp,∃ o,h.get? b=Ab o/\∀ v,o.data≠.cell v){s5:Ag}{σ5:_L.St}{H5:Hp}(I5:Inv Y (pins++wO fp h) σ5 H5 s5):tn (i+1) s5.heap/\(∀ b∈fp,H5 b=none):=by
 refine⟨T.keep _ _ _ st2 λb hb o' e=>(I5.pin (b,o') (AI _ (AI _ (yM hb e)))).1,λb hb=>?_⟩;obtain⟨o',e,d'⟩:=pl b hb;exact(I5.pin (b,o') (AI _ (AI _ (yM hb e)))).2.1
theorem dO {kk:DK}{E:Ac->Ag->Prop}{s:Ag}{σ:_L.St}{H P:Hp}{α:Aa Ad}{S:Sto}{o:AR}{i:Ai}(hc:Y.calm=true)(hx:Y.xe=λ_ _=>CF)
  (T:Turn Y.prog Y.w Y.K tg J fp it tn) (hit:ItD2 Y.K J P1 α1 o' items) (hg:PG Y tg (tDG Y g)) (ht:PTs Y ifs t) (he:PK Y (λacc=>x5 elt gens scope pos k acc Y.env) kk) (hacc:∀ H:Hp,H acc=none->zT Y pins H acc) (hfp:∀ H:Hp,(∀ b∈fp,H b=none)->∀ b∈fp,zT Y pins H b) (hne:acc ∉ fp)
  (hi:i<=items.length) (st:TurnSt Y pins P1 α1 fp acc env S ds s σ H P α o) (st1:tn i s.heap) (run:goL o' g t kk (items.drop i) env S ds=.ok (envF,dsF) SF)
  (hA:∀ s' σ' H' P' α' o1 env1 S' ds',i<items.length->TurnSt Y pins P1 α1 fp acc env1 S' ds' s' σ' H' P' α' o1->tn (i+1) s'.heap->goL o' g t kk (items.drop (i+1)) env1 S' ds'=.ok (envF,dsF) SF->Qa s')
  (hD:∀ s' σ' H' P' α' o',TurnSt Y pins P1 α1 fp acc envF SF dsF s' σ' H' P' α' o'->Qd s') :
  Ar (As Y.prog Y.w) Y.A (Lb (.ref it)) (λr s1=>(r=none->Qd s1)/\∀ v,r=Ab v->Ar (As Y.prog Y.w) Y.A (Ey tg (.ref it) v) (λ_ s2=>Ar (As Y.prog Y.w) Y.A (assign tg Y.env v) (λ_ s3=>Ar (As Y.prog Y.w) Y.A (vC ifs Y.env) (λb s4=>(b=false->Qa s4)/\(b=true->Ar (As Y.prog Y.w) Y.A (x5 elt gens scope pos k (.ref acc) Y.env) (λ_ s5=>Qa s5) E s4)) E s3) E s2) E s1) E s:=by
 have I1:=_D.Inv.pin1 st.inv (hacc H st.acn) st.at' st.acc.cell;have fp1:=XD hfp hne o;by_cases hlt:i<items.length
 .have hdr:items.drop i=items[i]::items.drop (i+1):=Dv hlt
  rw[hdr] at run;have run:=iF run;have hst:stn o' S:=by cases run with|no _ _ _ z=>exact z|yes _ _ _ _ _ _ z=>exact z
  refine gJ (T.item Y rfl rfl rfl hc i _ s σ H (λ_ _=>CF) I1 (fp1 H st.fpn) st1 (hit.go i H P α S hlt st.rel hst st.same st.pre)) λr s1 ⟨u,hr,h1⟩=>⟨λz=>(by rw[hr] at z;cases z),λv hv=>?_⟩
  obtain rfl:v=u:=Bg (hv.symm.trans hr);refine gJ h1 λ_ s2 ⟨x,H2,I2,rx,y,st2,fr2⟩=>?_;obtain⟨P2,d,hd,r2,e2,rp⟩:=hit.yld i H x H2 P α S hlt st.rel hst st.same st.pre y;cases (Ao hlt).symm.trans hd;have pl:=T.obj _ _ st2;have I2':=I2.pinned (fp1 _ fr2) pl;have two:∀ env1 S1 b S2,g items[i] env S=.ok env1 S1->t env1 S1=.ok b S2->(∀ s4 σ3 H4 P4 α4 (I4:Inv Y (pins++wO fp s2.heap) σ3 H4 s4),TurnSt Y pins P1 α1 fp acc env1 S2 ds s4 σ3 H4 P4 α4 o->tn (i+1) s4.heap->(b=false->Qa s4)/\(b=true->Ar (As Y.prog Y.w) Y.A (x5 elt gens scope pos k (.ref acc) Y.env) (λ_ s5=>Qa s5) E s4))->Ar (As Y.prog Y.w) Y.A (assign tg Y.env v) (λ_ s3=>Ar (As Y.prog Y.w) Y.A (vC ifs Y.env) (λb s4=>(b=false->Qa s4)/\(b=true->Ar (As Y.prog Y.w) Y.A (x5 elt gens scope pos k (.ref acc) Y.env) (λ_ s5=>Qa s5) E s4)) E s3) E s2:=by
   intro env1 S1 b S2 q1 q2 next;refine gJ (hx▸M9 hg I2' r2 (st.env.mono e2 (AF _)) rx rp q1) λ_ s3 ⟨σ3,H3,P3,α3,I3,r3,re3,e3,e3'⟩=>?_;refine gJ (hx▸BP ht I3 r3 re3 q2) λb' s4 ⟨hb,H4,P4,α4,I4,r4,re4,e4,e4'⟩=>?_;have I4':Inv Y (pins++wO fp s2.heap) σ3 H4 s4:=I4.pins_of λp hp=>I4.pin p (AI _ ((Bq.mp hp).elim (λz=>Cc _ (Cc _ z)) λz=>AI _ z));have a4:=I4.pin (acc,o) (AI _ (Cc _ (AI _ (CA.mpr rfl))));rw[hb];exact next s4 σ3 H4 P4 α4 I4' ⟨I4'.unpinned,r4,re4,((st.same.trans e2).trans e3).trans e4,(st.pre.trans e3').trans e4',(vM T st2 pl I4').2,a4.2.1,a4.1,st.acc.mono ((e2.trans e3).trans e4) (e3'.trans e4')⟩ (vM T st2 pl I4').1
  cases run with
  |no env1 S1 S2 _ q1 q2 run=>exact two env1 S1 false S2 q1 q2 λs4 σ3 H4 P4 α4 I4 st4 tn4=>⟨λ_=>hA s4 σ3 H4 P4 α4 o env1 S2 ds hlt st4 tn4 run,λz=>(by cases z)⟩
  |yes env1 S1 S2 env5 ds5 S5 _ q1 q2 q3 run =>
   refine two env1 S1 true S2 q1 q2 λs4 σ3 H4 P4 α4 I4 st4 tn4=>⟨λz=>(by cases z),λ_=>?_⟩
   refine gJ (he (pins++wO fp s2.heap) P1 α1 acc env1 env5 S2 S5 ds ds5 s4 (λH hn=>rP (hacc H hn) hne) ⟨σ3,H4,P4,α4,o,I4,st4.rel,st4.env,st4.same,st4.pre,λb hb=>(by cases hb),st4.acn,st4.at',st4.acc⟩ q3) λ_ s5 ⟨σ5,H5,P5,α5,o5,T5⟩=>?_
   exact hA s5 σ5 H5 P5 α5 o5 env5 S5 ds5 hlt ⟨T5.inv.unpinned,T5.rel,T5.env,T5.same,T5.pre,(vM T st2 pl T5.inv).2,T5.acn,T5.at',T5.acc⟩ (vM T st2 pl T5.inv).1 run
 .rw[IQ li] at run
  obtain⟨z,rfl,rfl,rfl⟩:=XF run;refine gJ (T.done Y rfl rfl rfl hc i _ s σ H (λ_ _=>CF) I1 (fp1 H st.fpn) st1 (hit.stop i H P α _ li st.rel z st.same st.pre)) λr s1 ⟨hr,I2⟩=>⟨λ_=>?_,λv hv=>(by rw[hr] at hv;cases hv)⟩
  have a:=_D.Inv.pinned1 I2;exact hD s1 σ H P α o ⟨I2.unpinned,st.rel,st.env,st.same,st.pre,st.fpn,a.2,a.1,st.acc⟩
theorem dN {kk:DK}{R:Jd->Ag->Prop}{s:Ag}{σ:_L.St}{H P:Hp}{α:Aa Ad}{S:Sto}{ds0:Aa D}{o:AR}(hc:Y.calm=true)(hx:Y.xe=λ_ _=>CF)(hgk:gens[k]? = Ab ⟨tg,iter,ifs,0⟩)(has:∀ g',gens[k+1]? = Ab g'->g'.is_async=0)
  (T:Turn Y.prog Y.w Y.K tg J fp it tn) (hit:ItD2 Y.K J P1 α1 o' items) (hg:PG Y tg (tDG Y g)) (ht:PTs Y ifs t) (he:PK Y (λacc=>x5 elt gens scope pos k acc Y.env) kk) (hacc:∀ H:Hp,H acc=none->zT Y pins H acc) (hfp:∀ H:Hp,(∀ b∈fp,H b=none)->∀ b∈fp,zT Y pins H b) (hne:acc ∉ fp)
  (st:TurnSt Y pins P1 α1 fp acc env S ds0 s σ H P α o) (st0:tn 0 s.heap) (run:goL o' g t kk items env S ds0=.ok (envF,dsF) SF)
  (hR:∀ s' σ' H' P' α' o',TurnSt Y pins P1 α1 fp acc envF SF dsF s' σ' H' P' α' o'->R (.ok .next) s') :
  DH (As Y.prog Y.w) Y.A (.compLoop (.ListComp elt gens scope pos) k (.ref it) (.ref acc) Y.env) R s:=by
 refine codeAny_loop rfl (LpI Y pins P1 α1 fp acc tn (goL o' g t kk) items (envF,dsF) SF) (λn s hI=>?_) items.length ⟨0,σ,H,P,α,o,env,S,ds0,rfl,Fc _,st,st0,run⟩;obtain⟨i,σ,H,P,α,o,env,S,ds,hn,hi,st,st1,run⟩:=hI;subst hn;refine wpAny_noted (YE hgk has (Qa:=λs'=>∃ m,m<items.length-i/\LpI Y pins P1 α1 fp acc tn (goL o' g t kk) items (envF,dsF) SF m s') (Qd:=R (.ok .next)) (λ_ h=>⟨rfl,h⟩) (λ_ h=>h) ?_);exact dO hc hx T hit hg ht he hacc hfp hne hi st st1 run (λs' σ' H' P' α' o1 env1 S' ds' hlt st' tn' run'=>⟨_,Nat.sub_succ_lt_self _ _ hlt,i+1,σ',H',P',α',o1,env1,S',ds',rfl,hlt,st',tn',run'⟩) hR
set_option tactic.hygienic true in
theorem WK (hx:Y.xe=λ_ _=>CF)(hlast:gens[k+1]? = none)(he:PE Y elt (tD Y fe)):PK Y (λacc=>x5 elt gens scope pos k acc Y.env) (wL fe):=by
 intro pins P1 α1 acc env env' S S' ds ds' s hacc ⟨σ,H,P,α,o,st⟩ run;show Ar _ _ (x5 elt gens scope pos k (.ref acc) Y.env) _ _ s;unfold x5;rw[hlast];dsimp only;unfold wL at run;cases q3:fe env S with
 |bad=>rw[q3] at run;cases run
 |ex c z S'=>rw[q3] at run;cases run
 |ok d5 S5 =>
  rw[q3,Res.bind_ok] at run
  split at run
  .rename_i hlen
   cases run;have fA:=hacc H st.acn;have I1:=_D.Inv.pin1 st.inv fA st.at' st.acc.cell;refine Af (gJ (hx▸M8 he I1 st.rel st.env q3) λu5 s5 ⟨v5,H5,P5,α5,G5⟩=>?_);have J:=_D.Inv.pinned1 G5.inv;have J1:=G5.inv.unpinned;obtain⟨J4,J5⟩:=J;obtain⟨its,n5,vs,ho,rvs,rps,hz⟩:=st.acc;subst ho;have hlen':vs.length=ds.length:=rps.length.symm;have hl2:=rvs.length;refine Af (Iq F.slot_list_append ⟨_,J4,rfl⟩ F.entry_list_append (F.args_list_append_2 _ _) (PySem.list_append acc its.toArray n5 u5 (by rw[AG];rw[<- zL];lia)) ⟨J4,?_⟩)
   have q:=PySem.IsL.update J4 (·.push u5)
   have fA5:=hacc H5 J5;have keep:∀ b o,b≠acc->s5.heap.get? b=Ab o->(s5.heap.update acc (Do (·.push u5))).get? b=Ab o:=λb o hb e=>(A9 s5.heap _ (Cf hb)).trans e
   have I6:=J1.turned (t':=s5.toks) keep J5 fA5.2.1 fA5.2.2.2.1 fA5.2.2.2.2.1 fA5.2.2.2.2.2;refine An ⟨σ,H5,P5,α5,_,I6,G5.rel,G5.env,st.same.trans G5.same,st.pre.trans G5.pre,λb hb=>(by simp at hb),J5,q,?_⟩
   refine⟨its++[u5],_,vs++[v5],by simp <;> rfl,rvs.append (.cons G5.val .nil),?_,by simp;lia⟩
   exact(qE.mono G5.same G5.pre _ _ rps).append (.cons G5.rep .nil)
  .cases run
end
noncomputable def mkM (m:Aq)(r:Res (qH × Aa D)):Res D:=match r with
 |.ok p S2=>if m then .ok (.loc S2.length) (S2++[.lst p.2]) else .ok (.lst p.2) S2
 |_=>.bad
def wJ (m:Aq)(cap:Aa (Ak Ai))(fi:DI2)(g:DG)(t:DT)(k:DK):DE:=λenv S=>(fi env S).bind λp S1=>mkM m (goL p.1 g t k p.2 (wU cap env) S1 [])
section
variable {X:Cx}{elt tg iter:AA}{ifs:Aa AA}{scope:Cg}{pos:CG}{N':Aa Ap}{cap:Aa (Ak Ai)}{fi:DI2}{g:DG}{t:DT}{kk:DK}{rest:Aa Dk}{mm:Aq}
theorem UX {P:Hp}{α:Aa Ad}{r:Res (qH × Aa D)}{Ok:D->Sto->Prop}(h:qJ X P α (mkM mm r) Ok):∃ envF ds SF,r=.ok (envF,ds) SF/\(if mm then Ok (.loc SF.length) (SF++[.lst ds]) else Ok (.lst ds) SF):=by
 cases r with
 |ok p S =>
  obtain⟨envF,ds⟩:=p;refine⟨envF,ds,S,rfl,?_⟩;cases mm <;> exact h
 |ex c x S=>exact Al h
 |bad=>exact Al h
theorem i8 {pins:Aa (Ad × AR)}{σ:_L.St}{P1:Hp}{α1:Aa Ad}{acc:Ad}{s:Ag}{Q:VK}(c:jU X pins σ P1 α1 ds SF acc C s)(ok:if mm then OkV X P1 α1 Q (.loc SF.length) (SF++[.lst ds]) else OkV X P1 α1 Q (.lst ds) SF):EP X pins σ Q (.ref acc) s:=by
 cases mm with
 |false=>exact X9 c ok
 |true =>
  obtain⟨H',P',α',vs,I,r,hn,e1,e2,rp,_⟩:=c;exact⟨.ref acc,_,I,rfl,bC r hn rp λv H2 P2 α2 r2 q1 q2 q3=>ok v H2 P2 α2 r2 (e1.trans q1) (e2.trans q2) q3⟩
theorem rH {M:E6}{A:AB}{E:Ac->Ag->Prop}{s:Ag}{globals:Ad}{closure:Aa (Ap × Ad)}{qual:Ap}{env:El}{Q:El->Ag->Prop}
  (hQ:Q (newEnv scope s.heap.objs.size globals (Dt (s.heap.objs.size+1) scope.names closure) qual none .none (Ab env) Hu) { s with heap:=LI (s.heap.push { cls:=.type "dict",data:=.dict #[] }) scope.names }) :
  Ar M A (Jv scope globals closure [] qual none .none (Ab env)) Q E s:=by
 simp only[Jv,Lj,Ca];refine Af (wpAny_alloc ?_);refine Af (wpAny_layCells _ (λname kind cells=>by cases hkc:kind == Gy <;> simp[hkc]) _ _ _ _ ?_)
 rw[show ({ s with heap:=s.heap.push { cls:=.type "dict",data:=.dict #[] } } : Ag).heap.objs.size=s.heap.objs.size+1 from CM ..]
 refine Af ?_;rw[Gc];exact An (An hQ)
theorem nF {pins:Aa (Ad × AR)}{σ:_L.St}{H2 P1:Hp}{α1:Aa Ad}{s2:Ag}{S1:Sto}{items:Aa D}{it:Ad}{fp:Aa Ad}{tn:Ai->AC->Prop}{J:It}{E:Ac->Ag->Prop}{RR:Ac->Ad->Jd->Ag->Prop}
  (hc:X.calm=true) (S:CompSc X.env.scope X.N scope N' cap) (has:∀ g',(⟨tg,iter,ifs,0⟩::rest:Aa Dk)[0+1]? = Ab g'->g'.is_async=0)
  (hg:∀ cl C ex s₀ H₀,PG (zC X N' scope cl C ex s₀ H₀) tg (tDG (zC X N' scope cl C ex s₀ H₀) g))
  (ht:∀ cl C ex s₀ H₀,PTs (zC X N' scope cl C ex s₀ H₀) ifs t) (he:∀ cl C ex s₀ H₀,PK (zC X N' scope cl C ex s₀ H₀) (λacc=>x5 elt (⟨tg,iter,ifs,0⟩::rest) scope pos 0 acc (zC X N' scope cl C ex s₀ H₀).env) kk)
  (I2:Inv X pins σ H2 s2) (r:Rel X.K H2 P1 α1 S1) (re:qV X.K P1 α1 σ env) (T:Turn X.prog X.w X.K tg J fp it tn) (st0:tn 0 s2.heap) (hf:∀ b∈fp,zT X pins H2 b) (hit:ItD2 X.K J P1 α1 o' items) (run:goL o' g t kk items (wU cap env) S1 [] = .ok (envF,ds) SF)
  (hRR:∀ acc C s',s2.heap.objs.size<=acc->(∃ m,s'.heap.Ns C m)->s2.heap.objs.size<=C->acc≠C->(∀ h',Er C s'.heap h'->jU X pins σ P1 α1 ds SF acc C { s' with heap:=h' }) -> RR (.ref acc) C (.ok .next) s') :
  Ar (As X.prog X.w) X.A (newList []) (λacc s₃=>Ar (As X.prog X.w) X.A (Jv scope X.env.globals (w4 X.env.cells scope.names []) [] X.env.qual none .none (Ab X.env)) (λcenv s₄ =>
   DH (As X.prog X.w) X.A (.compStart (.ListComp elt (⟨tg,iter,ifs,0⟩::rest) scope pos) 0 (.ref it) acc { cenv with scope:=relabel scope X.env }) (RR acc cenv.locals) s₄) E s₃) E s2:=by
 have hlt:∀ b∈fp,b<s2.heap.objs.size:=λb hb=>by
  obtain⟨o,e,_⟩:=T.obj 0 _ st0 b hb;exact Ay e
 refine CI (rH ?_);dsimp only;generalize hH2:s2.heap.push { cls:=.type "list",dict:=none,data:=.seq ([] : Aa Ac).toArray } = Hh;have hsz:Hh.objs.size=s2.heap.objs.size+1:=by rw[<- hH2,CM]
 have hC:s2.heap.objs.size<=Hh.objs.size:=by rw[hsz];exact Fg _
 have hne:s2.heap.objs.size≠Hh.objs.size:=by rw[hsz];exact AX (Nat.lt_succ_self _)
 have kp:∀ b o,Hh.get? b=Ab o->(LI (Hh.push { cls:=.type "dict",data:=.dict #[] }) scope.names).get? b=Ab o:=λb o e=>Mt _ _ b o (Aj _ e);have hns₁:(LI (Hh.push { cls:=.type "dict",data:=.dict #[] }) scope.names).Ns Hh.objs.size (λ_=>none):=(Heap.Ns.new Hh (.type "dict")).keeps (Mt _ _);have co:=cellsFrom_ok scope.names (Hh.push { cls:=.type "dict",data:=.dict #[] }) (Hh.objs.size+1) [] ⟨λ_ _ hm=>(nomatch hm),HW⟩ (by rw[CM];exact Au _)
 rw[CM] at co;generalize hh₁:LI (Hh.push { cls:=.type "dict",data:=.dict #[] }) scope.names=h₁ at kp hns₁ co ⊢;have keep:∀ b o,s2.heap.get? b=Ab o->h₁.get? b=Ab o:=λb o e=>kp b o (hH2▸Aj _ e);have hacc:h₁.get? s2.heap.objs.size=Ab { cls:=.type "list",data:=.seq ([] : Aa Ac).toArray }:=kp _ _ (hH2▸AD _ rfl);have I4:∀ tk,Inv (zC X N' scope (uB X scope Hh.objs.size) Hh.objs.size fp s2 H2) [] (wV cap σ) H2 { s2 with heap:=h₁,toks:=tk }:=λtk =>
  aL (s4:={ s2 with heap:=h₁,toks:=tk }) S I2 hf hlt hC hns₁ rfl rfl keep co
 have loop:∀ tk,DH (As X.prog X.w) X.A (.compLoop (.ListComp elt (⟨tg,iter,ifs,0⟩::rest) scope pos) 0 (.ref it) (.ref s2.heap.objs.size) (compEnvC scope (uB X scope Hh.objs.size) Hh.objs.size X.env)) (RR (.ref s2.heap.objs.size) Hh.objs.size) { s2 with heap:=h₁,toks:=tk }:=λtk=>by
  refine dN (kk:=kk) (o':=o') (Y:=zC X N' scope (uB X scope Hh.objs.size) Hh.objs.size fp s2 H2) (pins:=[]) (fp:=fp) (acc:=s2.heap.objs.size) (P1:=P1) (α1:=α1) (σ:=wV cap σ) (H:=H2) (P:=P1) (α:=α1) (o:={ cls:=.type "list",data:=.seq ([] : Aa Ac).toArray }) hc rfl rfl has T hit
   (hg _ _ _ _ _) (ht _ _ _ _ _) (he _ _ _ _ _) (λH hn=>?_) (λH hn b hb=>?_) (λhm=>Bw _ (hlt _ hm)) ⟨I4 tk,r,c9 re cap,qF.refl _,AF _,λb hb=>(hf b hb).1,I2.hok.fresh (Au _),hacc,⟨[],0,[],rfl,.nil,.nil,Fc _⟩⟩ (T.keep _ _ _ st0 λb hb o e=>keep b o e) run λs' σ' H' P' α' o' st=>?_
  .refine⟨hn,hne,λhm=>?_,.inr (Au _),λx c h z=>?_,λp hp=>absurd (show p∈([]:Aa (Ad × AR)) from hp) (by simp)⟩
   .obtain⟨_,o,ho,_⟩:=I2.stack.mem hm
    exact Bw _ (Ay ho)
   .rcases zR S I2.ok h with⟨m,_⟩|⟨m,_⟩
    .exact Bw _ (Fo hC (z▸(co.empty x c m).2))
    .obtain⟨v,ob,hob,_⟩:=I2.cell x c m
     rw[z] at hob;exact Bw _ (Ay hob)
  .obtain⟨_,h1,h2,h3,h4,h5⟩:=hf b hb
   refine⟨hn b hb,AX (Ax (hlt b hb) hC),λhm=>?_,.inl hb,λx c h=>(by
    rcases zR S I2.ok h with⟨m,_⟩|⟨m,_⟩
    .exact Cf (AX (EH (Ax (hlt b hb) hC) (co.empty x c m).2))
    .exact h4 x c m),λp hp=>absurd (show p∈([]:Aa (Ad × AR)) from hp) (by simp)⟩
   rcases A8.mp (I2.stkSub b hm) with z|z
   .exact h1 z
   .exact h2 z
  .obtain⟨m,hm,_⟩:=st.inv.loc
   exact hRR _ _ s' (Au _) ⟨m,hm⟩ hC hne λh' sb=>aK I2 hf rfl hC (Au _) hne st sb
 exact codeAny_compStart_list (loop _) (T.self X.A 0 _ _ _ (T.keep _ _ _ st0 λb hb o e=>keep b o e) (loop _))
theorem aU (hc:X.calm=true)(S:CompSc X.env.scope X.N scope N' cap)(hi:PI X tg iter (tDI2 X fi))
  (hg:∀ cl C ex s₀ H₀,PG (zC X N' scope cl C ex s₀ H₀) tg (tDG (zC X N' scope cl C ex s₀ H₀) g))
  (ht:∀ cl C ex s₀ H₀,PTs (zC X N' scope cl C ex s₀ H₀) ifs t) (has:∀ g',(⟨tg,iter,ifs,0⟩::rest:Aa Dk)[0+1]? = Ab g'->g'.is_async=0) (he:∀ cl C ex s₀ H₀,PK (zC X N' scope cl C ex s₀ H₀) (λacc=>x5 elt (⟨tg,iter,ifs,0⟩::rest) scope pos 0 acc (zC X N' scope cl C ex s₀ H₀).env) kk)
  (hs:∀ x,D5 iter X.env x=pure x:=by intro _;rfl):PE X (.ListComp elt (⟨tg,iter,ifs,0⟩::rest) scope pos) (tD X (wJ mm cap fi g t kk)):=by
 intro pins s σ H Q I h;obtain⟨P,α,env,S0,r,re,af⟩:=h;rw[eval_ListComp];have af':qJ X P α ((fi env S0).bind λp S1=>mkM mm (goL p.1 g t kk p.2 (wU cap env) S1 [])) (OkV X P α Q):=af;refine wpAny_comprehension_free (use:=none) rfl hs (ZL S I.ok) S.kind S.names ?_;refine thn (hi pins s σ H (λJ H1=>∃ (P1:Hp) (α1:Aa Ad) (p:Ak (Ai × MO) × Aa _D.D) (S1:Sto),Rel X.K H1 P1 α1 S1/\qF P P1/\α<+:α1/\ItD2 X.K J P1 α1 p.1 p.2/\qJ X P α (mkM mm (goL p.1 g t kk p.2 (wU cap env) S1 [])) (OkV X P α Q)) I ⟨P,α,env,S0,r,re,?_⟩) λxv s1 h1=>thn h1 λitv s2 h2=>?_
 .cases q:fi env S0 with
  |bad=>rw[q] at af';exact af'
  |ex c x S'=>rw[q] at af';exact af'
  |ok p S1=>rw[q] at af';exact λJ H1 P1 α1 r1 e1 e2 it=>⟨P1,α1,p,S1,r1,e1,e2,it,af'⟩
 obtain⟨it,fp,tn,J,H2,rfl,I2,T,st0,hf,P1,α1,p,S1,r1,e1,e2,hit,af1⟩:=h2;obtain⟨envF,ds,SF,run,ok⟩:=UX af1;refine nF (RR:=λacc C=>compPost (As X.prog X.w) X.A X.xe none (EP X pins σ Q) acc C) hc S has hg ht he I2 r1 (re.mono e1 e2) T st0 hf hit run ?_;intro acc C s' hA ⟨m,hm⟩ hC hne fin;refine⟨m,hm,λh' sb=>i8 (mm:=mm) (fin h' sb) ?_⟩;cases mm with
 |false=>exact λv H3 P3 α3 r3 q1 q2 q3=>ok v H3 P3 α3 r3 (e1.trans q1) (e2.trans q2) q3
 |true=>exact λv H3 P3 α3 r3 q1 q2 q3=>ok v H3 P3 α3 r3 (e1.trans q1) (e2.trans q2) q3
end
section
variable {X:Cx}
noncomputable def uO:Aa D->Ak (Aa Am)
 |[]=>Ab []
 |.int i::r=>(uO r).map (i::·)
 |_::_=>none
theorem rT (ns:Aa Am):uO (ns.map D.int)=Ab ns:=by
 induction ns with
 |nil=>rfl
 |cons n r ih=>exact congrArg (Option.map (n::·)) ih
theorem t8:∀ {ds:Aa D} {ns:Aa Am},uO ds=Ab ns->ds=ns.map D.int
 |[],ns,h=>by cases h;rfl
 |d::r,ns,h=>by
  cases d with
  |int i =>
   obtain⟨m,h1,rfl⟩:=E0.mp (show (uO r).map (i::·)=Ab ns from h)
   rw[t8 h1];rfl
  |_=>exact nn h
theorem bY {K:Ah}{P:Hp}{α:Aa Ad}:∀ {ns:Aa Am} {vs:Aa V},qE K P α (ns.map D.int) vs->vs=ns.map V.int
 |[],vs,r=>by rw[r.nil_inv];rfl
 |n::ns,vs,r=>by
  obtain⟨w,ws,rfl,p,t⟩:=r.cons_inv;simp only[Rep] at p;rw[p,bY t];rfl
end
section
variable {K:Ah}{H P:Hp}{α : Aa Ad}{S:Sto}
theorem Rel.still {a:Ad}{n:Ai}{m:MO}{o:HO}(r:Rel K H P α S)(ha:α[n]? = Ab a)(hs:S[n]? = Ab m)(hd:m≠.dead):Rel K (upd H a o) (upd P a o) α (S.set n .dead)/\qF P (upd P a o):=by
 have hP:=r.sep n a m ha hs hd;have sP:qF P (upd P a o):=j9 hP;have r1:=r.put (o:=o) (m':=.dead) ha hs hd trivial;have hn:n<S.length:=(AE.mp hs).1;refine⟨⟨r1.tb.keep (λ_ _ q _=>q) λb u q _ p n=>⟨(qG λ(z:b=a)=>n (by rw[z];exact Cj ha)).trans p,n⟩,λb u e=>?_,r1.len,r1.nd,λi b u q1 q2 q3=>?_,λi b u q1 q2=>(r1.at' i b u q1 q2).mono sP (AF _),r1.own⟩,sP⟩
 .by_cases hb:b=a
  .subst hb;rw[qS] at e ⊢;exact e
  .rw[qG hb] at e ⊢;exact r.sub _ _ e
 .have hb:b≠a:=by
   rintro rfl;have:=fE r.nd q1 ha;subst this;rw[By hn] at q2;cases q2;exact q3 rfl
  rw[qG hb];exact r1.sep i b u q1 q2 q3
end
noncomputable def MX (f:DE):DI:=λenv S=>(f env S).bind λd S1=>match d with
 |.loc n=>match S1[n]? with
  |some (.dct kvs)=>.ok (kvs.map (·.2)) (S1.set n .dead)
  |_=>.bad
 |_=>.bad
theorem lC {K:Ah}{P:Hp}{α:Aa Ad}:∀ {kvs:Aa (Key × D)} {vs:Aa (Key × V)},KVs K P α kvs vs->qE K P α (kvs.map (·.2)) (vs.map (·.2))
 |_,_,.nil=>.nil
 |_,_,.cons z t=>.cons z.2 (lC t)
section
variable {X:Cx}{tg o:AA}{fo:DE}{apos cpos:CG}
theorem GJ {S:Sto}{n:Ai}{kvs:Aa (Key × D)}(h:S[n]? = Ab (.dct kvs)):tyD (.loc n) S=Ab "dict":=by
 show (match S[n]? with|some (.lst _)=>Ab "list" | some (.dct _)=>Ab "dict" | _=>none)=_
 rw[h]
end
section
variable {X:Cx}
def gU:G2:=λa b S=>match a,b with
 |.lst xs,.int k=>if 0<=k/\k<2 ^ 62/\xs.length*k.toNat<=lim then .ok (.lst (Bf k.toNat xs).flatten) S else .bad
 |_,_=>zQ a b S
theorem tU {K:Ah}{P:Hp}{α:Aa Ad}(r:qE K P α ds vs):∀ k:Ai,qE K P α (Bf k ds).flatten (Bf k vs).flatten
 |0=>by simpa using qE.nil
 |k+1=>by
  rw[Dp,Dp,Ed,Ed];exact r.append (tU r k)
inductive MulV (a b:D)(S:Sto):Prop
 |old (e:gU a b S=zQ a b S)
 |of (xs:Aa D) (k:Am) (ea:a=.lst xs) (eb:b=.int k)
theorem M5 (a b:D)(S:Sto):MulV a b S:=by
 cases a with
 |lst xs=>cases b with
  |int k=>exact .of xs k rfl rfl
  |_=>exact .old rfl
 |_=>exact .old rfl
theorem WB:OpD X (Co .Mult) gU:=by
 intro pins σ H s P α S v u vv uu a b Q I r rv ru pa pb af;cases M5 a b S with
 |old e =>
  rw[e] at af;exact lN pins σ H s P α S v u vv uu a b Q I r rv ru pa pb af
 |of xs k ea eb =>
  subst ea eb;obtain⟨hk,af⟩:=xY (X:=X) af;obtain⟨h1,h2,hz⟩:=hk;obtain⟨l,vs,its,n,rfl,q1,t1,rv1,e,l1,_⟩:=yX I r pa;cases (show vv=AL l from rv)
  have:=xA pb;subst this;obtain⟨t,rfl⟩:=ru;have hl:its.length=vs.length:=rv1.length.symm;have hlen:its.toArray.size*k.toNat<=sizeLine:=by rw[AG,<- l1,<- zL];exact hz
  have hcap:¬ its.toArray.size*k.toNat>(2 ^ 63-1)/8:=by
   have:(sizeLine:Ai)<=(2 ^ 63-1)/8:=by decide
   omega
  have hfit:¬ (!Builtin.List.listFitsIndex k)=true:=by
   rw[fitsIndex_both om om];exact Dy
  have hlong:¬ Fl (its.toArray.size*k.toNat)=true:=by
   rw[oD hlen];exact Dy
  have hnew:Nb (λx1 x2=>x1++x2) #[] (Bf (if its.toArray.isEmpty=true then 0 else k.toNat) its.toArray)=(Bf k.toNat its).flatten.toArray:=by
   have f0:∀ m:Ai,Nb (λx1 x2=>x1++x2) #[] (Bf m its.toArray)=(Bf m its).flatten.toArray:=λm=>by
    have:=bX its m [];rw[Fh] at this;exact this
   rw[f0];cases its with
   |nil=>simp
   |cons a r'=>rw[Aw (by simp)]
  refine wpAny_binaryOp_repeat_ref (T:="list") (U:="int") (by decide) ⟨_,e,rfl⟩ (λs'=>Na s' k t) noFill_list_mul F.fills_int_mul Mu repeat_list F.slot_int_index.lookup
   (Iq Mu (Na s k t) F.entry_int_rmul (F.args_int_rmul_2 _ _) (int___rmul___int_list k t l its.toArray n)
    ⟨e,rfl,⟨_,e,rfl⟩,Iq F.slot_list_mul ⟨_,e,rfl⟩ F.entry_list_mul (F.args_list_mul_2 _ _) (AutoListH.list___mul___list_int_3 l its.toArray n k t hfit hcap hlong) ⟨e,?_⟩⟩)
  rw[hnew];exact tF I r (tU t1 k.toNat) (rv1.rep k.toNat) (by rw[W1,Nat.mul_comm];exact hz) af
def Q7 (X:Cx)(cm:Aq)(k:Ai)(f:Ad)(p:Ai × DF):Prop:=∃ fd ps,Ci X.K (.ref f)=true/\yK X.K fd ps [] /\ FnX X.prog X.w X.K X.mg X.base cm k f fd ps (spD X.K p.1 p.2)
inductive TabL (X:Cx)(cm:Aq)(k:Ai):Aa AA->Aa (Ai × DF)->Prop
 |nil:TabL X cm k [] []
 |cons {x:Ap} {p:CG} {n:Ai} {F:DF} {es:Aa AA} {Fs:Aa (Ai × DF)}:Def X.prog X.w X.K X.mg X.base cm k x n F->Gl X x->(x == ("__debug__" : Ap))=false->TabL X cm k es Fs->TabL X cm k (.Name x p::es) ((n,F)::Fs)
noncomputable def flA:Aa Ad->DA
 |[]=>qC
 |f::fs=>qA (dC (.obj f)) (flA fs)
theorem U8 (fs:Aa Ad)(env:qH)(S:Sto):flA fs env S=.ok (fs.map D.obj) S:=by
 induction fs with
 |nil=>rfl
 |cons f fs ih=>simp[flA,qA,dC,Res.bind,ih]
theorem GD {cm:Aq}{k:Ai}{es:Aa AA}(h:TabL X cm k es Fs):∃ fs,PA X es (tDA X (flA fs))/\fs.length=Fs.length/\∀ (i:Ai) (p:Ai × DF),Fs[i]? = Ab p->∃ f,fs[i]? = Ab f/\Q7 X cm k f p:=by
 induction h with
 |nil=>exact⟨[],r9,rfl,λi p e=>by simp at e⟩
 |@cons x p n F es Fs G hg hd _ ih =>
  obtain⟨fs,h1,h2,h3⟩:=ih;obtain⟨f,fd,ps,hn,hm,kp,hb,hl,G⟩:=G;refine⟨f::fs,nW (rD hg hm kp hd) h1,by simp[h2],λi q e=>?_⟩
  cases i with
  |zero =>
   simp at e;subst e;exact⟨f,rfl,fd,ps,kp,hb,G⟩
  |succ i =>
   obtain⟨f',e1,e2⟩:=h3 i q (by simpa using e)
   exact⟨f',by simpa using e1,e2⟩
noncomputable def kX (Fs:Aa (Ai × DF))(fi:DE)(fa:DA):DE:=λenv S=>(fi env S).bind λd S1=>match d with
 |.int k=>match atI Fs k with
  |some p=>(fa env S1).bind λds S2=>if ds.length=p.1 then p.2 ds S2 else .bad
  |none=>.bad
 |_=>.bad
inductive TabR (X:Cx)(cm:Aq)(k:Ai)(P:Hp)(α : Aa Ad)(Q:VK)(fa:DA)(env:qH)(v:V)(H1:Hp):Prop
 |mk (P1:Hp) (α1:Aa Ad) (S1:Sto) (f:Ad) (p:Ai × DF) (r:Rel X.K H1 P1 α1 S1) (e1:qF P P1) (e2:α<+:α1) (hv:v=.ref f) (g:Q7 X cm k f p) (af:qJ X P α ((fa env S1).bind λds S2=>if ds.length=p.1 then p.2 ds S2 else .bad) (OkV X P α Q)):TabR X cm k P α Q fa env v H1
theorem VM {cm:Aq}{k:Ai}{es:Aa AA}{ie e:AA}{rest:Aa AA}{lp sp pos:CG}{fi:DE}{fa:DA}(T:TabL X cm k es Fs)(hr:RoomC cm k X.A)(hF:Fn1 X)(hl:Fs.length<=lim)(hi:PE X ie (tD X fi))(ha:PA X (e::rest) (tDA X fa))(hs:yO ie:=by intro _ _;rfl)
  (he:A3 (e::rest) X.env=(false,eval e X.env)::A3 rest X.env:=by rfl) (hpl:(Dm pos (A3 rest X.env)).any (·.1)=false:=by rfl):PE X (.Call (.Subscript (.List es lp) ie sp) (e::rest) [] pos) (tD X (kX Fs fi fa)):=by
 obtain⟨fs,hpa,hfl,hgood⟩:=GD T;have key:PE X (.Subscript (.List es lp) ie sp) (tD X (d2 gIx (zS (flA fs)) fi)):=QD UH (rE hpa) hi hs;intro pins s σ H Q I h;obtain⟨P,α,env,S,r,re,af⟩:=h;refine Call_ (thn (key pins s σ H (TabR X cm k P α Q fa env) I ⟨P,α,env,S,r,re,?_⟩) λvv s1 ⟨v,H1,I1,rv,P1,α1,S1,f,p,r1,e1,e2,hv,⟨fd,ps,kp,hb,G⟩,af1⟩=>?_)
 .have hll:(fs.map D.obj).length<=lim:=by rw[AW,hfl];exact hl
  have ev:d2 gIx (zS (flA fs)) fi env S=(fi env S).bind λy S2=>gIx (.lst (fs.map D.obj)) y S2:=by
   simp only[d2,zS,U8,Res.bind,hll,Ca]
  rw[ev];unfold kX at af;cases q:fi env S with
  |bad=>rw[q] at af;exact af
  |ex c x S'=>rw[q] at af;exact af
  |ok d S1 =>
   rw[q] at af;simp only[Res.bind] at af ⊢;cases d with
   |int kk =>
    simp only at af;cases hp:atI Fs kk with
    |none=>rw[hp] at af;exact Al af
    |some p =>
     rw[hp] at af;unfold atI at hp;cases hj:ixN Fs.length kk with
     |none=>rw[hj] at hp;cases hp
     |some j =>
      rw[hj] at hp;obtain⟨f,ef,gf⟩:=hgood j p hp;have ea:atI (fs.map D.obj) kk=Ab (.obj f):=by
       unfold atI;rw[AW,hfl,hj];simp[ef]
      simp only[gIx,ea,yG];intro v H' P' α' r' e1 e2 rp;simp only[Rep] at rp;exact⟨P',α',S1,f,p,r',e1,e2,rp.1,gf,af⟩
   |_=>exact Al af
 .subst hv
  cases (show vv=AL f from rv)
  refine Ll (h₀:=X.base) I.ok.mod.kin kp (thn (xD ha I1 r1 (re.mono e1 e2) (qJ.base' e1 e2 (λd S ok v H' P' α' r' q1 q2 q3=>ok v H' P' α' r' (e1.trans q1) (e2.trans q2) q3) af1) pos) λus s2 ⟨vs,H2,P2,α2,ds,S2,I2,rv2,r2,re2,rp,e3,e4,af2⟩=>⟨I2.kIn,?_⟩) he hpl;have af3:qJ X P1 α1 (if ds.length=p.1 then p.2 ds S2 else .bad) (OkV X P1 α1 Q):=af2
  by_cases hn:ds.length=p.1
  .rw[A0 hn] at af3
   exact lU G hr hb hF I2 r2 rv2 rp hn (qR.base e3 e4 af3)
  .rw[Aw hn] at af3;exact Al af3
variable {e:AA}{fa:DE}{p1 p2 pos1 pos2:CG}
end
structure QI2 (X:Cx)(tg it:AA)(f:DI2):Prop where
 get:PI X tg it (tDI2 X f)
structure QK (Y:Cx)(step:Ac->EZ H8)(k:DK):Prop where
 get:PK Y step k
structure ZTab (X:Cx)(cm:Aq)(k:Ai)(es:Aa AA)(Fs:Aa (Ai × DF)):Prop where
 get:TabL X cm k es Fs
section
variable {X Y:Cx}{tg it e o elt iter ie:AA}{es ifs rest:Aa AA}{fa fo fe fi:DE}{fA:DA}{fI:DI}{f2:DI2}{g:DG}{t:DT}{kk:DK}{p pos:CG}{n k:Ai}{x:Ap}{cm:Aq}{F:DF}{f:DS}{gens grest:Aa Dk}{scope:Cg}{N':Aa Ap}{cap:Aa (Ak Ai)}{mm:Aq}
theorem KO (h:QI X tg it fI):QI2 X tg it (uV fI):=⟨X1 h.1⟩
theorem Y1 (hx:Y.xe=λ_ _=>CF)(hlast:gens[k+1]? = none)(he:QE Y elt fe):QK Y (λacc=>x5 elt gens scope pos k acc Y.env) (wL fe):=⟨WK hx hlast he.1⟩
theorem oP (hc:X.calm=true)(S:CompSc X.env.scope X.N scope N' cap)(hi:QI2 X tg iter f2)(hg:∀ cl C ex s₀ H₀,QG (zC X N' scope cl C ex s₀ H₀) tg g)(ht:∀ cl C ex s₀ H₀,QTs (zC X N' scope cl C ex s₀ H₀) ifs t)
  (has:∀ g',(⟨tg,iter,ifs,0⟩::grest:Aa Dk)[0+1]? = Ab g'->g'.is_async=0)
  (he:∀ cl C ex s₀ H₀,QK (zC X N' scope cl C ex s₀ H₀) (λacc=>x5 elt (⟨tg,iter,ifs,0⟩::grest) scope pos 0 acc (zC X N' scope cl C ex s₀ H₀).env) kk) (hs:∀ x,D5 iter X.env x=pure x) :
  QE X (.ListComp elt (⟨tg,iter,ifs,0⟩::grest) scope pos) (wJ mm cap f2 g t kk):=
 ⟨aU hc S hi.1 (λcl C ex s H=>(hg cl C ex s H).1) (λcl C ex s H=>(ht cl C ex s H).1) has (λcl C ex s H=>(he cl C ex s H).1) hs⟩
theorem Q5:ZTab X cm k [] []:=⟨.nil⟩
theorem cW (G:Def X.prog X.w X.K X.mg X.base cm k x n F)(hg:Gl X x)(hd:(x == ("__debug__" : Ap))=false)(h:ZTab X cm k es Fs):ZTab X cm k (.Name x p::es) ((n,F)::Fs):=⟨.cons G hg hd h.1⟩
theorem KJ {lp sp:CG}(T:ZTab X cm k es Fs)(hr:RoomC cm k X.A)(hF:Fn1 X)(hl:Fs.length<=lim)(hi:QE X ie fi)(ha:QA X (e::rest) fA)(hs:yO ie:=by intro _ _;rfl)
  (he:A3 (e::rest) X.env=(false,eval e X.env)::A3 rest X.env:=by rfl) (hpl:(Dm pos (A3 rest X.env)).any (·.1)=false:=by rfl):QE X (.Call (.Subscript (.List es lp) ie sp) (e::rest) [] pos) (kX Fs fi fA):=⟨VM T.1 hr hF hl hi.1 ha.1 hs he hpl⟩
theorem GT:ZOp X (Co .Mult) gU:=⟨WB⟩
end
section
variable {K:Ah}{H P:Hp}{α : Aa Ad}{S:Sto}
theorem lD:∀ {kvs:Aa (Key × D)} {vs:Aa (Key × V)},KVs K P α kvs vs->(kvs.map (·.1)).zip (vs.map (·.2))=vs/\(kvs.map (·.1)).length=(vs.map (·.2)).length
 |_,_,.nil=>⟨rfl,rfl⟩
 |_,_,.cons (a:=a) (b:=b) z t=>by
  obtain⟨h1,h2⟩:=lD t;refine⟨?_,by simpa using h2⟩
  simp only[AQ,Ex,h1];rw[z.1]
theorem d7:∀ {ks:Aa Key} {ds:Aa D} {vs:Aa V},ks.length=vs.length->qE K P α ds vs->KVs K P α (ks.zip ds) (ks.zip vs)
 |[],_,_,_,_=>by simp only[List.zip_nil_left];exact .nil
 |k::ks,[],vs,hl,t=>by rw[t.nil_inv] at hl;simp at hl
 |k::ks,d::ds,vs,hl,t=>by
  obtain⟨w,ws,rfl,r1,r2⟩:=t.cons_inv;exact .cons ⟨rfl,r1⟩ (d7 (by simpa using hl) r2)
end
noncomputable def aP (f:DE):DE:=λenv S=>(f env S).bind λd S1=>match d with
 |.loc n=>match S1[n]? with
  |some (.dct kvs)=>.ok (.fd (kvs.map (·.1)) (kvs.map (·.2))) (S1.set n .dead)
  |_=>.bad
 |_=>.bad
section
variable {X:Cx}{e:AA}{f:DE}
set_option tactic.hygienic true in
theorem VF (he:PE X e (tD X f)):PE X e (tD X (aP f)):=by
 intro pins s σ H Q I h;obtain⟨P,α,env,S,r,re,af⟩:=h;refine thn (zI he I r re af) λvv s1 ⟨v,H1,P1,α1,d,S1,G1,af1⟩=>?_;cases d with
 |loc n =>
  simp only at af1
  split at af1
  .rename_i kvs hS
   have rp:=G1.rep;have I1:=G1.inv;have r1:=G1.rel;simp only[Rep] at rp;obtain⟨a,rfl,ha⟩:=rp;obtain⟨vs,z,t⟩:=r1.at' n a _ ha hS;obtain⟨hz,hd,us,rel,dd⟩:=gR I1.hok z;obtain⟨ep,oa,es,hoa,rest⟩:=dd.dictAt;obtain⟨r2,e2⟩:=r1.still (o:=.frz oa (.dK vs)) ha hS (by intro q;cases q)
   have I2:Inv X pins σ (upd H1 a (.frz oa (.dK vs))) { s1 with heap:=s1.heap,toks:=s1.toks }:=I1.write (x:=a) (e:=a) (by rw[z];exact DX) (.inl rfl) (λb q hb e=>e) ⟨oa,hoa⟩ ⟨hoa,hz,hd,us,rel,dd⟩
   obtain⟨z1,z2⟩:=lD t;refine⟨.ref a,_,I2,G1.val,af1 _ _ _ α1 r2 (G1.same.trans e2) G1.pre ?_⟩;simp only[Rep];exact⟨a,oa,vs.map (·.2),rfl,by rw[z1];exact qS,z2,qE.mono e2 (AF _) _ _ (lC t)⟩
  .exact Al af1
 |_=>exact Al af1
end
noncomputable def y8:G2:=λa b S=>match a with
 |.fd ks ds=>match xN b with
  |some k=>match zN (ks.zip ds) k with
   |some d=>.ok d S
   |none=>.bad
  |none=>.bad
 |_=>.bad
section
variable {X:Cx}
theorem cO {K:Ah}{P:Hp}{α:Aa Ad}{k:Key}{d:D}:∀ {kvs:Aa (Key × D)} {vs:Aa (Key × V)},KVs K P α kvs vs->zN kvs k=Ab d->∃ v,xK vs k=Ab v/\Rep K P α d v
 |_,_,.nil,h=>by simp[zN] at h
 |_,_,.cons (a:=a) (b:=b) (l₁:=as) (l₂:=bs) z t,h=>by
  by_cases hk:a.1=k
  .have h1:zN (a::as) k=Ab a.2:=by simp[zN,hk]
   rw[h1] at h;cases h;have hb:b.1=k:=z.1▸hk;exact⟨b.2,by simp[xK,hb],z.2⟩
  .have h1:zN (a::as) k=zN as k:=by simp[zN,hk]
   rw[h1] at h;obtain⟨v,e1,e2⟩:=cO t h;have hb:¬ b.1=k:=λe=>hk (z.1▸e);exact⟨v,by rw[<- e1];simp[xK,hb],e2⟩
set_option tactic.hygienic true in
theorem ZR {o i:AA}{fo fi:DE}{pos:CG}(hu:X.A.units+1<CZ)(ho:PE X o (tD X fo))(hi:PE X i (tD X fi))(hs:aA i:=by intro _ _;rfl):PE X (.Subscript o i pos) (tD X (d2 y8 fo fi)):=by
 intro pins s σ H Q I h;obtain⟨P,α,env,S,r,re,af⟩:=h;refine YB PySem.F.slot_dict_getitem.lookup hs (thn (zI ho I r re af) λvv s1 ⟨v,H1,P1,α1,a,S1,G1,af1⟩=>?_);refine thn (zI hi G1.inv G1.rel G1.env (P:=P1) (α:=α1) (Ok:=OkV X P1 α1 Q) (g:=λy S2=>y8 a y S2) (qR.base G1.same G1.pre af1)) λuu s2 ⟨u,H2,P2,α2,b,S2,G2,af2⟩=>?_;have pa:=Rep.mono G2.same G2.pre _ _ G1.rep;have pb:=G2.rep;have I2:=G2.inv;have r2:=G2.rel;have af3:=qR.base G2.same G2.pre af2;unfold y8 at af3
 split at af3
 .rename_i ks ds
  split at af3
  .rename_i k hk
   split at af3
   .rename_i d hd
    simp only[Rep] at pa;obtain⟨p,ob,vs,rfl,q,hl,t⟩:=pa;have ei:=gZ hk pb;subst ei;cases (show vv=AL p from G1.val)
    obtain⟨w,h1,h2⟩:=cO (d7 hl t) hd;have g:u9 H2 p (kV k) (Ab w):=.inl ⟨_,k,.inr ⟨ob,r2.sub _ _ q⟩,rfl,h1.symm⟩;exact⟨nH I2 g,r6 hu I2 g G2.val λw' s3 I3 rw'=>⟨w,H2,I3,rw',xr af3 r2 h2⟩⟩
   .exact Al af3
  .exact Al af3
 .exact Al af3
end
noncomputable def xC (H:Hp):Aa (Ad × HO)->Hp
 |[]=>H
 |p::ps=>xC (upd H p.1 p.2) ps
theorem kI {b:Ad}:∀ {L:Aa (Ad × HO)} {H:Hp},b ∉ L.map (·.1)->xC H L b=H b
 |[],_,_=>rfl
 |p::ps,H,h=>by
  simp only[AQ,A8,Nr] at h;show xC (upd H p.1 p.2) ps b=H b;rw[kI h.2,qG h.1]
theorem n9 {a:Ad}{o:HO}:∀ {L:Aa (Ad × HO)} {H:Hp},(L.map (·.1)).Nodup->(a,o)∈L->xC H L a=Ab o
 |p::ps,H,nd,h=>by
  simp only[AQ,CO] at nd;show xC (upd H p.1 p.2) ps a=Ab o;rcases A8.mp h with rfl|h
  .rw[kI nd.1,qS]
  .exact n9 nd.2 h
theorem n8 {b:Ad}{u:HO}:∀ {L:Aa (Ad × HO)} {H:Hp},xC H L b=Ab u->(b,u)∈L\/H b=Ab u
 |[],_,h=>.inr h
 |p::ps,H,h=>by
  rcases n8 (L:=ps) (H:=upd H p.1 p.2) h with h|h
  .exact .inl (AS _ h)
  .by_cases hb:b=p.1
   .subst hb
    rw[qS] at h;cases h;exact .inl (Cz ..)
   .rw[qG hb] at h
    exact .inr h
section
variable {K:Ah}
theorem Rel.pureL {α:Aa Ad}{S:Sto}:∀ {L:Aa (Ad × HO)} {H P:Hp},(∀ p∈L,H p.1=none)->(L.map (·.1)).Nodup->Rel K H P α S->Rel K (xC H L) (xC P L) α S/\qF P (xC P L)
 |[],_,_,_,_,r=>⟨r,qF.refl _⟩
 |p::ps,H,P,hn,nd,r=>by
  simp only[AQ,CO] at nd;obtain⟨r1,e1⟩:=r.pure (o:=p.2) (hn p (Cz ..));obtain⟨r2,e2⟩:=Rel.pureL (L:=ps) (λq hq=>by
   have:q.1≠p.1:=λe=>nd.1 (e▸AZ.mpr ⟨q,hq,rfl⟩);rw[qG this];exact hn q (AS _ hq)) nd.2 r1
  exact⟨r2,e1.trans e2⟩
end
section
variable {X:Cx}{pins:Aa (Ad × AR)}{σ : _L.St}{H:Hp}{s:Ag}
theorem Inv.laidL {L:Aa (Ad × HO)}{t':Ai}(I:Inv X pins σ H s)(k:∀ b u,s.heap.get? b=Ab u->h'.get? b=Ab u)(hp:∀ p∈L,s.heap.objs.size<=p.1)(new:∀ p∈L,z9 X.prog X.w (xC H L) h' p.1 p.2) :
  Inv X pins σ (xC H L) { s with heap:=h',toks:=t' }:=by
 have old:∀ b u,H b=Ab u->xC H L b=Ab u:=λb u e=>by
  rw[kI (L:=L)]
  .exact e
  .intro hb
   obtain⟨p,hp',rfl⟩:=AZ.mp hb;rw[I.hok.fresh (hp p hp')] at e;cases e
 have low:∀ b,b<s.heap.objs.size->xC H L b=H b:=λb hb=>kI λhm=>by
  obtain⟨p,hp',rfl⟩:=AZ.mp hm;exact absurd (Ax hb (hp p hp')) (Bw _)
 refine I.un ⟨λb u q _ _ _=>k b u q,λb u q _ _ _=>⟨u.slots,k b u q⟩,λb u q n _=>by rw[low b (Ay q)];exact n,λb u q _=>⟨u,k b u q⟩,λb xs q=>old b _ q,λb o xs q=>old b _ q,λb ps q=>⟨#[],by rw[old b _ q];simp⟩⟩ λb u e=>?_
 rcases n8 e with hm|hb
 .exact new (b,u) hm
 .exact(I.hok b u hb).stay (λc v _ q=>k c v q) (λc q=>old c _ q) λc xs q=>old c _ q
end
noncomputable def kD:Key->D
 |.inl i=>.int i
 |.inr x=>.str x
theorem rV {K:Ah}{P:Hp}{α:Aa Ad}(k:Key):Rep K P α (kD k) (kV k):=by
 cases k <;> simp only[kD,kV,Rep]
theorem QP {k:Key}{u:Ac}(h:uU k u=true):qI (kV k) u:=by
 rcases zK h with⟨i,t,rfl,rfl⟩|⟨x,t,rfl,rfl⟩
 .exact⟨t,rfl⟩
 .exact⟨t,rfl⟩
theorem sV:CW "list" = Ab (.type "list"):=by decide +kernel
noncomputable def wW (as:Aa Ad)(vs:Aa (Key × V)):Aa (Ad × HO):=NL (λa p=>(a,HO.tup [kV p.1,p.2])) as vs
theorem tZ:∀ (as:Aa Ad) (vs:Aa (Key × V)),as.length=vs.length->(wW as vs).map (·.1)=as
 |[],vs,h=>rfl
 |a::as,vs,h=>by
  cases vs with
  |nil=>exact Mr h
  |cons v vs=>exact congrArg (a::·) (tZ as vs (NF h))
theorem n6:∀ {as:Aa Ad} {vs:Aa (Key × V)} {p:Ad × HO},p∈wW as vs->∃ (j:Ai) (q:Key × V),as[j]? = Ab p.1/\vs[j]? = Ab q/\p.2=HO.tup [kV q.1,q.2]
 |a::as,v::vs,p,h=>by
  rcases A8.mp (show p∈(a,HO.tup [kV v.1,v.2])::wW as vs from h) with rfl|h
  .exact⟨0,v,rfl,rfl,rfl⟩
  .obtain⟨j,q,e1,e2,e3⟩:=n6 h
   exact⟨j+1,q,by simpa using e1,by simpa using e2,e3⟩
theorem fH {K:Ah}{P:Hp}{α:Aa Ad}:∀ {as:Aa Ad} {kvs:Aa (Key × D)} {vs:Aa (Key × V)},KVs K P α kvs vs->as.length=vs.length->(∀ p∈wW as vs,P p.1=Ab p.2)->qE K P α (kvs.map λp=>D.tup [kD p.1,p.2]) (as.map V.ref)
 |[],[],_,.nil,_,_=>.nil
 |a::as,_,_,.cons (a:=x) (b:=y) (l₁:=xs) (l₂:=ys) z t,hl,h=>by
  refine .cons ?_ (fH t (by simpa using hl) λp hp=>h p (AS _ hp))
  have h0:=h (a,HO.tup [kV y.1,y.2]) (Cz ..);simp only[Rep];refine⟨a,[kV y.1,y.2],rfl,.inl (.inl h0),.cons ?_ (.cons z.2 .nil)⟩;rw[z.1];exact rV _
 |[],_::_,_,.cons _ _,hl,_=>by simp at hl
theorem rY {κ:Type}:∀ {vs:Aa (κ × V)} {us:Aa (κ × Ac)},KV vs us->∀ {j:Ai} {q:κ × V},vs[j]? = Ab q->∃ u,us[j]? = Ab (q.1,u)/\qI q.2 u
 |_,_,.nil,j,q,h=>by simp at h
 |_,_,.cons (a:=x) (b:=y) z t,j,q,h=>by
  cases j with
  |zero =>
   simp at h;subst h;exact⟨y.2,by simp;exact Prod.ext z.1.symm rfl,z.2⟩
  |succ j =>
   obtain⟨u,e1,e2⟩:=rY t (j:=j) (q:=q) (by simpa using h)
   exact⟨u,by simpa using e1,e2⟩
theorem cR (as:Aa Ad):qL (as.map V.ref) (as.map AL):=by
 induction as with
 |nil=>exact .nil
 |cons a as ih=>exact .cons rfl ih
noncomputable def Itk (a:Ad)(o:AR)(u:HO)(ks:Aa Key):It:=
 ⟨λi H=>H a=Ab (.frz o u)/\i<ks.length,λi H x H'=>H'=H/\∃ k,ks[i]? = Ab k/\x=kV k,λi H=>H a=Ab (.frz o u)/\ks.length<=i⟩
theorem cK {P:A6}{w:AK}{K:Ah}{tg:AA}{a it:Ad}{o:AR}{u:HO}{us:Aa (Key × Ac)}{ep:Ai}(kv:us.map (·.1)=ks)(at':∀ h:AC,h.get? a=Ab o->h.DictAt (qZ P w) a us ep) :
  Turn P w K tg (Itk a o u ks) [it] it (λi h=>h.IsKeyIter it a i us.length ep) where
 mem:=by simp
 obj:=λi h st b hb=>by
  have e:b=it:=by simpa using hb
  subst e;obtain⟨o,e,c,d⟩:=st;exact⟨o,e,λv z=>by rw[d] at z;cases z⟩
 keep:=λi h h' st k=>st.at λo e=>k it (by simp) o e
 item:=by
  intro X hP hw hK hc i pins s σ H E I hf st hg;subst hP hw hK;obtain⟨hu,hlt⟩:=hg;have ho:s.heap.get? a=Ab o:=(I.hok a _ hu).1;have hl:us.length=ks.length:=by rw[<- kv];simp
  have hlt':i<us.length:=by omega
  have e1:us[i]? = Ab (us[i].1,us[i].2):=Ao hlt';obtain⟨f0,f1,f2,f3,f4,f5⟩:=hf it (by simp)
  refine wpAny_pyNext_dict_item st (at' _ ho) e1 λkey h' hk st' sb=>?_;have I1:Inv X pins σ H { s with heap:=h' }:=I.turned (t':=s.toks) (λb o hb e=>(sb.2 b hb).trans e) f0 f1 f3 f4 f5
  obtain⟨oi,ei,c,d⟩:=id st';exact⟨key,rfl,fU (s:={ s with heap:=h' }) ei c d (by decide) ⟨kV us[i].1,H,I1,QP hk,⟨rfl,us[i].1,by rw[<- kv];simp[hlt'],rfl⟩,st',λb hb=>(hf b hb).1⟩⟩
 done:=by
  intro X hP hw hK hc i pins s σ H E I hf st hg;subst hP hw hK;obtain⟨hu,hle⟩:=hg;have ho:s.heap.get? a=Ab o:=(I.hok a _ hu).1;obtain⟨f0,f1,f2,f3,f4,f5⟩:=hf it (by simp)
  have hl:us.length=ks.length:=by rw[<- kv];simp
  exact wpAny_pyNext_dict_end (I.ok.hd hc) st (at' _ ho) (by simp;omega) λh' eb=>⟨rfl,I.turned (t':=s.toks) (λb o hb e=>eb b o hb e) f0 f1 f3 f4 f5⟩
 self:=λ_ _ _ _ _ st h=>wpAny_pyIter_keyiter st h
noncomputable def jX (f:DE):DI:=λenv S=>(f env S).bind λd S1=>match d with
 |.fd ks ds=>.ok (ks.map kD) S1
 |_=>.bad
theorem iI {K:Ah}{P:Hp}{α:Aa Ad}{a:Ad}{o:AR}{u:HO}(q:P a=Ab (.frz o u)):ItD K (Itk a o u ks) P α (ks.map kD) where
 go:=λi H P1 α1 S hi r e _=>⟨r.sub _ _ (e _ _ q),by simpa using hi⟩
 yld:=λi H x H' P1 α1 S hi r e e2 y=>by
  obtain⟨rfl,k,hk,rfl⟩:=y;exact⟨P1,kD k,by simp[hk],r,qF.refl _,rV k⟩
 stop:=λi H P1 α1 S hi r e _=>⟨r.sub _ _ (e _ _ q),by simpa using hi⟩
section
variable {X:Cx}{tg e:AA}{f:DE}
theorem X0 (ha:PE X e (tD X f)):PI X tg e (tDI X (jX f)):=by
 intro pins s σ H R I h;obtain⟨P,α,env,S,r,re,af⟩:=h;refine thn (zI ha I r re af) λvv s1 ⟨v,H1,P1,α1,d,S1,G1,af1⟩=>?_;cases d with
 |fd ks ds =>
  simp only at af1;have rp:=G1.rep;have I1:=G1.inv;have r1:=G1.rel;simp only[Rep] at rp;obtain⟨a,o,vs,rfl,q,hl,t⟩:=rp;cases (show vv=AL a from G1.val)
  obtain⟨hoa,hz,hd,us,rel,dd⟩:=(show z9 X.prog X.w H1 s1.heap a (.frz o (.dK (ks.zip vs))) from I1.hok a _ (r1.sub _ _ q))
  obtain⟨ep,oa,es,hoa',rest⟩:=dd.dictAt;rw[hoa] at hoa';cases hoa';have at':∀ h:AC,h.get? a=Ab o->h.DictAt (qZ X.prog X.w) a us ep:=λh e=>⟨o,es,e,rest⟩;refine wpAny_pyIter_dict hd (at' _ hoa) ?_;have hks:us.map (·.1)=ks:=by
   rw[<- rel.keys];exact Iu om
  refine⟨s1.heap.objs.size,[s1.heap.objs.size],_,_,H1,rfl,I1.kept (t':=s1.toks) λb u e=>Aj _ e,cK (u:=.dK (ks.zip vs)) hks at',⟨_,AD _ rfl,rfl,rfl⟩,λb hb=>?_,af1 _ _ _ α1 r1 G1.same G1.pre (iI q)⟩;have e:b=s1.heap.objs.size:=by simpa using hb
  subst e;exact I1.fpOk (Au _) (I1.hok.fresh (Au _))
 |_=>exact Al af1
end
section
variable {X:Cx}{tg e o i:AA}{fa fo fi:DE}{p pos apos cpos:CG}{cm:Aq}{k:Ai}
theorem KC (he:QE X e fa):QE X e (aP fa):=⟨VF he.1⟩
theorem WS (hr:RoomC cm k X.A)(ho:QE X o fo)(hi:QE X i fi)(hs:aA i:=by intro _ _;rfl):QE X (.Subscript o i pos) (d2 y8 fo fi):=⟨ZR (hu1 hr) ho.1 hi.1 hs⟩
theorem WZ (ha:QE X e fa):QI X tg e (jX fa):=⟨X0 ha.1⟩
end
end _D
namespace _S
open PySem
open PySem.SetTable (Probe leap runEnd turns bits)
noncomputable def adv (mask:Ai)(p:N8):N8:=if p.more>0 then { p with j:=p.j+1,more:=p.more-1 } else { p with j:=(leap mask p.i p.perturb).1,more:=runEnd mask (leap mask p.i p.perturb).1-(leap mask p.i p.perturb).1,i:=(leap mask p.i p.perturb).1,perturb:=(leap mask p.i p.perturb).2 }
noncomputable def it (mask:Ai):Ai->N8->N8
 |0,p=>p
 |n+1,p=>it mask n (adv mask p)
noncomputable def rs (mask i pert:Ai):N8:={ j:=i,more:=runEnd mask i-i,i,perturb:=pert,dummy:=none }
noncomputable def st (mask:Ai)(h:Am):N8:=rs mask (bits h % (mask+1)) (bits h)
end _S
namespace _S
open PySem
open PySem.SetTable (Probe leap runEnd turns bits)
structure Own (mask:Ai)(owner:A5 (Ak Ai))(us:Aa Ai):Prop where
 size:owner.size=mask+1
 nd:us.Nodup
 le:∀ u∈us,u<=mask
 at':∀ j k,j<=mask->(owner.getD j (Ab 0)=Ab k↔us[k]? = Ab j)
theorem Own.none {mask:Ai}{owner:A5 (Ak Ai)}{us:Aa Ai}(O:Own mask owner us){j:Ai}(hj:j<=mask):(owner.getD j (Ab 0)).isNone=true↔j ∉ us:=by
 constructor
 .intro h hm
  obtain⟨k,hk,e⟩:=Bl.mp hm;have:=(O.at' j k hj).mpr (by rw[Ao hk,e])
  rw[this] at h;cases h
 .intro h
  cases q:owner.getD j (Ab 0) with
  |none=>rfl
  |some k=>exact absurd (Cj ((O.at' j k hj).mp q)) h
end _S
namespace _S
open PySem
open PySem.SetTable (Probe leap runEnd turns bits)
structure Set0 {K:Type}(is:K->Ac->Prop)(hash:K->Am)(es:A5 (Am × Ac))(seen:Aa K):Prop where
 good:∀ e∈es.toList,∃ k,e.1=hash k/\is k e.2
 nd:es.toList.Pairwise λa b=>∀ k,is k a.2->¬ is k b.2
 mem:∀ k,k∈seen↔∃ e∈es.toList,is k e.2
section
variable {K:Type}{is:K->Ac->Prop}{hash:K->Am}{es es':A5 (Am × Ac)}{seen seen':Aa K}
theorem Set0.nil:Set0 is hash #[] []:=⟨λe he=>by simp at he,by simp,λk=>by simp⟩
end
end _S
namespace _S
open PySem
open PySem.SetTable (Probe leap runEnd turns bits)
def Sup (h0 h:AC):Prop:=∀ b o,h0.get? b=Ab o->h.get? b=Ab o
def isT (prog:A6)(w:AK)(h0:AC)(ks:Aa Am)(v:Ac):Prop:=∃ a,v=.ref a/\IsTupleKey (intKind prog w) h0 ks a
section
variable {prog:A6}{w:AK}{h0:AC}
theorem isT.inj {x y:Aa Am}{v:Ac}(hx:isT prog w h0 x v)(hy:isT prog w h0 y v):x=y:=by
 obtain⟨a,rfl,h1⟩:=hx;obtain⟨b,e,h2⟩:=hy;cases e;exact h1.inj h2
variable {A:AB}{E:Ac->Ag->Prop}{s:Ag}
end
end _S
namespace _S
open PySem
open PySem.SetTable (Probe leap runEnd turns bits)
@[reducible] def setO (es:A5 (Am × Ac))(ep:Ai)(t:SetTable):AR:={ cls:=.type "set",dict:=none,data:=.set es ep t }
end _S
namespace _S
open PySem
noncomputable def itO (slot i:Ai)(S:Ad)(n ep:Ai):AR:={ cls:=.type "set_iterator",data:=.fields #[.int slot 0,.int i 0,.ref S,.int n 0,.int ep 0] }
def At (w:AK)(I S:Ad)(es:A5 (Am × Ac))(ep:Ai)(t:SetTable)(i:Ai)(h:AC):Prop:=
 ∃ slot,h.get? I=Ab (itO slot i S es.size ep)/\h.get? S=Ab (setO es ep t)/\(w.params.followText "set-order" = true\/SetTable.below t.place slot=i)
section
variable {prog:A6}{w:AK}{A:AB}{E:Ac->Ag->Prop}{s:Ag}{S I:Ad}{es:A5 (Am × Ac)}{ep:Ai}{t:SetTable}
theorem At.type {i:Ai}(h:At w I S es ep t i s.heap):s.TypeIs (.ref I) "set_iterator":=by
 obtain⟨slot,h,_⟩:=h;exact⟨_,h,rfl⟩
end
end _S
namespace _S
open PySem PySem.W PyProof.Rows
variable {arr m:A5 A7}{n:Ai}
structure Ord {K:Type}(lt:K->K->Aq):Prop where
 irr:∀ a,lt a a=false
 tr:∀ {a b c},lt a b=true->lt b c=true->lt a c=true
 tri:∀ {a b},lt a b=false->a=b\/lt b a=true
theorem lF:∀ a:Aa Am,_H.lexLt a a=false
 |[]=>rfl
 |x::xs=>by rw[_H.lexLt_cons,A0 rfl];exact lF xs
theorem eA:∀ {a b c:Aa Am},_H.lexLt a b=true->_H.lexLt b c=true->_H.lexLt a c=true
 |_,[],[],_,h=>by cases h
 |_,_::_,[],_,h=>by cases h
 |[],_,_::_,_,_=>rfl
 |_::_,[],_::_,h,_=>by cases h
 |x::xs,y::ys,z::zs,h1,h2=>by
  rw[_H.lexLt_cons] at h1 h2 ⊢;by_cases e1:x=y
  .subst e1
   rw[A0 rfl] at h1;by_cases e2:x=z
   .rw[A0 e2] at h2 ⊢;exact eA h1 h2
   .rw[Aw e2] at h2 ⊢;exact h2
  .rw[Aw e1] at h1
   have h1:=AH h1;by_cases e2:y=z
   .subst e2;rw[Aw e1];exact AY h1
   .rw[Aw e2] at h2
    have h2:=AH h2;rw[Aw (by omega)]
    exact AY (by omega)
theorem lG:∀ {a b:Aa Am},_H.lexLt a b=false->a=b\/_H.lexLt b a=true
 |[],[],_=>.inl rfl
 |[],_::_,h=>by cases h
 |_::_,[],_=>.inr rfl
 |x::xs,y::ys,h=>by
  rw[_H.lexLt_cons] at h ⊢;by_cases e:x=y
  .subst e
   rw[A0 rfl] at h ⊢;rcases lG h with h|h
   .exact .inl (by rw[h])
   .exact .inr h
  .rw[Aw e] at h
   have h:=D1 h;rw[Aw (Cf e)];exact .inr (AY (by omega))
theorem yF:Ord _H.lexLt:=⟨lF,eA,lG⟩
theorem bS {α:Type}{p q:α->Aq}:∀ {l:Aa α},(∀ x∈l,p x=true->q x=true)->(∃ x∈l,q x=true/\p x=false)->l.countP p<l.countP q
 |[],_,⟨x,h,_⟩=>by simp at h
 |a::l,h,⟨x,hx,h1,h2⟩=>by
  have le:l.countP p<=l.countP q:=Jj λy hy=>h y (by simp[hy])
  rw[Ma,Ma];rcases A8.mp hx with rfl|hx
  .rw[Aw (by rw[h2];decide),A0 h1];omega
  .have ih:=bS (l:=l) (λy hy=>h y (by simp[hy])) ⟨x,hx,h1,h2⟩
   have:=h a (by simp)
   cases hp:p a with
   |false=>rw[Aw (by decide)];split <;> omega
   |true=>rw[A0 rfl,A0 (this hp)];omega
section
variable {K:Type}{lt':K->K->Aq}
noncomputable def j7 (lt':K->K->Aq)(ks:Aa K)(x:K):Am:=(ks.countP (λk=>lt' k x):Ai)
theorem tR (O:Ord lt'){ks:Aa K}{x y:K}(hx:x∈ks):lt' x y=decide (j7 lt' ks x<j7 lt' ks y):=by
 unfold j7;cases h:lt' x y with
 |true =>
  refine(AY ?_).symm;have:=bS (l:=ks) (p:=λk=>lt' k x) (q:=λk=>lt' k y) (λz _ hz=>O.tr hz h) ⟨x,hx,h,O.irr x⟩;omega
 |false =>
  refine(AT ?_).symm;have:ks.countP (λk=>lt' k y)<=ks.countP (λk=>lt' k x):=by
   rcases O.tri h with e|h'
   .rw[e];exact Au _
   .exact Jj λz _ hz=>O.tr hz h'
  omega
noncomputable def mF (lt':K->K->Aq)(ks:Aa K)(d:K)(i j:Ai):Aq:=lt' (ks.getD i d) (ks.getD j d)
def Nf (lt':K->K->Aq)(l:Aa K):Prop:=l.Pairwise λa b=>lt' b a=false
theorem kE (O:Ord lt'):∀ {a b:Aa K},Nf lt' a->Nf lt' b->a.Perm b->a=b
 |[],b,_,_,p=>(List.nil_perm.mp p).symm
 |x::a,b,ha,hb,p=>by
  cases b with
  |nil=>exact absurd p.symm (by simp)
  |cons y b =>
   unfold Nf at ha hb;rw[List.pairwise_cons] at ha hb;have e:x=y:=by
    rcases A8.mp (p.mem_iff.mp (.head _)) with e|e
    .exact e
    .rcases A8.mp (p.mem_iff.mpr (.head _)) with e'|e'
     .exact e'.symm
     .have h1:=ha.1 y e'
      have h2:=hb.1 x e;rcases O.tri h1 with e|h
      .exact e.symm
      .rw[h2] at h;cases h
   subst e;rw[kE O ha.2 hb.2 (List.Perm.cons_inv p)]
noncomputable def sH (lt':K->K->Aq)(l:Aa K):Aa K:=l.mergeSort λa b=>!lt' b a
theorem vK (l:Aa K):(sH lt' l).Perm l:=Kw _ _
theorem bI (O:Ord lt')(l:Aa K):Nf lt' (sH lt' l):=by
 have:=Fx (le:=λa b=>!lt' b a) (λa b c h1 h2=>?_) (λa b=>?_) l
 .exact this.imp λh=>by simpa using h
 .have h1:lt' b a=false:=by simpa using h1
  have h2:lt' c b=false:=by simpa using h2
  cases h3:lt' c a with
  |false=>rfl
  |true =>
   rcases O.tri h1 with e|h
   .rw[<- e] at h3;rw[h3] at h2;cases h2
   .have:=O.tr h3 h;rw[h2] at this;cases this
 .cases h:lt' b a with
  |false=>rfl
  |true =>
   cases h':lt' a b with
   |false=>rfl
   |true=>have:=O.tr h h';rw[O.irr] at this;cases this
end
noncomputable def pZ:Aq->A7->A5 A7->Ai->Ai->Ai->Hb CL EZ (Ak Ai):=sortPriv% PySem.Builtin.gallop
noncomputable def iY:A5 A7->A5 A7->Hb CL EZ (A5 A7):=sortPriv% PySem.Builtin.mergeLo
noncomputable def iX:A5 A7->A5 A7->Hb CL EZ (A5 A7):=sortPriv% PySem.Builtin.mergeHi
noncomputable def nv:A7:=(Bi,Bi)
section
variable {M:E6}{A:AB}{E:Ac->Ag->Prop}{s:Ag}{κ : Fi}{U:A7->Prop}{r:A7->Am}
structure Cm (M:E6)(A:AB)(s:Ag)(κ : Fi)(U:A7->Prop)(r:A7->Am):Prop where
 lt:∀ {x y:A7},U x->U y->∀ {E:Ac->Ag->Prop} {Q:Ak Aq->CL->Prop} {st:CL},kindOf st=κ->Q (Ab (decide (r x<r y))) st->wpS M A E s (lt' x y) Q st
theorem qX {i:Ai}{Q:A7->CL->Prop}{st:CL}(h:i<arr.size)(q:Q (arr.getD i nv) st):wpS M A E s (elem' arr i) Q st:=by
 rw[elem'_eq,getElem?_pos arr i h];have e:arr.getD i nv=arr[i]:=by simp[DY,h]
 rw[e] at q;exact A4 q
theorem sR (C:Cm M A s κ U r){left:Aq}{key:A7}{arr:A5 A7}{i:Ai}{Q:Ak Aq->CL->Prop}{st:CL}(hk:kindOf st=κ)(hi:i<arr.size)(hU:U (arr.getD i nv))(hkU:U key)
  (q:Q (Ab (if left then decide (r (arr.getD i nv)<r key) else !decide (r key<r (arr.getD i nv)))) st) :
  wpS M A E s (do let x <- elem' arr i;if left then lt' x key else (do let a <- lt' key x;pure (a.map (λb=>!b)))) Q st:=by
 refine Av (qX hi ?_);cases left with
 |true=>exact C.lt hU hkU hk q
 |false=>exact Av (C.lt hkU hU hk (A4 q))
theorem pJ (C:Cm M A s κ U r){left:Aq}{key:A7}{arr:A5 A7}{base n hint cut:Ai}{Q:Ak Ai->CL->Prop}{st:CL}(hk:kindOf st=κ)(hh:hint<n)(hb:base+n<=arr.size)(hU:∀ i,i<n->U (arr.getD (base+i) nv))(hkU:U key)(hc:cut<=n)
  (hB:∀ i,i<n->(if left then decide (r (arr.getD (base+i) nv)<r key) else !decide (r key<r (arr.getD (base+i) nv)))=decide (i<cut)) (h:Q (Ab cut) st):wpS M A E s (pZ left key arr base n hint) Q st:=by
 have B:∀ {i:Ai} {E:Ac->Ag->Prop} {Q:Ak Aq->CL->Prop},i<n->Q (Ab (decide (i<cut))) st->wpS M A E s (do let x <- elem' arr (base+i);if left then lt' x key else (do let a <- lt' key x;pure (a.map (λb=>!b)))) Q st:=by
  intro i E Q hi q;exact sR C hk (by lia) (hU i hi) hkU (by rw[hB i hi];exact q)
 have bin:∀ {lo hi:Ai} {f:Ai->Ak (Ak Ai) × Ai × Ai->Hb CL EZ (ForInStep (Ak (Ak Ai) × Ai × Ai))},lo<=cut->cut<=hi->hi<=n ->
   (∀ x a b,f x (none,a,b)=if a>=b then pure (.done (none,a,b)) else ((do let x <- elem' arr (base+(a+(b-a)/2));if left then lt' x key else (do let a <- lt' key x;pure (a.map (λb=>!b)))) >>= λo=>match o with
    |some more=>if more then pure (.yield (none,a+(b-a)/2+1,b)) else pure (.yield (none,a,a+(b-a)/2))
    |_=>pure (.done (Ab none,a,b))))->wpS M A E s (forIn [0:n] (none,lo,hi) f) (λc st'=>st'=st/\∃ a,c=(none,a,cut)) st:=by
  intro lo hi f h1 h2 h3 hf;refine Cw (I:=λx c st'=>st'=st/\∃ a b,c=(none,a,b)/\a<=cut/\cut<=b/\b<=n/\b-a<=n-x) ?_ ?_ ⟨rfl,lo,hi,rfl,h1,h2,h3,by lia⟩
  .rintro x c st' _ hx ⟨rfl,a,b,rfl,q1,q2,q3,q4⟩
   rw[hf];by_cases g:a>=b
   .rw[A0 g];exact A4 ⟨rfl,a,by rw[show b=cut by lia]⟩
   .rw[Aw g]
    refine Av (B (by lia) ?_)
    by_cases z:a+(b-a)/2<cut
    .simp only[z,En,Ca]
     exact A4 ⟨rfl,_,_,rfl,by lia,q2,q3,by lia⟩
    .simp only[z,EI,Bu,D6]
     exact A4 ⟨rfl,_,_,rfl,q1,by lia,by lia,by lia⟩
  .rintro c st' ⟨rfl,a,b,rfl,q1,q2,q3,q4⟩
   exact⟨rfl,a,by rw[show b=cut by lia]⟩
 refine Av (B hh ?_);dsimp only;by_cases hr:hint<cut
 .simp only[hr,En,Ca]
  refine Av (Dq (Cw (I:=λx c st'=>st'=st/\∃ a b,c=(none,a,b)/\hint+a<cut/\a<b/\x<b)
   (Q:=λc st'=>st'=st/\∃ a b,c=(none,a,b)/\hint+a<cut/\cut<=hint+min b (n-hint)) ?_ ?_ ⟨rfl,0,1,rfl,hr,by lia,by lia⟩) ?_)
  .rintro x c st' _ hx ⟨rfl,a,b,rfl,q1,q2,q3⟩
   dsimp only;by_cases g:b>=n-hint
   .rw[A0 g];exact A4 ⟨rfl,a,b,rfl,q1,by lia⟩
   .rw[Aw g]
    refine Av (B (by lia) ?_)
    by_cases z:hint+b<cut
    .simp only[z,En,Bool.not_true,Bu,D6]
     exact A4 ⟨rfl,_,_,rfl,z,by lia,by lia⟩
    .simp only[z,EI,Bool.not_false,Ca]
     exact A4 ⟨rfl,a,b,rfl,q1,by lia⟩
  .rintro c st' ⟨rfl,a,b,rfl,q1,q2,q3⟩
   exact⟨rfl,a,b,rfl,q1,by lia⟩
  .rintro c st' ⟨rfl,a,b,rfl,q1,q2⟩
   dsimp only;refine Av (Dq (bin (lo:=hint+a+1) (hi:=hint+min b (n-hint)) (by lia) q2 (by lia) λ_ _ _=>rfl) ?_)
   rintro c st' ⟨rfl,a',rfl⟩;exact A4 h
 .simp only[hr,EI,Bu,D6]
  refine Av (Dq (Cw (I:=λx c st'=>st'=st/\∃ a b,c=(none,a,b)/\cut+a<=hint/\a<b/\x<b)
   (Q:=λc st'=>st'=st/\∃ a b,c=(none,a,b)/\cut+a<=hint/\hint+1<=cut+min b (hint+1)) ?_ ?_ ⟨rfl,0,1,rfl,by lia,by lia,by lia⟩) ?_)
  .rintro x c st' _ hx ⟨rfl,a,b,rfl,q1,q2,q3⟩
   dsimp only;by_cases g:b>=hint+1
   .rw[A0 g];exact A4 ⟨rfl,a,b,rfl,q1,by lia⟩
   .rw[Aw g]
    refine Av (B (by lia) ?_)
    by_cases z:hint-b<cut
    .simp only[z,En,Ca]
     exact A4 ⟨rfl,a,b,rfl,q1,by lia⟩
    .simp only[z,EI,Bu,D6]
     exact A4 ⟨rfl,_,_,rfl,by lia,by lia,by lia⟩
  .rintro c st' ⟨rfl,a,b,rfl,q1,q2,q3⟩
   exact⟨rfl,a,b,rfl,q1,by lia⟩
  .rintro c st' ⟨rfl,a,b,rfl,q1,q2⟩
   dsimp only;refine Av (Dq (bin (lo:=hint+1-min b (hint+1)) (hi:=hint-a) (by lia) (by lia) (by lia) λ_ _ _=>rfl) ?_)
   rintro c st' ⟨rfl,a',rfl⟩;exact A4 h
end
def Le (r:A7->Am)(x y:A7):Prop:=r x<=r y
structure Mg (r:A7->Am)(o A B T:Aa A7):Prop where
 p1:(o++A).Pairwise (Le r)
 p2:(o++B).Pairwise (Le r)
 pm:(o++A++B).Perm T
structure Mh (r:A7->Am)(A B o T:Aa A7):Prop where
 p1:(A++o).Pairwise (Le r)
 p2:(B++o).Pairwise (Le r)
 pm:(A++B++o).Perm T
section
variable {r:A7->Am}{o A B A1 A2 B1 B2 T:Aa A7}
theorem Mg.b (h:Mg r o A (B1++B2) T)(l:∀ x∈B1,∀ y∈A,Le r x y):Mg r (o++B1) A B2 T:=by
 obtain⟨p1,p2,pm⟩:=h;refine⟨?_,by rw[AM];exact p2,?_⟩
 .rw[AM]
  rw[Cn] at p1 p2 ⊢;refine⟨p1.1,?_,λx hx y hy=>?_⟩
  .rw[Cn]
   exact⟨(Cn.mp p2.2.1).1,p1.2.1,l⟩
  .rcases Bq.mp hy with hy|hy
   .exact p2.2.2 x hx y (Cc _ hy)
   .exact p1.2.2 x hx y hy
 .refine Hm ?_ pm
  simp only[AM];refine E8 _ ?_;simp only[<- AM];exact E2 _ E9
theorem Mg.a (h:Mg r o (A1++A2) B T)(l:∀ x∈A1,∀ y∈B,Le r x y):Mg r (o++A1) A2 B T:=by
 obtain⟨p1,p2,pm⟩:=h;refine⟨by rw[AM];exact p1,?_,by simpa only [AM] using pm⟩
 rw[AM];rw[Cn] at p1 p2 ⊢;refine⟨p2.1,?_,λx hx y hy=>?_⟩
 .rw[Cn]
  exact⟨(Cn.mp p1.2.1).1,p2.2.1,l⟩
 .rcases Bq.mp hy with hy|hy
  .exact p1.2.2 x hx y (Cc _ hy)
  .exact p2.2.2 x hx y hy
theorem Mh.a (h:Mh r (A1++A2) B o T)(l:∀ x∈B,∀ y∈A2,Le r x y):Mh r A1 B (A2++o) T:=by
 obtain⟨p1,p2,pm⟩:=h;refine⟨by rw[<- AM];exact p1,?_,?_⟩
 .rw[AM] at p1
  rw[Cn] at p1 p2 ⊢;refine⟨p2.1,p1.2.1,λx hx y hy=>?_⟩;rcases Bq.mp hy with hy|hy
  .exact l x hx y hy
  .exact p2.2.2 x hx y hy
 .refine Hm ?_ pm
  simp only[AM];refine E8 _ ?_;simp only[<- AM];exact E2 _ E9
theorem Mh.b (h:Mh r A (B1++B2) o T)(l:∀ x∈A,∀ y∈B2,Le r x y):Mh r A B1 (B2++o) T:=by
 obtain⟨p1,p2,pm⟩:=h;refine⟨?_,by rw[<- AM];exact p2,by simpa only [AM] using pm⟩
 rw[AM] at p2;rw[Cn] at p1 p2 ⊢;refine⟨p1.1,p2.2.1,λx hx y hy=>?_⟩;rcases Bq.mp hy with hy|hy
 .exact l x hx y hy
 .exact p1.2.2 x hx y hy
end
structure Mo (r:A7->Am)(T:Aa A7)(m:A5 A7):Prop where
 pm:m.toList.Perm T
 up:m.toList.Pairwise (Le r)
noncomputable abbrev wR (st:CL)(g:Ai):CL:=Bd (kindOf st) (arrOf st) (pendingOf st) g (failedOf st)
theorem pV {a:A5 A7}{i:Ai}(h:i<a.size):a.toList.drop i=a.getD i nv::a.toList.drop (i+1):=by
 rw[Dv (by simpa using h)]
 congr 1
 simp[DY,h]
theorem zD {a:A5 A7}{i:Ai}(h:i<a.size):a.getD i nv∈a.toList:=by
 have e:a.getD i nv=a[i]:=by simp[DY,h]
 rw[e];exact Array.getElem_mem_toList h
theorem xS {r:A7->Am}{a:A5 A7}(s:a.toList.Pairwise (Le r)){i j:Ai}(h:i<=j)(hj:j<a.size):r (a.getD i nv)<=r (a.getD j nv):=by
 rcases NM i j with l|l
 .have e:=Ee.mp s i j (by simpa using EH l hj) (by simpa using hj) l
  have hi:i<a.size:=EH l hj;simpa [DY,hi,hj,Le] using e
 .rw[IW h l];exact DU _
theorem uW {a:A5 A7}{i:Ai}{x:A7}(h:x∈a.toList.drop i):∃ j,i<=j/\j<a.size/\x=a.getD j nv:=by
 obtain⟨k,hk,e⟩:=Bl.mp h;rw[LJ] at e;have hk':k<a.size-i:=by simpa using hk
 refine⟨i+k,by lia,by lia,?_⟩
 have:i+k<a.size:=by lia
 simp[DY,this,<- e]
theorem uY {a:A5 A7}{x:A7}(h:x∈a.toList.take n):∃ j,j<n/\j<a.size/\x=a.getD j nv:=by
 obtain⟨k,hk,e⟩:=Bl.mp h;rw[LK] at e;have hk':k<n/\k<a.size:=by rw[Du,AN] at hk;lia
 refine⟨k,hk'.1,hk'.2,?_⟩;simp[DY,hk'.2,<- e]
theorem kY {a:A5 A7}{i k:Ai}:(a.extract i (i+k)).toList++a.toList.drop (i+k)=a.toList.drop i:=by
 rw[Eg,Dx,Et,<- List.drop_drop];exact Hc _ _
theorem jZ {a:A5 A7}{i:Ai}:(a.extract i a.size).toList=a.toList.drop i:=by
 rw[Eg,Dx];exact Gk (by simp)
theorem b9 {a:A5 A7}{i k:Ai}{x:A7}(h:x∈(a.extract i (i+k)).toList):∃ j,i<=j/\j<i+k/\j<a.size/\x=a.getD j nv:=by
 rw[Eg,Dx,Et] at h;obtain⟨m,hm,e⟩:=Bl.mp h;rw[LK,LJ] at e;have hm':m<k/\i+m<a.size:=by rw[Du,Gr,AN] at hm;lia
 refine⟨i+m,by lia,by lia,hm'.2,?_⟩
 simp[DY,hm'.2,<- e]
def GL (r:A7->Am)(a b o:A5 A7)(i j:Ai):Prop:=Mg r o.toList (a.toList.drop i) (b.toList.drop j) (a.toList++b.toList)
section
variable {r:A7->Am}{a b o:A5 A7}{i j k:Ai}
theorem GL.pb (sa:a.toList.Pairwise (Le r))(h:GL r a b o i j)(hj:j<b.size)(l:i<a.size->r (b.getD j nv)<=r (a.getD i nv)):GL r a b (o.push (b.getD j nv)) i (j+1):=by
 have h':Mg r o.toList (a.toList.drop i) ([b.getD j nv]++b.toList.drop (j+1)) (a.toList++b.toList):=by rw[Jk,<- pV hj];exact h
 have:=h'.b λx hx y hy=>by
  cases CA.mp hx;obtain⟨m,h1,h2,rfl⟩:=uW hy;exact Cd (l (by lia)) (xS sa h1 h2)
 unfold GL;rw[Ef];exact this
theorem GL.pa (sb:b.toList.Pairwise (Le r))(h:GL r a b o i j)(hi:i<a.size)(l:j<b.size->r (a.getD i nv)<=r (b.getD j nv)):GL r a b (o.push (a.getD i nv)) (i+1) j:=by
 have h':Mg r o.toList ([a.getD i nv]++a.toList.drop (i+1)) (b.toList.drop j) (a.toList++b.toList):=by rw[Jk,<- pV hi];exact h
 have:=h'.a λx hx y hy=>by
  cases CA.mp hx;obtain⟨m,h1,h2,rfl⟩:=uW hy;exact Cd (l (by lia)) (xS sb h1 h2)
 unfold GL;rw[Ef];exact this
theorem GL.ea (sb:b.toList.Pairwise (Le r))(h:GL r a b o i j)(hj:j<b.size)(l:∀ m,m<k->r (a.getD (i+m) nv)<=r (b.getD j nv)):GL r a b (o++a.extract i (i+k)) (i+k) j:=by
 have h':Mg r o.toList ((a.extract i (i+k)).toList++a.toList.drop (i+k)) (b.toList.drop j) (a.toList++b.toList):=by rw[kY];exact h
 have:=h'.a λx hx y hy=>by
  obtain⟨m,h1,h2,h3,rfl⟩:=b9 hx;obtain⟨m',h4,h5,rfl⟩:=uW hy;have:=l (m-i) (by lia)
  rw[show i+(m-i)=m by lia] at this
  exact Cd this (xS sb h4 h5)
 unfold GL;rw[Bh];exact this
theorem GL.eb (sa:a.toList.Pairwise (Le r))(h:GL r a b o i j)(hi:i<a.size)(l:∀ m,m<k->r (b.getD (j+m) nv)<=r (a.getD i nv)):GL r a b (o++b.extract j (j+k)) i (j+k):=by
 have h':Mg r o.toList (a.toList.drop i) ((b.extract j (j+k)).toList++b.toList.drop (j+k)) (a.toList++b.toList):=by rw[kY];exact h
 have:=h'.b λx hx y hy=>by
  obtain⟨m,h1,h2,h3,rfl⟩:=b9 hx;obtain⟨m',h4,h5,rfl⟩:=uW hy;have:=l (m-j) (by lia)
  rw[show j+(m-j)=m by lia] at this
  exact Cd this (xS sa h4 h5)
 unfold GL;rw[Bh];exact this
theorem GL.fin (h:GL r a b o i j)(e:i=a.size\/j=b.size):Mo r (a.toList++b.toList) (o++a.extract i a.size++b.extract j b.size):=by
 refine⟨?_,?_⟩ <;> rw[Bh,Bh,jZ,jZ]
 .exact h.pm
 .rcases e with rfl|rfl
  .rw[Gm (by simp),Ea];exact h.p2
  .rw[Gm (l:=b.toList) (by simp),Ea];exact h.p1
theorem GL.last (h:GL r a b o i j)(e:i+1=a.size)(l:∀ x∈b.toList,Le r x (a.getD (a.size-1) nv)):Mo r (a.toList++b.toList) (o++b.extract j b.size++a.extract i a.size):=by
 have hi:i<a.size:=by lia
 have hd:a.toList.drop i=[a.getD i nv]:=by rw[pV hi,Gm (by simp;lia)]
 refine⟨?_,?_⟩ <;> rw[Bh,Bh,jZ,jZ]
 .refine Hm ?_ h.pm
  rw[AM,AM];exact E8 _ E9
 .have p1:=h.p1
  rw[hd] at p1 ⊢;rw[Cn] at p1 ⊢;refine⟨h.p2,ID _ _,λx hx y hy=>?_⟩;rcases Bq.mp hx with hx|hx
  .exact p1.2.2 x hx y hy
  .cases CA.mp hy
   have:=l x (List.mem_of_mem_drop hx);rw[show a.size-1=i by lia] at this
   exact this
end
theorem mM {p:Ai->Aq}:∀ (n:Ai),(∀ i j,i<=j->j<n->p j=true->p i=true)->∃ c,c<=n/\∀ i,i<n->p i=decide (i<c)
 |0,_=>⟨0,Au _,λi h=>by lia⟩
 |n+1,h=>by
  obtain⟨c,hc,e⟩:=mM n λi j a b=>h i j a (by lia)
  by_cases q:p n=true
  .refine⟨n+1,Au _,λi hi=>?_⟩
   rw[h i n (by lia) (by lia) q]
   simp[hi]
  .refine⟨c,by lia,λi hi=>?_⟩
   rcases NM i n with l|l
   .exact e i l
   .have:i=n:=by lia
    subst this;have:¬ i<c:=by lia
    simp[this,q]
section
variable {M:E6}{A:AB}{E:Ac->Ag->Prop}{s:Ag}{κ : Fi}{U:A7->Prop}{r:A7->Am}
theorem qM {σ α:Type}{c:Prop}[Ep c]{x y:Hb σ EZ α}{Q:α->σ->Prop}{st:σ}(h1:c->wpS M A E s x Q st)(h2:¬ c->wpS M A E s y Q st):wpS M A E s (if c then x else y) Q st:=by
 by_cases h:c
 .rw[A0 h];exact h1 h
 .rw[Aw h];exact h2 h
theorem iD (C:Cm M A s κ U r){key:A7}{arr:A5 A7}{base n hint:Ai}{Q:Ak Ai->CL->Prop}{st:CL}(hk:kindOf st=κ)(hh:hint<n)(hb:base+n<=arr.size)(hU:∀ i,i<n->U (arr.getD (base+i) nv))(hkU:U key)
  (sa:∀ i j,i<=j->j<n->r (arr.getD (base+i) nv)<=r (arr.getD (base+j) nv)) (h:∀ c,c<=n->(∀ i,i<c->r (arr.getD (base+i) nv)<=r key)->(∀ i,c<=i->i<n->r key<r (arr.getD (base+i) nv))->Q (Ab c) st):wpS M A E s (pZ false key arr base n hint) Q st:=by
 obtain⟨c,hc,e⟩:=mM (p:=λi=>!decide (r key<r (arr.getD (base+i) nv))) n λi j a b q=>by
  have:=sa i j a b;simp only[Gf,Fy] at q ⊢
  lia
 refine pJ C hk hh hb hU hkU hc (λi hi=>by simpa using e i hi) (h c hc (λi hi=>?_) λi hi hn=>?_)
 .have:=e i (by lia)
  simp only[hi,En,Gf,Fy] at this
  lia
 .have:=e i hn
  simp only[show ¬ i<c by lia,EI,Bool.not_eq_false',Ba] at this
  exact this
theorem iE (C:Cm M A s κ U r){key:A7}{arr:A5 A7}{base n hint:Ai}{Q:Ak Ai->CL->Prop}{st:CL}(hk:kindOf st=κ)(hh:hint<n)(hb:base+n<=arr.size)(hU:∀ i,i<n->U (arr.getD (base+i) nv))(hkU:U key)
  (sa:∀ i j,i<=j->j<n->r (arr.getD (base+i) nv)<=r (arr.getD (base+j) nv)) (h:∀ c,c<=n->(∀ i,i<c->r (arr.getD (base+i) nv)<r key)->(∀ i,c<=i->i<n->r key<=r (arr.getD (base+i) nv))->Q (Ab c) st):wpS M A E s (pZ true key arr base n hint) Q st:=by
 obtain⟨c,hc,e⟩:=mM (p:=λi=>decide (r (arr.getD (base+i) nv)<r key)) n λi j a b q=>by
  have:=sa i j a b;simp only[Ba] at q ⊢
  lia
 refine pJ C hk hh hb hU hkU hc (λi hi=>by simpa using e i hi) (h c hc (λi hi=>?_) λi hi hn=>?_)
 .have:=e i (by lia)
  simp only[hi,En,Ba] at this;exact this
 .have:=e i hn
  simp only[show ¬ i<c by lia,EI,Fy] at this
  lia
end
section
variable {M:E6}{A:AB}{E:Ac->Ag->Prop}{s:Ag}{σ α γ δ:Type}{Q:α->σ->Prop}{st:σ}{c c' c2:Prop}[Ep c][Ep c'][Ep c2]
theorem d6 {K:γ->Hb σ EZ α}{x y:γ}(h:∀ z,wpS M A E s (K z) Q st):wpS M A E s (if c then K x else K y) Q st:=qM (λ_=>h x) λ_=>h y
theorem cS {K:γ->δ->Hb σ EZ α}{u:Hb σ EZ α}{x y:γ}{w v:δ}(P:γ->δ->Prop)(hK:∀ z w,P z w->wpS M A E s (K z w) Q st)(h1:c->c'->wpS M A E s u Q st)(h2:c->¬ c'->P x w)(h3:¬ c->P y v):wpS M A E s (if c then (if c' then u else K x w) else K y v) Q st:=qM (λe=>qM (h1 e) λe'=>hK _ _ (h2 e e')) λe=>hK _ _ (h3 e)
theorem cT {K:γ->δ->Hb σ EZ α}{u u':Hb σ EZ α}{x y:γ}{w v:δ}(P:γ->δ->Prop)(hK:∀ z w,P z w->wpS M A E s (K z w) Q st)(h1:c->c'->wpS M A E s u Q st)(h1':c->¬ c'->c2->wpS M A E s u' Q st)(h2:c->¬ c'->¬ c2->P x w)(h3:¬ c->P y v):wpS M A E s (if c then (if c' then u else if c2 then u' else K x w) else K y v) Q st:=qM (λe=>qM (h1 e) λe'=>qM (h1' e e') λe2=>hK _ _ (h2 e e' e2)) λe=>hK _ _ (h3 e)
end
section
variable {prog:A6}{w:AK}{A:AB}{E:Ac->Ag->Prop}{s:Ag}{κ : Fi}{U:A7->Prop}{r:A7->Am}
theorem nP (C:Cm (As prog w) A s κ U r){a b:A5 A7}{Q:A5 A7->CL->Prop}{st:CL}(hk:kindOf st=κ)(ua:∀ x∈a.toList,U x)(ub:∀ x∈b.toList,U x)(sa:a.toList.Pairwise (Le r))(sb:b.toList.Pairwise (Le r))
  (h:∀ m g,Mo r (a.toList++b.toList) m->Q m (wR st g)) (ha:0<a.size) (hb:0<b.size) (h0:r (b.getD 0 nv)<=r (a.getD 0 nv)) (h1:∀ x∈b.toList,Le r x (a.getD (a.size-1) nv)):wpS (As prog w) A E s (iY a b) Q st:=by
 have G0:GL r a b #[] 0 0:=⟨by simpa using sa,by simpa using sb,by simp⟩
 have G1:=G0.pb sa hb λ_=>h0;refine Av (HL (D3 ⟨rfl,?_⟩));refine Av (qX hb ?_);dsimp only;refine qM (λe=>A4 (h _ (IX st) (G1.fin (.inr (by simpa using e))))) λe1=>?_
 refine qM (λe=>A4 (h _ (IX st) (G1.last (by simpa using e) h1))) λe2=>?_
 have e1:1<b.size:=by
  have:¬ 1=b.size:=by simpa using e1
  lia
 have e2:0+1<a.size:=by
  have:¬ 0+1=a.size:=by simpa using e2
  lia
 refine Av (Fz ?_);refine Av (Dq (Cw (I:=λx c st'=>(∃ g,st'=wR st g)/\∃ o i j g,c=(none,o,i,j,g)/\GL r a b o i j/\i+1<a.size/\j<b.size/\x<i+j)
  (Q:=λc st'=>(∃ g,st'=wR st g)/\∃ m,c.1=Ab m/\Mo r (a.toList++b.toList) m) ?_ ?_ ⟨⟨IX st,rfl⟩,_,0,1,_,rfl,G1,e2,e1,by lia⟩) ?_)
 .rintro x c st' _ hx ⟨⟨g,rfl⟩,o,i,j,mg,rfl,G,hi,hj,hp⟩
  dsimp only;refine Av (Dq (Cw (I:=λy c st'=>(∃ g,st'=wR st g)/\∃ o i' j' p q,c=(none,o,i',j',p,q)/\GL r a b o i' j'/\i'+1<a.size/\j'<b.size/\i+j+y<=i'+j')
   (Q:=λc st'=>(∃ g,st'=wR st g)/\((∃ m,c.1=Ab m/\Mo r (a.toList++b.toList) m)\/∃ o i' j' p q,c=(none,o,i',j',p,q)/\GL r a b o i' j'/\i'+1<a.size/\j'<b.size/\x+1<i'+j')) ?_ ?_ ⟨⟨g,rfl⟩,o,i,j,0,0,rfl,G,hi,hj,by lia⟩) ?_)
  .rintro y c st' _ hy ⟨⟨g,rfl⟩,o,i',j',p,q,rfl,G,hi,hj,hq⟩
   dsimp only;refine Av (qX hj (Av (qX (i:=i') (by lia) (Av (C.lt (ub _ (zD hj)) (ua _ (zD (i:=i') (by lia))) hk ?_)))))
   dsimp only;refine qM (λl=>?_) λl=>?_
   .have l:r (b.getD j' nv)<r (a.getD i' nv):=by simpa using l
    have G2:=G.pb sa hj λ_=>Ds l;refine Av (qX hj ?_);refine qM (λe=>?_) λe=>?_
    .exact A4 ⟨⟨g,rfl⟩,.inl ⟨_,rfl,G2.fin (.inr (by simpa using e))⟩⟩
    .have e:¬ j'+1=b.size:=by simpa using e
     refine qM (λ_=>?_) λ_=>?_
     .exact A4 ⟨⟨g,rfl⟩,.inr ⟨_,_,_,_,_,rfl,G2,hi,by lia,by lia⟩⟩
     .exact A4 ⟨⟨g,rfl⟩,_,_,_,_,_,rfl,G2,hi,by lia,by lia⟩
   .have l:¬ r (b.getD j' nv)<r (a.getD i' nv):=by simpa using l
    have G2:=G.pa sb (by lia) λ_=>Nd.mp l
    refine Av (qX (i:=i') (by lia) ?_)
    refine qM (λe=>?_) λe=>?_
    .exact A4 ⟨⟨g,rfl⟩,.inl ⟨_,rfl,G2.last (by simpa using e) h1⟩⟩
    .have e:¬ i'+1+1=a.size:=by simpa using e
     refine qM (λ_=>?_) λ_=>?_
     .exact A4 ⟨⟨g,rfl⟩,.inr ⟨_,_,_,_,_,rfl,G2,by lia,hj,by lia⟩⟩
     .exact A4 ⟨⟨g,rfl⟩,_,_,_,_,_,rfl,G2,by lia,hj,by lia⟩
  .rintro c st' ⟨z,o,i',j',p,q,rfl,G,hi,hj,hq⟩
   exact⟨z,.inr ⟨_,_,_,_,_,rfl,G,hi,hj,by lia⟩⟩
  .rintro c st' ⟨⟨g,rfl⟩,⟨m,hc,hm⟩|⟨o,i',j',p,q,rfl,G,hi,hj,hq⟩⟩
   .obtain⟨c0,c1⟩:=c
    cases hc;exact A4 ⟨⟨g,rfl⟩,m,rfl,hm⟩
   dsimp only;refine Av (HL (D3 ⟨rfl,?_⟩));refine Av (Dq (Cw (I:=λy c st'=>(∃ g,st'=wR st g)/\∃ o i' j' p q t,c=(none,o,i',j',p,q,t)/\GL r a b o i' j'/\i'+1<a.size/\j'<b.size/\x+1<i'+j')
    (Q:=λc st'=>(∃ g,st'=wR st g)/\((∃ m,c.1=Ab m/\Mo r (a.toList++b.toList) m)\/∃ o i' j' p q t,c=(none,o,i',j',p,q,t)/\GL r a b o i' j'/\i'+1<a.size/\j'<b.size/\x+1<i'+j')) ?_ ?_ ⟨⟨g,rfl⟩,o,i',j',_,_,_,rfl,G,hi,hj,hq⟩) ?_)
   .rintro y c st' _ hy ⟨⟨g,rfl⟩,o,i,j,p,q,t,rfl,G,hi,hj,hq⟩
    dsimp only;generalize p-1=p1;apply d6 (x:=p1) (y:=p);intro mg;have hi0:i<a.size:=Ia hi;refine Av (DZ ?_);refine Av (qX hj ?_);refine Av (iD C hk (Ib hi0) (Lz (Kx (CD hi0))) (λi' hi'=>ua _ (zD (EA hi'))) (ub _ (zD hj)) (λi' j' h1 h2=>xS sa (DJ h1 _) (EA h2)) λk k1 k2 k3=>?_);dsimp only;have G2:=G.ea sb hj k2;have k4:i+k<=a.size:=Jl (CD hi0) k1;have k5:i+k<a.size->r (b.getD j nv)<r (a.getD (i+k) nv):=λh=>k3 k (Au _) (Kc (by rw[Lu];exact h))
    have k6:x+1<i+k+j:=Ax hq (Ke (Ha _ _) _);have k7:k=0->i=i+k:=λh=>by rw[h];rfl
    generalize i+k=i1 at G2 k4 k5 k6 k7 ⊢;generalize o++a.extract i i1=o1 at G2 ⊢;apply cT (x:=o1) (w:=i1) (y:=o) (v:=i) (P:=λout ia=>GL r a b out ia j/\ia+1<a.size/\x+1<ia+j/\r (b.getD j nv)<r (a.getD ia nv))
    case h1=>exact λ_ e=>A4 ⟨⟨_,rfl⟩,.inl ⟨_,rfl,G2.last (by simpa using e) h1⟩⟩
    case h1'=>exact λ_ _ e=>A4 ⟨⟨_,rfl⟩,.inl ⟨_,rfl,G2.fin (.inl (by simpa using e))⟩⟩
    case h2 =>
     intro _ e3 e4;have e3:¬ i1+1=a.size:=by simpa using e3
     have e4:¬ i1=a.size:=by simpa using e4
     have e5:i1<a.size:=D2 k4 e4;exact⟨G2,D2 e5 e3,k6,k5 e5⟩
    case h3 =>
     intro e;have e:=k7 (E4 e);exact⟨G,hi,hq,by rw[e];exact k5 (by rw[<- e];exact hi0)⟩
    case hK =>
     rintro out ia ⟨G2,hl,hq,hc⟩;have ha0:ia<a.size:=Ia hl;refine Av (qX hj ?_);have G3:=G2.pb sa hj λ_=>Ds hc;refine qM (λe=>A4 ⟨⟨_,rfl⟩,.inl ⟨_,rfl,G3.fin (.inr (by simpa using e))⟩⟩) λe5=>?_
     have e5:¬ j+1=b.size:=by simpa using e5
     have hj1:j+1<b.size:=D2 hj e5;refine Av (qX ha0 ?_);refine Av (iE C hk (Ib hj1) (Lz (Kx hj)) (λi hi=>ub _ (zD (EA hi))) (ua _ (zD ha0)) (λi j h1 h2=>xS sb (DJ h1 _) (EA h2)) λm m1 m2 m3=>?_);dsimp only;have G4:=G3.eb sa ha0 λi hi=>Ds (m2 i hi);have m4:j+1+m<=b.size:=Jl hj m1;have m5:j+1+m<b.size->r (a.getD ia nv)<=r (b.getD (j+1+m) nv):=λh=>m3 m (Au _) (Kc (by rw[Lu];exact h))
     have m6:j+1<=j+1+m:=Ha _ _;have m7:m=0->j+1=j+1+m:=λh=>by rw[h]
     generalize j+1+m=j1 at G4 m4 m5 m6 m7 ⊢;generalize out.push (b.getD j nv)++b.extract (j+1) j1=o2 at G4 ⊢;apply cS (x:=o2) (w:=j1) (y:=out.push (b.getD j nv)) (v:=j+1) (P:=λout ib=>GL r a b out ia ib/\ib<b.size/\j+1<=ib/\r (a.getD ia nv)<=r (b.getD ib nv))
     case h1=>exact λ_ e=>A4 ⟨⟨_,rfl⟩,.inl ⟨_,rfl,G4.fin (.inr (by simpa using e))⟩⟩
     case h2 =>
      intro _ e6;have e6:¬ j1=b.size:=by simpa using e6
      have e7:=D2 m4 e6;exact⟨G4,e7,m6,m5 e7⟩
     case h3 =>
      intro e;have e:=m7 (E4 e);exact⟨G3,hj1,Au _,by rw[e];exact m5 (by rw[<- e];exact hj1)⟩
     case hK =>
      rintro out ib ⟨G4,hb1,hb2,hc4⟩;refine Av (qX ha0 ?_);have G5:=G4.pa sb ha0 λ_=>hc4;refine qM (λe=>A4 ⟨⟨_,rfl⟩,.inl ⟨_,rfl,G5.last (by simpa using e) h1⟩⟩) λe7=>?_
      have e7:¬ ia+1+1=a.size:=by simpa using e7
      have e8:ia+1+1<a.size:=D2 hl e7;have e9:x+1<ia+1+ib:=Ax hq (Nl (Fg _) (Nat.le_of_succ_le hb2));exact qM (λ_=>A4 ⟨⟨_,rfl⟩,.inr ⟨_,_,_,_,_,_,rfl,G5,e8,hb1,e9⟩⟩) λ_=>A4 ⟨⟨_,rfl⟩,_,_,_,_,_,_,rfl,G5,e8,hb1,e9⟩
   .rintro c st' ⟨z,o,i',j',p,q,t,rfl,G,hi,hj,hq⟩
    exact⟨z,.inr ⟨_,_,_,_,_,_,rfl,G,hi,hj,by lia⟩⟩
   .rintro c st' ⟨⟨g,rfl⟩,⟨m,hc,hm⟩|⟨o,i',j',p,q,t,rfl,G,hi,hj,hq⟩⟩
    .obtain⟨c0,c1⟩:=c
     cases hc;exact A4 ⟨⟨g,rfl⟩,m,rfl,hm⟩
    dsimp only;refine Av (DZ ?_);exact A4 ⟨⟨_,rfl⟩,_,_,_,_,rfl,G,hi,hj,by lia⟩
 .rintro c st' ⟨z,o,i',j',p,rfl,G,hi,hj,hq⟩
  exfalso
  lia
 .rintro c st' ⟨⟨g,rfl⟩,m,hc,hm⟩
  obtain⟨c0,c1⟩:=c;cases hc;exact A4 (h m g hm)
end
theorem bJ {a:A5 A7}(h:0<n)(hn:n<=a.size):a.toList.take n=a.toList.take (n-1)++[a.getD (n-1) nv]:=by
 obtain⟨m,rfl⟩:∃ m,n=m+1:=⟨n-1,by lia⟩
 rw[Nat.add_sub_cancel,List.take_add_one];have hm:m<a.size:=by lia
 simp[DY,hm]
theorem mW {a:A5 A7}{i:Ai}(h:i<=n):a.toList.take i++(a.extract i n).toList=a.toList.take n:=by
 rw[Eg,Dx]
 conv=>rhs;rw[show n=i+(n-i) by lia,List.take_add]
theorem uI {a:A5 A7}:(a.extract 0 n).toList=a.toList.take n:=by
 rw[Eg,Dx];simp
theorem uX {a:A5 A7}{i:Ai}{x:A7}(hn:i<=n)(h:x∈(a.extract i n).toList):∃ j,i<=j/\j<n/\j<a.size/\x=a.getD j nv:=by
 obtain⟨k,rfl⟩:∃ k,n=i+k:=⟨n-i,by lia⟩
 exact b9 h
def GH (r:A7->Am)(a b o:A5 A7)(i j:Ai):Prop:=Mh r (a.toList.take i) (b.toList.take j) o.toList.reverse (a.toList++b.toList)
section
variable {r:A7->Am}{a b o:A5 A7}{i j k:Ai}
theorem GH.pa (sb:b.toList.Pairwise (Le r))(h:GH r a b o i j)(h1:0<i)(h2:i<=a.size)(hj:j<=b.size)(l:0<j->r (b.getD (j-1) nv)<=r (a.getD (i-1) nv)):GH r a b (o.push (a.getD (i-1) nv)) (i-1) j:=by
 have h':Mh r (a.toList.take (i-1)++[a.getD (i-1) nv]) (b.toList.take j) o.toList.reverse (a.toList++b.toList):=by rw[<- bJ h1 h2];exact h
 have:=h'.a λx hx y hy=>by
  cases CA.mp hy;obtain⟨m,q1,q2,rfl⟩:=uY hx;exact Cd (xS sb (by lia) (by lia)) (l (by lia))
 unfold GH;rw[Ef,EV];exact this
theorem GH.pb (sa:a.toList.Pairwise (Le r))(h:GH r a b o i j)(h1:0<j)(h2:j<=b.size)(hi:i<=a.size)(l:0<i->r (a.getD (i-1) nv)<=r (b.getD (j-1) nv)):GH r a b (o.push (b.getD (j-1) nv)) i (j-1):=by
 have h':Mh r (a.toList.take i) (b.toList.take (j-1)++[b.getD (j-1) nv]) o.toList.reverse (a.toList++b.toList):=by rw[<- bJ h1 h2];exact h
 have:=h'.b λx hx y hy=>by
  cases CA.mp hy;obtain⟨m,q1,q2,rfl⟩:=uY hx;exact Cd (xS sa (by lia) (by lia)) (l (by lia))
 unfold GH;rw[Ef,EV];exact this
theorem GH.ea (sb:b.toList.Pairwise (Le r))(h:GH r a b o i j)(hk:k<=i)(hj:j<=b.size)(l:0<j->∀ m,k<=m->m<i->m<a.size->r (b.getD (j-1) nv)<=r (a.getD m nv)):GH r a b (o++(a.extract k i).reverse) k j:=by
 have h':Mh r (a.toList.take k++(a.extract k i).toList) (b.toList.take j) o.toList.reverse (a.toList++b.toList):=by rw[mW hk];exact h
 have:=h'.a λx hx y hy=>by
  obtain⟨m,q1,q2,rfl⟩:=uY hx;obtain⟨m',q3,q4,q5,rfl⟩:=uX hk hy;exact Cd (xS sb (by lia) (by lia)) (l (by lia) m' q3 q4 q5)
 unfold GH;rw[Bh,EJ,EV,Kf];exact this
theorem GH.eb (sa:a.toList.Pairwise (Le r))(h:GH r a b o i j)(hk:k<=j)(hi:i<=a.size)(l:0<i->∀ m,k<=m->m<j->m<b.size->r (a.getD (i-1) nv)<=r (b.getD m nv)):GH r a b (o++(b.extract k j).reverse) i k:=by
 have h':Mh r (a.toList.take i) (b.toList.take k++(b.extract k j).toList) o.toList.reverse (a.toList++b.toList):=by rw[mW hk];exact h
 have:=h'.b λx hx y hy=>by
  obtain⟨m,q1,q2,rfl⟩:=uY hx;obtain⟨m',q3,q4,q5,rfl⟩:=uX hk hy;exact Cd (xS sa (by lia) (by lia)) (l (by lia) m' q3 q4 q5)
 unfold GH;rw[Bh,EJ,EV,Kf];exact this
theorem GH.fin (h:GH r a b o i j)(e:i=0\/j=0):Mo r (a.toList++b.toList) (a.extract 0 i++b.extract 0 j++o.reverse):=by
 refine⟨?_,?_⟩ <;> rw[Bh,Bh,uI,uI,EJ]
 .exact h.pm
 .rcases e with rfl|rfl
  .rw[Nm,Fh];exact h.p2
  .rw[Nm,Ea];exact h.p1
theorem GH.first (h:GH r a b o i j)(e:j=1)(hb:0<b.size)(l:∀ x∈a.toList,Le r (b.getD 0 nv) x):Mo r (a.toList++b.toList) (b.extract 0 j++a.extract 0 i++o.reverse):=by
 subst e;have hd:b.toList.take 1=[b.getD 0 nv]:=by rw[bJ (by lia) (by lia)];rfl
 refine⟨?_,?_⟩ <;> rw[Bh,Bh,uI,uI,EJ]
 .refine Hm ?_ h.pm
  exact E2 _ E9
 .have p2:=h.p2
  rw[hd] at p2 ⊢;rw[AM];rw[Cn] at p2 ⊢;refine⟨p2.1,h.p1,λx hx y hy=>?_⟩;rcases Bq.mp hy with hy|hy
  .cases CA.mp hx
   exact l y (List.mem_of_mem_take hy)
  .exact p2.2.2 x hx y hy
end
section
variable {prog:A6}{w:AK}{A:AB}{E:Ac->Ag->Prop}{s:Ag}{κ : Fi}{U:A7->Prop}{r:A7->Am}
theorem nO (C:Cm (As prog w) A s κ U r){a b:A5 A7}{Q:A5 A7->CL->Prop}{st:CL}(hk:kindOf st=κ)(ua:∀ x∈a.toList,U x)(ub:∀ x∈b.toList,U x)(sa:a.toList.Pairwise (Le r))(sb:b.toList.Pairwise (Le r))
  (h:∀ m g,Mo r (a.toList++b.toList) m->Q m (wR st g)) (ha:0<a.size) (hb:0<b.size) (h0:∀ x∈a.toList,Le r (b.getD 0 nv) x) (h1:r (b.getD (b.size-1) nv)<=r (a.getD (a.size-1) nv)):wpS (As prog w) A E s (iX a b) Q st:=by
 have G0:GH r a b #[] a.size b.size:=by
  unfold GH;rw[Gk (by simp),Gk (by simp)]
  exact⟨by simpa using sa,by simpa using sb,by simp⟩
 have G1:=G0.pa sb ha (Au _) (Au _) λ_=>h1;refine Av (HL (D3 ⟨rfl,?_⟩));refine Av (qX (i:=a.size-1) (by lia) ?_)
 dsimp only;refine qM (λe=>A4 (h _ (IX st) (G1.fin (.inl (by simpa using e))))) λe1=>?_
 refine qM (λe=>A4 (h _ (IX st) (G1.first (by simpa using e) hb h0))) λe2=>?_
 have e1:¬ a.size-1=0:=by simpa using e1
 have e2:¬ b.size=1:=by simpa using e2
 refine Av (Fz ?_);refine Av (Dq (Cw (I:=λx c st'=>(∃ g,st'=wR st g)/\∃ o i j g,c=(none,i,j,o,g)/\GH r a b o i j/\0<i/\i<=a.size/\1<j/\j<=b.size/\x+i+j<a.size+b.size)
  (Q:=λc st'=>(∃ g,st'=wR st g)/\∃ m,c.1=Ab m/\Mo r (a.toList++b.toList) m) ?_ ?_ ⟨⟨IX st,rfl⟩,_,a.size-1,b.size,_,rfl,G1,by lia,by lia,by lia,by lia,by lia⟩) ?_)
 .rintro x c st' _ hx ⟨⟨g,rfl⟩,o,i,j,mg,rfl,G,hi,hi2,hj,hj2,hp⟩
  dsimp only;refine Av (Dq (Cw (I:=λy c st'=>(∃ g,st'=wR st g)/\∃ o i' j' p q,c=(none,i',j',o,p,q)/\GH r a b o i' j'/\0<i'/\i'<=a.size/\1<j'/\j'<=b.size/\i'+j'+y<=i+j)
   (Q:=λc st'=>(∃ g,st'=wR st g)/\((∃ m,c.1=Ab m/\Mo r (a.toList++b.toList) m)\/∃ o i' j' p q,c=(none,i',j',o,p,q)/\GH r a b o i' j'/\0<i'/\i'<=a.size/\1<j'/\j'<=b.size/\x+1+i'+j'<a.size+b.size)) ?_ ?_ ⟨⟨g,rfl⟩,o,i,j,0,0,rfl,G,hi,hi2,hj,hj2,by lia⟩) ?_)
  .rintro y c st' _ hy ⟨⟨g,rfl⟩,o,i',j',p,q,rfl,G,hi,hi2,hj,hj2,hq⟩
   dsimp only;refine Av (qX (i:=j'-1) (by lia) (Av (qX (i:=i'-1) (by lia) (Av (C.lt (ub _ (zD (i:=j'-1) (by lia))) (ua _ (zD (i:=i'-1) (by lia))) hk ?_)))))
   dsimp only;refine qM (λl=>?_) λl=>?_
   .have l:r (b.getD (j'-1) nv)<r (a.getD (i'-1) nv):=by simpa using l
    have G2:=G.pa sb hi hi2 hj2 λ_=>Ds l;refine Av (qX (i:=i'-1) (by lia) ?_)
    refine qM (λe=>A4 ⟨⟨g,rfl⟩,.inl ⟨_,rfl,G2.fin (.inl (by simpa using e))⟩⟩) λe=>?_
    have e:¬ i'-1=0:=by simpa using e
    exact qM (λ_=>A4 ⟨⟨g,rfl⟩,.inr ⟨_,_,_,_,_,rfl,G2,by lia,by lia,hj,hj2,by lia⟩⟩) λ_=>A4 ⟨⟨g,rfl⟩,_,_,_,_,_,rfl,G2,by lia,by lia,hj,hj2,by lia⟩
   .have l:¬ r (b.getD (j'-1) nv)<r (a.getD (i'-1) nv):=by simpa using l
    have G2:=G.pb sa (by lia) hj2 hi2 λ_=>Nd.mp l
    refine Av (qX (i:=j'-1) (by lia) ?_)
    refine qM (λe=>A4 ⟨⟨g,rfl⟩,.inl ⟨_,rfl,G2.first (by simpa using e) hb h0⟩⟩) λe=>?_
    have e:¬ j'-1=1:=by simpa using e
    exact qM (λ_=>A4 ⟨⟨g,rfl⟩,.inr ⟨_,_,_,_,_,rfl,G2,hi,hi2,by lia,by lia,by lia⟩⟩) λ_=>A4 ⟨⟨g,rfl⟩,_,_,_,_,_,rfl,G2,hi,hi2,by lia,by lia,by lia⟩
  .rintro c st' ⟨z,o,i',j',p,q,rfl,G,hi,hi2,hj,hj2,hq⟩
   exact⟨z,.inr ⟨_,_,_,_,_,rfl,G,hi,hi2,hj,hj2,by lia⟩⟩
  .rintro c st' ⟨⟨g,rfl⟩,⟨m,hc,hm⟩|⟨o,i',j',p,q,rfl,G,hi,hi2,hj,hj2,hq⟩⟩
   .obtain⟨c0,c1⟩:=c
    cases hc;exact A4 ⟨⟨g,rfl⟩,m,rfl,hm⟩
   dsimp only;refine Av (HL (D3 ⟨rfl,?_⟩));refine Av (Dq (Cw (I:=λy c st'=>(∃ g,st'=wR st g)/\∃ o i' j' p q t,c=(none,i',j',o,p,q,t)/\GH r a b o i' j'/\0<i'/\i'<=a.size/\1<j'/\j'<=b.size/\x+1+i'+j'<a.size+b.size)
    (Q:=λc st'=>(∃ g,st'=wR st g)/\((∃ m,c.1=Ab m/\Mo r (a.toList++b.toList) m)\/∃ o i' j' p q t,c=(none,i',j',o,p,q,t)/\GH r a b o i' j'/\0<i'/\i'<=a.size/\1<j'/\j'<=b.size/\x+1+i'+j'<a.size+b.size)) ?_ ?_ ⟨⟨g,rfl⟩,o,i',j',_,_,_,rfl,G,hi,hi2,hj,hj2,hq⟩) ?_)
   .rintro y c st' _ hy ⟨⟨g,rfl⟩,o,i,j,p,q,t,rfl,G,hi,hi2,hj,hj2,hq⟩
    dsimp only;generalize p-1=p1;apply d6 (x:=p1) (y:=p);intro mg;refine Av (DZ ?_);have j0:0<j:=Ia hj;have jb:j-1<b.size:=Ax (EW j0 EB) hj2;refine Av (qX jb ?_);refine Av (iD C hk (EW hi EB) (by rw[Eu];exact hi2) (λi' hi'=>ua _ (zD (by rw[Eu];exact Ax hi' hi2))) (ub _ (zD jb)) (λi' j' h1 h2=>xS sa (DJ h1 0) (by rw[Eu];exact Ax h2 hi2)) λk k1 k2 k3=>?_)
    simp only[Eu] at k2 k3;dsimp only;have G2:=G.ea sb k1 hj2 λ_ m q1 q2 _=>Ds (k3 m q1 q2);have kc:i-k=0->k=i:=λh=>IW k1 (Jm h);generalize i-k=ac at kc ⊢;generalize o++(a.extract k i).reverse=o1 at G2 ⊢;apply cS (x:=k) (w:=o1) (y:=i) (v:=o) (P:=λna out=>GH r a b out na j/\0<na/\na<=a.size/\x+1+na+j<a.size+b.size/\r (a.getD (na-1) nv)<=r (b.getD (j-1) nv))
    case h1=>exact λ_ e=>A4 ⟨⟨_,rfl⟩,.inl ⟨_,rfl,G2.fin (.inl (by simpa using e))⟩⟩
    case hK =>
     rintro na out ⟨G2,hl,hl2,hq,hc⟩;have na1:na-1<a.size:=Ax (EW hl EB) hl2;refine Av (qX jb ?_);have G3:=G2.pb sa j0 hj2 hl2 λ_=>hc;refine qM (λe=>A4 ⟨⟨_,rfl⟩,.inl ⟨_,rfl,G3.first (by simpa using e) hb h0⟩⟩) λe5=>?_
     have e5:¬ j-1=1:=by simpa using e5
     have j1:0<j-1:=Ib hj;refine Av (qX na1 ?_);refine Av (iE C hk (EW j1 EB) (by rw[Eu];exact CD jb) (λi hi=>ub _ (zD (by rw[Eu];exact EH hi jb))) (ua _ (zD na1)) (λi j h1 h2=>xS sb (DJ h1 0) (by rw[Eu];exact EH h2 jb)) λm m1 m2 m3=>?_)
     simp only[Eu] at m2 m3;dsimp only;have G4:=G3.eb sa m1 hl2 λ_ m q1 q2 _=>m3 m q1 q2;have mc:j-1-m=0->m=j-1:=λh=>IW m1 (Jm h);generalize j-1-m=bc at mc ⊢;generalize out.push (b.getD (j-1) nv)++(b.extract m (j-1)).reverse=o2 at G4 ⊢;apply cT (x:=m) (w:=o2) (y:=j-1) (v:=out.push (b.getD (j-1) nv)) (P:=λnb out=>GH r a b out na nb/\1<nb/\nb<=j-1/\r (b.getD (nb-1) nv)<=r (a.getD (na-1) nv))
     case h1=>exact λ_ e=>A4 ⟨⟨_,rfl⟩,.inl ⟨_,rfl,G4.first (by simpa using e) hb h0⟩⟩
     case h1'=>exact λ_ _ e=>A4 ⟨⟨_,rfl⟩,.inl ⟨_,rfl,G4.fin (.inr (by simpa using e))⟩⟩
     case hK =>
      rintro nb out ⟨G4,h4,h5,hc4⟩;have h6:nb<=b.size:=Bn h5 (CD jb);have hq2:x+1+(na-1)+nb<a.size+b.size:=Fo (Nl (DJ (Nat.sub_le _ _) _) (Bn h5 (Nat.sub_le _ _))) hq;refine Av (qX na1 ?_);have G5:=G4.pa sb hl hl2 h6 λ_=>hc4;refine qM (λe=>A4 ⟨⟨_,rfl⟩,.inl ⟨_,rfl,G5.fin (.inl (by simpa using e))⟩⟩) λe7=>?_
      have e7:0<na-1:=Dd (by simpa using e7)
      exact qM (λ_=>A4 ⟨⟨_,rfl⟩,.inr ⟨_,_,_,_,_,_,rfl,G5,e7,CD na1,h4,h6,hq2⟩⟩) λ_=>A4 ⟨⟨_,rfl⟩,_,_,_,_,_,_,rfl,G5,e7,CD na1,h4,h6,hq2⟩
     case h2 =>
      intro _ e6 e7;have e6:¬ m=1:=by simpa using e6
      have e7:¬ m=0:=by simpa using e7
      exact⟨G4,D2 (Dd e7) (Cf e6),m1,Ds (m2 (m-1) (EW (Dd e7) EB))⟩
     case h3 =>
      intro e;cases mc (E4 e);exact⟨G3,D2 j1 (Cf e5),Au _,Ds (m2 (j-1-1) (EW j1 EB))⟩
    case h2 =>
     intro _ e;have e3:0<k:=Dd (by simpa using e)
     exact⟨G2,e3,Bn k1 hi2,Fo (Ke (DJ k1 _) _) hq,k2 (k-1) (EW e3 EB)⟩
    case h3 =>
     intro e;have e:=kc (E4 e);exact⟨G,hi,hi2,hq,k2 (i-1) (by rw[e];exact EW hi EB)⟩
   .rintro c st' ⟨z,o,i',j',p,q,t,rfl,G,hi,hi2,hj,hj2,hq⟩
    exact⟨z,.inr ⟨_,_,_,_,_,_,rfl,G,hi,hi2,hj,hj2,by lia⟩⟩
   .rintro c st' ⟨⟨g,rfl⟩,⟨m,hc,hm⟩|⟨o,i',j',p,q,t,rfl,G,hi,hi2,hj,hj2,hq⟩⟩
    .obtain⟨c0,c1⟩:=c
     cases hc;exact A4 ⟨⟨g,rfl⟩,m,rfl,hm⟩
    dsimp only;refine Av (DZ ?_);exact A4 ⟨⟨_,rfl⟩,_,_,_,_,rfl,G,hi,hi2,hj,hj2,by lia⟩
 .rintro c st' ⟨z,o,i',j',p,rfl,G,hi,hi2,hj,hj2,hq⟩
  exfalso
  lia
 .rintro c st' ⟨⟨g,rfl⟩,m,hc,hm⟩
  obtain⟨c0,c1⟩:=c;cases hc;exact A4 (h m g hm)
end
theorem sQ:∀ (l:Aa A7) (arr:A5 A7) (o d:Ai),o+d+l.length<=arr.size->∀ k,((l.zipIdx d).foldl (λa p=>a.setIfInBounds (o+p.2) p.1) arr)[k]? = if o+d<=k/\k<o+d+l.length then l[k-(o+d)]? else arr[k]?
 |[],arr,o,d,h,k=>by
  rw[Aw (by simp only[D8];lia)];rfl
 |x::l,arr,o,d,h,k=>by
  rw[AV] at h;rw[Ir,Hj,sQ l _ o (d+1) (by rw[Array.size_setIfInBounds];lia) k,AV]
  by_cases h1:k=o+d
  .subst h1
   rw[Aw (by lia),A0 (by lia),L0,Array.getElem?_setIfInBounds_self_of_lt (by lia)]
   rfl
  .by_cases h2:o+(d+1)<=k/\k<o+(d+1)+l.length
   .rw[A0 h2,A0 (by lia),show k-(o+d)=(k-(o+(d+1)))+1 by lia,IE]
   .rw[Aw h2,Aw (by lia),Array.getElem?_setIfInBounds_ne (by lia)]
noncomputable def wb (arr:A5 A7)(o:Ai)(m:A5 A7):A5 A7:=m.toList.zipIdx.foldl (λa p=>a.setIfInBounds (o+p.2) p.1) arr
theorem YI {o:Ai}(h:o+m.size<=arr.size)(k:Ai):(wb arr o m).getD k nv=if o<=k/\k<o+m.size then m.getD (k-o) nv else arr.getD k nv:=by
 have e:=sQ m.toList arr o 0 (by simpa using h) k
 simp only[L3,AN,Cu] at e;rw[Cq,Cq,Cq];unfold wb;rw[e]
 split <;> rfl
theorem YJ {o:Ai}(h:o+m.size<=arr.size):(wb arr o m).toList=arr.toList.take o++(m.toList++arr.toList.drop (o+m.size)):=by
 apply List.ext_getElem?;intro k;have e:=sQ m.toList arr o 0 (by simpa using h) k
 simp only[L3,AN,Cu] at e;unfold wb;rw[Cu,e];have lt:(arr.toList.take o).length=o:=by rw[Du,AN];lia
 by_cases h1:k<o
 .rw[Aw (by lia),Be (by lia),Ig h1,Cu]
 .rw[Ch (by lia),lt]
  by_cases h2:k<o+m.size
  .rw[A0 (by lia),Be (by rw[AN];lia),Cu]
  .rw[Aw (by lia),Ch (by rw[AN];lia),List.getElem?_drop,AN,Cu]
   congr 1
   lia
theorem YK {o:Ai}(h:o+n<=arr.size)(p:m.toList.Perm (arr.extract o (o+n)).toList):(wb arr o m).toList.Perm arr.toList:=by
 have hm:m.size=n:=by
  have:=p.length_eq;rw[AN,AN,DQ] at this
  lia
 rw[YJ (by lia),hm]
 have e:arr.toList=arr.toList.take o++((arr.extract o (o+n)).toList++arr.toList.drop (o+n)):=by rw[kY,Hc]
 conv=>rhs;rw[e]
 exact E8 _ (E2 _ p)
def Seg (r:A7->Am)(a:A5 A7)(lo n:Ai):Prop:=∀ i j,lo<=i->i<=j->j<lo+n->r (a.getD i nv)<=r (a.getD j nv)
theorem lX {r:A7->Am}{a:A5 A7}{lo:Ai}(h:Seg r a lo n){i k:Ai}(h1:lo<=i)(h2:i+k<=lo+n)(h3:i+k<=a.size):(a.extract i (i+k)).toList.Pairwise (Le r):=by
 rw[Ee];intro x y hx hy l;have hx':x<k:=by rw[AN,DQ] at hx;lia
 have hy':y<k:=by rw[AN,DQ] at hy;lia
 have e:=h (i+x) (i+y) (by lia) (by lia) (by lia)
 have q1:i+x<a.size:=by lia
 have q2:i+y<a.size:=by lia
 simpa [DY,q1,q2,Le] using e
theorem mV {a:A5 A7}{i k m:Ai}(h:m<k)(h3:i+k<=a.size):(a.extract i (i+k)).getD m nv=a.getD (i+m) nv:=by
 have q1:i+m<a.size:=by lia
 have q2:m<(a.extract i (i+k)).size:=by rw[DQ];lia
 have q3:m<min (i+k) a.size-i:=by lia
 simp[DY,q1,q3]
theorem iB {a:A5 A7}{i j k:Ai}(h1:i<=j)(h2:j<=k):(a.extract i j).toList++(a.extract j k).toList=(a.extract i k).toList:=by
 rw[<- Bh,Array.extract_append_extract]
 congr 2 <;> lia
section
variable {prog:A6}{w:AK}{A:AB}{E:Ac->Ag->Prop}{s:Ag}{κ : Fi}{U:A7->Prop}{r:A7->Am}
theorem YM {M:E6}{σ:Type}{Q:PUnit->σ->Prop}{st st':σ}(h:Q ⟨⟩ st'):wpS M A E s (set st':Hb σ EZ PUnit) Q st:=by
 unfold wpS;rw[StateT.run_set];exact An ⟨rfl,h⟩
theorem nN (C:Cm (As prog w) A s κ U r){i sa na pw nb pz:Ai}{Q:Aq->CL->Prop}{arr:A5 A7}{pd:A5 (Ai × Ai × Ai)}{g:Ai}(ua:∀ x∈arr.toList,U x)(e1:pd[i]? = Ab (sa,na,pw))(e2:pd[i+1]? = Ab (sa+na,nb,pz))(p1:0<na)(p2:0<nb)(hz:sa+na+nb<=arr.size)
  (s1:Seg r arr sa na) (s2:Seg r arr (sa+na) nb)
  (h:∀ arr' g,arr'.toList.Perm arr.toList->(∀ k,k<sa\/sa+na+nb<=k->arr'.getD k nv=arr.getD k nv)->Seg r arr' sa (na+nb)->Q true (Bd κ arr' ((pd.setIfInBounds i (sa,na+nb,pw)).eraseIdxIfInBounds (i+1)) g none)) :
  wpS (As prog w) A E s (mergeAt' i) Q (Bd κ arr pd g none):=by
 refine Av (Fz ?_);dsimp only;rw[e1,e2];dsimp only;refine Av (YM ?_);refine Av (qX (i:=sa+na) (by omega) ?_)
 refine Av (iD C rfl (by omega) (by omega) (λi hi=>ua _ (zD (by omega))) (ua _ (zD (by omega))) (λi j a b=>s1 _ _ (by omega) (by omega) (by omega)) λk k1 k2 k3=>?_)
 dsimp only;refine qM (λe=>A4 (h arr g (H0 _) (λ_ _=>rfl) λi j a b c=>?_)) λe=>?_
 .have e:na-k=0:=by simpa using e
  by_cases q1:j<sa+na
  .exact s1 i j a b q1
  .by_cases q2:sa+na<=i
   .exact s2 i j q2 b (by omega)
   .have:=k2 (i-sa) (by omega)
    rw[show sa+(i-sa)=i by omega] at this
    exact Cd this (s2 _ _ (Au _) (by omega) (by omega))
 have e:¬ na-k=0:=by simpa using e
 refine Av (qX (i:=sa+k+(na-k)-1) (by omega) ?_)
 refine Av (iE C rfl (by omega) (by omega) (λi hi=>ua _ (zD (by omega))) (ua _ (zD (by omega))) (λi j a b=>s2 _ _ (by omega) (by omega) (by omega)) λm m1 m2 m3=>?_)
 dsimp only;rw[show sa+k+(na-k)-1=sa+na-1 by omega] at m2 m3
 have hk3:=k3 k (Au _) (by omega)
 refine qM (λe=>?_) λe'=>?_
 .exfalso
  have e:m=0:=by simpa using e
  subst e;have q1:=m3 0 (Au _) p2;have q2:=s1 (sa+k) (sa+na-1) (by omega) (by omega) (by omega)
  rw[L3] at q1;omega
 have e':¬ m=0:=by simpa using e'
 have ex:arr.extract (sa+k) (sa+na)=arr.extract (sa+k) (sa+k+(na-k)):=by rw[show sa+k+(na-k)=sa+na by omega]
 have zx:(arr.extract (sa+k) (sa+na)).size=na-k:=by rw[DQ];omega
 have zy:(arr.extract (sa+na) (sa+na+m)).size=m:=by rw[DQ];omega
 have gx:∀ i,i<na-k->(arr.extract (sa+k) (sa+na)).getD i nv=arr.getD (sa+k+i) nv:=λi hi=>by rw[ex];exact mV hi (by omega)
 have gy:∀ i,i<m->(arr.extract (sa+na) (sa+na+m)).getD i nv=arr.getD (sa+na+i) nv:=λi hi=>mV hi (by omega)
 have px:(arr.extract (sa+k) (sa+na)).toList.Pairwise (Le r):=by rw[ex];exact lX s1 (by omega) (by omega) (by omega)
 have py:(arr.extract (sa+na) (sa+na+m)).toList.Pairwise (Le r):=lX s2 (by omega) (by omega) (by omega)
 have mx:∀ x∈(arr.extract (sa+k) (sa+na)).toList,∃ j,sa+k<=j/\j<sa+na/\x=arr.getD j nv:=λx hx=>by
  obtain⟨j,q1,q2,q3,q4⟩:=uX (by omega) hx
  exact⟨j,q1,q2,q4⟩
 have my:∀ x∈(arr.extract (sa+na) (sa+na+m)).toList,∃ j,sa+na<=j/\j<sa+na+m/\x=arr.getD j nv:=λx hx=>by
  obtain⟨j,q1,q2,q3,q4⟩:=uX (by omega) hx
  exact⟨j,q1,q2,q4⟩
 have lox:∀ x∈(arr.extract (sa+k) (sa+na)).toList,r (arr.getD (sa+na) nv)<=r x/\r x<=r (arr.getD (sa+na-1) nv):=λx hx=>by
  obtain⟨j,q1,q2,rfl⟩:=mx x hx;have:=s1 (sa+k) j (by omega) q1 q2
  exact⟨by omega,s1 j _ (by omega) (by omega) (by omega)⟩
 have loy:∀ x∈(arr.extract (sa+na) (sa+na+m)).toList,r (arr.getD (sa+na) nv)<=r x/\r x<=r (arr.getD (sa+na-1) nv):=λx hx=>by
  obtain⟨j,q1,q2,rfl⟩:=my x hx;have:=m2 (j-(sa+na)) (by omega)
  rw[show sa+na+(j-(sa+na))=j by omega] at this
  exact⟨s2 _ _ (Au _) q1 (by omega),by omega⟩
 have fin:∀ mg g',Mo r ((arr.extract (sa+k) (sa+na)).toList++(arr.extract (sa+na) (sa+na+m)).toList) mg->Q true (Bd κ (wb arr (sa+k) mg) ((pd.setIfInBounds i (sa,na+nb,pw)).eraseIdxIfInBounds (i+1)) g' none):=by
  intro mg g' M;have ej:(arr.extract (sa+k) (sa+na)).toList++(arr.extract (sa+na) (sa+na+m)).toList=(arr.extract (sa+k) (sa+k+(na-k+m))).toList:=by
   rw[iB (by omega) (by omega),show sa+k+(na-k+m)=sa+na+m by omega]
  have hm:mg.size=na-k+m:=by
   have:=M.pm.length_eq;rw[CP,AN,AN,AN,zx,zy] at this;exact this
  have gd:=λj=>YI (arr:=arr) (m:=mg) (o:=sa+k) (by omega) j
  refine h _ g' (YK (n:=na-k+m) (by omega) (ej▸M.pm)) (λj hj=>?_) λi j a b c=>?_
  .rw[gd,Aw (by omega)]
  .have bd:∀ j,sa+k<=j->j<sa+na+m->r (arr.getD (sa+na) nv)<=r (mg.getD (j-(sa+k)) nv)/\r (mg.getD (j-(sa+k)) nv)<=r (arr.getD (sa+na-1) nv):=λj h1 h2=>by
    have:=M.pm.mem_iff.mp (zD (a:=mg) (i:=j-(sa+k)) (by omega))
    rcases Bq.mp this with q|q
    .exact lox _ q
    .exact loy _ q
   rw[gd,gd,hm];by_cases i1:i<sa+k
   .rw[Aw (by omega)]
    have u:=k2 (i-sa) (by omega)
    rw[show sa+(i-sa)=i by omega] at u
    by_cases j1:j<sa+k
    .rw[Aw (by omega)];exact s1 i j a b (by omega)
    .by_cases j2:j<sa+na+m
     .rw[A0 (by omega)];exact Cd u (bd j (by omega) j2).1
     .rw[Aw (by omega)];exact Cd u (s2 _ _ (Au _) (by omega) (by omega))
   .by_cases i2:i<sa+na+m
    .rw[A0 (by omega)]
     by_cases j2:j<sa+na+m
     .rw[A0 (by omega)];exact xS M.up (by omega) (by omega)
     .rw[Aw (by omega)]
      have v:=m3 (j-(sa+na)) (by omega) (by omega)
      rw[show sa+na+(j-(sa+na))=j by omega] at v
      exact Cd (bd i (by omega) i2).2 v
    .rw[Aw (by omega),Aw (by omega)]
     exact s2 i j (by omega) b (by omega)
 have ux:∀ x∈(arr.extract (sa+k) (sa+na)).toList,U x:=λx hx=>by obtain⟨j,q1,q2,rfl⟩:=mx x hx;exact ua _ (zD (by omega))
 have uy:∀ x∈(arr.extract (sa+na) (sa+na+m)).toList,U x:=λx hx=>by obtain⟨j,q1,q2,rfl⟩:=my x hx;exact ua _ (zD (by omega))
 have y0:(arr.extract (sa+na) (sa+na+m)).getD 0 nv=arr.getD (sa+na) nv:=gy 0 (by omega)
 have xl:(arr.extract (sa+k) (sa+na)).getD ((arr.extract (sa+k) (sa+na)).size-1) nv=arr.getD (sa+na-1) nv:=by rw[zx,gx _ (by omega)];congr 1;omega
 refine qM (λ_=>?_) λ_=>?_
 .refine Av (nP C rfl ux uy px py (λmg g' M=>?_) (by rw[zx];omega) (by rw[zy];omega) ?_ λx hx=>?_)
  .refine Av (DZ (Av (Fz (A4 ?_))))
   exact fin mg g' M
  .rw[y0];exact(lox _ (zD (by rw[zx];omega))).1
  .rw[xl];exact(loy x hx).2
 .refine Av (nO C rfl ux uy px py (λmg g' M=>?_) (by rw[zx];omega) (by rw[zy];omega) (λx hx=>?_) ?_)
  .refine Av (DZ (Av (Fz (A4 ?_))))
   exact fin mg g' M
  .rw[y0];exact(lox x hx).1
  .rw[xl];exact(loy _ (zD (by rw[zy];omega))).2
end
noncomputable def mir (a:A5 A7)(i j:Ai):A5 A7:=mirror a i j ((j-i)/2)
theorem xP {a:A5 A7}{i j:Ai}(hj:j<=a.size)(k:Ai):(mir a i j).getD k nv=if i<=k/\k<j then a.getD (i+j-1-k) nv else a.getD k nv:=by
 rw[Cq,Cq,Cq];unfold mir;rw[getElem?_mirror_all hj]
 split <;> rfl
structure Cr (a b:A5 A7)(lo n:Ai):Prop where
 pm:b.toList.Perm a.toList
 out:∀ k,k<lo\/lo+n<=k->b.getD k nv=a.getD k nv
theorem Cr.z {a b:A5 A7}{lo:Ai}(h:Cr a b lo n):b.size=a.size:=by
 have:=h.pm.length_eq;simpa using this
theorem Cr.rfl' {a:A5 A7}{lo:Ai}:Cr a a lo n:=⟨H0 _,λ_ _=>rfl⟩
theorem Cr.mir {a b:A5 A7}{lo i j:Ai}(h:Cr a b lo n)(h1:lo<=i)(h2:j<=lo+n)(h3:j<=a.size):Cr a (mir b i j) lo n:=
 ⟨(HJ.mp (mirror_perm _ _ _ _)).trans h.pm,λk hk=>by rw[xP (by rw[h.z];exact h3),Aw (by lia)];exact h.out k hk⟩
def Dsg (r:A7->Am)(a:A5 A7)(lo n:Ai):Prop:=∀ i j,lo<=i->i<=j->j<lo+n->r (a.getD j nv)<=r (a.getD i nv)
theorem oW {r:A7->Am}{a:A5 A7}{lo:Ai}(h:Seg r a lo n)(h1:1<=n)(l:r (a.getD (lo+n-1) nv)<=r (a.getD (lo+n) nv)):Seg r a lo (n+1):=λi j h2 h3 h4=>by
 by_cases q:j<lo+n
 .exact h i j h2 h3 q
 .have:j=lo+n:=by lia
  subst this;by_cases q2:i=lo+n
  .subst q2;exact DU _
  .exact Cd (h i (lo+n-1) h2 (by lia) (by lia)) l
theorem yW {r:A7->Am}{a:A5 A7}{lo:Ai}(h:Dsg r a lo n)(h1:1<=n)(l:r (a.getD (lo+n) nv)<=r (a.getD (lo+n-1) nv)):Dsg r a lo (n+1):=λi j h2 h3 h4=>by
 by_cases q:j<lo+n
 .exact h i j h2 h3 q
 .have:j=lo+n:=by lia
  subst this;by_cases q2:i=lo+n
  .subst q2;exact DU _
  .exact Cd l (h i (lo+n-1) h2 (by lia) (by lia))
theorem lY {r:A7->Am}{a:A5 A7}{lo:Ai}:Seg r a lo 1:=λi j h2 h3 h4=>by
 have:i=j:=by lia
 subst this;exact DU _
theorem X6 {r:A7->Am}{a:A5 A7}{lo:Ai}:Dsg r a lo 1:=λi j h2 h3 h4=>by
 have:i=j:=by lia
 subst this;exact DU _
def cZ (r:A7->Am)(a:A5 A7)(lo n q:Ai):Prop:=q+1<=n/\∀ k,lo+n-(q+1)<=k->k<lo+n->r (a.getD k nv)=r (a.getD (lo+n-1) nv)
set_option tactic.hygienic true in
theorem uH {r:A7->Am}{a:A5 A7}{lo q:Ai}(hn:lo+n<=a.size)(h:cZ r a lo n q)(k:Ai):r ((mir a (lo+n-(q+1)) (lo+n)).getD k nv)=r (a.getD k nv):=by
 rw[xP hn];have:=h.1
 split
 .rename_i c
  rw[h.2 k (by lia) c.2,h.2 _ (by lia) (by lia)]
 .rfl
theorem X5 {r:A7->Am}{a:A5 A7}{lo:Ai}(hn:lo+n<=a.size)(h:Dsg r a lo n):Seg r (mir a lo (lo+n)) lo n:=λi j h2 h3 h4=>by
 rw[xP hn,xP hn,A0 (by lia),A0 (by lia)]
 exact h _ _ (by lia) (by lia) (by lia)
section
variable {prog:A6}{w:AK}{A:AB}{E:Ac->Ag->Prop}{s:Ag}{κ : Fi}{U:A7->Prop}{r:A7->Am}
theorem u4 (C:Cm (As prog w) A s κ U r){i j:Ai}{arr:A5 A7}{pd:A5 (Ai × Ai × Ai)}{g:Ai}{Q:Ak Aq->CL->Prop}(ua:∀ x∈arr.toList,U x)(hi:i<arr.size)(hj:j<arr.size)
  (q:Q (Ab (decide (r (arr.getD i nv)<r (arr.getD j nv)))) (Bd κ arr pd g none)):wpS (As prog w) A E s (ltAt' i j) Q (Bd κ arr pd g none):=by
 refine Av (Fz ?_);exact Av (qX hi (Av (qX hj (C.lt (ua _ (zD hi)) (ua _ (zD hj)) rfl q))))
theorem kM {i j:Ai}{pd:A5 (Ai × Ai × Ai)}{g:Ai}{Q:PUnit->CL->Prop}(q:Q ⟨⟩ (Bd κ (mir arr i j) pd g none)):wpS (As prog w) A E s (reverseSlice' i j) Q (Bd κ arr pd g none):=DZ q
theorem fL (C:Cm (As prog w) A s κ U r){lo N:Ai}{arr:A5 A7}{pd:A5 (Ai × Ai × Ai)}{g:Ai}{Q:Ak Ai->CL->Prop}(ua:∀ x∈arr.toList,U x)(h1:1<=N)(hz:lo+N<=arr.size)
  (h:∀ n b,1<=n->n<=N->Cr arr b lo N->Seg r b lo n->Q (Ab n) (Bd κ b pd g none)):wpS (As prog w) A E s (countRun' lo N) Q (Bd κ arr pd g none):=by
 have uc:∀ {b:A5 A7},Cr arr b lo N->∀ x∈b.toList,U x:=λh x hx=>ua x (h.pm.mem_iff.mp hx);have asc:∀ {b:A5 A7} {n:Ai} {f:Ai->Ak (Ak Ai) × Ai->Hb CL EZ (ForInStep (Ak (Ak Ai) × Ai))},Cr arr b lo N->1<=n->n<=N->Seg r b lo n ->
   (∀ x m,f x (none,m)=(ltAt' (lo+m) (lo+m-1) >>= λo=>match o with
    |some z=>if z then pure (.done (none,m)) else pure (.yield (none,m+1))
    |_=>pure (.done (Ab none,m))))->wpS (As prog w) A E s (forIn [n:N] (none,n) f) (λc st'=>st'=Bd κ b pd g none/\∃ m,c=(none,m)/\n<=m/\m<=N/\Seg r b lo m/\(m=N\/r (b.getD (lo+m) nv)<r (b.getD (lo+m-1) nv))) (Bd κ b pd g none):=by
  intro b n f cr hn hN sg hf;have zb:=cr.z;refine Cw (I:=λx c st'=>st'=Bd κ b pd g none/\c=(none,x)/\n<=x/\Seg r b lo x) ?_ ?_ ⟨rfl,rfl,Au _,sg⟩
  .rintro x c st' hx1 hx ⟨rfl,rfl,hx3,sg⟩
   rw[hf];refine Av (u4 C (uc cr) (by lia) (by lia) ?_)
   by_cases l:r (b.getD (lo+x) nv)<r (b.getD (lo+x-1) nv)
   .simp only[l,En,Ca]
    exact A4 ⟨rfl,x,rfl,hx1,by lia,sg,.inr l⟩
   .simp only[l,EI,Bu,D6]
    exact A4 ⟨rfl,rfl,by lia,oW sg (by lia) (by lia)⟩
  .rintro c st' ⟨rfl,rfl,hx3,sg⟩
   rw[show max n N=N by lia] at sg ⊢
   exact⟨rfl,N,rfl,hN,Au _,sg,.inl rfl⟩
 refine Av (Dq (asc Cr.rfl' (Au 1) h1 lY λ_ _=>rfl) ?_);rintro c st' ⟨rfl,n,rfl,n1,n2,sg,nd⟩;dsimp only;refine qM (λe=>A4 (h n arr n1 n2 Cr.rfl' sg)) λe=>?_;have e:¬ n=N:=by simpa using e
 have nd:r (arr.getD (lo+n) nv)<r (arr.getD (lo+n-1) nv):=by lia
 apply qM
 case' h1 =>
  intro np;refine Av (u4 C ua (by lia) (by lia) ?_)
  dsimp only;refine qM (λe=>A4 (h n arr n1 n2 Cr.rfl' sg)) λl=>?_;have l:¬ r (arr.getD lo nv)<r (arr.getD (lo+n-1) nv):=by simpa using l
  refine Av (kM ?_);have cr:Cr arr (mir arr lo (lo+n)) lo N:=Cr.rfl'.mir (Au _) (by lia) (by lia)
  have ds:Dsg r (mir arr lo (lo+n)) lo (n+1):=by
   refine yW (λi j a b c=>?_) n1 ?_
   .rw[xP (by lia),xP (by lia),A0 (by lia),A0 (by lia)]
    exact sg _ _ (by lia) (by lia) (by lia)
   .rw[xP (by lia),xP (by lia),Aw (by lia),A0 (by lia),show lo+(lo+n)-1-(lo+n-1)=lo by lia]
    lia
 case' h2 =>
  intro np;have cr:Cr arr arr lo N:=Cr.rfl';have ds:Dsg r arr lo (n+1):=by
   have:n=1:=by lia
   subst this;exact yW X6 (Au _) (Ds nd)
 all_goals
  refine Av (HL (D3 ⟨rfl,?_⟩));refine Av (Dq (Cw (I:=λx c st'=>∃ b q,st'=Bd κ b pd g none/\c=(none,x,q)/\Cr arr b lo N/\Dsg r b lo x/\cZ r b lo x q)
   (Q:=λc st'=>∃ b m q,st'=Bd κ b pd g none/\c=(none,m,q)/\1<=m/\m<=N/\Cr arr b lo N/\Dsg r b lo m/\cZ r b lo m q) ?_ ?_ ⟨_,0,rfl,rfl,cr,ds,by lia,λk a b=>by rw[show k=lo+(n+1)-1 by lia]⟩) ?_)
  .rintro x c st' hx1 hx ⟨b,q,rfl,rfl,cr,ds,eq⟩
   dsimp only;have zb:=cr.z;refine Av (u4 C (uc cr) (by lia) (by lia) ?_)
   dsimp only;refine qM (λl=>?_) λl=>?_
   .have l:r (b.getD (lo+x) nv)<r (b.getD (lo+x-1) nv):=by simpa using l
    refine qM (λqp=>Av (kM (A4 ⟨_,0,rfl,rfl,cr.mir (by have:=eq.1;lia) (by lia) (by lia),λi j a c d=>?_,by lia,λk a b=>by rw[show k=lo+(x+1)-1 by lia]⟩))) λqp=>A4 ⟨_,0,rfl,rfl,cr,yW ds (by lia) (Ds l),by lia,λk a b=>by rw[show k=lo+(x+1)-1 by lia]⟩
    rw[uH (by lia) eq,uH (by lia) eq]
    exact yW ds (by lia) (Ds l) i j a c d
   .have l:¬ r (b.getD (lo+x) nv)<r (b.getD (lo+x-1) nv):=by simpa using l
    refine Av (u4 C (uc cr) (by lia) (by lia) ?_)
    dsimp only;refine qM (λl2=>A4 ⟨b,x,q,rfl,rfl,by lia,by lia,cr,ds,eq⟩) λl2=>?_
    have l2:¬ r (b.getD (lo+x-1) nv)<r (b.getD (lo+x) nv):=by simpa using l2
    have ee:r (b.getD (lo+x) nv)=r (b.getD (lo+x-1) nv):=by lia
    refine A4 ⟨b,q+1,rfl,rfl,cr,yW ds (by lia) (by lia),by have:=eq.1;lia,λk a c=>?_⟩
    rw[show lo+(x+1)-1=lo+x by lia]
    by_cases kx:k=lo+x
    .rw[kx]
    .rw[ee];exact eq.2 k (by lia) (by lia)
  .rintro c st' ⟨b,q,rfl,rfl,cr,ds,eq⟩
   rw[show max (n+1) N=N by lia] at ds eq ⊢
   exact⟨b,N,q,rfl,rfl,h1,Au _,cr,ds,eq⟩
  .rintro c st' ⟨b,m,q,rfl,rfl,m1,m2,cr,ds,eq⟩
   dsimp only;have zb:=cr.z;apply qM
   case' h1 =>
    intro qp;refine Av (kM ?_);have cr2:=cr.mir (i:=lo+m-(q+1)) (j:=lo+m) (by have:=eq.1;lia) (by lia) (by lia)
    have ds2:Dsg r (mir b (lo+m-(q+1)) (lo+m)) lo m:=λi j a c d=>by
     rw[uH (by lia) eq,uH (by lia) eq]
     exact ds i j a c d
   case' h2 =>
    intro qp;have cr2:=cr;have ds2:=ds
   all_goals
    have z2:=cr2.z;refine Av (kM ?_);refine Av (Dq (asc (cr2.mir (Au _) (by lia) (by lia)) m1 m2 (X5 (by lia) ds2) λ_ _=>rfl) ?_)
    rintro c st' ⟨rfl,n',rfl,q1,q2,q3,_⟩;exact A4 (h n' _ (by lia) q2 (cr2.mir (Au _) (by lia) (by lia)) q3)
end
theorem mH {a:A5 A7}{src d:Ai}(hs:src<a.size)(hd:d<=src)(k:Ai):(bubble a src d).getD k nv=if k=src-d then a.getD src nv else if src-d<k/\k<=src then a.getD (k-1) nv else a.getD k nv:=by
 simp only[Cq];rw[getElem?_bubble hs d hd]
 repeat' split
 all_goals rfl
section
variable {prog:A6}{w:AK}{A:AB}{E:Ac->Ag->Prop}{s:Ag}{κ : Fi}{U:A7->Prop}{r:A7->Am}
theorem nE (C:Cm (As prog w) A s κ U r){lo n ok:Ai}{arr:A5 A7}{pd:A5 (Ai × Ai × Ai)}{g:Ai}{Q:Aq->CL->Prop}(ua:∀ x∈arr.toList,U x)(h1:ok<=n)(hz:lo+n<=arr.size)(sg:Seg r arr lo ok)
  (h:∀ b,Cr arr b lo n->Seg r b lo n->Q true (Bd κ b pd g none)):wpS (As prog w) A E s (binarySort' lo n ok) Q (Bd κ arr pd g none):=by
 have uc:∀ {b:A5 A7},Cr arr b lo n->∀ x∈b.toList,U x:=λh x hx=>ua x (h.pm.mem_iff.mp hx);have sg1:Seg r arr lo (max ok 1):=by
  by_cases q:ok=0
  .rw[q];exact lY
  .rw[show max ok 1=ok by lia];exact sg
 refine Av (Dq (Cw (I:=λk c st'=>c=(none,())/\∃ b,st'=Bd κ b pd g none/\Cr arr b lo n/\Seg r b lo (min k (max ok (max n 1))))
  (Q:=λc st'=>c=(none,())/\∃ b,st'=Bd κ b pd g none/\Cr arr b lo n/\Seg r b lo n) ?_ ?_ ⟨rfl,arr,rfl,Cr.rfl',?_⟩) ?_)
 .rintro k c st' hk hkn ⟨rfl,b,rfl,cr,sg⟩
  have zb:=cr.z;rw[show min k (max ok (max n 1))=k by lia] at sg
  dsimp only;refine Av (Dq (Cw (I:=λx c st'=>st'=Bd κ b pd g none/\∃ l u,c=(none,l,u)/\l<=u/\u<=k/\u-l<=k-x/\(∀ i,i<l->r (b.getD (lo+i) nv)<=r (b.getD (lo+k) nv))/\∀ i,u<=i->i<k->r (b.getD (lo+k) nv)<r (b.getD (lo+i) nv))
   (Q:=λc st'=>st'=Bd κ b pd g none/\∃ l u,c=(none,l,u)/\l<=k/\(∀ i,i<l->r (b.getD (lo+i) nv)<=r (b.getD (lo+k) nv))/\∀ i,l<=i->i<k->r (b.getD (lo+k) nv)<r (b.getD (lo+i) nv)) ?_ ?_
   ⟨rfl,0,k,rfl,by lia,by lia,by lia,λi hi=>by lia,λi a b=>by lia⟩) ?_)
  .rintro x c st' _ hx ⟨rfl,l,u,rfl,q1,q2,q3,q4,q5⟩
   dsimp only;refine qM (λe=>A4 ⟨rfl,l,u,rfl,by lia,q4,λi a b=>q5 i (by lia) b⟩) λe=>?_
   refine Av (u4 C (uc cr) (by lia) (by lia) ?_)
   dsimp only;refine qM (λz=>?_) λz=>?_
   .have z:r (b.getD (lo+k) nv)<r (b.getD (lo+(l+u)/2) nv):=by simpa using z
    exact A4 ⟨rfl,_,_,rfl,by lia,by lia,by lia,q4,λi a c=>Int.lt_of_lt_of_le z (sg _ _ (by lia) (by lia) (by lia))⟩
   .have z:¬ r (b.getD (lo+k) nv)<r (b.getD (lo+(l+u)/2) nv):=by simpa using z
    exact A4 ⟨rfl,_,_,rfl,by lia,by lia,by lia,λi a=>Cd (sg _ _ (by lia) (by lia) (by lia)) (Nd.mp z),q5⟩
  .rintro c st' ⟨rfl,l,u,rfl,q1,q2,q3,q4,q5⟩
   exact⟨rfl,l,u,rfl,by lia,q4,λi a b=>q5 i (by lia) b⟩
  .rintro c st' ⟨rfl,l,u,rfl,q1,q4,q5⟩
   dsimp only;refine Av (DZ (A4 ⟨rfl,_,rfl,⟨(HJ.mp (bubble_perm _ _ _)).trans cr.pm,λj hj=>?_⟩,?_⟩))
   .show (bubble b (lo+k) (lo+k-(lo+l))).getD j nv=_
    rw[mH (by lia) (by lia),Aw (by lia),Aw (by lia)]
    exact cr.out j hj
   .rw[show min (k+1) (max ok (max n 1))=k+1 by lia]
    have e:∀ j,(bubble b (lo+k) (lo+k-(lo+l))).getD j nv=if j=lo+l then b.getD (lo+k) nv else if lo+l<j/\j<=lo+k then b.getD (j-1) nv else b.getD j nv:=λj=>by
     rw[mH (by lia) (by lia),show lo+k-(lo+k-(lo+l))=lo+l by lia]
    intro i j a c d;show r ((bubble b (lo+k) (lo+k-(lo+l))).getD i nv)<=r ((bubble b (lo+k) (lo+k-(lo+l))).getD j nv);rw[e,e];by_cases i1:i<lo+l
    .rw[Aw (by lia),Aw (by lia)]
     have u1:=q4 (i-lo) (by lia)
     rw[show lo+(i-lo)=i by lia] at u1
     by_cases j1:j<lo+l
     .rw[Aw (by lia),Aw (by lia)];exact sg i j a c (by lia)
     .by_cases j2:j=lo+l
      .rw[A0 j2];exact u1
      .rw[Aw j2,A0 (by lia)];exact sg _ _ a (by lia) (by lia)
    .by_cases i2:i=lo+l
     .rw[A0 i2]
      by_cases j2:j=lo+l
      .rw[A0 j2];exact DU _
      .rw[Aw j2,A0 (by lia)]
       have:=q5 (j-1-lo) (by lia) (by lia)
       rw[show lo+(j-1-lo)=j-1 by lia] at this
       exact Ds this
     .rw[Aw i2,A0 (by lia),Aw (by lia),A0 (by lia)]
      exact sg _ _ (by lia) (by lia) (by lia)
 .rintro c st' ⟨rfl,b,rfl,cr,sg⟩
  refine⟨rfl,b,rfl,cr,?_⟩;intro i j a c d;exact sg i j a c (by lia)
 .rw[show min (max ok 1) (max ok (max n 1))=max ok 1 by lia];exact sg1
 .rintro c st' ⟨rfl,b,rfl,cr,sg⟩
  exact A4 (h b cr sg)
end
def Rn (r:A7->Am)(a:A5 A7):Aa (Ai × Ai × Ai)->Ai->Ai->Prop
 |[],x,y=>x=y
 |(s,n,_)::t,x,y=>s=x/\0<n/\Seg r a s n/\Rn r a t (x+n) y
section
variable {r:A7->Am}{a b:A5 A7}
theorem Rn.app:∀ {L1 L2:Aa (Ai × Ai × Ai)} {x y:Ai},Rn r a (L1++L2) x y↔∃ m,Rn r a L1 x m/\Rn r a L2 m y
 |[],L2,x,y=>⟨λh=>⟨x,rfl,h⟩,λ⟨m,h1,h2⟩=>by cases h1;exact h2⟩
 |(s,n,p)::t,L2,x,y=>by
  show s=x/\0<n/\Seg r a s n/\Rn r a (t++L2) (x+n) y↔∃ m,(s=x/\0<n/\Seg r a s n/\Rn r a t (x+n) m)/\Rn r a L2 m y;rw[Rn.app];exact⟨λ⟨h1,h2,h3,m,h4,h5⟩=>⟨m,⟨h1,h2,h3,h4⟩,h5⟩,λ⟨m,⟨h1,h2,h3,h4⟩,h5⟩=>⟨h1,h2,h3,m,h4,h5⟩⟩
theorem Rn.le:∀ {L:Aa (Ai × Ai × Ai)} {x y:Ai},Rn r a L x y->x+L.length<=y
 |[],x,y,h=>by cases h;simp
 |(s,n,p)::t,x,y,h=>by have:=Rn.le h.2.2.2;have:=h.2.1;simp only[AV];lia
theorem Rn.congr:∀ {L:Aa (Ai × Ai × Ai)} {x y:Ai},Rn r a L x y->(∀ k,x<=k->k<y->b.getD k nv=a.getD k nv)->Rn r b L x y
 |[],x,y,h,_=>h
 |(s,n,p)::t,x,y,h,e=>by
  obtain⟨rfl,h2,h3,h4⟩:=h;have l:=Rn.le h4;refine⟨rfl,h2,λi j a c d=>?_,Rn.congr h4 λk h1 h2=>e k (by lia) h2⟩
  rw[e i (by lia) (by lia),e j (by lia) (by lia)]
  exact h3 i j a c d
theorem Rn.mod {f:Ai × Ai × Ai->Ai × Ai × Ai}(hf:∀ u v p,∃ p',f (u,v,p)=(u,v,p')):∀ {L:Aa (Ai × Ai × Ai)} {i x y:Ai},Rn r a L x y->Rn r a (L.modify i f) x y
 |[],i,x,y,h=>by simpa using h
 |(s,n,p)::t,0,x,y,h=>by
  obtain⟨p',e⟩:=hf s n p;rw[List.modify_zero_cons,e];exact h
 |(s,n,p)::t,i+1,x,y,h=>by
  rw[List.modify_succ_cons];exact⟨h.1,h.2.1,h.2.2.1,Rn.mod hf h.2.2.2⟩
end
theorem GI {α:Type}{l:Aa α}{i:Ai}(h:i+1<l.length):∃ L1 x y L2,l=L1++x::y::L2/\L1.length=i:=by
 refine⟨l.take i,l[i],l[i+1],l.drop (i+2),?_,by rw[Du];lia⟩
 rw[<- Dv h,<- Dv (by lia),Hc]
section
variable {prog:A6}{w:AK}{A:AB}{E:Ac->Ag->Prop}{s:Ag}{κ : Fi}{U:A7->Prop}{r:A7->Am}
theorem p9 (C:Cm (As prog w) A s κ U r){i e:Ai}{Q:Aq->CL->Prop}{arr:A5 A7}{pd:A5 (Ai × Ai × Ai)}{g:Ai}(ua:∀ x∈arr.toList,U x)(hi:i+1<pd.size)(R:Rn r arr pd.toList 0 e)(he:e<=arr.size)
  (h:∀ b pd' g,b.toList.Perm arr.toList->(∀ k,e<=k->b.getD k nv=arr.getD k nv)->Rn r b pd'.toList 0 e->pd'.size+1=pd.size->Q true (Bd κ b pd' g none)):wpS (As prog w) A E s (mergeAt' i) Q (Bd κ arr pd g none):=by
 obtain⟨L1,⟨sa,na,pa⟩,⟨sb,nb,pb⟩,L2,el,hl⟩:=GI (l:=pd.toList) (i:=i) (by simpa using hi)
 rw[el] at R;obtain⟨m,R1,rfl,p1,s1,rfl,p2,s2,R2⟩:=Rn.app.mp R;have l2:=Rn.le R2;have e1:pd[i]? = Ab (sa,na,pa):=by
  rw[<- Cu,el,<- hl,Ch (Au _),L0];rfl
 have e2:pd[i+1]? = Ab (sa+na,nb,pb):=by
  rw[<- Cu,el,<- hl,Ch (by lia),Et];rfl
 refine nN C ua e1 e2 p1 p2 (by lia) s1 s2 λb g pm out sg=>?_
 have ep:((pd.setIfInBounds i (sa,na+nb,pa)).eraseIdxIfInBounds (i+1)).toList=L1++(sa,na+nb,pa)::L2:=by
  rw[Array.toList_eraseIdxIfInBounds,Array.toList_setIfInBounds,el,<- hl,List.set_append_right _ _ (Au _),L0,List.set_cons_zero,List.eraseIdx_append_of_length_le (by lia),Et]
  rfl
 refine h b _ g pm (λk hk=>out k (by lia)) ?_ ?_
 .rw[ep]
  refine Rn.app.mpr ⟨sa,R1.congr λk _ hk=>out k (by lia),rfl,by lia,sg,?_⟩
  rw[<- Nat.add_assoc];exact R2.congr λk hk _=>out k (by lia)
 .have:=congrArg HD ep
  have q:=congrArg HD el;simp only[AN,CP,AV] at this q
  lia
theorem fM (C:Cm (As prog w) A s κ U r){Q:H8->CL->Prop}{arr:A5 A7}{g:Ai}(ua:∀ x∈arr.toList,U x)(h2:0<arr.size)
  (h:∀ b pd g,b.toList.Perm arr.toList->b.toList.Pairwise (Le r)->Q () (Bd κ b pd g none)):wpS (As prog w) A E s sortRuns' Q (Bd κ arr #[] g none):=by
 have uc:∀ {b:A5 A7},b.toList.Perm arr.toList->∀ x∈b.toList,U x:=λh x hx=>ua x (h.mem_iff.mp hx);have zc:∀ {b:A5 A7},b.toList.Perm arr.toList->b.size=arr.size:=λh=>by simpa using h.length_eq
 refine Av (Fz ?_);dsimp only;refine Av (Dq (Cw (I:=λx c st'=>∃ b pd g lo,st'=Bd κ b pd g none/\c=(none,lo)/\b.toList.Perm arr.toList/\lo<=arr.size/\min x arr.size<=lo/\Rn r b pd.toList 0 lo)
  (Q:=λc st'=>∃ b pd g,st'=Bd κ b pd g none/\c=(none,arr.size)/\b.toList.Perm arr.toList/\Rn r b pd.toList 0 arr.size) ?_ ?_ ⟨arr,#[],g,0,rfl,rfl,H0 _,by lia,by lia,rfl⟩) ?_)
 .rintro x c st' _ hx ⟨b,pd,g,lo,rfl,rfl,pm,lo1,lo2,R⟩
  have zb:=zc pm;dsimp only;refine qM (λe=>A4 ⟨b,pd,g,rfl,by rw[show lo=arr.size by lia],pm,by rw[show arr.size=lo by lia];exact R⟩) λe=>?_
  refine Av (fL C (uc pm) (by lia) (by lia) λn b2 n1 n2 cr sg=>?_)
  have R2:Rn r b2 pd.toList 0 lo:=R.congr λk _ hk=>cr.out k (.inl hk);have pm2:=cr.pm.trans pm;have z2:=zc pm2;dsimp only;apply qM
  case' h1 =>
   intro lt;refine Av (HL (D3 ⟨rfl,?_⟩));refine Av (nE C (uc pm2) (by lia) (by lia) sg λb3 cr3 sg3=>?_)
   have R3:Rn r b3 pd.toList 0 lo:=R2.congr λk _ hk=>cr3.out k (.inl hk);have pm3:=cr3.pm.trans pm2;refine qM (λe=>by simp at e) λ_=>?_
   have n3:lo+min (arr.size-lo) ((sortPriv% PySem.Builtin.minRun) arr.size arr.size 0)<=arr.size:=by lia
   have n4:0<min (arr.size-lo) ((sortPriv% PySem.Builtin.minRun) arr.size arr.size 0):=by lia
  case' h2 =>
   intro lt;have R3:=R2;have pm3:=pm2;have sg3:=sg;have n3:lo+n<=arr.size:=by lia
   have n4:0<n:=n1
  all_goals
   refine Av (Fz ?_);dsimp only;rcases hb:pd.back? with _|⟨s1,l1,p1⟩
   .dsimp only
    refine Av (DZ (A4 ⟨_,_,_,_,rfl,rfl,pm3,n3,by lia,?_⟩))
    show Rn r _ (pd.push _).toList 0 _;rw[Ef];exact Rn.app.mpr ⟨lo,R3,rfl,n4,sg3,rfl⟩
   .dsimp only
    refine Av (Dq (Cw (I:=λ_ c st'=>c=(none,())/\∃ b pd g,st'=Bd κ b pd g none/\b.toList.Perm arr.toList/\Rn r b pd.toList 0 lo/\Seg r b lo _)
     (Q:=λc st'=>c=(none,())/\∃ b pd g,st'=Bd κ b pd g none/\b.toList.Perm arr.toList/\Rn r b pd.toList 0 lo/\Seg r b lo _) ?_ (λ_ _ z=>z) ⟨rfl,_,pd,g,rfl,pm3,R3,sg3⟩) ?_)
    .rintro y c st' _ hy ⟨rfl,b,pd,g,rfl,pm,R,sg⟩
     have zb:=zc pm;refine Av (Fz ?_);dsimp only;by_cases hp:pd.size>1
     .rw[A0 hp]
      rcases hq:pd[pd.size-2]? with _|⟨u,v,old⟩
      .exact A4 ⟨rfl,b,pd,g,rfl,pm,R,sg⟩
      .dsimp only
       refine qM (λ_=>A4 ⟨rfl,b,pd,g,rfl,pm,R,sg⟩) λ_=>?_;refine Av (p9 C (uc pm) (by lia) R (by lia) λb' pd' g' p' out R' _=>?_)
       refine qM (λe=>by simp at e) λ_=>A4 ⟨rfl,b',pd',g',rfl,p'.trans pm,R',λi j a c d=>?_⟩
       rw[out i a,out j (by lia)]
       exact sg i j a c d
     .rw[Aw hp]
      exact A4 ⟨rfl,b,pd,g,rfl,pm,R,sg⟩
    .rintro c st' ⟨rfl,b,pd,g,rfl,pm,R,sg⟩
     dsimp only;refine Av (DZ (Av (DZ (A4 ⟨_,_,_,_,rfl,rfl,pm,n3,by lia,?_⟩))))
     show Rn r b ((pd.modify (pd.size-1) _).push _).toList 0 _;rw[Ef,Array.toList_modify];exact Rn.app.mpr ⟨lo,Rn.mod (λ_ _ _=>⟨_,rfl⟩) R,rfl,n4,sg,rfl⟩
 .rintro c st' ⟨b,pd,g,lo,rfl,rfl,pm,lo1,lo2,R⟩
  have:lo=arr.size:=by lia
  subst this;exact⟨b,pd,g,rfl,rfl,pm,R⟩
 .rintro c st' ⟨b,pd,g,rfl,rfl,pm,R⟩
  dsimp only;have hl:=R.le;rw[AN] at hl;refine Av (Dq (Cw (I:=λx c st'=>c=(none,())/\∃ b pd g,st'=Bd κ b pd g none/\b.toList.Perm arr.toList/\Rn r b pd.toList 0 arr.size/\(pd.size<=1\/pd.size+x<=arr.size))
   (Q:=λc st'=>c=(none,())/\∃ b pd g,st'=Bd κ b pd g none/\b.toList.Perm arr.toList/\Rn r b pd.toList 0 arr.size/\pd.size<=1) ?_ ?_ ⟨rfl,b,pd,g,rfl,pm,R,by lia⟩) ?_)
  .rintro x c st' _ hx ⟨rfl,b,pd,g,rfl,pm,R,hs⟩
   have zb:=zc pm;refine Av (Fz ?_);dsimp only;refine qM (λe=>A4 ⟨rfl,b,pd,g,rfl,pm,R,e⟩) λe=>?_;refine Av (p9 C (uc pm) ?_ R (by lia) λb' pd' g' p' out R' z'=>?_)
   .have e:¬ pd.size<=1:=e
    have q:∀ (c:Prop) [Ep c],(if c then pd.size-2-1 else pd.size-2)+1<pd.size:=λc _=>by split <;> lia
    exact q _
   exact qM (λe=>by simp at e) λ_=>A4 ⟨rfl,b',pd',g',rfl,p'.trans pm,R',by lia⟩
  .rintro c st' ⟨rfl,b,pd,g,rfl,pm,R,hs⟩
   exact⟨rfl,b,pd,g,rfl,pm,R,by lia⟩
  .rintro c st' ⟨rfl,b,pd,g,rfl,pm,R,hs⟩
   have zb:=zc pm;refine A4 (h b pd g pm ?_);have hs:pd.toList.length<=1:=by simpa using hs
   revert R hs
   cases pd.toList with
   |nil=>intro R;have:0=arr.size:=R;lia
   |cons q t =>
    obtain⟨s0,n0,p0⟩:=q;intro R hs;have:t=[]:=by cases t with|nil=>rfl|cons _ _=>simp at hs
    subst this;obtain⟨rfl,_,sg,e⟩:=R;have e:n0=arr.size:=by have:0+n0=arr.size:=e;lia
    subst e;rw[Ee];intro i j hi hj l;have hi':i<b.size:=by simpa using hi
    have hj':j<b.size:=by simpa using hj
    have:=sg i j (by lia) (by lia) (by lia)
    simpa [DY,hi',hj',Le] using this
end
structure Cmps (prog:A6)(w:AK)(h0:AC)(vs:Aa Ac)(f:Ai->Ai->Aq):Prop where
 ex:∃ κ,∀ (A:AB),A.units+8<CZ->∀ (s:Ag),Sup h0 s.heap->(∀ (Q:Fi->Ag->Prop) (E:Ac->Ag->Prop),Q κ s->Ar (As prog w) A (keyKind' vs.toArray) Q E s)/\∀ i j (C:Aq->Ag->Prop),i<vs.length->j<vs.length->C (f i j) s->kas_ask prog w A κ vs i j C s
open Classical in
def kV {K:Type}(is:K->Ac->Prop)(d:K)(v:Ac):K:=if h:∃ k,is k v then choose h else d
open Classical in
theorem uT {K:Type}{is:K->Ac->Prop}{d:K}{v:Ac}(h:∃ k,is k v):is (kV is d v) v:=by
 unfold kV;rw[dif_pos h];exact choose_spec h
section
variable {prog:A6}{w:AK}{A:AB}{E:Ac->Ag->Prop}{s:Ag}
theorem PZ {K:Type}{is:K->Ac->Prop}{lt':K->K->Aq}{d:K}(O:Ord lt')(inj:∀ {k k':K} {v:Ac},is k v->is k' v->k=k'){a:Ad}{vs:Aa Ac}{ks:Aa K}{n:Ai}{h0:AC}{P:PySem.Fin->Ag->Prop}(hlen:vs.length=ks.length)(hks:∀ i v,vs[i]? = Ab v->is (ks.getD i d) v)(ho:s.heap.get? a=Ab (Di "list" vs.toArray n))(hu:A.units+8<CZ)(hz:vs.length<=100000)(c:2<=vs.length->Cmps prog w h0 vs (mF lt' ks d))(hS:Sup h0 s.heap)(ha:h0.get? a=none)
  (h:∀ ps:Aa (K × Ac),ps.Perm (ks.zip vs)->Nf lt' (ps.map (·.1))->P (.done (.ret .none)) { s with heap:=sortedHeap s.heap a vs (ps.map (·.2)).toArray }) : Ar (As prog w) A (Hv.«list.sort» ⟨[.ref a],[]⟩) P E s:=by
 rw[list_sort_plain];have hb:a<s.heap.objs.size:=Ay ho;have hsz:vs.toArray.size=vs.length:=by simp
 refine Af (listItems_at ho rfl (Af (listUpdate_at ho rfl ?_ (by rw[hsz,DB];lia) (Fc _))))
 obtain⟨e1,ho1⟩:∃ e1,(s.heap.update a (Do λ_=>#[])).get? a=Ab (Di "list" #[] e1):=⟨_,IY ho (λ_=>#[])⟩;refine Af (seqEpoch_at ho1 rfl (Af (wpAny_newTuple (Af (wpAny_newList (Bx ?_) (Fc _))) (by show vs.length<=_;rw[DB];lia))))
 have ho6:(((s.heap.update a (Do λ_=>#[])).push (Di "tuple" vs.toArray 0)).push (Di "list" #[] 0)).get? a=Ab (Di "list" #[] e1):=
  Aj _ (Aj _ ho1)
 have S6:Sup h0 (((s.heap.update a (Do λ_=>#[])).push (Di "tuple" vs.toArray 0)).push (Di "list" #[] 0)):=λb o e =>
  Aj _ (Aj _ ((A9 _ _ (λz:a=b=>by rw[<- z,ha] at e;cases e)).trans (hS b o e)))
 show Ar (As prog w) A _ P E { s with heap:=((s.heap.update a (Do λ_=>#[])).push (Di "tuple" vs.toArray 0)).push (Di "list" #[] 0) }
 dsimp only;have fin:∀ (st':CL) (ps:Aa (K × Ac)),(arrOf st').map (·.2)=(ps.map (·.2)).toArray->failedOf st'=none->ps.Perm (ks.zip vs)->Nf lt' (ps.map (·.1))->Ar (As prog w) A (do
   let touched:=(<- seqEpoch a) != e1
   NN (.ref a) λ_=>(arrOf st').map (·.2)
   if let Ab e:=failedOf st' then rule "list.sort.comparison-raised";throw e
   if touched then rule "list.sort.modified";raiseError "ValueError" "list modified during sort"
   ret .none) P E { s with heap:=((s.heap.update a (Do λ_=>#[])).push (Di "tuple" vs.toArray 0)).push (Di "list" #[] 0) }:=by
  intro st' ps h1 h2 h3 h4;have hl:(ps.map (·.2)).length=vs.length:=by rw[AW,h3.length_eq,IZ,hlen,IA]
  refine Af (seqEpoch_at ho6 rfl ?_);rw[h1];refine Af (listUpdate_at ho6 rfl ?_ (Fc _) (by show (ps.map (·.2)).toArray.size<=_;rw[AG,hl,DB];lia))
  rw[h2];simp only[bne_self_eq_false,Bu,D6];exact An (h ps h3 h4)
 by_cases h2:vs.toArray.size<2
 .rw[A0 h2,A0 h2]
  refine Af (An ?_);rw[StateT.run_pure];refine Af (An ?_);refine fin (Bd general' (vs.toArray.zip vs.toArray) #[] 7 none) (ks.zip vs) ?_ rfl (H0 _) ?_
  .show (vs.toArray.zip vs.toArray).map (·.2)=_
   apply Mb.mp;simp[Mc,hlen]
  .rw[Iu (by lia)]
   match ks,hlen with
   |[],_=>exact HW
   |[_],_=>exact ID _ _
   |_::_::_,e=>simp at e h2;lia
 .rw[Aw h2,Aw h2]
  have h2':2<=vs.length:=by lia
  obtain⟨κ,C⟩:=c h2';obtain⟨k1,k2⟩:=C A hu { s with heap:=((s.heap.update a (Do λ_=>#[])).push (Di "tuple" vs.toArray 0)).push (Di "list" #[] 0) } S6
  have kv:∀ i,i<vs.length->kV is d (vs.getD i Bi)=ks.getD i d:=λi hi=>by
   have q:=hks i (vs.getD i Bi) (by rw[Cy,Ao hi];rfl)
   exact inj (uT ⟨_,q⟩) q
  have km:∀ i,i<vs.length->ks.getD i d∈ks:=λi hi=>by
   have:i<ks.length:=by lia
   simp[ET,this]
  have cm:Cm (As prog w) A { s with heap:=((s.heap.update a (Do λ_=>#[])).push (Di "tuple" vs.toArray 0)).push (Di "list" #[] 0) } κ (λx=>∃ i,i<vs.length/\x=(vs.getD i Bi,vs.getD i Bi)) (λx=>j7 lt' ks (kV is d x.1)):=by
   refine⟨?_⟩;rintro x y ⟨i,hi,rfl⟩ ⟨j,hj,rfl⟩ E Q st hk q;rw[lt'_eq];refine Av (Fz ?_);rw[hk];rw[kv i hi,kv j hj,<- tR O (km i hi)] at q;refine Av (HL (Gx (Dn (k2 i j (λb s'=>s'=_/\b=mF lt' ks d i j) hi hj ⟨rfl,rfl⟩) ?_ λ_ _ e=>e.elim)));rintro b s' ⟨rfl,rfl⟩;exact⟨rfl,A4 q⟩
  have pl:(vs.toArray.zip vs.toArray).toList=(DD vs.length).map λi=>(vs.getD i Bi,vs.getD i Bi):=by
   apply Iw
   .simp
   .intro i h1 h2
    have:i<vs.length:=by simpa using h2
    simp[this]
  refine Af (k1 _ _ ?_);refine Af (Dn (fM (E:=E) (Q:=λ_ st'=>∃ b pd g,st'=Bd κ b pd g none/\b.toList.Perm (vs.toArray.zip vs.toArray).toList/\b.toList.Pairwise (Le λx=>j7 lt' ks (kV is d x.1))) cm (arr:=vs.toArray.zip vs.toArray) (g:=7) ?_ ?_ λb pd g p q=>⟨b,pd,g,rfl,p,q⟩) ?_ λ_ _ e=>e)
  .intro x hx
   rw[pl] at hx;obtain⟨i,hi,rfl⟩:=AZ.mp hx;exact⟨i,Ej.mp hi,rfl⟩
  .simp;lia
  .rintro⟨⟨⟩,st'⟩ s' ⟨rfl,b,pd,g,rfl,pm,up⟩
   refine fin _ (b.toList.map λx=>(kV is d x.1,x.2)) ?_ rfl ?_ ?_
   .show b.map (·.2)=_
    apply Mb.mp;simp
   .refine(pm.map _).trans ?_
    rw[pl,Dl];have:ks.zip vs=(DD vs.length).map λi=>(ks.getD i d,vs.getD i Bi):=by
     apply Iw
     .simp[hlen]
     .intro i h1 h2
      have h3:i<vs.length:=by simpa using h2
      have h4:i<ks.length:=by lia
      simp[h3,h4]
    rw[this];refine List.Perm.of_eq (Eo λi hi=>?_);show (kV is d (vs.getD i Bi),_)=_;rw[kv i (Ej.mp hi)]
   .unfold Nf
    rw[Dl,EC];refine up.imp_of_mem λ{x y} hx hy h=>?_;have hx:=pm.mem_iff.mp hx;have hy:=pm.mem_iff.mp hy;rw[pl] at hx hy;obtain⟨i,hi,rfl⟩:=AZ.mp hx;obtain⟨j,hj,rfl⟩:=AZ.mp hy;have h:j7 lt' ks (kV is d (vs.getD i Bi))<=j7 lt' ks (kV is d (vs.getD j Bi)):=h;show lt' (kV is d (vs.getD j Bi)) (kV is d (vs.getD i Bi))=false;have hj:=Ej.mp hj;rw[tR O (ks:=ks) (by rw[kv j hj];exact km j hj)]
    exact AT (by lia)
end
section
variable {K:Type}{lt':K->K->Aq}
theorem GW {α:Type}{ks:Aa K}{vs:Aa α}{d:K}(hl:vs.length=ks.length){p:K × α}(h:p∈ks.zip vs):∃ i,vs[i]? = Ab p.2/\ks.getD i d=p.1:=by
 obtain⟨i,hi,e⟩:=Bl.mp h;have h1:i<ks.length:=by rw[IZ] at hi;lia
 have h2:i<vs.length:=by lia
 rw[List.getElem_zip] at e;subst e;exact⟨i,Ao h2,by simp[h1]⟩
end
structure Kind (prog:A6)(w:AK){K:Type}(is:K->Ac->Prop)(hash:K->Am)(lt':K->K->Aq)(d:K)(Fit:K->Prop)(h0:AC):Prop where
 ord:Ord lt'
 inj:∀ {k k':K} {v:Ac},is k v->is k' v->k=k'
 cmps:∀ {vs:Aa Ac} {ks:Aa K},vs.length=ks.length->(∀ i v,vs[i]? = Ab v->is (ks.getD i d) v)->(∀ k∈ks,Fit k)->2<=vs.length->Cmps prog w h0 vs (mF lt' ks d)
end _S
namespace _D
open PySem PySem.Spec PyProof.Rows _L
section
variable {X:Cx}{e:AA}{fa:DE}{p1 p2 pos1 pos2:CG}
theorem sW:CW "sorted" = Ab (.builtin "sorted"):=by decide +kernel
end
end _D
section
namespace _D
open PySem PySem.Spec PyProof.Rows _L
mutual
noncomputable def pyD:D->Ak PyData
 |.non=>Ab .none
 |.bl b=>Ab (.bool b)
 |.int i=>Ab (.int i)
 |.str x=>Ab (.str x)
 |.tup xs=>(oM xs).map .tuple
 |.lst xs=>(oM xs).map .list
 |.dct0=>Ab (.dict [])
 |_=>none
noncomputable def oM:Aa D->Ak (Aa PyData)
 |[]=>Ab []
 |d::ds=>(pyD d).bind λx=>(oM ds).map (x::·)
end
end _D
end
namespace _D
open PySem PySem.Spec PyProof.Rows _L
theorem dS {its:Aa Ac}{ns:Aa Am}(h:HS its ns):∃ xs:Aa (Am × IM),its=xs.map (λp=>Ja p.1 p.2)/\ns=xs.map (·.1):=by
 induction h with
 |nil=>exact⟨[],rfl,rfl⟩
 |cons n t h ih =>
  obtain⟨xs,rfl,rfl⟩:=ih;exact⟨(n,t)::xs,rfl,rfl⟩
theorem rM:∀ (ns:Aa Am) (i:Am),ns.foldl max i∈i::ns/\∀ a∈i::ns,a<=ns.foldl max i
 |[],i=>⟨by simp,λa ha=>by simp at ha;subst ha;exact DU _⟩
 |n::ns,i=>by
  obtain⟨h1,h2⟩:=rM ns (max i n);refine⟨?_,λa ha=>?_⟩
  .rcases A8.mp h1 with h|h
   .rcases NO i n with z|z
    .rw[Hj,h,Md z];simp
    .rw[Hj,h,Mv z];simp
   .exact AS _ (AS _ h)
  .have h3:=h2 (max i n) (by simp)
   rcases A8.mp ha with rfl|ha
   .exact Cd (Mw _ _) h3
   .rcases A8.mp ha with rfl|ha
    .exact Cd (Me _ _) h3
    .exact h2 a (AS _ ha)
theorem lK (xs:Aa (Am × IM))(i:Ai)(hi:i<xs.length):Jn xs.toArray i=(xs.map (·.1))[i]'(by simpa using hi):=by
 simp[Jn,hi]
end _D
namespace _L
open PySem PySem.Spec PyProof.Rows
variable {loose:Aa Ap}{mg mb:Ap->Ak Ac}
def FK (H:Hp):Prop:=∀ b,H b=none\/(∃ o xs,H b=Ab (.frz o (.lst xs)))\/H b=Ab (.tbl #[])
def Tb0 (K:Ah)(H:Hp):Prop:=∀ x∈xJ,∀ c T,Bj K x=Ab (c,T)->H T=Ab (.tbl #[])
structure Tabs (K:Ah)(h:AC):Prop where
 at':∀ x∈xJ,∀ c T,Bj K x=Ab (c,T)->Js h c T/\h.get? T=Ab (EF #[]) /\ K.lookup T=none
 inj:∀ x∈xJ,∀ y∈xJ,∀ c d T,Bj K x=Ab (c,T)->Bj K y=Ab (d,T)->x=y
theorem iQ {P:A6}{w:AK}{K:Ah}{CX:CXT}{k:Ai}{fa a:Ad}{fd:CN}{x:Ap}{sp:Sp}{s₁:Ag}{vs:Aa Ac}{ns:Aa Am}
  (KX:K.In s₁.heap) (hns:s₁.heap.Ns AO mg) (hb:s₁.heap.Ns Hu mb) (hbb:∀ x:Ap,x ≠ "__name__" -> mb x=CW x) (hlim:s₁.heap.NoLimit) (hg:s₁.gens=#[]) (hbm:YS mg s₁.heap) (tbs:Tabs K s₁.heap)
  (ha:s₁.heap.get? a=Ab { cls:=.type "list",data:=.seq vs.toArray }) (hi:HS vs ns) (hl:ns.length<=sizeLine) (hr:Room k HV)
  (F:∀ base:AC,K.In base->base.Ns AO mg->FnOk P w K mg base CX k fa fd [x] sp) (hbind:∀ (s:Ag) (u:Ac),Gq s fd ⟨[u],[]⟩ [(x,u)])
  (hsp:∀ H:Hp,Tb0 K H->SqX K H a (ns.map V.int)->sp [.ref a] H (λv _=>v=.bl true) λ_ _ _=>CF)
  (hCX:∀ H e s',CX [] H s₁ (λ_ _ _=>CF) e s'->CF) :
  DH (As P w) HV (.call (.ref fa) ⟨[.ref a],[]⟩) (λr s'=>r=.ok (.ret (.bool true))/\OldK s₁.heap s'.heap/\s'.os=s₁.os/\Gp s'.gens) s₁:=by
 have rv:=cQ hi;have lenV:=hi.length
 let isT:Ad->Prop:=λb=>∃ x∈xJ,∃ c,Bj K x=Ab (c,b)
 have tab:∀ b,isT b->s₁.heap.get? b=Ab (EF #[]) /\ K.lookup b=none:=λb ⟨x,hx,c,h⟩=>(tbs.at' x hx c b h).2;have core:∀ H:Hp,FK H->Tb0 K H->SqX K H a (ns.map V.int)->HOk P w H s₁.heap->(∀ b,H b≠none->b=a\/isT b)->(H a≠none->K.lookup a=none) ->
   DH (As P w) HV (.call (.ref fa) ⟨[.ref a],[]⟩) (λr s'=>r=.ok (.ret (.bool true))/\OldK s₁.heap s'.heap/\s'.os=s₁.os/\Gp s'.gens) s₁:=by
  intro H hO hT hS hok hA hK;have base_of:∀ {b:Ad} {o:AR},s₁.heap.get? b=Ab o->H b=none->(uN s₁.heap H).get? b=Ab o:=λe n=>iH e n;have noA:∀ {b:Ad} {o:AR},s₁.heap.get? b=Ab o->o.cls≠.none->(o.cls≠.type "list" \/ ∃ es ep,o.data=.dict es ep)->H b=none:=λ{b o} e c1 c2=>by
   cases q:H b with
   |none=>rfl
   |some u =>
    rcases hA b (by rw[q];simp) with e'|e'
    .subst e'
     rw[ha] at e;cases e;rcases c2 with z|⟨es,ep,d⟩
     .exact absurd rfl z
     .cases d
    .rw[(tab b e').1] at e;cases e
     exact absurd rfl c1
  have noD:∀ {b:Ad} {o:AR} {es:A5 DictEntry} {ep:Ai},s₁.heap.get? b=Ab o->o.data=.dict es ep->H b=none:=λ{b o es ep} e d=>by
   cases q:H b with
   |none=>rfl
   |some u =>
    rcases hA b (by rw[q];simp) with e'|e'
    .subst e'
     rw[ha] at e;cases e;cases d
    .rw[(tab b e').1] at e;cases e;cases d
  have nsK:∀ {b:Ad} {m:Ap->Ak Ac},s₁.heap.Ns b m->(uN s₁.heap H).Ns b m:=λ{b m} ⟨o,es,ep,e,d,r⟩=>⟨o,es,ep,base_of e (noD e d),d,r⟩;have hKb:K.In (uN s₁.heap H):=λb o e=>base_of (KX b o e) (by
   cases q:H b with
   |none=>rfl
   |some u =>
    rcases hA b (by rw[q];simp) with e'|e'
    .subst e'
     rw[hK (by rw[q];simp)] at e;cases e
    .rw[(tab b e').2] at e;cases e)
  have hM:Mod K mg (uN s₁.heap H):=by
   refine⟨hKb,nsK hns,⟨mb,nsK hb,hbb⟩,let ⟨mc,h1,h2⟩:=hlim;⟨mc,nsK h1,h2⟩,?_,λx hx c T h=>?_,tbs.inj⟩
   .obtain⟨bm,o,b1,b2,b3,b4,b5⟩:=hbm
    exact⟨bm,o,b1,b2,base_of b3 (noA b3 (by rw[b4];nofun) (.inl (by rw[b4];decide))),b4,b5⟩
   .obtain⟨o,vs,file,tf,flags,tg,inF,text,tt,e1,e2,r⟩:=(tbs.at' x hx c T h).1
    exact⟨o,vs,file,tf,flags,tg,inF,text,tt,base_of e1 (noA e1 (by rw[e2];nofun) (.inl (by rw[e2];decide))),e2,r⟩
  have e0:Env0 P w K mg (uN s₁.heap H) HV [] s₁ H:=⟨rfl,hM,λb o e=>WC e,Lz (rQ _ _),trivial,λb hb=>absurd (show b∈([]:Aa Ad) from hb) (by simp),hok,.of_eq hg⟩
  refine Lv ((F _ hKb (nsK hns)).run HV [] s₁ H ⟨[.ref a],[]⟩ [.ref a] [.ref a] _ _ hr e0 (hbind s₁ (.ref a)) (.cons rfl .nil) (hsp H hT hS)) λr s' h=>?_;cases r with
  |error e=>exact(hCX H e s' h).elim
  |ok fl =>
   cases fl with
   |next=>exact Al h
   |brk=>exact Al h
   |cont=>exact Al h
   |ret u =>
    obtain⟨v,H',os,bare,un,hok',r',q⟩:=h;have q':v=.bl true:=q;subst q';obtain rfl:u=De true:=r';refine⟨rfl,⟨λb o e=>?_,λb o e=>un.there b o e (by simp)⟩,os,bare⟩
    cases q:H b with
    |none=>exact .inl (un.keep b o e q (by intro z;exact absurd (show b∈([]:Aa Ad) from z) (by simp)) (by simp))
    |some u =>
     rcases hO b with z|⟨ob,xs,z⟩|z
     .rw[q] at z;cases z
     .have z2:=un.frzs b ob _ z
      obtain⟨e1,_⟩:=hok b _ z;obtain⟨e2,_⟩:=hok' b _ z2;rw[e] at e1;cases e1;exact .inl e2
     .obtain⟨more,z2⟩:=un.tbls b _ z
      have e1:s₁.heap.get? b=Ab (EF #[]):=hok b _ z;have e2:s'.heap.get? b=Ab (EF (#[] ++ more)):=hok' b _ z2;rw[e] at e1;cases e1;rcases hA b (by rw[q];simp) with e'|⟨x,hx,c,h⟩
      .subst e';rw[ha] at e;cases e
      .exact .inr (.inl ⟨((tbs.at' x hx c b h).1.tab e).isCodeTable,rfl,#[],more,rfl,e2⟩)
 have nT:¬ isT a:=λh=>by
  have z:=(tab a h).1;rw[ha] at z;cases z
 have tT:∀ x∈xJ,∀ c T,Bj K x=Ab (c,T)->isT T:=λx hx c T h=>⟨x,hx,c,h⟩;have dec:∀ b,Ep (isT b):=λb=>Classical.propDecidable _;cases hk:K.lookup a with
 |some o =>
  have e:=KX a o hk;rw[ha] at e;cases e;refine core (λb=>if isT b then Ab (.tbl #[]) else none) (λb=>?_) (λx hx c T h=>A0 (tT x hx c T h)) (.inr ⟨vs,_,hk,by rw[AW];exact hl,rv⟩) (λb u z=>?_) (λb z=>?_) λz=>absurd (Aw nT) z
  .by_cases h:isT b
   .exact .inr (.inr (A0 h))
   .exact .inl (Aw h)
  .by_cases h:isT b
   .have z':=(A0 h).symm.trans z
    cases z';exact(tab b h).1
   .have z':=(Aw h).symm.trans z
    cases z'
  .by_cases h:isT b
   .exact .inr h
   .exact absurd (Aw h) z
 |none =>
  refine core (λb=>if b=a then Ab (.frz { cls:=.type "list",data:=.seq vs.toArray } (.lst (ns.map V.int))) else if isT b then Ab (.tbl #[]) else none) (λb=>?_) (λx hx c T h=>?_) (.inl (.inr ⟨{ cls:=.type "list",data:=.seq vs.toArray },A0 rfl⟩)) (λb u z=>?_) (λb z=>?_) λ_=>hk
  .by_cases hb:b=a
   .exact .inr (.inl ⟨_,_,A0 hb⟩)
   .by_cases h:isT b
    .exact .inr (.inr ((Aw hb).trans (A0 h)))
    .exact .inl ((Aw hb).trans (Aw h))
  .have h':=tT x hx c T h
   exact(Aw (λ(z:T=a)=>nT (z▸h'))).trans (A0 h')
  .by_cases hb:b=a
   .have z':=(A0 hb).symm.trans z
    cases z';subst hb;exact⟨ha,by rw[AW];exact hl,vs,_,rv,ha⟩
   .by_cases h:isT b
    .have z':=((Aw hb).trans (A0 h)).symm.trans z
     cases z';exact(tab b h).1
    .have z':=((Aw hb).trans (Aw h)).symm.trans z
     cases z'
  .by_cases hb:b=a
   .exact .inl hb
   .by_cases h:isT b
    .exact .inr h
    .exact absurd ((Aw hb).trans (Aw h)) z
noncomputable def dJ (q:A6)(K:Ah):Aq:=xJ.all λx=>match Bj K x with
 |none=>true
 |some (_,T)=>((recsOf q).find? λe=>e.name == x).isSome&&((K.lookup T).isNone&&xJ.all λy=>match Bj K y with
  |none=>true
  |some (_,U)=>x == y||!decide (T=U))
theorem YD {q:A6}{mean:ExcName->Ak Ac}{h:AC}{K:Ah}(T:Top q loose mean mg mb h)(X:K.In h)(c:dJ q K=true):Tabs K h:=by
 unfold dJ at c;have g:∀ x∈xJ,∀ d U,Bj K x=Ab (d,U)->((recsOf q).find? λe=>e.name == x).isSome=true/\(K.lookup U).isNone=true/\(xJ.all λy=>match Bj K y with
  |none=>true
  |some (_,V)=>x == y||!decide (U=V))=true:=λx hx d U e=>by
  have z:=AJ.mp c x hx;rw[e] at z;simpa only [Az] using z
 refine⟨λx hx d U e=>?_,λx hx y hy d d' U e1 e2=>?_⟩
 .obtain⟨z1,z2,_⟩:=g x hx d U e
  obtain⟨r,hr⟩:=Eh.mp z1;obtain⟨k1,k2⟩:=PySem.W.tab_of T X hr e;exact⟨k1,k2,by simpa using z2⟩
 .have z:=AJ.mp (g x hx d U e1).2.2 y hy
  rw[e2] at z;simpa using z
theorem YH {l:Mx}{n k:Ai}{q:A6}{loose:Aa Ap}{XP:(Ap->Ak Ac)->AC->Prop}{YP:AK->AC->Prop}{d:DefRec}{K:Params->Ah}{CX:AK->CXT}{sp:AK->Sp}{x:Ap}
  (hn:l.most=Ab n) (hn2:n<=sizeLine) (hdf:d.params.defaults=[]) (hr:Room k HV) (ht:∀ p,dJ q (K p)=true)
  (hY:∀ (w:AK) (h:AC),YP w h->(K w.params).In h)
  (F:∀ (w:AK) (mg:Ap->Ak Ac) (fa:Ad) (h:AC),(K w.params).In h->h.Ns AO mg->mg d.name=Ab (.ref fa) ->
   ∃ fd:CN,(∀ (s:Ag) (u:Ac),Gq s fd ⟨[u],[]⟩ [(x,u)]) /\
    ∀ base:AC,(K w.params).In base->base.Ns AO mg->FnOk l.prog w (K w.params) mg base (CX w) k fa fd [x] (sp w))
  (hsp:∀ (w:AK) (H:Hp) (a:Ad) (ns:Aa Am),ns.length<=n->Tb0 (K w.params) H->SqX (K w.params) H a (ns.map V.int)->sp w [.ref a] H (λv _=>v=.bl true) λ_ _ _=>CF)
  (hCX:∀ (w:AK) (H:Hp) (s:Ag) (e:Ac) (s':Ag),CX w [] H s (λ_ _ _=>CF) e s'->CF) :
  N9 q loose XP YP l.row.toRowW d [] (λf vs=>Nc f vs):=by
 refine _A.attach_call hn hdf λw s₀ s₁ mg mb fa o pm cd doc a vs ns G Y ho hd hcd hmg hobj hints hlen hg=>?_;have KX:=hY w _ Y;obtain⟨fd,hb,hF⟩:=F w mg fa _ KX G.T.g hmg;exact iQ KX G.T.g G.T.b G.T.builtins G.T.nolimit hg (let ⟨bm,ob,b1,b2,b3,b4,b5,b6⟩:=G.T.bmain;⟨bm,ob,b1,b2,b3,b4,b5,b6⟩) (YD G.T KX (ht _)) hobj hints (Bn hlen hn2) hr hF hb (λH hT hS=>hsp w H a ns hlen hT hS) λH e s'=>hCX w H s₁ e s'
end _L
namespace _D
open PySem PySem.Spec PyProof.Rows _L
variable {K:Ah}{mg:Ap->Ak Ac}
theorem GA {h:AC}(X:K.In h)(G:h.Ns AO mg){x:Ap}{st:Cs}{ps:Aa Ap}{f:Ad}{oc:Ac}{od an:Ak Ad}{osl:A5 (Ak Ac)}{kV doc pm cdv ct:Ac}
  (a:Br K AO x=Ab (Ab (.ref f)))
  (l:K.lookup f=Ab ⟨oc,od,.func (CY x x (xT st) (zG st) (qK st) .none kV doc pm an cdv ct),osl⟩) (c:EE K cdv x=true) (k:Ci K (.ref f)=true)
  (hb:∀ (kV doc pm:Ac) (an:Ak Ad) (cdv ct:Ac) (us:Aa Ac),us.length=ps.length->HK (CY x x (xT st) (zG st) (qK st) .none kV doc pm an cdv ct) ⟨us,[]⟩=pure (ps.zip us)):Src K mg x st ps:=
 have F:=UC (st:=st) l c k
 ⟨f,_,Ky X G a,F,F.binds hb⟩
noncomputable def mK (K:Ah)(C:Ad):Aq:=
 decide (Ga K (.ref C) "__getattribute__" = Ab (Ab (.builtin "BaseException.__getattribute__")))&&decide (Ga K (.ref C) "__getattr__" = Ab none)
 && decide (Ga K (.ref C) "__class__" = Ab (Ab (.builtin "object.__class__")))&&decide (Ki K C (.type "object")=Ab true)&&decide (Ki K C (.type "BaseException")=Ab true)
 && (PySem.W.clsIn K C).isSome&&decide (ED K (.ref C) (.type "ValueError")=Ab true)
noncomputable def aI (K:Ah):Aq:=
 decide (L8 K (.builtin "object.__class__") "__get__" = Ab (Ab (.builtin "getset_descriptor.__get__")))&&decide (Mp K (.builtin "object.__class__")=Ab true)
noncomputable def V4 (K:Ah)(cl:Aa Ad):Aq:=cl.all λC=>cl.all λB=>decide (ED K (.ref C) (.ref B)=Ab (C == B))
theorem V5 {cl:Aa Ad}(h1:cl.all (mK K)=true)(h2:aI K=true)(h3:V4 K cl=true):ClsK K cl:=by
 have g:=h2;unfold aI at g;simp only[Az,Ba] at g;have k1:∀ C∈cl,mK K C=true:=AJ.mp h1;refine⟨λC hC=>?_,λC hC B hB=>?_,λC hC=>?_⟩
 .have e:=k1 C hC
  unfold mK at e;simp only[Az,Ba] at e;obtain⟨⟨⟨⟨⟨⟨e1,e2⟩,e3⟩,e4⟩,e5⟩,e6⟩,e7⟩:=e;exact⟨e1,e2,e3,g.1,g.2,e4,e5,e6⟩
 .have e:=AJ.mp (AJ.mp h3 C hC) B hB
  exact AH e
 .have e:=k1 C hC
  unfold mK at e;simp only[Az,Ba] at e;exact e.2
noncomputable def FT (K:Ah)(cs:Aa Ac)(A:Ad):Aq:=cs.all λv=>decide (Ek K v (.ref A)=Ab true)
noncomputable def FR (K:Ah)(cs:Aa Ad)(A:Ad):Aq:=cs.all λC=>kU K C A
noncomputable def FS (K:Ah)(cs:Aa Ad):Aq:=cs.all λC=>Ci K (.ref C)
def mB (K:Ah):Sp:=λvs H Q E=>Tb0 K H/\∃ a ns,vs=[.ref a]/\SqX K H a (List.map V.int ns)/\ns.length<=63/\∀ H',Q (.bl true) H'
theorem tS {P:Hp}{α:Aa Ad}:∀ ns:Aa Am,qE K P α (ns.map D.int) (ns.map V.int)
 |[]=>.nil
 |n::ns=>.cons (by simp only[Rep]) (tS ns)
noncomputable def noT (H:Hp):Hp:=λb=>match H b with
 |some (.tbl _)=>none
 |u=>u
theorem W0 {P:A6}{w:AK}{fa:Ad}{st:Cs}{k:Ai}{x:Ap}(hs:Src K mg "law" st [x])(hfa:mg "law" = Ab (.ref fa))
  (hbd:∀ (kV doc pm:Ac) (an:Ak Ad) (cdv ct:Ac) (s:Ag) (v:Ac),Gq s (CY "law" "law" (xT st) (zG st) (qK st) .none kV doc pm an cdv ct) ⟨[v],[]⟩ [(x,v)])
  (hall:∀ base:AC,∃ F,mD P w K mg base true k "law" [x] F/\∀ ns:Aa Am,ns.length<=63->∃ S,F [.lst (ns.map D.int)] [] = .ok (.bl true) S) :
  ∃ fd:CN,(∀ (s:Ag) (v:Ac),Gq s fd ⟨[v],[]⟩ [(x,v)])/\∀ base:AC,K.In base->base.Ns AO mg->FnOk P w K mg base (CXd P w) k fa fd [x] (mB K):=by
 obtain⟨f,fd,hm,F,hb⟩:=hs;cases hfa.symm.trans hm;refine⟨fd,?_,λbase _ _=>?_⟩
 .obtain⟨oc,od,kV,doc,pm,an,cdv,ct,osl,rfl,_,_⟩:=F.ex
  exact hbd kV doc pm an cdv ct
 .obtain⟨G,⟨f',fd',hm',_,hb',hl,X⟩,hG⟩:=hall base
  cases hm.symm.trans hm';cases hl.one (kB F);refine(X.imp λvs H Q E h=>?_).ok;obtain⟨tb,a,ns,rfl,hS,hl,k⟩:=h;obtain⟨S,e⟩:=hG ns hl;have keep:∀ (b:Ad) (u:HO),H b=Ab u->(∀ ps,u≠.tbl ps)->noT H b=Ab u:=λb u q h=>by
   unfold noT;rw[q];cases u with
   |tbl ps=>exact absurd rfl (h ps)
   |_=>rfl
  have hS':SqX K (noT H) a (List.map V.int ns):=by
   rcases hS with (h|⟨o,h⟩)|h
   .exact .inl (.inl (keep _ _ h λ_ z=>by cases z))
   .exact .inl (.inr ⟨o,keep _ _ h λ_ z=>by cases z⟩)
   .exact .inr h
  have sub:qF (noT H) H:=λb u q=>by
   unfold noT at q;cases z:H b with
   |none=>rw[z] at q;cases q
   |some v =>
    rw[z] at q;cases v with
    |tbl ps=>cases q
    |_=>exact q
  refine⟨rfl,noT H,[],[.lst (ns.map D.int)],[],⟨λx hx c T h=>⟨#[],tb x hx c T h,by unfold noT;rw[tb x hx c T h],by simp,trivial,λpos cv z=>by cases z⟩,sub,rfl,.nil,by simp,by simp,by simp⟩,.cons (bF hS' (tS ns)) .nil,?_⟩
  rw[e];intro v H' P' α' _ _ _ rv;simp only[Rep] at rv;subst rv;exact k H'
theorem F7 {l:Mx}{q:A6}{loose:Aa Ap}{XP:(Ap->Ak Ac)->AC->Prop}{YP:AK->AC->Prop}{d:DefRec}{K:Params->Ah}{k:Ai}{x:Ap}(hn:l.most=Ab 63)(hdf:d.params.defaults=[])(hr:Room k HV)(ht:∀ p,dJ q (K p)=true)
  (hY:∀ (w:AK) (h:AC),YP w h->(K w.params).In h)
  (F:∀ (w:AK) (mg:Ap->Ak Ac) (fa:Ad) (h:AC),(K w.params).In h->h.Ns AO mg->mg d.name=Ab (.ref fa) ->
   ∃ fd:CN,(∀ (s:Ag) (u:Ac),Gq s fd ⟨[u],[]⟩ [(x,u)])/\∀ base:AC,(K w.params).In base->base.Ns AO mg->FnOk l.prog w (K w.params) mg base (CXd l.prog w) k fa fd [x] (mB (K w.params))) :
  N9 q loose XP YP l.row.toRowW d [] (λf vs=>Nc f vs):=
 _L.YH (n:=63) (k:=k) (x:=x) (CX:=λw=>CXd l.prog w) (sp:=λw=>mB (K w.params)) hn (by decide) hdf hr ht hY F (λ_ _ a ns hl hT hS=>⟨hT,a,ns,rfl,hS,hl,λ_=>rfl⟩) λw H s e s' h=>by
  obtain⟨_,_,_,_,_,_,_,_,_,_,_,_,z⟩:=h;exact z
end _D
namespace _D
open PySem
variable {us:Aa Ac}
theorem us0 (h:us.length=0):us=[]:=List.eq_nil_of_length_eq_zero h
theorem usS {n:Ai}(h:us.length=n+1):∃ a vs,us=a::vs/\vs.length=n:=by
 cases us with
 |nil=>exact absurd h (by simp)
 |cons a vs=>exact⟨a,vs,rfl,by simpa using h⟩
theorem us1 (h:us.length=1):∃ a,us=[a]:=by
 obtain⟨a,vs,rfl,h'⟩:=usS h;exact⟨a,by rw[us0 h']⟩
theorem us2 (h:us.length=2):∃ a b,us=[a,b]:=by
 obtain⟨a,vs,rfl,h'⟩:=usS h;obtain⟨b,rfl⟩:=us1 h';exact⟨a,b,rfl⟩
theorem us3 (h:us.length=3):∃ a b c,us=[a,b,c]:=by
 obtain⟨a,vs,rfl,h'⟩:=usS h;obtain⟨b,c,rfl⟩:=us2 h';exact⟨a,b,c,rfl⟩
theorem us4 (h:us.length=4):∃ a b c d,us=[a,b,c,d]:=by
 obtain⟨a,vs,rfl,h'⟩:=usS h;obtain⟨b,c,d,rfl⟩:=us3 h';exact⟨a,b,c,d,rfl⟩
end _D
namespace _D
open PySem PySem.Spec PyProof.Rows _L
variable {Fs:Aa (Ai × DF)}{E:Ac->Ag->Prop}{j:Ai}{sc:Cg}
theorem Z6 (F:DF):∃ G:DF,G=F:=⟨F,rfl⟩
def sh (F:DF):DF:=LZ (Z6 F)
theorem zZ (F:DF):sh F=F:=Ji (Z6 F)
noncomputable def isV:Ak Dz->Aq
 |some .local => true
 |some .cell=>true
 |some .free=>true
 |_=>false
noncomputable def isL:Ak Dz->Aq
 |some .local => true
 |some .cell=>true
 |_=>false
noncomputable def isG:Ak Dz->Aq
 |some .globalImplicit=>true
 |_=>false
noncomputable def okN (x:Ap):Aq:=!(x == ("__debug__" : Ap))&&(!(x == ("__classdict__" : Ap))&&!decide (x = "__name__"))
noncomputable def okG (X:Cx)(x:Ap):Aq:=isG (X.env.kindOf x)&&okN x
noncomputable def okB (v:Ac)(x:Ap):Aq:=decide (CW x=Ab v)
noncomputable def b8 (sc:Cg):Aa Ap:=sc.names.filterMap λy=>if isL (Ab y.2) then Ab y.1 else none
noncomputable def vG (sc:Cg):Aa Ap:=(sc.names.filterMap λy=>if isL (Ab y.2)&&!(y.1 == (".0" : Ap)) then Ab y.1 else none)++sc.names.filterMap λy=>if y.2 == .free then Ab y.1 else none
def Ck (b:Aq):Prop:=b=true
theorem ck {b:Aq}(h:b=true:=by kernel_rfl):Ck b:=h
structure DfS (F:DF)(P:A6)(w:AK)(K:Ah)(mg:Ap->Ak Ac)(base:AC)(cm:Aq)(k:Ai)(x:Ap)(n:Ai):Prop where
 get:Def P w K mg base cm k x n F
noncomputable def okT (X:Cx)(m:Ai)(x:Ap):Aq:=decide (X.N[m]? = Ab x)&&(isL (X.env.scope.names.lookup x)&&(decide X.N.Nodup&&(X.fn x||decide (X.env.scope.names.lookup x=Ab .local))))
noncomputable def okP (X:Cx)(m:Ai)(x:Ap):Aq:=decide (X.N[m]? = Ab x)&&decide (X.env.scope.names.lookup x=Ab .local)
noncomputable def dM (scX:Cg)(NX:Aa Ap)(scope:Cg)(cap:Aa (Ak Ai)):Aq:=
 decide (scope.kind=.function)&&(decide (∀ y∈scope.names,y.2=.local -> scope.names.lookup y.1=Ab .local)&&(decide (∀ y∈scope.names,y.2=.cell->scope.names.lookup y.1=Ab .cell)&&(decide (∀ y∈scope.names,y.2=.free->scX.names.lookup y.1=Ab .cell\/scX.names.lookup y.1=Ab .free)
 && (decide (∀ y∈scope.names,y.2=.free->scope.names.lookup y.1=Ab .free)&&(decide (cap.length=(vG scope).length)&&(((cap.zip (vG scope)).all λp=>match p.1 with|none=>true|some i=>NX[i]? == Ab p.2&&scope.names.lookup p.2 == Ab .free)&&decide (vG scope).Nodup))))))
noncomputable def fnB (N P:Aa Ap)(sc:Cg):Aq:=
 decide (sc.kind=.function)&&(decide (sc.isCoroutine=false)&&(decide (sc.isGenerator=false)&&(decide N.Nodup&&(decide (N.take P.length=P)&&(decide (∀ x∈P,sc.names.lookup x=Ab .local \/ sc.names.lookup x=Ab .cell)&&decide (∀ y∈sc.names,y.2≠.free))))))
theorem aJ {scX:Cg}{NX:Aa Ap}{scope:Cg}{cap:Aa (Ak Ai)}(h:dM scX NX scope cap=true):CompSc scX NX scope (vG scope) cap:=by
 simp only[dM,Az,Ba] at h;obtain⟨a,b,c,d,e,f,g,k⟩:=h;exact⟨a,b,c,d,e,f,g,k⟩
theorem rO {N P:Aa Ap}(h:fnB N P sc=true):FnScope N P sc:=by
 simp only[fnB,Az,Ba] at h;obtain⟨a,b,c,d,e,f,g⟩:=h;exact⟨a,b,c,d,e,f,g⟩
section
variable {X:Cx}{a b c e o elt tg iter:AA}{ifs rest:Aa AA}{f g:DS}{fa:DE}{f2:DI2}{dg:DG}{t:DT}{kk:DK}{gens grest:Aa Dk}{scope:Cg}{cap:Aa (Ak Ai)}{mm:Aq}{l q:Ai}{y z:Ap}{G2':G2}{es:Aa AA}{fA:DA}{x:Ap}{p pos:CG}{cm:Aq}{k n m:Ai}{F:DF}
theorem XJ (h:isV (sc.names.lookup x)=true):Vis sc x:=by
 unfold Vis
 revert h
 cases sc.names.lookup x with
 |none=>intro h;cases h
 |some y=>cases y <;> intro h <;> first|cases h;done|exact .inl rfl|exact .inr (.inl rfl)|exact .inr (.inr rfl)
theorem XI (h:isL (sc.names.lookup x)=true):_L.Loc sc x:=by
 unfold _L.Loc
 revert h
 cases sc.names.lookup x with
 |none=>intro h;cases h
 |some y=>cases y <;> intro h <;> first|cases h;done|exact .inl rfl|exact .inr rfl
theorem jP (h:okN x=true):(x == ("__debug__" : Ap))=false/\(x == ("__classdict__" : Ap))=false/\x ≠ "__name__":=by
 unfold okN at h;rw[Az,Az] at h;exact⟨by simpa using h.1,by simpa using h.2.1,by simpa using h.2.2⟩
theorem xE (h:okG X x=true):Gl X x/\(x == ("__debug__" : Ap))=false/\x ≠ "__name__":=by
 have h:=(Az _ _).mp h;refine⟨?_,(jP h.2).1,(jP h.2).2.2⟩;have z:=h.1;unfold Gl
 revert z
 cases X.env.kindOf x with
 |none=>intro z;cases z
 |some y=>cases y <;> intro z <;> first|cases z;done|rfl
theorem eQ (h:okT X m x=true):X.N[m]? = Ab x/\_L.Loc X.env.scope x/\X.N.Nodup/\(X.fn x=true\/X.env.scope.names.lookup x=Ab .local):=by
 simp only[okT,Az,Ba,IT] at h;exact⟨h.1,XI h.2.1,h.2.2⟩
theorem eP (h:okP X m x=true):X.N[m]? = Ab x/\X.env.scope.names.lookup x=Ab .local:=by
 simp only[okP,Az,Ba] at h;exact h
theorem QL (h:Ck (okG X x)):Gl X x:=(xE h).1
theorem aV (h:Ck (decide (X.N[m]? = Ab x)&&(isV (X.env.scope.names.lookup x)&&okN x))):QE X (.Name x pos) (qB m):=by
 unfold Ck at h;simp only[Az,Ba] at h;exact KM m h.1 (XJ h.2.1) (jP h.2.2).1 (jP h.2.2).2.1
theorem aBt {nm:Bk}(h:Ck (okG X x))(hm:X.mg x=none)(hb:Ck (okB (.type nm) x)):QE X (.Name x pos) (dC (.ty nm)):=
 have h:=xE h
 WR h.1 hm (AH hb) h.2.2 h.2.1
theorem aCl {C:Ad}(h:Ck (okG X x))(hm:X.mg x=Ab (.ref C)/\Ci X.K (.ref C)=true):QE X (.Name x pos) (dC (.obj C)):=
 have h:=xE h
 K9 h.1 hm.1 hm.2 h.2.1
theorem aGi {v:Am}(h:Ck (okG X x))(hm:∃ t,X.mg x=Ab (.int v t)):QE X (.Name x pos) (dC (.int v)):=
 have h:=xE h
 WT h.1 hm h.2.1
abbrev St1 (X:Cx)(e:AA)(es:Aa AA)(pos:CG):Prop:=A3 (e::es) X.env=(false,eval e X.env)::A3 es X.env/\(Dm pos (A3 es X.env)).any (·.1)=false
theorem aN (G:DfS F X.prog X.w X.K X.mg X.base cm k x n)(hr:RoomC cm k X.A)(hF:Fn1 X)(h:Ck (okG X x))(ha:QA X (e::es) fA)(s:St1 X e es pos):QE X (.Call (.Name x p) (e::es) [] pos) (qW n F fA):=
 have h:=xE h
 qcN G.1 hr hF h.1 ha h.2.1 s.1 s.2
theorem aB {id:Bk}(hc:ZCall X (.builtin id) F)(h:Ck (okG X x))(hm:X.mg x=none)(hb:Ck (okB (.builtin id) x))(ha:QA X (e::es) fA)(s:St1 X e es pos):QE X (.Call (.Name x p) (e::es) [] pos) (qP F fA):=
 have h:=xE h
 oN hc h.1 hm (AH hb) ha h.2.2 h.2.1 s.1 s.2
theorem aT {T:Bk}(hc:ZCall X (.type T) F)(h:Ck (okG X x))(hm:X.mg x=none)(hb:Ck (okB (.type T) x))(ha:QA X (e::es) fA)(s:St1 X e es pos):QE X (.Call (.Name x p) (e::es) [] pos) (qP F fA):=
 have h:=xE h
 eY hc h.1 hm (AH hb) ha h.2.2 h.2.1 s.1 s.2
theorem aC (S:Ck (dM X.env.scope X.N scope cap))(hc:X.calm=true)(hi:QI2 X tg iter f2)(hg:∀ cl C ex s₀ H₀,QG (zC X (vG scope) scope cl C ex s₀ H₀) tg dg)(ht:∀ cl C ex s₀ H₀,QTs (zC X (vG scope) scope cl C ex s₀ H₀) ifs t)
  (has:∀ g',(⟨tg,iter,ifs,0⟩::grest:Aa Dk)[0+1]? = Ab g'->g'.is_async=0)
  (he:∀ cl C ex s₀ H₀,QK (zC X (vG scope) scope cl C ex s₀ H₀) (λacc=>x5 elt (⟨tg,iter,ifs,0⟩::grest) scope pos 0 acc (zC X (vG scope) scope cl C ex s₀ H₀).env) kk) (hs:∀ x,D5 iter X.env x=pure x) :
  QE X (.ListComp elt (⟨tg,iter,ifs,0⟩::grest) scope pos) (wJ mm cap f2 dg t kk):=oP hc (aJ S) hi hg ht has he hs
theorem aNm (h:Ck (okT X m x)):QG X (.Name x pos) (gNm m):=
 have h:=eQ h
 WY h.2.2.1 h.1 h.2.1 h.2.2.2
theorem aSt {pos':CG}(hs:Jg e (Ab (.Name x pos')) pos.line X.env=pure false)(he:QE X e fa)(h:Ck (okT X m x)):QS X (.Assign [.Name x pos'] e pos) (zM fa (gNm m)):=
 have h:=eQ h
 KS h.2.2.1 he h.1 h.2.1 hs h.2.2.2
theorem aRs {C:Ad}{np cpos:CG}(h:Ck (okG X x))(hc:X.calm=true)(hF:Fn1 X)(hm:∃ Ae,X.mg x=Ab (.ref C)/\kU X.K C Ae=true)(ha:QA X (e::rest) fA)(s:St1 X e rest cpos) :
  QS X (.Raise (Ab (.Call (.Name x np) (e::rest) [] cpos)) none pos) (vZ (.ref C) fA):=
 have h:=xE h
 let ⟨_,hm,hx⟩:=hm
 oT hc hF h.1 hm hx ha h.2.1 s.1 s.2
theorem aTr {nm:Ap}{body:Aa Cs}{b₀:Cs}{suite:Aa Cs}{np hpos:CG}{cs:Aa Ac}(h:Ck (okG X x&&(okP X m nm&&(decide X.N.Nodup&&decide (X.N.length=n)))))(hF:Fn1 X)(hm:∃ C0,X.mg x=Ab (.ref C0)/\∀ c∈cs,Ek X.K c (.ref C0)=Ab true)(hb:∀ E pn,ZPass (Cx.tryIn X E pn)->QB (Cx.tryIn X E pn) body f)(hs:∀ e,QB (Cx.suite X e) (b₀::suite) g) :
  QS X (.Try body [.ExceptHandler (Ab (.Name x np)) (Ab nm) (b₀::suite) hpos] [] [] pos) (gG n m cs f g):=by
 unfold Ck at h;simp only[Az,Ba] at h;obtain⟨C0,hm,hcs⟩:=hm;exact KU hF hb hs (xE h.1).1 hm hcs h.2.2.1 (eP h.2.1).1 (eP h.2.1).2 (xE h.1).2.1 h.2.2.2
theorem aTb {ie:AA}{fi:DE}{lp sp:CG}(hr:RoomC cm k X.A)(T:ZTab X cm k es Fs)(hF:Fn1 X)(hl:Ck (decide (Fs.length<=lim)))(hi:QE X ie fi)(ha:QA X (e::rest) fA)(hs:yO ie)(s:St1 X e rest pos) :
  QE X (.Call (.Subscript (.List es lp) ie sp) (e::rest) [] pos) (kX Fs fi fA):=KJ T hr hF (AH hl) hi ha hs s.1 s.2
theorem aZt (G:DfS F X.prog X.w X.K X.mg X.base cm j x n)(hj:j<=k)(h:Ck (okG X x))(t:ZTab X cm k es Fs):ZTab X cm k (.Name x p::es) ((n,F)::Fs):=
 have h:=xE h
 cW (G.1.mono hj) h.1 h.2.1 t
end
structure TxS (K:Ah)(mg:Ap->Ak Ac)(tp:Ai->Cs)(tab:Aa (Ap × Ai × Aa Ap))(bl:Aa Ap)(clt plt:Aa (Ap × Ad))(cs:Aa Ac)(exl:Aa Ad)(cst:Aa (Ap × Am)):Prop where
 src:∀ (j:Ai) {x:Ap} {i:Ai} {ps:Aa Ap},tab[j]? = Ab (x,i,ps)->Src K mg x (tp i) ps
 nb:∀ {x:Ap},Ck (bl.contains x)->mg x=none
 cl:∀ {x:Ap} {C:Ad},clt.lookup x=Ab C->mg x=Ab (.ref C)/\Ci K (.ref C)=true
 rz:∀ {x:Ap} {C:Ad},plt.lookup x=Ab C->∃ Ae,mg x=Ab (.ref C)/\kU K C Ae=true
 ct:∃ C0,mg "FarError" = Ab (.ref C0)/\∀ c∈cs,Ek K c (.ref C0)=Ab true
 cls:ClsK K exl
 gi:∀ {x:Ap} {v:Am},cst.lookup x=Ab v->∃ t,mg x=Ab (.int v t)
section
variable {K:Ah}{mg:Ap->Ak Ac}{cm:Aq}{tp:Ai->Cs}{tab:Aa (Ap × Ai × Aa Ap)}{bl:Aa Ap}{clt plt:Aa (Ap × Ad)}{cs:Aa Ac}{exl:Aa Ad}{cst:Aa (Ap × Am)}{x:Ap}{i m:Ai}{ps:Aa Ap}{F:DF}{g:DS}
theorem dq (P:A6)(w:AK)(base:AC)(k j:Ai)(T:TxS K mg tp tab bl clt plt cs exl cst)(hj:tab[j]? = Ab (x,i,ps))(h:Ck (fnB (b8 (qK (tp i))) ps (qK (tp i))&&decide ((b8 (qK (tp i))).length=m)))(hF:F=qU m g)
  (hb:∀ (f:Ad) (cdv:Ac) (A:AB) (outer:Aa El) (s:Ag) (H:Hp) (E:XK),u7 K x cdv->RoomC cm k (A.deeper (Dg x (qK (tp i)) s.heap.objs.size f cdv)) ->
   QB (cxC cm P w K mg base (b8 (qK (tp i))) x (qK (tp i)) f cdv A outer s H E) (zG (tp i)) g):DfS F P w K mg base cm (k+1) x ps.length:=by
 unfold Ck at h;simp only[Az,Ba] at h;obtain⟨h,rfl⟩:=h;exact⟨hF▸FU (T.src j hj) (rO h) rfl hb⟩
theorem dqP {P:A6}{w:AK}{base:AC}(k j:Ai)(T:TxS K mg tp tab bl clt plt cs exl cst)(hj:tab[j]? = Ab (x,i,ps))(h:Ck (fnB (b8 (qK (tp i))) ps (qK (tp i))&&decide ((b8 (qK (tp i))).length=m)))
  (hb:∀ (f:Ad) (cdv:Ac) (A:AB) (outer:Aa El) (s:Ag) (H:Hp) (E:XK),u7 K x cdv->RoomC cm k (A.deeper (Dg x (qK (tp i)) s.heap.objs.size f cdv)) ->
   QB (cxC cm P w K mg base (b8 (qK (tp i))) x (qK (tp i)) f cdv A outer s H E) (zG (tp i)) g):mD P w K mg base cm (k+1) x ps (qU m g):=by
 unfold Ck at h;simp only[Az,Ba] at h;obtain⟨h,rfl⟩:=h;exact PB (T.src j hj) (rO h) rfl hb
end
theorem hv {a b:Prop}(f:a->b)(h:a):b:=f h
inductive SrcF (K:Ah)(x:Ap)(st:Cs)(ps:Aa Ap):Prop
 |mk {f:Ad} {oc:Ac} {od an:Ak Ad} {osl:A5 (Ak Ac)} {kV doc pm cdv ct:Ac} (a:Br K AO x=Ab (Ab (.ref f)))
  (l:K.lookup f=Ab ⟨oc,od,.func (CY x x (xT st) (zG st) (qK st) .none kV doc pm an cdv ct),osl⟩) (c:EE K cdv x=true) (k:Ci K (.ref f)=true):SrcF K x st ps
def dD (K:Ah)(tp:Ai->Cs):Aa (Ap × Ai × Aa Ap)->Prop
 |[]=>Ht
 |(x,i,ps)::t=>SrcF K x (tp i) ps/\dD K tp t
def BdF (tp:Ai->Cs):Aa (Ap × Ai × Aa Ap)->Prop
 |[]=>Ht
 |(x,i,ps)::t=>(∀ (kV doc pm:Ac) (an:Ak Ad) (cdv ct:Ac) (us:Aa Ac),us.length=ps.length->HK (CY x x (xT (tp i)) (zG (tp i)) (qK (tp i)) .none kV doc pm an cdv ct) ⟨us,[]⟩=pure (ps.zip us))/\BdF tp t
def d9 (K:Ah):Aa (Ap × Ad)->Prop
 |[]=>Ht
 |(x,C)::t=>Br K AO x=Ab (Ab (.ref C))/\d9 K t
def dA (K:Ah):Aa (Ap × Am)->Prop
 |[]=>Ht
 |(x,v)::t=>(∃ k,Br K AO x=Ab (Ab (.int v k)))/\dA K t
noncomputable def M0:Ak (Ak Ac)->Aq
 |some none=>true
 |_=>false
section
variable {K:Ah}{h:AC}{mg:Ap->Ak Ac}{tp:Ai->Cs}
theorem d3 (X:K.In h)(G:h.Ns AO mg):∀ (tab:Aa (Ap × Ai × Aa Ap)),dD K tp tab->BdF tp tab->∀ (j:Ai) {x:Ap} {i:Ai} {ps:Aa Ap},tab[j]? = Ab (x,i,ps)->Src K mg x (tp i) ps
 |[],_,_,_,_,_,_,e=>by cases e
 |(x,i,ps)::t,H,B,0,_,_,_,e=>by
  cases e;obtain⟨a,l,c,k⟩:=H.1;exact GA X G a l c k B.1
 |(x,i,ps)::t,H,B,j+1,_,_,_,e=>d3 X G t H.2 B.2 j e
theorem xO {β:Type}{p:Ap->β->Prop}{x:Ap}{C:β}:∀ {l:Aa (Ap × β)},(∀ y∈l,p y.1 y.2)->l.lookup x=Ab C->p x C
 |[],_,e=>by cases e
 |(y,b)::t,H,e=>by
  rw[Em] at e;cases q:x == y with
  |true =>
   rw[q] at e;cases e;rw[eq_of_beq q];exact H (y,_) (.head _)
  |false =>
   rw[q] at e;exact xO (λz hz=>H z (.tail _ hz)) e
theorem jW (X:K.In h)(G:h.Ns AO mg):∀ {l:Aa (Ap × Ad)},d9 K l->∀ y∈l,mg y.1=Ab (.ref y.2)
 |(x,C)::t,H,y,hy=>by
  rcases A8.mp hy with rfl|hy
  .exact Ky X G H.1
  .exact jW X G H.2 y hy
theorem nV (X:K.In h)(G:h.Ns AO mg):∀ {l:Aa (Ap × Am)},dA K l->∀ y∈l,∃ k,mg y.1=Ab (.int y.2 k)
 |(x,C)::t,H,y,hy=>by
  rcases A8.mp hy with rfl|hy
  .obtain⟨k,e⟩:=H.1
   exact⟨k,Ky X G e⟩
  .exact nV X G H.2 y hy
theorem F4 {tab:Aa (Ap × Ai × Aa Ap)}{bl:Aa Ap}{clt plt:Aa (Ap × Ad)}{cs:Aa Ac}{exl:Aa Ad}{cst:Aa (Ap × Am)}{far:Ad}(B:BdF tp tab)(hp:∀ y∈plt,y∈clt)(hf:clt.lookup ("FarError" : Ap)=Ab far)(X:K.In h)(G:h.Ns AO mg)
  (s:dD K tp tab) (z:(bl.all λx=>M0 (Br K AO x))=true) (q:d9 K clt) (g:dA K cst) (e1:exl.all (mK K)=true) (e2:aI K=true) (e3:V4 K exl=true) (e4:FT K cs far=true) (e5:FR K (plt.map (·.2)) far=true) (e6:FS K (clt.map (·.2))=true):TxS K mg tp tab bl clt plt cs exl cst where
 src:=d3 X G tab s B
 nb:=λ{x} hx=>by
  have e:=AJ.mp z x (by simpa using CK.mp hx)
  refine PySem.W.mg_none_of X G ?_
  revert e
  cases Br K AO x with
  |none=>intro e;cases e
  |some y=>cases y with
   |none=>intro _;rfl
   |some y=>intro e;cases e
 cl:=λh=>⟨xO (p:=λx C=>mg x=Ab (.ref C)) (jW X G q) h,xO (p:=λ_ C=>Ci K (.ref C)=true) (λy hy=>AJ.mp e6 y.2 (Kz hy)) h⟩
 rz:=λh=>⟨far,xO (p:=λx C=>mg x=Ab (.ref C)) (λy hy=>jW X G q y (hp y hy)) h,xO (p:=λ_ C=>kU K C far=true) (λy hy=>AJ.mp e5 y.2 (Kz hy)) h⟩
 ct:=⟨far,xO (p:=λx C=>mg x=Ab (.ref C)) (jW X G q) hf,λv hv=>AH (AJ.mp e4 v hv)⟩
 cls:=V5 e1 e2 e3
 gi:=λh=>xO (p:=λx v=>∃ k,mg x=Ab (.int v k)) (nV X G g) h
end
structure LamT where
 qual:Ap
 params:EO
 body:AA
 scope:Cg
noncomputable def yL (sc:Cg):Aa Ap:=sc.names.filterMap λy=>if y.2 == .free then Ab y.1 else none
inductive CloAt (h:AC)(H:Hp)(fs:Aa Ad)(L:LamT)(a:Ad)(cv:Aa V):Prop
 |mk (cl:Aa (Ap × Ad)) (pm ctv:Ac) (c:Ad) (oc:AR) (ws:A5 Ac) (t:IM) (o:h.get? a=Ab (Fj "<lambda>" L.qual L.params L.body L.scope cl pm c ctv)) (hc:H c=Ab (.frz oc (.frz oc (.own 0)))) (hd:oc.data=.fields ws) (ht:ws[1]? = Ab (.str L.qual t))
  (inj:∀ x y d,cl.lookup x=Ab d->cl.lookup y=Ab d->x=y) (cel:∀ x d,cl.lookup x=Ab d->H d=none/\∃ v,h.IsCell d v) (has:∀ x,L.scope.names.lookup x=Ab .free->∃ d,cl.lookup x=Ab d)
  (len:cv.length=(yL L.scope).length) (val:∀ (j:Ai) x v,(yL L.scope)[j]? = Ab x->cv[j]? = Ab v->∃ d u,cl.lookup x=Ab d/\qI v u/\h.IsCell d (Ab u)) (hn:H a=none) (hf:a ∉ fs):CloAt h H fs L a cv
theorem CloAt.at {X:Cx}{pins:Aa (Ad × AR)}{σ:_L.St}{H:Hp}{s:Ag}{L:LamT}{a:Ad}{cv:Aa V}(C:CloAt X.s₀.heap X.H₀ X.fs L a cv)(F:Fn1 X)(I:Inv X pins σ H s):CloAt s.heap H (frs X.stack) L a cv:=by
 obtain⟨cl,pm,ctv,c,oc,ws,t,o,hc,hd,ht,inj,cel,has,len,val,hn,hf⟩:=C;have nx:∀ b,b ∉ X.ex:=λb=>by rw[F.1];simp
 have nf:∀ b o,X.s₀.heap.get? b=Ab o->b ∉ X.fs->b ∉ frs X.stack:=λb o e n z=>(F.mem.mp z).elim (AX (Ax (Ay e) I.ok.above)) n;have kc:∀ d v,X.H₀ d=none->X.s₀.heap.IsCell d v->s.heap.IsCell d v:=λd v h1 ⟨o,e,q⟩=>let ⟨_,z⟩:=I.base.any e h1 (nx d);⟨_,z,q⟩
 refine⟨cl,pm,ctv,c,oc,ws,t,I.base.keep a _ o hn hf (nx a),I.base.frzs _ _ _ hc,hd,ht,inj,λx d e=>?_,has,len,λj x v e1 e2=>?_,I.base.free a _ o hn (nx a),nf a _ o hf⟩
 .obtain⟨h1,v,h3⟩:=cel x d e
  obtain⟨ob,e3,q⟩:=id h3;exact⟨I.base.free d ob e3 h1 (nx d),v,kc d v h1 h3⟩
 .obtain⟨d,u,q1,q2,q3⟩:=val j x v e1 e2
  exact⟨d,u,q1,q2,kc d _ (cel x d q1).1 q3⟩
structure LamSc (L:LamT)(ps:Aa Ap):Prop where
 kind:L.scope.kind=.function
 co:L.scope.isCoroutine=false
 gen:L.scope.isGenerator=false
 nocell:∀ y∈L.scope.names,y.2≠.cell
 par:∀ x∈ps,L.scope.names.lookup x=Ab .local
 one:ps.length<=1
 fr:∀ x∈yL L.scope,L.scope.names.lookup x=Ab .free
theorem nM {i:Ai}{c:Ac}(l:Aa Ac)(h:ER l):ER (l++[D4 i,D4 j,c]):=by
 fun_induction ER l with
 |case1=>simp[ER,D4]
 |case2 _ _ _ _ _ rest ih=>simp only[Mf,ER];exact ih h
 |case3=>exact Al h
set_option tactic.hygienic true in
theorem sT {pos:CG}{i:Ai}{c v:Ac}(l:Aa Ac)(h:ER l)(e:Hk pos (l++[D4 i,D4 j,c])=Ab v):Hk pos l=Ab v\/v=c:=by
 fun_induction ER l with
 |case1 =>
  simp only[Fh,Hk,D4] at e
  split at e
  .exact .inr (Bg e).symm
  .cases e
 |case2 _ _ _ _ _ rest ih =>
  simp only[Mf,Hk] at e ⊢
  split at e
  .rename_i hc;rw[A0 hc];exact .inl e
  .rename_i hc;rw[Aw hc];exact ih h e
 |case3=>exact Al h
theorem MOk.at {K:Ah}{H H' P:Hp}{α:Aa Ad}{a:Ad}(e:H' a=H a):∀ {o:MO},MOk K H P α a o->MOk K H' P α a o
 |.dead,_=>trivial
 |.lst _,⟨vs,q,r⟩=>⟨vs,e.trans q,r⟩
 |.dct _,⟨vs,q,r⟩=>⟨vs,e.trans q,r⟩
 |.ins _ _,⟨dx,vs,q,r⟩=>⟨dx,vs,e.trans q,r⟩
section
variable {X:Cx}{pins:Aa (Ad × AR)}{σ : _L.St}{H P:Hp}{α : Aa Ad}{s:Ag}{S:Sto}{y:Ap}{c T:Ad}
theorem Rel.grown {ps:A5 Ac}{c':Ad}{oc:AR}{ws:A5 Ac}{t:IM}{i:Ai}(r:Rel X.K H P α S)(m:Mod X.K X.mg X.base)(hy:y∈xJ)(ht:Bj X.K y=Ab (c,T))(e:H T=Ab (.tbl ps))(pn:P T=none)(an:T ∉ α)(ok:ER ps.toList)
  (cd:∀ pos cv,Hk pos ps.toList=Ab cv->∃ c oc vs t,cv=.ref c/\H c=Ab (.frz oc (.frz oc (.own 0)))/\oc.data=.fields vs/\vs[1]? = Ab (.str (y ++ ".<locals>." ++ "<lambda>") t)) (hn:H c'=none) (hd:oc.data=.fields ws) (hs:ws[1]? = Ab (.str (y ++ ".<locals>." ++ "<lambda>") t)) :
  Rel X.K (upd (upd H T (.tbl (ps++#[D4 i,D4 j,.ref c']))) c' (.frz oc (.frz oc (.own 0)))) P α S:=by
 have ne:T≠c':=qN e hn;have go:∀ b u,b≠T->H b=Ab u->upd (upd H T (.tbl (ps++#[D4 i,D4 j,.ref c']))) c' (.frz oc (.frz oc (.own 0))) b=Ab u:=λb u h q=>by rw[qG (qN q hn),qG h];exact q
 have nT:∀ b∈α,b≠T:=λb h z=>an (z▸h);have nc:∀ (k:Ai) b,α[k]? = Ab b->b≠c':=λk b h z=>r.own k b h (z▸hn);have at':∀ (k:Ai) b,α[k]? = Ab b->upd (upd H T (.tbl (ps++#[D4 i,D4 j,.ref c']))) c' (.frz oc (.frz oc (.own 0))) b=H b:=λk b h=>by rw[qG (nc k b h),qG (nT b (Cj h))]
 refine⟨λx hx d U hU=>?_,λb u q=>go b u (λz=>by rw[z,pn] at q;cases q) (r.sub b u q),r.len,r.nd,r.sep,λk b o h1 h2=>MOk.at (at' k b h1) (r.at' k b o h1 h2),λk b h=>by rw[at' k b h];exact r.own k b h⟩
 by_cases hT:U=T
 .subst hT
  cases m.inj x hx y hy d c U hU ht;refine⟨_,by rw[qG ne];exact qS,pn,an,?_,λpos cv q=>?_⟩
  .rw[Bh];exact nM _ ok
  .rw[Bh] at q
   rcases sT _ ok q with q|q
   .obtain⟨d,od,vs,t,a1,a2,a3⟩:=cd pos cv q
    exact⟨d,od,vs,t,a1,go d _ (λz=>by rw[z,e] at a2;cases a2) a2,a3⟩
   .exact⟨c',oc,ws,t,q,qS,hd,hs⟩
 .obtain⟨qs,e1,p1,a1,ok1,cd1⟩:=r.tb x hx d U hU
  exact⟨qs,go U _ hT e1,p1,a1,ok1,λpos cv q=>let ⟨d,od,vs,t,b1,b2,b3⟩:=cd1 pos cv q;⟨d,od,vs,t,b1,go d _ (λz=>by rw[z,e] at b2;cases b2) b2,b3⟩⟩
theorem Inv.pinned {a:Ad}{o:AR}{h':AC}{tk:Ai}{H':Hp}(I:Inv X pins σ H' { s with heap:=h'.push o,toks:=tk })(ha:a=h'.objs.size)(hs:s.heap.objs.size<=h'.objs.size)(I0:Inv X pins σ H s)(hn:H' a=none)(hd:∀ v,o.data≠.cell v)(hfr:o.isFreed=false:=by rfl):Inv X ((a,o)::pins) σ H' { s with heap:=h'.push o,toks:=tk }:=by
 refine I.pins_of λp hp=>?_;rcases A8.mp hp with rfl|hp
 .subst ha
  exact⟨AD _ hfr,hn,Fq (Ax I0.lt hs),I0.nofs hs,hd⟩
 .exact I.pin p (AI _ hp)
theorem iP {M:E6}{params:EO}{body:AA}{scope:Cg}{lpos:CG}{cl:Aa (Ap × Ad)}{Q:Ac->Ag->Prop}(I:Inv X pins σ H s)(r:Rel X.K H P α S)(hy:y∈xJ)(ht:Bj X.K y=Ab (c,T))(hc:X.env.code=.ref c)(hq:X.env.qual=y ++ ".<locals>.")
  (hdef:Ng params X.env=([],[])) (hcl:Ip scope X.env=pure cl)
  (h:∀ (a:Ad) (H':Hp) (s':Ag) (pm ctv:Ac) (c':Ad) (oc:AR) (ws:A5 Ac) (t:IM),Inv X ((a,Fj "<lambda>" (y ++ ".<locals>." ++ "<lambda>") params body scope cl pm c' ctv)::pins) σ H' s'->Rel X.K H' P α S ->
   H' c'=Ab (.frz oc (.frz oc (.own 0)))->oc.data=.fields ws->ws[1]? = Ab (.str (y ++ ".<locals>." ++ "<lambda>") t)->Q (.ref a) s'):Ar M X.A (eval (.Lambda params body scope lpos) X.env) Q E s:=by
 obtain⟨ps,e,pn,an,ok,cd⟩:=r.tb y hy c T ht;have hP:s.heap.get? T=Ab (EF ps):=I.hok T _ e;have hC:Js s.heap c T:=(I.mod.code y hy c T ht).keeps I.bk;have hg:s.heap.Ns AO X.mg:=I.mod.glob.keeps I.bk;have hgP:AO≠T:=λz=>by
  obtain⟨o,es,ep,e1,d1,_⟩:=hg;rw[z,hP] at e1;cases e1;cases d1
 have hb:s.heap.BuiltinsAt X.mg T:=by
  obtain⟨bm,o,b1,b2,b3,b4,b5,b6⟩:=I.mod.bm;have b3':=I.bk _ _ b3;refine⟨bm,o,b1,b2,λz=>?_,λz=>?_,b3',b4,b5,b6⟩
  .obtain⟨o',es,ep,e1,d1,_⟩:=hg
   rw[<- z,b3'] at e1;cases e1;rw[b6] at d1;cases d1
  .rw[z,hP] at b3';cases b3';cases b4
 refine PySem.W.kla_eval hdef ?_;rw[hq];cases hf:Hk lpos ps.toList with
 |none =>
  refine PySem.W.kla_makeFunction (mg:=X.mg) hcl I.ok.glob hg hc hC hP ok hf hgP hb λc' ctv h' tk hx hge hlt hrec htb=>?_;obtain⟨c2,oc,ws,t,z,hoc,hd,hs⟩:=hrec;cases z;have hn:H c'=none:=I.hok.fresh hge;have ne:T≠c':=qN e hn;have hsz:s.heap.objs.size<=h'.objs.size:=Bn hge (CD hlt)
  let o:=Fj "<lambda>" (y ++ ".<locals>." ++ "<lambda>") params body scope cl ((X.mg "__name__").getD .none) c' ctv
  have kp:∀ b u,b≠T->s.heap.get? b=Ab u->(h'.push o).get? b=Ab u:=λb u hb q=>Aj _ (hx b u hb q);have eT:(h'.push o).get? T=Ab (EF (ps++#[D4 lpos.line,D4 lpos.col,.ref c'])):=Aj _ htb
  let H2:=upd (upd H T (.tbl (ps++#[D4 lpos.line,D4 lpos.col,.ref c']))) c' (.frz oc (.frz oc (.own 0)))
  have go:∀ b u,b≠T->H b=Ab u->H2 b=Ab u:=λb u h q=>by show upd _ _ _ b=_;rw[qG (qN q hn),qG h];exact q
  have go0:∀ b,b≠T->b≠c'->H b=none->H2 b=none:=λb h h' q=>by show upd _ _ _ b=_;rw[qG h',qG h];exact q
  have nT:∀ b,H b=none->b≠T:=λb q z=>by rw[z,e] at q;cases q
  have eH:H2 T=Ab (.tbl (ps++#[D4 lpos.line,D4 lpos.col,.ref c'])):=by show upd _ _ _ T=_;rw[qG ne];exact qS
  have un:Un X.fs [] H H2 s.heap (h'.push o):=by
   refine⟨λb u q n _ _=>kp b u (nT b n) q,λb u q n _ _=>⟨u.slots,kp b u (nT b n) q⟩,λb u q n _=>go0 b (nT b n) (AX (Ax (Ay q) hge)) n,λb u q _=>?_,λb xs q=>go b _ (λz=>by rw[z,e] at q;cases q) q,λb u xs q=>go b _ (λz=>by rw[z,e] at q;cases q) q,λb qs q=>?_⟩
   .by_cases hb:b=T
    .rw[hb];exact⟨_,eT⟩
    .exact⟨u,kp b u hb q⟩
   .by_cases hb:b=T
    .rw[hb,e] at q;cases q
     exact⟨_,by rw[hb];exact eH⟩
    .exact⟨#[],by rw[go b _ hb q];simp⟩
  have hok:HOk X.prog X.w H2 (h'.push o):=λb u q=>by
   by_cases hb:b=c'
   .have q':Ab (HO.frz oc (.frz oc (.own 0)))=Ab u:=by rw[<- q,hb];exact qS.symm
    cases q';have z:(h'.push o).get? b=Ab oc:=by rw[hb];exact Aj _ hoc
    exact⟨z,z,_,z⟩
   .by_cases hb2:b=T
    .rw[hb2,eH] at q;cases q
     rw[hb2];exact eT
    .have q':H b=Ab u:=by have q2:upd _ _ _ b=Ab u:=q;rw[qG hb,qG hb2] at q2;exact q2
     refine(I.hok b u q').stay (λd v hd q=>kp d v ?_ q) (λd q=>go d _ (λz=>by rw[z,e] at q;cases q) q) λd xs q=>go d _ (λz=>by rw[z,e] at q;cases q) q
     rcases hd with z|z
     .rw[z];exact hb2
     .intro w;rw[w,e] at z;cases z
  have I2:=I.un (t':=tk) un hok;refine h h'.objs.size H2 _ _ ctv c' oc ws t (Inv.pinned I2 rfl hsz I (go0 _ (λz=>?_) (Fq hlt) (I.hok.fresh hsz)) λv z=>by cases z) (r.grown I.mod hy ht e pn an ok cd hn hd hs) qS hd hs
  rw[<- z] at e;exact absurd (Ax (I.hok.lt e) hsz) (Bw _)
 |some cv =>
  obtain⟨c',oc,ws,t,rfl,a2,a3,a4⟩:=cd lpos cv hf;refine PySem.W.kla_makeFunctionHit (mg:=X.mg) hcl I.ok.glob hg hc hC hP ok hf hb λctv h' tk hk hsz=>?_;have I2:=I.kept (t':=tk) (h':=h'.push (Fj "<lambda>" (y ++ ".<locals>." ++ "<lambda>") params body scope cl ((X.mg "__name__").getD .none) c' ctv)) λb u q=>Aj _ (hk b u q);exact h h'.objs.size H _ _ ctv c' oc ws t (Inv.pinned I2 rfl hsz I (I.hok.fresh hsz) λv z=>by cases z) r a2 a3 a4
end
noncomputable def tG (scX:Cg)(NX:Aa Ap)(sc:Cg)(cap:Aa Ai):Aq:=decide ((yL sc).length=cap.length)&&(cap.zip (yL sc)).all λp=>NX[p.1]? == Ab p.2&&(scX.names.lookup p.2 == Ab .cell||scX.names.lookup p.2 == Ab .free)
section
variable {X:Cx}{pins:Aa (Ad × AR)}{σ : _L.St}{H P:Hp}{α : Aa Ad}{s:Ag}{S:Sto}{y x:Ap}{c T:Ad}{params:EO}{body:AA}{scope:Cg}{lpos p pos:CG}{es:Aa AA}{fa:DA}{nx cm:Aq}{k kl m n N:Ai}{cap:Aa Ai}{G:Aa D->DF}{g:(Aa D->DF)->Ad->Aa V->DS}
theorem eD {z:Ap × Dz}(h:z∈sc.names)(hk:z.2=.free):z.1∈yL sc:=Fm.mpr ⟨z,h,by rw[hk];rfl⟩
theorem XY (hB:tG X.env.scope X.N scope cap=true){j:Ai}{z:Ap}(h:(yL scope)[j]? = Ab z):∃ i,cap[j]? = Ab i/\X.N[i]? = Ab z/\(X.env.scope.names.lookup z=Ab .cell\/X.env.scope.names.lookup z=Ab .free):=by
 simp only[tG,Az,Ba] at hB;obtain⟨hl,ha⟩:=hB;have hj:j<cap.length:=by rw[<- hl];exact(AE.mp h).1
 have e:=Ao hj;have hz:(cap[j],z)∈cap.zip (yL scope):=Gz.mpr ⟨j,by rw[HY];exact⟨e,h⟩⟩
 have q:=AJ.mp ha _ hz;simp only[Az,IT,Hw] at q;exact⟨_,e,q.1,q.2⟩
theorem iO (hB:tG X.env.scope X.N scope cap=true)(ok:X.Ok):Ip scope X.env=pure (w4 X.env.cells scope.names []):=jD λz hz hk=>by
 obtain⟨j,hj⟩:=Gz.mp (eD hz hk);obtain⟨i,_,_,q⟩:=XY hB hj;exact ok.has z.1 q
end
noncomputable def tH (sc:Cg)(ps:Aa Ap):Aq:=decide (sc.kind=.function)&&(decide (sc.isCoroutine=false)&&(decide (sc.isGenerator=false)&&(decide (∀ y∈sc.names,y.2≠.cell)&&(decide (∀ x∈ps,sc.names.lookup x=Ab .local)&&decide (∀ x∈yL sc,sc.names.lookup x=Ab .free)))))
structure ClA (X:Cx)(L:LamT)(a:Ad)(cv:Aa V):Prop where
 get:CloAt X.s₀.heap X.H₀ X.fs L a cv
structure LmK (X:Cx)(y:Ap):Prop where
 get:y∈xJ/\u7 X.K y X.env.code/\X.env.qual=y ++ ".<locals>." /\ ∃ c T,Bj X.K y=Ab (c,T)
section
variable {X:Cx}{cm nx:Aq}{k kl m n N i:Ai}{x y:Ap}{p pos lpos:CG}{e:AA}{es:Aa AA}{fA:DA}{fe:DE}{L:LamT}{G:Aa D->DF}{a:Ad}{cv:Aa V}{g:(Aa D->DF)->Ad->Aa V->DS}{Fs:FnL}{cap:Aa Ai}{params:EO}{body:AA}{scope:Cg}
theorem M4 {ps:Aa Ap}{q:Ap}(h:Ck (tH scope ps))(one:ps.length<=1):LamSc ⟨q,params,body,scope⟩ ps:=by
 unfold Ck at h;simp only[tH,Az,Ba] at h;obtain⟨a,b,c,d,e,f⟩:=h;exact⟨a,b,c,d,e,one,f⟩
theorem ClA.tr {pn:Aa (Ad × AR)}(h:ClA X L a cv):ClA (Cx.tryIn X E pn) L a cv:=⟨h.1⟩
theorem lmK {ls:Aa Ap}(h:(ls.all λy=>(Bj X.K y).isSome)=true)(hc:u7 X.K y X.env.code)(hy:Ck (ls.contains y&&xJ.contains y))(hq:X.env.qual=y ++ ".<locals>."):LmK X y:=by
 unfold Ck at hy;rw[Az] at hy;obtain⟨⟨c,T⟩,e⟩:=Eh.mp (AJ.mp h y (by simpa using hy.1))
 exact⟨by simpa using hy.2,hc,hq,c,T,e⟩
end
end _D
section
end
section
namespace _D
open PySem PySem.Spec PyProof.Rows _L
mutual
noncomputable def zA:D->Aa Am
 |.int n=>[1,n]
 |.tup xs=>2::qT xs
 |_=>[]
noncomputable def qT:Aa D->Aa Am
 |[]=>[0]
 |x::xs=>zA x++qT xs
end
mutual
noncomputable def xM:D->D->Aq
 |.int _,.int _=>true
 |.tup xs,.tup ys=>wH xs ys
 |_,_=>false
noncomputable def wH:Aa D->Aa D->Aq
 |x::xs,y::ys=>xM x y&&wH xs ys
 |_,_=>true
end
noncomputable def ltN (a b:D):Aq:=_H.lexLt (zA a) (zA b)
noncomputable def trb:Ai->D->Aq
 |_,.int _=>true
 |n+1,.tup xs=>xs.all (trb n)
 |_,_=>false
inductive Tr:Ai->D->Prop
 |int (n:Ai) (i:Am):Tr n (.int i)
 |tup (n:Ai) (xs:Aa D) (h:∀ x∈xs,Tr n x):Tr (n+1) (.tup xs)
theorem Z8:∀ {n:Ai} {d:D},trb n d=true->Tr n d:=by
 intro n
 induction n with
 |zero=>intro d h;cases d <;> first|exact .int _ _|exact Bb h
 |succ n ih =>
  intro d h;cases d with
  |int i=>exact .int _ i
  |tup xs=>exact .tup n xs λx hx=>ih (AJ.mp (show xs.all (trb n)=true from h) x hx)
  |_=>exact Bb h
theorem wC {n:Ai}{d:D}(h:Tr n d):∃ k r,zA d=k::r/\0<k:=by
 cases h with
 |int _ i=>exact⟨1,[i],rfl,by decide⟩
 |tup n xs=>exact⟨2,qT xs,rfl,by decide⟩
theorem zH (x:D)(xs:Aa D):qT (x::xs)=zA x++qT xs:=rfl
theorem fB:∀ {xs ys:Aa D} {n m:Ai},(∀ x∈xs,Tr n x)->(∀ y∈ys,Tr m y)->(∀ x∈xs,∀ y∈ys,xM x y=true->∀ r r':Aa Am,_H.lexLt (zA x++r) (zA y++r')=if eqD x y=true then _H.lexLt r r' else ltN x y)->wH xs ys=true ->
  ∀ r r':Aa Am,_H.lexLt (qT xs++r) (qT ys++r')=if zV xs ys=true then _H.lexLt r r' else _H.lexLt (qT xs) (qT ys)
 |[],[],_,_,_,_,_,_,r,r'=>rfl
 |[],y::ys,_,_,_,h2,_,_,r,r'=>by
  obtain⟨k,t,e,p⟩:=wC (h2 y (by simp))
  rw[Aw (by intro z;cases z),zH,e]
  show _H.lexLt (0::r) (k::_)=_H.lexLt [0] (k::_);rw[_H.lexLt_cons,_H.lexLt_cons,Aw om,Aw om]
 |x::xs,[],_,_,h1,_,_,_,r,r'=>by
  obtain⟨k,t,e,p⟩:=wC (h1 x (by simp))
  rw[Aw (by intro z;cases z),zH,e]
  show _H.lexLt (k::_) (0::r')=_H.lexLt (k::_) [0];rw[_H.lexLt_cons,_H.lexLt_cons,Aw om,Aw om]
 |x::xs,y::ys,_,_,h1,h2,h3,hc,r,r'=>by
  have hc':(xM x y&&wH xs ys)=true:=hc;rw[Az] at hc';have ih:=fB (λz hz=>h1 z (by simp[hz])) (λz hz=>h2 z (by simp[hz])) (λz hz y' hy=>h3 z (by simp[hz]) y' (by simp[hy])) hc'.2
  rw[zH,zH,AM,AM,h3 x (by simp) y (by simp) hc'.1,h3 x (by simp) y (by simp) hc'.1,ih,bT]
  cases eqD x y <;> cases zV xs ys <;> simp
theorem iS {n:Ai}{a:D}(ha:Tr n a):∀ {m:Ai} {b:D},Tr m b->xM a b=true->∀ r r':Aa Am,_H.lexLt (zA a++r) (zA b++r')=if eqD a b=true then _H.lexLt r r' else ltN a b:=by
 induction ha with
 |int n i =>
  intro m b hb hc r r';cases hb with
  |int _ j =>
   show _H.lexLt (1::i::r) (1::j::r')=if (i == j)=true then _ else _H.lexLt [1,i] [1,j]
   simp only[_H.lexLt_cons,Ca,Hw]
   split <;> rfl
  |tup _ ys=>exact Bb hc
 |tup n xs hx ih =>
  intro m b hb hc r r';cases hb with
  |int _ j=>exact Bb hc
  |tup m ys hy =>
   have h:=fB hx hy (λx hx' y hy' hc'=>ih x hx' (hy y hy') hc') hc r r';show _H.lexLt (2::(qT xs++r)) (2::(qT ys++r'))=if zV xs ys=true then _ else _H.lexLt (2::qT xs) (2::qT ys)
   rw[_H.lexLt_cons,_H.lexLt_cons,A0 rfl,A0 rfl,h]
theorem lI {xs ys:Aa D}:ltN (.tup xs) (.tup ys)=_H.lexLt (qT xs) (qT ys):=by
 show _H.lexLt (2::_) (2::_)=_;rw[_H.lexLt_cons,A0 rfl]
theorem fC {n m:Ai}{x y:D}{xs ys:Aa D}(hx:Tr n x)(hy:Tr m y)(hc:xM x y=true):_H.lexLt (qT (x::xs)) (qT (y::ys))=if eqD x y=true then _H.lexLt (qT xs) (qT ys) else ltN x y:=iS hx hy hc _ _
set_option tactic.hygienic true in
theorem lH (i j:Am):ltN (.int i) (.int j)=decide (i<j):=by
 show _H.lexLt [1,i] [1,j]=_;rw[_H.lexLt_cons,A0 rfl,_H.lexLt_cons]
 split
 .rename_i h;subst h;simp[_H.lexLt_nil_nil]
 .rfl
theorem bR:∀ {xs ys:Aa D} {n m:Ai},(∀ x∈xs,Tr n x)->(∀ y∈ys,Tr m y)->(∀ x∈xs,∀ y∈ys,∀ r r':Aa Am,zA x++r=zA y++r'->x=y/\r=r')->∀ r r':Aa Am,qT xs++r=qT ys++r'->xs=ys/\r=r'
 |[],[],_,_,_,_,_,r,r',e=>⟨rfl,by injection e⟩
 |[],y::ys,_,_,_,h2,_,r,r',e=>by
  obtain⟨k,t,e',p⟩:=wC (h2 y (by simp))
  rw[zH,e'] at e;injection e with e1 e2
  omega
 |x::xs,[],_,_,h1,_,_,r,r',e=>by
  obtain⟨k,t,e',p⟩:=wC (h1 x (by simp))
  rw[zH,e'] at e;injection e with e1 e2
  omega
 |x::xs,y::ys,_,_,h1,h2,h3,r,r',e=>by
  rw[zH,zH,AM,AM] at e;obtain⟨e1,e2⟩:=h3 x (by simp) y (by simp) _ _ e
  obtain⟨e3,e4⟩:=bR (λz hz=>h1 z (by simp[hz])) (λz hz=>h2 z (by simp[hz])) (λz hz y' hy=>h3 z (by simp[hz]) y' (by simp[hy])) _ _ e2
  exact⟨by rw[e1,e3],e4⟩
theorem sY {n:Ai}{a:D}(ha:Tr n a):∀ {m:Ai} {b:D},Tr m b->∀ r r':Aa Am,zA a++r=zA b++r'->a=b/\r=r':=by
 induction ha with
 |int n i =>
  intro m b hb r r' e;cases hb with
  |int _ j=>injection e with _ e;injection e with e1 e2;exact⟨by rw[e1],e2⟩
  |tup _ ys=>injection e with e _;cases e
 |tup n xs hx ih =>
  intro m b hb r r' e;cases hb with
  |int _ j=>injection e with e _;cases e
  |tup m ys hy =>
   injection e with _ e
   obtain⟨e1,e2⟩:=bR hx hy (λx hx' y hy'=>ih x hx' (hy y hy')) r r' e;exact⟨by rw[e1],e2⟩
theorem kW {n m:Ai}{a b:D}(ha:Tr n a)(hb:Tr m b)(e:zA a=zA b):a=b:=(sY ha hb [] [] (by rw[e])).1
theorem U5 {n:Ai}{a:D}(ha:Tr n a):eqD a a=true:=by
 induction ha with
 |int n i=>show (i == i)=true;simp
 |tup n xs _ ih =>
  show zV xs xs=true;rw[y7];simp only[IA,Ob,Ku,AJ,Ej];intro j hj;exact ih _ (by simp[ET,hj])
theorem uC:∀ {xs ys:Aa D},wH xs ys=true->∀ {j:Ai} {x y:D},xs[j]? = Ab x->ys[j]? = Ab y->xM x y=true
 |[],_,_,j,x,y,e,_=>by simp at e
 |_::_,[],_,j,x,y,_,e=>by simp at e
 |a::xs,b::ys,h,j,x,y,e1,e2=>by
  have h':(xM a b&&wH xs ys)=true:=h;rw[Az] at h';cases j with
  |zero=>cases e1;cases e2;exact h'.1
  |succ j=>exact uC h'.2 (j:=j) (by simpa using e1) (by simpa using e2)
theorem UU {a b c:D}(h1:ltN a b=false)(h2:ltN b c=false):ltN a c=false:=by
 cases h:ltN a c with
 |false=>rfl
 |true =>
  rcases _S.yF.tri h2 with e|e
  .exact absurd (show ltN a b=true by unfold ltN at *;rw[e];exact h) (by rw[h1];simp)
  .exact absurd (show ltN a b=true from _S.yF.tr h e) (by rw[h1];simp)
noncomputable def gH (xs:Aa D):Aa D:=_S.sH ltN xs
theorem vL (xs:Aa D):(gH xs).Perm xs:=_S.vK xs
theorem fG (xs:Aa D):(gH xs).map zA=_S.sH _H.lexLt (xs.map zA):=by
 refine _S.kE _S.yF ?_ (_S.bI _S.yF _) (((vL xs).map zA).trans (_S.vK _).symm);unfold _S.Nf;rw[EC];have:=Fx (le:=λa b=>!ltN b a) (λa b c h1 h2=>?_) (λa b=>?_) xs
 .exact this.imp λ{a b} h=>show ltN b a=false by simpa using h
 .simp only[Gf] at *
  exact UU h2 h1
 .cases h:ltN b a with
  |false=>simp
  |true =>
   cases h':ltN a b with
   |false=>simp[h']
   |true=>exact absurd (_S.yF.tr h h') (by rw[_S.yF.irr];simp)
theorem W2 {xs ys:Aa D}(h:∀ x∈xs,∀ y∈ys,zA x=zA y->x=y)(e:xs.map zA=ys.map zA):xs=ys:=by
 induction xs generalizing ys with
 |nil=>cases ys with
  |nil=>rfl
  |cons y ys=>cases e
 |cons x xs ih =>
  cases ys with
  |nil=>cases e
  |cons y ys =>
   injection e with e1 e2
   rw[h x (by simp) y (by simp) e1,ih (λa ha b hb=>h a (by simp[ha]) b (by simp[hb])) e2]
theorem YA {n:Ai}{xs ys:Aa D}(h:∀ x∈xs,Tr n x)(p:ys.Perm xs)(s:ys.Pairwise λa b=>ltN b a=false):gH xs=ys:=by
 refine W2 (λa ha b hb=>kW (h a ((vL xs).mem_iff.mp ha)) (h b (p.mem_iff.mp hb))) ?_;rw[fG];refine _S.kE _S.yF (_S.bI _S.yF _) ?_ ((_S.vK _).trans (p.map zA).symm);unfold _S.Nf;rw[EC];exact s
end _D
end
namespace _D
open PySem PySem.Spec PyProof.Rows _L PySem.SeqAt
variable {A:AB}{h:AC}{xs:Aa D}{n:Ai}
def dB (A:AB)(s:Ag)(u v:Ac)(c:Aq):Prop:=∀ (prog:A6) (w:AK) (E:Ac->Ag->Prop) (Q:Ac->Ag->Prop),Q (.bool c) s->Ar (As prog w) A (richCompare .Lt u v) Q E s
inductive LexV (A:AB)(s:Ag):Aa Ac->Aa Ac->Aq->Prop
 |nn:LexV A s [] [] false
 |nc (v:Ac) (vs:Aa Ac):LexV A s [] (v::vs) true
 |cn (u:Ac) (us:Aa Ac):LexV A s (u::us) [] false
 |eq (u v:Ac) (us vs:Aa Ac) (b:Aq) (he:Nz A s u v true) (h:LexV A s us vs b):LexV A s (u::us) (v::vs) b
 |ne (u v:Ac) (us vs:Aa Ac) (b:Aq) (he:Nz A s u v false) (h:dB A s u v b):LexV A s (u::us) (v::vs) b
section
open PySem.SeqAt
open PySem.AutoSeq1 (wpAny_loadPart')
open PySem.MeetsSeq PySem.MeetsSeq2 PySem.MeetsSeq3
theorem sJ (l b:Ad)(items items2:A5 Ac)(n n2:Ai)(dd dd2:Ak Ad)(sl sl2:A5 (Ak Ac))(r:Aq) :
  Meets (Hv.«tuple.__lt__» ⟨[.ref l,.ref b],[]⟩)
   (λA R s=>s.heap.get? l=Ab { cls:=.type "tuple",dict:=dd,data:=.seq items n,slots:=sl } /\ s.heap.get? b=Ab { cls:=.type "tuple",dict:=dd2,data:=.seq items2 n2,slots:=sl2 } /\
    LexV A.in1 s items.toList items2.toList r/\R (.ok (.ret (.bool r))) s):=
 .of_wp λprog w A R s h=>by
  obtain⟨hp,g,d,tk,os⟩:=s;obtain⟨hl,hb,hx,h⟩:=h;have f2:=AutoSeq1.sub_tuple_tuple
  wp_walk using wpAny_loadPart' hl,wpAny_loadPart' hb,wpAny_forIn_list _ (λrest b s'=>b.1=none/\s'=⟨hp,g,d,tk,os⟩/\∃ (us vs:Aa Ac),rest=us.zip vs/\LexV A.in1 ⟨hp,g,d,tk,os⟩ us vs r/\us.length+items2.size=vs.length+items.size) _
  case turn =>
   rintro⟨y,x⟩ rest b s' ⟨hb',rfl,us,vs,hz,hx',hlen⟩;cases hx' with
   |nn=>cases hz
   |nc v vs=>cases hz
   |cn u us=>cases hz
   |eq u v us vs _ he h' =>
    rw[Ex] at hz;injection hz with hyx hrest
    injection hyx with hy hx
    subst hy hx;refine Af (he prog w _ _ ?_)
    wp_walk
    exact⟨rfl,rfl,_,_,hrest,h',by simp only[AV] at hlen;omega⟩
   |ne u v us vs _ he h' =>
    rw[Ex] at hz;injection hz with hyx hrest
    injection hyx with hy hx
    subst hy hx;refine Af (he prog w _ _ ?_);have hri:=h' prog w
    wp_walk using hri
    exact⟨_,rfl,by simpa using h⟩
  case fin =>
   rintro⟨b1,b2⟩ s' ⟨hb',rfl,us,vs,hz,hx',hlen⟩;simp only at hb';subst hb';have hv:r=decide (items.size<items2.size):=by
    cases hx' with
    |nn=>simp only[D8] at hlen;exact(AT om).symm
    |nc v vs=>simp only[D8,AV] at hlen;exact(AY om).symm
    |cn u us=>simp only[D8,AV] at hlen;exact(AT om).symm
    |eq u v us vs _ he h'=>cases hz
    |ne u v us vs _ he h'=>cases hz
   rw[hv] at h
   wp_walk
   exact⟨_,rfl,by simpa [Mi] using h⟩
  case h =>
   exact⟨rfl,rfl,items.toList,items2.toList,rfl,hx,by simp;omega⟩
end
theorem iU {s:Ag}{l b:Ad}{items items2:A5 Ac}{r:Aq}(hl:s.heap.IsTuple l items)(hb:s.heap.IsTuple b items2)(hu:A.units<CZ)(h:LexV A.in1 s items.toList items2.toList r):dB A s (.ref l) (.ref b) r:=by
 intro prog w E Q hQ;obtain⟨⟨cls,dd,data,sl⟩,ho,hc,n,hd⟩:=id hl;obtain⟨⟨cls2,dd2,data2,sl2⟩,ho2,hc2,n2,hd2⟩:=id hb;simp only at hc hd hc2 hd2;subst hc hd hc2 hd2;exact richCompare_meets_room (op:=.Lt) ⟨_,ho,rfl⟩ ⟨_,ho2,rfl⟩ PySem.F.slot_tuple_lt PySem.F.entry_tuple_lt (PySem.F.args_tuple_lt_2 _ _) (sJ l b items items2 n n2 dd dd2 sl sl2 r)
  ⟨ho,ho2,h,show De r≠Value.notImplemented/\Q (.bool r) s from⟨(λx=>nomatch x),hQ⟩⟩ hu
inductive TrV (h:AC):Ai->D->Ac->Prop
 |int (n:Ai) (i:Am) (t:IM):TrV h n (.int i) (.int i t)
 |tup (n:Ai) (a:Ad) (xs:Aa D) (its:Aa Ac) (ht:h.IsTuple a its.toArray) (hl:xs.length=its.length) (hs:∀ (j:Ai) (x:D) (v:Ac),xs[j]? = Ab x->its[j]? = Ab v->TrV h n x v):TrV h (n+1) (.tup xs) (.ref a)
theorem TrV.tr {d:D}{v:Ac}(t:TrV h n d v):Tr n d:=by
 induction t with
 |int n i t=>exact .int n i
 |tup n a xs its ht hl hs ih =>
  refine .tup n xs λx hx=>?_;obtain⟨j,hj,e⟩:=Bl.mp hx;exact ih j x (its[j]' om) (by rw[Ao hj,e]) (Ao om)
theorem TrV.sup {h':AC}(S:_S.Sup h h'){n:Ai}{d:D}{v:Ac}(t:TrV h n d v):TrV h' n d v:=by
 induction t with
 |int n i t=>exact .int n i t
 |tup n a xs its ht hl hs ih =>
  obtain⟨o,ho,r⟩:=ht;exact .tup n a xs its ⟨o,S _ _ ho,r⟩ hl ih
theorem TrV.det {d:D}{v:Ac}(t:TrV h n d v):∀ {m:Ai} {d':D},TrV h m d' v->d=d':=by
 induction t with
 |int n i t=>intro m d' t';cases t' with|int _ _ _=>rfl
 |tup n a xs its ht hl hs ih =>
  intro m d' t';cases t' with
  |tup m _ ys its2 ht2 hl2 hs2 =>
   have e:=l7 ht ht2;have e':its=its2:=by simpa using congrArg Lp e
   subst e';have:xs=ys:=Iw om λj h1 h2=>ih j _ (its[j]' om) (Ao h1) (Ao om) (hs2 j _ _ (Ao h2) (Ao om));rw[this]
theorem TrV.eq {s:Ag}{a:D}{u:Ac}(t:TrV s.heap n a u):∀ {m:Ai} {b:D} {v:Ac} {A:AB},TrV s.heap m b v->xM a b=true->A.units+n<CZ->Nz A s u v (eqD a b):=by
 induction t with
 |int n i t =>
  intro m b v A t' hc hu;cases t' with
  |int _ j t'=>exact NI i t j t'
  |tup _ _ _ _ _ _ _=>exact Bb hc
 |tup n a xs its ht hl hs ih =>
  intro m b v A t' hc hu;cases t' with
  |int _ j t'=>exact Bb hc
  |tup m b ys its2 ht2 hl2 hs2 =>
   refine(QH om ht ht2 hl hl2 (λj h1 h2=>?_) λe=>?_).eq
   .have h1':j<its.length:=by simpa using h1
    have h2':j<its2.length:=by simpa using h2
    have e1:xs[j]? = Ab (xs.getD j .non):=by simp[ET,show j<xs.length by omega]
    have e2:ys[j]? = Ab (ys.getD j .non):=by simp[ET,show j<ys.length by omega]
    have f1:its[j]? = Ab its.toArray[j]:=by simp[h1']
    have f2:its2[j]? = Ab its2.toArray[j]:=by simp[h2']
    exact ih j _ _ e1 f1 (hs2 j _ _ e2 f2) (uC hc e1 e2) (by show A.units+1+n<CZ;omega)
   .subst e
    have:=TrV.det (.tup n a xs its ht hl hs) (.tup m a ys its2 ht2 hl2 hs2);injection this with this
    subst this;exact U5 (TrV.tr (.tup n a xs its ht hl hs))
theorem lE {s:Ag}:∀ {xs ys:Aa D} {us vs:Aa Ac} {n m:Ai},xs.length=us.length->ys.length=vs.length->(∀ x∈xs,Tr n x)->(∀ y∈ys,Tr m y)->wH xs ys=true ->
  (∀ (j:Ai) (x y:D) (u v:Ac),xs[j]? = Ab x->ys[j]? = Ab y->us[j]? = Ab u->vs[j]? = Ab v->Nz A s u v (eqD x y)/\dB A s u v (ltN x y))->LexV A s us vs (_H.lexLt (qT xs) (qT ys))
 |[],[],[],[],_,_,_,_,_,_,_,_=>.nn
 |[],y::ys,[],v::vs,_,_,_,_,_,h2,_,_=>by
  obtain⟨k,t,e,p⟩:=wC (h2 y (by simp))
  have:_H.lexLt (qT []) (qT (y::ys))=true:=by
   rw[zH,e];show _H.lexLt [0] (k::_)=_;rw[_H.lexLt_cons,Aw om];exact AY p
  rw[this];exact .nc v vs
 |x::xs,[],u::us,[],_,_,_,_,h1,_,_,_=>by
  obtain⟨k,t,e,p⟩:=wC (h1 x (by simp))
  have:_H.lexLt (qT (x::xs)) (qT []) = false:=by
   rw[zH,e];show _H.lexLt (k::_) [0]=_;rw[_H.lexLt_cons,Aw om];exact AT om
  rw[this];exact .cn u us
 |x::xs,y::ys,u::us,v::vs,_,_,l1,l2,h1,h2,hc,h=>by
  have hc':(xM x y&&wH xs ys)=true:=hc;rw[Az] at hc';obtain⟨e1,e2⟩:=h 0 x y u v rfl rfl rfl rfl;rw[fC (h1 x (by simp)) (h2 y (by simp)) hc'.1]
  cases hq:eqD x y with
  |true =>
   rw[hq] at e1;exact .eq u v us vs _ e1 (lE (by simpa using l1) (by simpa using l2) (λz hz=>h1 z (by simp[hz])) (λz hz=>h2 z (by simp[hz])) hc'.2 λj a b c d q1 q2 q3 q4=>h (j+1) a b c d (by simpa using q1) (by simpa using q2) (by simpa using q3) (by simpa using q4))
  |false =>
   rw[hq] at e1;exact .ne u v us vs _ e1 e2
 |[],_,_::_,_,_,_,l1,_,_,_,_,_=>by simp at l1
 |_::_,_,[],_,_,_,l1,_,_,_,_,_=>by simp at l1
 |_,[],_,_::_,_,_,_,l2,_,_,_,_=>by simp at l2
 |_,_::_,_,[],_,_,_,l2,_,_,_,_=>by simp at l2
theorem TrV.lt {s:Ag}{a:D}{u:Ac}(t:TrV s.heap n a u):∀ {m:Ai} {b:D} {v:Ac} {A:AB},TrV s.heap m b v->xM a b=true->A.units+n<CZ->dB A s u v (ltN a b):=by
 induction t with
 |int n i t =>
  intro m b v A t' hc hu;cases t' with
  |int _ j t' =>
   intro prog w E Q hQ;rw[lH] at hQ;exact(Oc hQ:Ar (As prog w) A (Bt .Lt (.int i t) (.int j t')) Q E s)
  |tup _ _ _ _ _ _ _=>exact Bb hc
 |tup n a xs its ht hl hs ih =>
  intro m b v A t' hc hu;cases t' with
  |int _ j t'=>exact Bb hc
  |tup m b ys its2 ht2 hl2 hs2 =>
   have t1:=TrV.tr (.tup n a xs its ht hl hs);have t2:=TrV.tr (.tup m b ys its2 ht2 hl2 hs2);cases t1 with
   |tup _ _ t1 =>
    cases t2 with
    |tup _ _ t2 =>
     refine iU ht ht2 om ?_;rw[lI];refine lE (by simpa using hl) (by simpa using hl2) t1 t2 hc λj x y u v e1 e2 e3 e4=>?_
     have hu':A.in1.units+n<CZ:=by show A.units+1+n<CZ;omega
     have e3':its[j]? = Ab u:=by simpa using e3
     have e4':its2[j]? = Ab v:=by simpa using e4
     exact⟨(hs j x u e1 e3').eq (hs2 j y v e2 e4') (uC hc e1 e2) hu',ih j x u e1 e3' (hs2 j y v e2 e4') (uC hc e1 e2) hu'⟩
section
variable {X:Cx}{pins:Aa (Ad × AR)}{σ : _L.St}{H P:Hp}{α : Aa Ad}{S:Sto}{s:Ag}
theorem cJ (I:Inv X pins σ H s)(r:Rel X.K H P α S):∀ (n:Ai) {d:D} {v:V} {u:Ac},trb n d=true->Rep X.K P α d v->qI v u->TrV s.heap n d u:=by
 intro n
 induction n with
 |zero =>
  intro d v u h p q;cases d with
  |int i=>simp only[Rep] at p;subst p;obtain⟨t,rfl⟩:=q;exact .int _ i t
  |_=>exact Bb h
 |succ n ih =>
  intro d v u h p q;cases d with
  |int i=>simp only[Rep] at p;subst p;obtain⟨t,rfl⟩:=q;exact .int _ i t
  |tup xs =>
   obtain⟨a,vs,its,rfl,q1,t1,rv1,h1,l1,_⟩:=pI I r p;cases (show u=AL a from q)
   have la:=t1.length;have lb:=rv1.length;refine .tup n a xs its h1 om λj x w e1 e2=>?_;obtain⟨y,f1,f2⟩:=t1.get e1;obtain⟨z,g1,g2⟩:=rv1.get f1;cases g1.symm.trans e2;exact ih (AJ.mp (show xs.all (trb n)=true from h) x (Cj e1)) f2 g2
  |_=>exact Bb h
end
noncomputable def neT:D->Aq
 |.tup (_::_)=>true
 |_=>false
noncomputable def sOk (xs:Aa D):Aq:=xs.all λa=>neT a&&trb 6 a&&xs.all λb=>xM a b
theorem v9 (h:sOk xs=true){x:D}(hx:x∈xs):neT x=true/\Tr 6 x/\∀ y∈xs,xM x y=true:=by
 have:=AJ.mp h x hx;simp only[Az] at this;exact⟨this.1.1,Z8 this.1.2,λy hy=>AJ.mp this.2 y hy⟩
noncomputable def tyF:D->Ac
 |.tup (.int _::_)=>.type "int"
 |_=>.type "tuple"
def isN (h:AC)(k:Aa Am)(v:Ac):Prop:=∃ d,TrV h 6 d v/\zA d=k
section
open PySem.W
variable {prog:A6}{w:AK}{h0:AC}
theorem tJ {s:Ag}{b:Aq}{Q:Aq->Ag->Prop}:∀ {xs ys:Aa D} {us vs:Aa Ac} {n m i N M:Ai},xs.length=us.length->ys.length=vs.length ->
  (∀ (j:Ai) (x:D) (u:Ac),xs[j]? = Ab x->us[j]? = Ab u->TrV s.heap n x u)->(∀ (j:Ai) (x:D) (u:Ac),ys[j]? = Ab x->vs[j]? = Ab u->TrV s.heap m x u)->wH xs ys=true->A.units+n<CZ->((b&&i == 0)=true->∀ x,xs[0]? = Ab x->∃ j,x=.int j) ->
  N+vs.length=M+us.length->Q (_H.lexLt (qT xs) (qT ys)) s->KatLex prog w A b (decide (N<M)) Q (us.zip vs) i s
 |[],[],[],[],_,_,_,N,M,_,_,_,_,_,_,_,hl,h=>by
  have:decide (N<M)=false:=AT (by simp at hl;omega)
  rw[this];exact h
 |[],y::ys,[],v::vs,_,_,_,N,M,_,_,_,h2,_,_,_,hl,h=>by
  have:decide (N<M)=true:=AY (by simp at hl;omega)
  rw[this];obtain⟨k,t,e,p⟩:=wC (h2 0 y v rfl rfl).tr;rw[zH,e] at h;have q:_H.lexLt (qT []) (k::t++qT ys)=true:=by
   show _H.lexLt [0] (k::_)=_;rw[_H.lexLt_cons,Aw om];exact AY p
  rw[q] at h;exact h
 |x::xs,[],u::us,[],_,_,_,N,M,_,_,h1,_,_,_,_,hl,h=>by
  have:decide (N<M)=false:=AT (by simp at hl;omega)
  rw[this];obtain⟨k,t,e,p⟩:=wC (h1 0 x u rfl rfl).tr;rw[zH,e] at h;have q:_H.lexLt (k::t++qT xs) (qT []) = false:=by
   show _H.lexLt (k::_) [0]=_;rw[_H.lexLt_cons,Aw om];exact AT om
  rw[q] at h;exact h
 |x::xs,y::ys,u::us,v::vs,n,m,i,N,M,l1,l2,h1,h2,hc,hu,hb,hl,h=>by
  have hc':(xM x y&&wH xs ys)=true:=hc;rw[Az] at hc';have t1:=h1 0 x u rfl rfl;have t2:=h2 0 y v rfl rfl;rw[fC t1.tr t2.tr hc'.1] at h;rw[Ex];refine kat_cons (t1.eq t2 hc'.1 hu prog w _ _ ?_);refine kat_go (λe=>kat_yes ?_) λe=>kat_no ?_
  .rw[A0 e] at h
   refine tJ (n:=n) (m:=m) (by simpa using l1) (by simpa using l2) (λj a b e1 e2=>h1 (j+1) a b (by simpa using e1) (by simpa using e2)) (λj a b e1 e2=>h2 (j+1) a b (by simpa using e1) (by simpa using e2)) hc'.2 hu (λz=>?_) (by simp at hl;omega) h
   simp at z
  .rw[Aw (by rw[e];simp)] at h
   cases hq:b&&i == 0 with
   |true =>
    obtain⟨j,rfl⟩:=hb hq x rfl;cases t1 with
    |int _ _ t =>
     cases t2 with
     |int _ k t' =>
      rw[lH] at h;exact oneLt_int h
     |tup _ _ _ _ _ _ _=>exact Bb hc'.1
   |false=>exact kat_one _ _ (t1.lt t2 hc'.1 hu prog w _ _ h)
 |[],_,_::_,_,_,_,_,_,_,l1,_,_,_,_,_,_,_,_=>by simp at l1
 |_::_,_,[],_,_,_,_,_,_,l1,_,_,_,_,_,_,_,_=>by simp at l1
 |_,[],_,_::_,_,_,_,_,_,_,l2,_,_,_,_,_,_,_=>by simp at l2
 |_,_::_,_,[],_,_,_,_,_,_,l2,_,_,_,_,_,_,_=>by simp at l2
theorem YF {ys:Aa D}(hc:xM (.tup xs) (.tup ys)=true)(h1:xs≠[])(h2:ys≠[]){n m:Ai}(t1:Tr n (.tup xs))(t2:Tr m (.tup ys)):tyF (.tup xs)=tyF (.tup ys):=by
 cases xs with
 |nil=>exact absurd rfl h1
 |cons x xs =>
  cases ys with
  |nil=>exact absurd rfl h2
  |cons y ys =>
   have hc':(xM x y&&wH xs ys)=true:=hc;rw[Az] at hc';cases t1 with
   |tup _ _ t1 =>
    cases t2 with
    |tup _ _ t2 =>
     have a1:=t1 x (by simp)
     have a2:=t2 y (by simp)
     cases a1 with
     |int _ i=>cases a2 with
      |int _ j=>rfl
      |tup _ _ _=>exact Bb hc'.1
     |tup _ _ _=>cases a2 with
      |int _ j=>exact Bb hc'.1
      |tup _ _ _=>rfl
theorem Z9 {M:E6}{T:Ac}:∀ {vs:Aa Ac},(∀ v∈vs,∃ d,TrV h 6 d v/\neT d=true/\tyF d=T)->∃ fs,KatTups h vs fs/\fs.length=vs.length/\∀ f∈fs,Looks M h (typeOf f) T
 |[],_=>⟨[],trivial,rfl,λf hf=>by simp at hf⟩
 |v::vs,hv=>by
  obtain⟨fs,a1,a2,a3⟩:=Z9 (M:=M) (vs:=vs) λu hu=>hv u (by simp[hu])
  obtain⟨d,t,hn,ht⟩:=hv v (by simp)
  cases t with
  |int _ _ _=>cases hn
  |tup n a xs its hi hl hs =>
   cases xs with
   |nil=>cases hn
   |cons x xs =>
    cases its with
    |nil=>simp at hl
    |cons f its =>
     obtain⟨o,ho,hc,k,hd⟩:=hi;refine⟨f::fs,KatTups.cons ho hc hd rfl a1,by simp[a2],λg hg=>?_⟩
     rcases A8.mp hg with rfl|hg
     .have q:=hs 0 x g rfl rfl
      cases q with
      |int _ i tk =>
       rw[<- ht];exact Looks.of_pure rfl
      |tup _ b ys jts hi2 _ _ =>
       obtain⟨o2,ho2,hc2,_⟩:=hi2;rw[<- ht,show tyF (.tup (.tup ys::xs))=o2.cls from hc2.symm]
       exact(Looks.ld ho2).andThen .now
     .exact a3 g hg
theorem V6 (ok:sOk xs=true){vs:Aa Ac}{ks:Aa (Aa Am)}(hl:vs.length=ks.length)(hv:∀ i v,vs[i]? = Ab v->isN h0 (ks.getD i []) v)(hf:∀ k∈ks,∃ x∈xs,zA x=k)(h2:2<=vs.length):_S.Cmps prog w h0 vs (_S.mF _H.lexLt ks []):=by
 have at':∀ i (hi:i<vs.length),∃ d,d∈xs/\TrV h0 6 d (vs.getD i Bi)/\zA d=ks.getD i []:=λi hi=>by
  obtain⟨d,t,e⟩:=hv i vs[i] (Ao hi);obtain⟨x,hx,e2⟩:=hf (ks.getD i []) (by simp[ET,show i<ks.length by omega])
  have:=kW t.tr (v9 ok hx).2.1 (e.trans e2.symm);subst this;exact⟨d,hx,by simpa [ET,hi] using t,e⟩
 obtain⟨d0,hd0,_,_⟩:=at' 0 om;have ty:∀ d∈xs,tyF d=tyF d0:=λd hd=>by
  obtain⟨n1,t1,c1⟩:=v9 ok hd;obtain⟨n2,t2,_⟩:=v9 ok hd0;have c:=c1 d0 hd0;cases d with
  |tup as =>
   cases d0 with
   |tup bs=>exact YF c (λz=>by subst z;cases n1) (λz=>by subst z;cases n2) t1 t2
   |_=>cases n2
  |_=>cases n1
 refine⟨tuples' (tyF d0 != Hs "tuple"),λA hu s hS=>⟨λQ E h=>?_,λi j C hi hj h=>?_⟩⟩
 .obtain⟨fs,a1,a2,a3⟩:=Z9 (M:=As prog w) (h:=s.heap) (T:=tyF d0) (vs:=vs) λv hm=>by
   obtain⟨i,hi,e⟩:=Bl.mp hm;obtain⟨d,q1,q2,_⟩:=at' i hi;have:vs.getD i Bi=v:=by simp[ET,hi,e]
   rw[this] at q2;exact⟨d,q2.sup hS,(v9 ok q1).1,ty d q1⟩
  refine kat_kind a1 om a3 ?_ h;unfold tyF
  split <;> decide
 .obtain⟨a,a1,a2,a3⟩:=at' i hi
  obtain⟨b,b1,b2,b3⟩:=at' j hj;unfold _S.mF at h;unfold kas_ask;rw[<- a3,<- b3] at h;have t1:=a2.sup hS;have t2:=b2.sup hS;obtain⟨n1,_,c1⟩:=v9 ok a1;obtain⟨n2,_,_⟩:=v9 ok b1;have tya:=ty a a1;have c:=c1 b b1;generalize vs.getD i Bi=u at *;generalize vs.getD j Bi=v at *;cases t1 with
  |int _ _ _=>cases n1
  |tup n p ps its hi1 l1 s1 =>
   cases t2 with
   |int _ _ _=>cases n2
   |tup m q qs jts hi2 l2 s2 =>
    obtain⟨o1,ho1,_,k1,d1⟩:=hi1;obtain⟨o2,ho2,_,k2,d2⟩:=hi2;have h':C (_H.lexLt (qT ps) (qT qs)) s:=by
     have:=@lI ps qs;unfold ltN at this;rw[this] at h;exact h
    refine kat_lt ho1 d1 ho2 d2 (tJ (n:=5) (m:=5) l1 l2 s1 s2 c om (λz x hx=>?_) (by simp;omega) h')
    rw[<- tya] at z;cases ps with
    |nil=>cases hx
    |cons x' ps =>
     cases hx;cases x with
     |int i=>exact⟨i,rfl⟩
     |_=>exact absurd z (by simp[tyF])
theorem PX (ok:sOk xs=true):_S.Kind prog w (isN h0) (λ_=>0) _H.lexLt [] (λk=>∃ x∈xs,zA x=k) h0:=
 ⟨_S.yF,λ{k k' v} ⟨d,t,e⟩ ⟨d',t',e'⟩=>by rw[<- e,<- e',t.det t'],λh1 h2 h3 h4=>V6 ok h1 h2 h3 h4⟩
end
end _D
namespace _D
open PySem PySem.Spec PyProof.Rows _L
variable {Q:Ac->Ag->Prop}
noncomputable def gQ (d:D)(S:Sto):Ak (Aa (Key × D)):=match d with
 |.loc n=>match S[n]? with
  |some (.dct kvs)=>Ab kvs
  |_=>none
 |_=>none
noncomputable def btN (xs:Aa D)(i j:Ai):Aq:=ltN (xs.getD i .non) (xs.getD j .non)
noncomputable def bA (xs:Aa D):D:=xs.getD (Bc (btN xs) (xs.length-1)) .non
theorem YY (xs:Aa D):∀ k,Bc (btN xs) k<=k/\∀ j,j<=k->btN xs j (Bc (btN xs) k)=false
 |0=>⟨Au _,λj hj=>by
  have:j=0:=by omega
  subst this;exact _S.yF.irr _⟩
 |k+1=>by
  obtain⟨h1,h2⟩:=YY xs k;rw[Bc];cases h:btN xs (k+1) (Bc (btN xs) k) with
  |true =>
   rw[A0 rfl];refine⟨Au _,λj hj=>?_⟩;cases q:btN xs j (k+1) with
   |false=>rfl
   |true =>
    by_cases hk:j=k+1
    .subst hk;exact absurd (_S.yF.irr _) (by unfold btN ltN at q;rw[q];simp)
    .exact absurd (show btN xs j (Bc (btN xs) k)=true from _S.yF.tr q h) (by rw[h2 j om];simp)
  |false =>
   rw[Aw (by simp)]
   refine⟨by omega,λj hj=>?_⟩
   by_cases hk:j=k+1
   .subst hk;exact h
   .exact h2 j om
theorem eE {xs:Aa D}(h:0<xs.length):bA xs∈xs/\∀ y∈xs,ltN y (bA xs)=false:=by
 obtain⟨h1,h2⟩:=YY xs (xs.length-1);have hm:Bc (btN xs) (xs.length-1)<xs.length:=by omega
 refine⟨by unfold bA;rw[Cy,Ao hm];exact DM _,λy hy=>?_⟩
 obtain⟨j,hj,e⟩:=Bl.mp hy;have:=h2 j om;unfold btN at this;rw[Cy,Ao hj] at this;rw[<- e];exact this
noncomputable def mOk (xs:Aa D):Aq:=xs.all λa=>trb 6 a&&xs.all λb=>xM a b
noncomputable def lsD (d:D)(S:Sto):Ak (Aa D):=match d with
 |.lst xs=>Ab xs
 |.loc n=>match S[n]? with
  |some (.lst xs)=>Ab xs
  |_=>none
 |_=>none
section
variable {prog:A6}{w:AK}{A:AB}{R:Jd->Ag->Prop}{I:Ad}{fp wr:Aa Ad}{n:Ai}{P:Ai->Ac->Prop}{St:Ai->AC->Prop}{bt:Ai->Ai->Aq}{S:Ad}{h0:AC}{kw:Aa (Ap × Ac)}
def cY (prog:A6)(w:AK)(A:AB)(h0:AC)(op:L7)(P:Ai->Ac->Prop)(bt:Ai->Ai->Aq):Prop:=
 ∀ i j vi vj (s:Ag) (Q:Ac->Ag->Prop) (E:Ac->Ag->Prop),_S.Sup h0 s.heap->P i vi->P j vj->Q (.bool (bt i j)) s->Ar (As prog w) A (richCompare op vi vj) Q E s
theorem fV:(toString "min" ++ toString ".loop" : Bk) = "min.loop":=by decide
theorem o3 (W:NA prog w A.in1 I fp wr n P St)(hcmp:cY prog w A.in1 h0 .Lt P bt)(hf:S ∉ fp)(hS0:h0.get? S=none)(hw0:∀ b∈wr,h0.get? b=none) :
  ∀ (k j:Ai) (s:Ag) (u:Ac) (c:Ai),j+1+k=n->_S.Sup h0 s.heap->St (j+1) s.heap->P (Bc bt j) u->s.heap.get? S=Ab { cls:=.type "list",dict:=none,data:=.seq #[u,u] c,slots:=#[] } ->
  (∀ v h' tk,P (Bc bt (n-1)) v->(∀ b o,b ∉ wr->b≠S->s.heap.get? b=Ab o->h'.get? b=Ab o)->R (.ok (.ret v)) { s with heap:=h',toks:=tk }) ->
  DH (As prog w) A (.builtin "min.loop" ⟨[.ref I,.none,.ref S],kw⟩) R s:=by
 have hw:S ∉ wr:=λz=>hf (W.sub _ z);intro k
 induction k with
 |zero =>
  intro j s u c hk hs st hu hS hR;have hn:j+1=n:=by omega
  subst hn;refine CB E5 ?_;rw[Ce Cp _];refine Af (Bm hS rfl ?_);refine Af (Bv (W.done s _ _ st λh' tk q=>?_));refine Af ?_;exact Dr (q S _ hw hS) rfl (Af (CS (An (hR u _ tk hu λb o z1 z2 e=>(A9 _ _ (Cf z2)).trans (q b o z1 e)))))
 |succ k ih =>
  intro j s u c hk hs st hu hS hR;refine CB E5 ?_;rw[Ce Cp _];refine Af (Bm hS rfl ?_);refine Af (Bv (W.item (j+1) s _ _ om st λv h' tk hv st' q=>?_));have hS':=q S _ hw hS;have hs':_S.Sup h0 h':=λb o e=>q b o (λz=>by rw[hw0 b z] at e;cases e) (hs b o e)
  refine Af (An ?_);refine Af (Bv (Bx (Af (hcmp (j+1) (Bc bt j) v u _ _ _ hs' hv hu ?_))));refine Af (Bx (Ge ?_));refine Af (CS (An ?_));cases hb:bt (j+1) (Bc bt j) with
  |true =>
   rw[A0 rfl];refine Af ?_;refine Dr hS' rfl (Af (CS ?_));rw[fV];refine An ⟨CC Cp _,ih (j+1) _ v _ om (λb o e=>(A9 _ _ λy:S=b=>by rw[<- y,hS0] at e;cases e).trans (hs' b o e)) (W.frame _ _ _ st' λb z o e=>(A9 _ _ λy:S=b=>hf (y▸z)).trans e) ?_ (CJ _ hS' rfl) λv' h2 tk2 p2 q2=>hR v' h2 tk2 p2 λb o z1 z2 e=>q2 b o z1 z2 ((A9 _ _ (Cf z2)).trans (q b o z1 e))⟩
   rw[Bc,A0 hb];exact hv
  |false =>
   rw[Aw (by simp)]
   refine Af (CS ?_);rw[fV];refine An ⟨CC Cp _,ih (j+1) _ u c om hs' st' ?_ hS' λv' h2 tk2 p2 q2=>hR v' h2 tk2 p2 λb o z1 z2 e=>q2 b o z1 z2 (q b o z1 e)⟩;rw[Bc,Aw (by rw[hb];simp)]
   exact hu
theorem eF (W:NA prog w A.in1 I fp wr n P St)(hcmp:cY prog w A.in1 h0 .Lt P bt)(hf:S ∉ fp)(hS0:h0.get? S=none)(hw0:∀ b∈wr,h0.get? b=none){s:Ag}{c:Ai}(hs:_S.Sup h0 s.heap)(st:St 0 s.heap)(hn:0<n)(hS:s.heap.get? S=Ab { cls:=.type "list",dict:=none,data:=.seq #[] c,slots:=#[] })
  (hR:∀ v h' tk,P (Bc bt (n-1)) v->(∀ b o,b ∉ wr->b≠S->s.heap.get? b=Ab o->h'.get? b=Ab o)->R (.ok (.ret v)) { s with heap:=h',toks:=tk }) :
  DH (As prog w) A (.builtin "min.loop" ⟨[.ref I,.none,.ref S],kw⟩) R s:=by
 have hw:S ∉ wr:=λz=>hf (W.sub _ z);refine CB E5 ?_;rw[Ce Cp _];refine Af (Bm hS rfl ?_);refine Af (Bv (W.item 0 s _ _ hn st λv h' tk hv st' q=>?_));have hS':=q S _ hw hS;have hs':_S.Sup h0 h':=λb o e=>q b o (λz=>by rw[hw0 b z] at e;cases e) (hs b o e)
 refine Af (An ?_);refine Af ?_;refine Dr hS' rfl ?_;rw[fV];refine An ⟨CC Cp _,o3 W hcmp hf hS0 hw0 (n-1) 0 _ v _ om (λb o e=>(A9 _ _ λy:S=b=>by rw[<- y,hS0] at e;cases e).trans (hs' b o e)) (W.frame _ _ _ st' λb z o e=>(A9 _ _ λy:S=b=>hf (y▸z)).trans e) hv (CJ _ hS' rfl) λv' h2 tk2 p2 q2=>hR v' h2 tk2 p2 λb o z1 z2 e=>q2 b o z1 z2 ((A9 _ _ (Cf z2)).trans (q b o z1 e))⟩
end
section
variable {X:Cx}{pins:Aa (Ad × AR)}{σ : _L.St}{H P:Hp}{α : Aa Ad}{S:Sto}{s:Ag}
set_option tactic.hygienic true in
theorem QR (I:Inv X pins σ H s)(r:Rel X.K H P α S){d:D}{xs:Aa D}{v:V}(h:lsD d S=Ab xs)(p:Rep X.K P α d v):∃ a vs its,v=.ref a/\qE X.K P α xs vs/\qL vs its/\s.heap.IsList a its.toArray/\xs.length=its.length:=by
 unfold lsD at h
 split at h
 .cases h
  obtain⟨a,ws,its,n,rfl,_,t,rvi,e,l,_⟩:=yX I r p;exact⟨a,ws,its,rfl,t,rvi,⟨_,e,rfl,n,rfl⟩,l⟩
 .split at h
  .rename_i hS
   cases h;simp only[Rep] at p;obtain⟨b,rfl,q⟩:=p;obtain⟨ws,z,t⟩:=r.at' _ b _ q hS;obtain⟨its,rvi,pl,_⟩:=I.list (.inl (.inl z));exact⟨b,ws,its,rfl,t,rvi,pl.isList,by rw[t.length,rvi.length]⟩
  .cases h
 .cases h
theorem eC {xs:Aa D}(h:mOk xs=true){x:D}(hx:x∈xs):trb 6 x=true/\∀ y∈xs,xM x y=true:=by
 have:=AJ.mp h x hx;simp only[Az] at this;exact⟨this.1,λy hy=>AJ.mp this.2 y hy⟩
end
section
open _S PySem.W
variable {prog:A6}{w:AK}{A:AB}{E:Ac->Ag->Prop}{s:Ag}
theorem sG {arg:Ac}{Rc:Aa Ac->Ag->Prop}(hu:A.units+16<CZ)(hcol:∀ {R:Aa Ac->Ag->Prop},(∀ vs s1,Rc vs s1->R vs s1)->Ar (As prog w) A.in1 (collect arg) R E s)
  (h:∀ (vs:Aa Ac) (s1:Ag),Rc vs s1->∃ xs:Aa D,sOk xs=true/\xs.length=vs.length/\xs.length<=100000/\(∀ (i:Ai) (x:D) (v:Ac),xs[i]? = Ab x->vs[i]? = Ab v->TrV s1.heap 6 x v) /\
   ∀ (h':AC) (a:Ad) (c:Ai) (ps:Aa (Aa Am × Ac)),(∀ b o,s1.heap.get? b=Ab o->h'.get? b=Ab o)->s1.heap.objs.size<=a->h'.get? a=Ab (Di "list" (ps.map (·.2)).toArray c)->ps.map (·.1)=(gH xs).map zA->(∀ p∈ps,isN s1.heap p.1 p.2/\p.2∈vs)->Q (.ref a) { s1 with heap:=h',toks:=s1.toks }) :
  Ar (As prog w) A (call (.builtin "sorted") [arg]) Q E s:=by
 refine Calls.call_function_entry kind_sorted plain_sorted entry_sorted (args_sorted1 _) ?_;unfold Hv.«sorted»;refine Af (m:=checkCount "sorted" 1 1 _) (An ?_);refine Af (hcol λvs s1 hR=>?_);obtain⟨xs,ok,hl,hz,ht,h⟩:=h vs s1 hR;refine Af (wpAny_newList ?_ (by rw[DB];omega))
 have hD:(s1.heap.push (Di "list" vs.toArray 0)).get? s1.heap.objs.size=Ab (Di "list" vs.toArray 0):=AD _ rfl;have n0:s1.heap.get? s1.heap.objs.size=none:=by
  cases q:s1.heap.get? s1.heap.objs.size with
  |none=>rfl
  |some o=>exact absurd (Ay q) (Bw _)
 have kd:=PX (prog:=prog) (w:=w) (h0:=s1.heap) ok;have hlen:vs.length=(xs.map zA).length:=by rw[AW];omega
 have hks:∀ i v,vs[i]? = Ab v->isN s1.heap ((xs.map zA).getD i []) v:=λi v hi=>by
  have hii:i<xs.length:=by have:=(AE.mp hi).1;omega
  refine⟨xs[i],ht i _ v (Ao hii) hi,?_⟩;simp[ET,hii]
 show Ar _ _ _ _ _ { s1 with heap:=s1.heap.push (Di "list" vs.toArray 0),toks:=s1.toks }
 refine Af (Bx (DL slot_list_sort ⟨_,hD,rfl⟩ entry_list_sort (PZ (h0:=s1.heap) (is:=isN s1.heap) kd.ord kd.inj (d:=[]) (vs:=vs) hlen hks hD (by show A.units+2+8<CZ;omega) om (λh2=>kd.cmps hlen hks (λk hk=>by
  obtain⟨x,hx,e⟩:=AZ.mp hk;exact⟨x,hx,e⟩) h2) (λb o e=>Aj _ e) n0 λps pm nf=>⟨_,rfl,?_⟩) (args_list_sort _)))
 refine An ⟨_,rfl,?_⟩;have old:∀ b o,b≠s1.heap.objs.size->(s1.heap.push (Di "list" vs.toArray 0)).get? b=Ab o->((((s1.heap.push (Di "list" vs.toArray 0)).update s1.heap.objs.size (Do λ_=>#[])).push (Di "tuple" vs.toArray 0)).push (Di "list" #[] 0)).get? b=Ab o:=λb o hb e =>
  Aj _ (Aj _ ((A9 _ _ (Cf hb)).trans e))
 obtain⟨e1,he1⟩:∃ e1,((s1.heap.push (Di "list" vs.toArray 0)).update s1.heap.objs.size (Do λ_=>#[])).get? s1.heap.objs.size=Ab (Di "list" #[] e1):=⟨_,IY hD (λ_=>#[])⟩;have he6:=IY (Aj (Di "list" #[] 0) (Aj (Di "tuple" vs.toArray 0) he1)) (λ_=>(ps.map (·.2)).toArray)
 have pk:(ps.map (·.1)).Perm (xs.map zA):=by
  have:=pm.map (·.1)
  rwa [Iu om] at this
 refine h _ s1.heap.objs.size _ ps (λb o e=>?_) (Au _) he6 ?_ (λp hp=>?_)
 .have hb:b≠s1.heap.objs.size:=λz=>by
   subst z;exact absurd (Ay e) (Bw _)
  exact(A9 _ _ (Cf hb)).trans (old b o hb (Aj _ e))
 .rw[fG]
  exact kE kd.ord nf (bI kd.ord _) (pk.trans (vK _).symm)
 .obtain⟨i,e1,e2⟩:=GW (d:=[]) hlen (pm.mem_iff.mp hp)
  exact⟨e2▸hks i _ e1,Cj e1⟩
end
noncomputable def xX (kvs:Aa (Key × D)):Aa D:=kvs.map λp=>.tup [kD p.1,p.2]
noncomputable def pR (f:DE):DE:=λenv S=>(f env S).bind λd S1=>match gQ d S1 with
 |some kvs=>if (decide ((xX kvs).length<=100000)&&sOk (xX kvs))=true then .ok (.loc S1.length) (S1++[.lst (gH (xX kvs))]) else .bad
 |none=>.bad
section
variable {X:Cx}{o:AA}{fo:DE}{apos cpos pos p2:CG}
set_option tactic.hygienic true in
theorem rB {d:D}{S:Sto}{kvs:Aa (Key × D)}(h:gQ d S=Ab kvs):∃ n,d=.loc n/\S[n]? = Ab (.dct kvs):=by
 unfold gQ at h
 split at h
 .split at h
  .rename_i hS
   cases h;exact⟨_,rfl,hS⟩
  .cases h
 .cases h
theorem rF (hc:X.calm=true)(hu:X.A.units+64<CZ)(hg:Gl X "sorted")(hm:X.mg "sorted" = none)(ho:PE X o (tD X fo))(hbase:EU o "items" X.env (eval o X.env)=eval o X.env:=by rfl)(hline:(apos.endLine == cpos.line)=true:=by rfl) :
  PE X (.Call (.Name "sorted" p2) [.Call (.Attribute o "items" apos) [] [] cpos] [] pos) (tD X (pR fo)):=by
 intro pins s σ H Q I h;obtain⟨P,α,env,S,r,re,af⟩:=h;refine D0 (xZ I hg hm sW ?_);refine Hd ?_ rfl rfl;refine HA (IF hbase hline (thn (zI ho I r re af) λvv s1 ⟨v,H1,P1,α1,d,S1,G1,af1⟩=>?_));cases hd:gQ d S1 with
 |none=>rw[hd] at af1;exact Al af1
 |some kvs =>
  rw[hd] at af1;dsimp only at af1;obtain⟨hok,af1⟩:=xY (X:=X) af1;rw[Az,Ba] at hok;obtain⟨hz5,ok⟩:=hok;obtain⟨n,rfl,hS⟩:=rB hd;have rp:=G1.rep;have I1:=G1.inv;have r1:=G1.rel;have ht:tyD (.loc n) S1=Ab "dict":=GJ hS;obtain⟨h1,h2⟩:=cM I1 G1.val (cN r1 rp ht (by simp))
  simp only[Rep] at rp;obtain⟨a,rfl,ha⟩:=rp;cases (show vv=AL a from G1.val)
  obtain⟨vs,z,t⟩:=r1.at' n a _ ha hS;obtain⟨hz,hds,us,rel,dd⟩:=gR I1.hok z;refine⟨"dict","dict.items",Ev,IG,PySem.F.type_dict_items,h1,h2,Gj rfl (La ?_)⟩;refine Ho IG dd.typeIs PySem.F.entry_dict_items (PySem.F.args_dict_items_1 _) (meets_dict_items (qZ X.prog X.w) a hds) ⟨⟨us,dd⟩,?_⟩;obtain⟨ep,oa,es,hoa,rest⟩:=dd.dictAt;refine HR ?_;have hlu:us.length<=sizeLine:=by rw[<- rel.length];exact hz
  have I2:=I1.kept (t':=s1.toks) (h':=s1.heap.push { cls:=.type "dict_items",data:=.fields #[.ref a] }) λb u e=>Aj _ e;refine sG (Rc:=λus' s'=>∃ (h':AC) (tk:Ai) (as:Aa Ad),us'=as.map AL/\s'={ s1 with heap:=h',toks:=tk } /\ (∀ b o,(s1.heap.push { cls:=.type "dict_items",data:=.fields #[.ref a] }).get? b=Ab o->h'.get? b=Ab o)/\as.length=us.length/\PySem.W.KdxG (qZ X.prog X.w) us (s1.heap.push { cls:=.type "dict_items",data:=.fields #[.ref a] }).objs.size h' as)
   om (λ{R} hR=>PySem.W.kdx_collect (s:={ s1 with heap:=s1.heap.push { cls:=.type "dict_items",data:=.fields #[.ref a] } }) (knd:=qZ X.prog X.w) (d:=a) (kvs:=us) (ep:=ep) (I1.ok.hd hc) ⟨_,AD _ rfl,rfl,rfl⟩ ⟨oa,es,Aj _ hoa,rest⟩ hlu λh' tk as hk hlen g=>hR _ _ ⟨h',tk,as,rfl,rfl,hk,hlen,g⟩) ?_
  rintro _ _ ⟨h',tk,as,rfl,rfl,hk,hlen,g⟩;have hlv:as.length=vs.length:=by rw[hlen,rel.length]
  have hfst:(wW as vs).map (·.1)=as:=tZ as vs hlv
  have nd:((wW as vs).map (·.1)).Nodup:=by
   rw[hfst];exact g.rise.imp λhlt=>AX hlt
  have hge:∀ p∈wW as vs,(s1.heap.push { cls:=.type "dict_items",data:=.fields #[.ref a] }).objs.size<=p.1:=λp hp=>by
   have:p.1∈as:=by rw[<- hfst];exact AZ.mpr ⟨p,hp,rfl⟩
   exact CD (g.above _ this)
  have I3:Inv X pins σ (xC H1 (wW as vs)) { s1 with heap:=h',toks:=tk }:=Inv.laidL (s:={ s1 with heap:=s1.heap.push { cls:=.type "dict_items",data:=.fields #[.ref a] } }) (L:=wW as vs) (t':=tk) I2 hk hge λp hp=>by
   obtain⟨j,q,e1,e2,e3⟩:=n6 hp;obtain⟨u,e4,e5⟩:=rY rel e2;obtain⟨key,k,x,f1,f2,f3⟩:=g.pairs j p.1 e1;rw[e4] at f1;cases f1;rw[e3];exact⟨(by decide:2<=sizeLine),[key,u],.cons (QP f2) (.cons e5 .nil),_,f3,rfl,_,rfl⟩
  obtain⟨r3,e3⟩:=r1.pureL (L:=wW as vs) (λp hp=>I2.hok.fresh (hge p hp)) nd;have rps:qE X.K (xC P1 (wW as vs)) α1 (xX kvs) (as.map V.ref):=fH (KVs.mono e3 (AF _) t) hlv λp hp=>n9 nd hp;have lk:(xX kvs).length=as.length:=by have:=rps.length;rwa [AW] at this
  have at':∀ (i:Ai) (x:D) (u:Ac),(xX kvs)[i]? = Ab x->(as.map AL)[i]? = Ab u->TrV h' 6 x u/\∃ w,qI w u/\Rep X.K (xC P1 (wW as vs)) α1 x w:=λi x u hx hu'=>by
   obtain⟨y,f1,f2⟩:=rps.get hx;obtain⟨z',g1,g2⟩:=(cR as).get f1;cases g1.symm.trans hu';refine⟨cJ I3 r3 6 ?_ f2 g2,y,g2,f2⟩;have:=AJ.mp ok _ (Cj hx);simp only[Az] at this;exact this.1.2
  refine⟨xX kvs,ok,by rw[lk,AW],hz5,λi x u hx hu'=>(at' i x u hx hu').1,λh2 b c ps kp hb hob hps hp=>?_⟩
  have vv:∀ (ps:Aa (Aa Am × Ac)) (ys:Aa D),ps.map (·.1)=ys.map zA->(∀ y∈ys,y∈xX kvs)->(∀ p∈ps,isN h' p.1 p.2/\p.2∈as.map AL)->∃ ws,qL ws (ps.map (·.2))/\qE X.K (xC P1 (wW as vs)) α1 ys ws:=by
   intro ps
   induction ps with
   |nil =>
    intro ys e _ _;cases ys with
    |nil=>exact⟨[],.nil,.nil⟩
    |cons _ _=>cases e
   |cons p ps ih =>
    intro ys e hy h;cases ys with
    |nil=>cases e
    |cons y ys =>
     injection e with e1 e2
     obtain⟨ws,a1,a2⟩:=ih ys e2 (λx hx=>hy x (by simp[hx])) λq hq=>h q (by simp[hq])
     obtain⟨⟨d',t',c'⟩,hm'⟩:=h p (by simp)
     obtain⟨i,hi,ei⟩:=Bl.mp hm';have hik:i<(xX kvs).length:=by rw[lk];simpa using hi
     obtain⟨t2,w,rw',pw⟩:=at' i _ p.2 (Ao hik) (by rw[Ao hi,ei])
     have hd':=t'.det t2;subst hd';have:(xX kvs)[i]=y:=kW t2.tr (v9 ok (hy y (by simp))).2.1 (c'.trans e1)
     rw[this] at pw;exact⟨w::ws,.cons rw' a1,.cons pw a2⟩
  obtain⟨ws,a1,a2⟩:=vv ps (gH (xX kvs)) hps (λy hy=>(vL _).mem_iff.mp hy) hp;have hwl:ws.length<=sizeLine:=by
   have q1:=a2.length;have q2:=(vL (xX kvs)).length_eq;rw[DB];omega
  have I4:Inv X pins σ (xC (xC H1 (wW as vs)) [(b,HO.lst ws)]) { s1 with heap:=h2,toks:=tk }:=Inv.laidL (s:={ s1 with heap:=h',toks:=tk }) (L:=[(b,HO.lst ws)]) (t':=tk) I3 kp (λp hpm=>by
   have:p=(b,HO.lst ws):=by simpa using hpm
   subst this;exact hb) λp hpm=>by
   have:p=(b,HO.lst ws):=by simpa using hpm
   subst this;exact⟨hwl,ps.map (·.2),c,a1,hob⟩
  exact⟨.ref b,_,I4,rfl,bC r3 (I3.hok.fresh hb) a2 (qR.base (G1.same.trans e3) G1.pre af1)⟩
end
section
variable {X:Cx}{o:AA}{fo:DE}{apos cpos pos p2:CG}{cm:Aq}{k:Ai}
theorem hJ (hc:X.calm=true)(hr:RoomC cm k X.A)(hg:Gl X "sorted")(hm:X.mg "sorted" = none)(ho:QE X o fo)(hbase:EU o "items" X.env (eval o X.env)=eval o X.env:=by rfl)(hline:(apos.endLine == cpos.line)=true:=by rfl) :
  QE X (.Call (.Name "sorted" p2) [.Call (.Attribute o "items" apos) [] [] cpos] [] pos) (pR fo):=⟨rF hc hr.units hg hm ho.1 hbase hline⟩
end
section
variable {prog:A6}{w:AK}{A:AB}{E:Ac->Ag->Prop}{s:Ag}{l:Ad}{its:A5 Ac}{d:Ac}
theorem o4 (a v:Ac):Jo "min" ⟨[a],[(Bo "default",v)]⟩:=by unfold Jo;kernel_rfl
theorem iZ {bt:Ai->Ai->Aq}(hh:A.handled=none)(hl:s.heap.IsList l its)(hcmp:cY prog w A.in1 s.heap .Lt (λi v=>its[i]? = Ab v) bt)
  (h:∀ v h' tk,(its.size=0/\v=d\/0<its.size/\its[Bc bt (its.size-1)]? = Ab v)->(∀ b o,s.heap.get? b=Ab o->h'.get? b=Ab o)->Q v { s with heap:=h',toks:=tk }) : Ar (As prog w) A (call (.builtin "min") [.ref l] [(Bo "default",d)]) Q E s:=by
 have hlt:l<s.heap.objs.size:=by obtain⟨_,e,_⟩:=hl;exact Ay e
 have none_at:∀ b,s.heap.objs.size<=b->s.heap.get? b=none:=λb hb=>by
  cases q:s.heap.get? b with
  |none=>rfl
  |some o=>exact absurd (Ay q) (ES.mpr hb)
 refine kmk_tree PySem.F.kind_min PySem.F.plain_min PySem.F.entry_min (o4 _ _) ?_;refine Af (Gw (show EG "min" ["key","default"] 0 ⟨[],[(Bo "default",d)]⟩=pure [none,Ab d] from rfl) ?_)
 refine Af (An ?_);refine Af (E7 hl ?_);refine Af (CI ?_);have W:=Nh (prog:=prog) (w:=w) (A:=A.in1) hh s.heap.objs.size l (AX hlt) its;rw[fV];have sz:(s.heap.push { cls:=.type "list_iterator",data:=.fields #[.ref l,.int 0 0] }).objs.size=s.heap.objs.size+1:=CM ..;have st:=W.frame _ _ _ (show (s.heap.push { cls:=.type "list_iterator",data:=.fields #[.ref l,.int 0 0] }).IsListIter s.heap.objs.size l 0/\(s.heap.push { cls:=.type "list_iterator",data:=.fields #[.ref l,.int 0 0] }).IsList l its from⟨⟨_,AD _ rfl,rfl,rfl⟩,hl.push _⟩) λb _ o e=>Aj { cls:=.type "list",data:=.seq ([] : Aa Ac).toArray } e
 have back:∀ {v:Ac} {h':AC} {tk:Ai},(its.size=0/\v=d\/0<its.size/\its[Bc bt (its.size-1)]? = Ab v)->(∀ b o,b ∉ [s.heap.objs.size]->b≠(s.heap.push { cls:=.type "list_iterator",data:=.fields #[.ref l,.int 0 0] }).objs.size->((s.heap.push { cls:=.type "list_iterator",data:=.fields #[.ref l,.int 0 0] }).push { cls:=.type "list",data:=.seq ([] : Aa Ac).toArray }).get? b=Ab o->h'.get? b=Ab o)->Q v { s with heap:=h',toks:=tk }:=λ{v h' tk} hv q=>by
  refine h v h' tk hv λb o e=>q b o (λhm=>?_) (λhm=>?_) (Aj _ (Aj _ e))
  .simp only[A8,Cb,Eb] at hm
   subst hm;exact absurd (Ay e) (Bw _)
  .subst hm
   exact absurd (Ay e) (by rw[sz];exact ES.mpr (Fg _))
 by_cases hn:its.size=0
 .refine An ⟨CC Cp _,CB E5 ?_⟩
  rw[Ce Cp _];refine Af (Bm (AD _ rfl) rfl ?_);refine Af (Bv (W.done _ _ _ (by rw[hn];exact st) λh' tk q=>?_))
  exact Af (D3 (An (back (.inl ⟨hn,rfl⟩) λb o z1 _ e=>q b o z1 e)))
 .refine An ⟨CC Cp _,eF (h0:=s.heap) W hcmp ?_ (none_at _ (by rw[sz];exact Fg _)) (λb hb=>?_) (λb o e=>Aj _ (Aj _ e)) st (Dd hn) (AD _ rfl) λv h' tk hv q=>back (.inr ⟨Dd hn,hv⟩) q⟩
  .rw[sz]
   simp only[A8,Cb,Eb,Nr];exact⟨Mj _,Cf (AX (LL hlt))⟩
  .simp only[A8,Cb,Eb] at hb
   subst hb;exact none_at _ (Au _)
end
noncomputable def mnD (ds:Aa D)(b:D)(S:Sto):Res D:=match ds with
 |[d]=>match lsD d S with
  |some [] => .ok b S
  |some (x::xs)=>if mOk (x::xs)=true then .ok (bA (x::xs)) S else .bad
  |none=>.bad
 |_=>.bad
noncomputable def fQ (fA:DA)(fD:DE):DE:=λenv S=>(fA env S).bind λds S1=>(fD env S1).bind λb S2=>mnD ds b S2
section
variable {X:Cx}{e e2:AA}{fA:DA}{fD:DE}{p pos kp:CG}{cm:Aq}{k:Ai}
theorem ZV (hc:X.calm=true)(hu:X.A.units+64<CZ)(hg:Gl X "min")(hm:X.mg "min" = none)(ha:PA X [e] (tDA X fA))(hd:PE X e2 (tD X fD))(he:A3 [e] X.env=(false,eval e X.env)::A3 [] X.env:=by rfl):PE X (.Call (.Name "min" p) [e] [⟨Ab "default",e2,kp⟩] pos) (tD X (fQ fA fD)):=by
 intro pins s σ H Q I h;obtain⟨P,α,env,S,r,re,af⟩:=h;refine D0 (xZ I hg hm (u:=.builtin "min") (by decide +kernel) ?_ (by decide) (by decide))
 refine Mk (thn (xD ha I r re af pos) λus s1 ⟨vs,H1,P1,α1,ds,S1,I1,rv,r1,re1,rp,e1,e2',af1⟩=>My (thn (zI hd I1 r1 re1 (qR.base e1 e2' af1)) λu s2 ⟨v,H2,P2,α2,b,S2,G,af2⟩=>kws_nil ?_)) (by rw[he];rfl) (by rw[he];rfl)
 show Ar _ _ (call (.builtin "min") us [(Bo "default",u)]) _ _ s2
 match ds,af2,rp with
 |[],af2,_=>exact Al af2
 |_::_::_,af2,_=>exact Al af2
 |[dd],af2,rp =>
  simp only[mnD] at af2;cases hls:lsD dd S2 with
  |none=>rw[hls] at af2;exact Al af2
  |some xs =>
   rw[hls] at af2;have I:=G.inv;have r:=G.rel;obtain⟨v',u',rfl,rfl,p',q⟩:=yC rp rv;obtain⟨a,ws,its,rfl,t,rvi,hl,ll⟩:=QR I r hls (Rep.mono G.same G.pre _ _ p');cases (show u'=AL a from q)
   have okk:xs=[]\/mOk xs=true:=by
    cases xs with
    |nil=>exact .inl rfl
    |cons x xs=>exact .inr (xY (X:=X) af2).1
   have at':∀ (i:Ai) (u:Ac),its.toArray[i]? = Ab u->∃ vv,TrV s2.heap 6 (xs.getD i .non) u/\qI vv u/\Rep X.K P2 α2 (xs.getD i .non) vv/\xs.getD i .non∈xs/\mOk xs=true:=λi u hi=>by
    have hi':its[i]? = Ab u:=by simpa using hi
    have hii:i<its.length:=(AE.mp hi').1;have ok:mOk xs=true:=by
     rcases okk with rfl|ok
     .simp at ll;omega
     .exact ok
    have hx:xs[i]? = Ab (xs[i]' om):=Ao om;obtain⟨y,f1,f2⟩:=t.get hx;obtain⟨z,g1,g2⟩:=rvi.get f1;cases g1.symm.trans hi';have e:xs.getD i .non=xs[i]' om:=by rw[Cy,hx];rfl
    rw[e];exact⟨y,cJ I r 6 (eC ok (DM _)).1 f2 g2,g2,f2,DM _,ok⟩
   have hz:its.toArray.size=xs.length:=by simp only[AG];rw[ll]
   refine iZ (bt:=btN xs) (I.ok.hd hc) hl (λi j vi vj s' Q' E' hs hi hj hQ=>?_) λv3 h' tk hv hk=>?_
   .obtain⟨_,t1,_,_,m1,ok⟩:=at' i vi hi
    obtain⟨_,t2,_,_,m2,_⟩:=at' j vj hj;exact(t1.sup hs).lt (t2.sup hs) ((eC ok m1).2 _ m2) (by show X.A.units+1+6<CZ;omega) _ _ _ _ hQ
   .rcases hv with⟨h0,rfl⟩|⟨_,hv⟩
    .have:xs=[]:=DC.mp om
     subst this;exact⟨v,H2,I.kept (t':=tk) hk,G.val,af2 v H2 P2 α2 r G.same G.pre G.rep⟩
    .obtain⟨vv,_,rv',rp',m,_⟩:=at' _ v3 hv
     rw[hz] at rp';cases xs with
     |nil=>cases m
     |cons x xs =>
      have af3:=(xY (X:=X) af2).2;exact⟨vv,H2,I.kept (t':=tk) hk,rv',af3 vv H2 P2 α2 r G.same G.pre rp'⟩
theorem WX (hc:X.calm=true)(hr:RoomC cm k X.A)(hg:Gl X "min")(hm:X.mg "min" = none)(ha:QA X [e] fA)(hd:QE X e2 fD)(he:A3 [e] X.env=(false,eval e X.env)::A3 [] X.env:=by rfl):QE X (.Call (.Name "min" p) [e] [⟨Ab "default",e2,kp⟩] pos) (fQ fA fD):=⟨ZV hc hr.units hg hm ha.1 hd.1 he⟩
end
section
variable {prog:A6}{w:AK}{A:AB}{R:Jd->Ag->Prop}{I:Ad}{fp wr:Aa Ad}{n:Ai}{P:Ai->Ac->Prop}{St:Ai->AC->Prop}{S q:Ad}{h0:AC}{kw:Aa (Ap × Ac)}{kf:Ai->Am}
def a9 (prog:A6)(w:AK)(A:AB)(h0:AC)(q:Ad)(P:Ai->Ac->Prop)(kf:Ai->Am):Prop:=
 ∀ i v (s:Ag) (Q:Ac->Ag->Prop) (E:Ac->Ag->Prop),_S.Sup h0 s.heap->P i v->(∀ t h' tk,(∀ b o,s.heap.get? b=Ab o->h'.get? b=Ab o)->Q (.int (kf i) t) { s with heap:=h',toks:=tk }) -> Ar (As prog w) A (call (.ref q) [v]) Q E s
noncomputable def gtK (kf:Ai->Am)(i j:Ai):Aq:=decide (kf i>kf j)
theorem fW:(toString "max" ++ toString ".loop" : Bk) = "max.loop":=by decide
theorem o6 (W:NA prog w A.in1 I fp wr n P St)(hq:a9 prog w A.in1 h0 q P kf)(hf:S ∉ fp)(hS0:h0.get? S=none)(hw0:∀ b∈wr,h0.get? b=none) :
  ∀ (k j:Ai) (s:Ag) (u:Ac) (t:IM) (c:Ai),j+1+k=n->_S.Sup h0 s.heap->St (j+1) s.heap->P (Bc (gtK kf) j) u->s.heap.get? S=Ab { cls:=.type "list",dict:=none,data:=.seq #[u,.int (kf (Bc (gtK kf) j)) t] c,slots:=#[] } ->
  (∀ v h' tk,P (Bc (gtK kf) (n-1)) v->(∀ b o,b ∉ wr->b≠S->s.heap.get? b=Ab o->h'.get? b=Ab o)->R (.ok (.ret v)) { s with heap:=h',toks:=tk }) ->
  DH (As prog w) A (.builtin "max.loop" ⟨[.ref I,.ref q,.ref S],kw⟩) R s:=by
 have hw:S ∉ wr:=λz=>hf (W.sub _ z);intro k
 induction k with
 |zero =>
  intro j s u t c hk hs st hu hS hR;have hn:j+1=n:=by omega
  subst hn;refine CB CT ?_;rw[Ce AU _];refine Af (Bm hS rfl ?_);refine Af (Bv (W.done s _ _ st λh' tk q=>?_));refine Af ?_;exact Dr (q S _ hw hS) rfl (Af (CS (An (hR u _ tk hu λb o z1 z2 e=>(A9 _ _ (Cf z2)).trans (q b o z1 e)))))
 |succ k ih =>
  intro j s u t c hk hs st hu hS hR;refine CB CT ?_;rw[Ce AU _];refine Af (Bm hS rfl ?_);refine Af (Bv (W.item (j+1) s _ _ om st λv h' tk hv st' q=>?_));have hS':=q S _ hw hS;have hs':_S.Sup h0 h':=λb o e=>q b o (λz=>by rw[hw0 b z] at e;cases e) (hs b o e)
  refine Af (Bv (Bx (hq (j+1) v _ _ _ hs' hv λt2 h2 tk2 kp=>?_)));have hS2:=kp S _ hS';have hs2:_S.Sup h0 h2:=λb o e=>kp b o (hs' b o e);have st2:=W.frame _ _ _ st' λb _ o e=>kp b o e;refine Af (Bv (Bx (Af (gt_int ?_))));refine Af (Bx (Ge ?_));refine Af (CS (An ?_));cases hb:gtK kf (j+1) (Bc (gtK kf) j) with
  |true =>
   have hb':decide (kf (j+1)>kf (Bc (gtK kf) j))=true:=hb;rw[hb',A0 rfl];refine Af ?_;refine Dr hS2 rfl (Af (CS ?_));rw[fW];have eb:Bc (gtK kf) (j+1)=j+1:=by rw[Bc,A0 hb]
   have hS3:∃ c',(h2.update S (Do λ_=>#[v,.int (kf (j+1)) t2])).get? S=Ab { cls:=.type "list",dict:=none,data:=.seq #[v,.int (kf (Bc (gtK kf) (j+1))) t2] c',slots:=#[] }:=by
    rw[eb];exact⟨_,CJ _ hS2 rfl⟩
   obtain⟨c',hS3⟩:=hS3;exact An ⟨CC AU _,ih (j+1) _ v t2 c' om (λb o e=>(A9 _ _ λy:S=b=>by rw[<- y,hS0] at e;cases e).trans (hs2 b o e)) (W.frame _ _ _ st2 λb z o e=>(A9 _ _ λy:S=b=>hf (y▸z)).trans e) (by rw[eb];exact hv) hS3 λv' h3 tk3 p3 q3=>hR v' h3 tk3 p3 λb o z1 z2 e=>q3 b o z1 z2 ((A9 _ _ (Cf z2)).trans (kp b o (q b o z1 e)))⟩
  |false =>
   have hb':decide (kf (j+1)>kf (Bc (gtK kf) j))=false:=hb;rw[hb',Aw (by simp)]
   refine Af (CS ?_);rw[fW];refine An ⟨CC AU _,ih (j+1) _ u t c om hs2 st2 ?_ ?_ λv' h3 tk3 p3 q3=>hR v' h3 tk3 p3 λb o z1 z2 e=>q3 b o z1 z2 (kp b o (q b o z1 e))⟩
   .rw[Bc,Aw (by rw[hb];simp)]
    exact hu
   .rw[Bc,Aw (by rw[hb];simp)]
    exact hS2
theorem eI (W:NA prog w A.in1 I fp wr n P St)(hq:a9 prog w A.in1 h0 q P kf)(hf:S ∉ fp)(hS0:h0.get? S=none)(hw0:∀ b∈wr,h0.get? b=none){s:Ag}{c:Ai}(hs:_S.Sup h0 s.heap)(st:St 0 s.heap)(hn:0<n)(hS:s.heap.get? S=Ab { cls:=.type "list",dict:=none,data:=.seq #[] c,slots:=#[] })
  (hR:∀ v h' tk,P (Bc (gtK kf) (n-1)) v->(∀ b o,b ∉ wr->b≠S->s.heap.get? b=Ab o->h'.get? b=Ab o)->R (.ok (.ret v)) { s with heap:=h',toks:=tk }) :
  DH (As prog w) A (.builtin "max.loop" ⟨[.ref I,.ref q,.ref S],kw⟩) R s:=by
 have hw:S ∉ wr:=λz=>hf (W.sub _ z);refine CB CT ?_;rw[Ce AU _];refine Af (Bm hS rfl ?_);refine Af (Bv (W.item 0 s _ _ hn st λv h' tk hv st' q'=>?_));have hS':=q' S _ hw hS;have hs':_S.Sup h0 h':=λb o e=>q' b o (λz=>by rw[hw0 b z] at e;cases e) (hs b o e)
 refine Af (Bv (Bx (hq 0 v _ _ _ hs' hv λt2 h2 tk2 kp=>?_)));have hS2:=kp S _ hS';refine Af ?_;refine Dr hS2 rfl ?_;rw[fW];exact An ⟨CC AU _,o6 W hq hf hS0 hw0 (n-1) 0 _ v t2 _ om (λb o e=>(A9 _ _ λy:S=b=>by rw[<- y,hS0] at e;cases e).trans (kp b o (hs' b o e))) (W.frame _ _ _ st' λb z o e=>(A9 _ _ λy:S=b=>hf (y▸z)).trans (kp b o e)) hv (CJ _ hS2 rfl) λv' h3 tk3 p3 q3=>hR v' h3 tk3 p3 λb o z1 z2 e=>q3 b o z1 z2 ((A9 _ _ (Cf z2)).trans (kp b o (q' b o z1 e)))⟩
end
section
variable {prog:A6}{w:AK}{A:AB}{s:Ag}{z qual:Ap}{params:EO}{scope:Cg}{cl:Aa (Ap × Ad)}{pm ctv:Ac}{a c' t:Ad}{oc:AR}{ws:A5 Ac}{tk0 tk1:IM}{k n:Am}{kj:Ai}{p1 p2 p3:CG}{its:A5 Ac}{j:Ai}
theorem UJ {E:Ac->Ag->Prop}(hdp:A.depth<Gb)(nl:s.heap.NoLimit)(hs:Ck (tH scope [z]))(hz:(z == ("__debug__" : Ap))=false)(hb:∀ (q:Ap) (b:AA) (cl:Aa (Ap × Ad)) (pm cdv ctv u:Ac),HK (Jw "<lambda>" q params b scope cl pm cdv ctv) ⟨[u],[]⟩=pure [(z,u)])
  (ho:s.heap.get? a=Ab (Fj "<lambda>" qual params (.Subscript (.Name z p1) (.Constant (.int k) kj p2) p3) scope cl pm c' ctv)) (hc:s.heap.get? c'=Ab oc) (hd:oc.data=.fields ws) (hw:ws[1]? = Ab (.str qual tk0))
  (ht:Jb s.heap t its) (h1 : -(2 ^ 62)<k/\k<2 ^ 62) (hj:Nw k its.size=Ab j) (hi:its[j]? = Ab (.int n tk1)) (h:∀ h' tk,(∀ b o,s.heap.get? b=Ab o->h'.get? b=Ab o)->Q (.int n tk1) { s with heap:=h',toks:=tk }) :
  Ar (As prog w) A (call (.ref a) [.ref t]) Q E s:=by
 have S:=M4 (q:=qual) (params:=params) (body:=.Subscript (.Name z p1) (.Constant (.int k) kj p2) p3) hs (by simp)
 refine Kr (PySem.W.kla_callFunE hdp ho rfl S.co S.gen rfl ⟨c',oc,ws,tk0,rfl,hc,hd,hw⟩ ?_);rw[hb qual _ cl pm (.ref c') ctv (.ref t)];refine An (wpAny_newFunctionEnv S.nocell (λy hy=>by rw[CA.mp hy];exact S.par z (by simp)) (λh₁ hns hsb=>?_) S.kind)
 have hk₁:∀ b o,s.heap.get? b=Ab o->h₁.get? b=Ab o:=λb o e=>hsb.extBut b o (AX (Ay e)) (Aj _ e);refine⟨nl.keeps hk₁,PySem.W.kla_codeExpr ?_⟩;refine Kn (Kh (Jy S.kind (S.par z (by simp)) hns (show Fd z [(z,AL t)].reverse=Ab (.ref t) by simp) (Ld ?_)) hz)
 have ht₁:Jb h₁ t its:=ht.keeps hk₁;exact Gi (x:=.int n tk1) ht₁.typeIs Li.lookup (getItem_tuple (j:=j) (Q:=λr s'=>r=.int n tk1/\Q r s') ht₁ om om hj hi ⟨rfl,h h₁ _ hk₁⟩) rfl
end
noncomputable def jM (k:Am)(d:D):Ak Am:=match d with
 |.tup ds=>match _L.atI ds k with
  |some (.int n)=>Ab n
  |_=>none
 |_=>none
noncomputable def wM (k:Am):Aa D->Ak (Aa Am)
 |[]=>Ab []
 |d::ds=>match jM k d,wM k ds with
  |some n,Ab ns=>Ab (n::ns)
  |_,_=>none
noncomputable def g9 (ns:Aa Am)(xs:Aa D):D:=xs.getD (Bc (gtK λi=>ns.getD i 0) (xs.length-1)) .non
theorem tB {k:Am}:∀ {xs:Aa D} {ns:Aa Am} {i:Ai} {x:D},wM k xs=Ab ns->xs[i]? = Ab x->jM k x=Ab (ns.getD i 0)
 |[],_,_,_,_,h=>by cases h
 |d::ds,ns,i,x,e,h=>by
  cases h1:jM k d with
  |none=>simp only[wM,h1] at e;cases e
  |some n =>
   cases h2:wM k ds with
   |none=>simp only[wM,h1,h2] at e;cases e
   |some ms =>
    simp only[wM,h1,h2] at e;cases e;cases i with
    |zero=>cases h;exact h1
    |succ i =>
     show jM k x=Ab (ms.getD i 0);exact tB (xs:=ds) h2 h
set_option tactic.hygienic true in
theorem iM {k:Am}{d:D}{n:Am}(h:jM k d=Ab n):∃ ds,d=.tup ds/\_L.atI ds k=Ab (.int n):=by
 unfold jM at h
 split at h
 .split at h
  .rename_i e;cases h;exact⟨_,rfl,e⟩
  .cases h
 .cases h
section
variable {prog:A6}{w:AK}{A:AB}{E:Ac->Ag->Prop}{s:Ag}{l q:Ad}{its:A5 Ac}{kf:Ai->Am}
theorem oA (a v u:Ac):Jo "max" ⟨[a],[(Bo "key",v),(Bo "default",u)]⟩:=by unfold Jo;kernel_rfl
theorem eG {d:Ac}(hh:A.handled=none)(hl:s.heap.IsList l its)(hq:a9 prog w A.in1 s.heap q (λi v=>its[i]? = Ab v) kf)
  (h:∀ v h' tk,(its.size=0/\v=d\/0<its.size/\its[Bc (gtK kf) (its.size-1)]? = Ab v)->(∀ b o,s.heap.get? b=Ab o->h'.get? b=Ab o)->Q v { s with heap:=h',toks:=tk }) : Ar (As prog w) A (call (.builtin "max") [.ref l] [(Bo "key",.ref q),(Bo "default",d)]) Q E s:=by
 have hlt:l<s.heap.objs.size:=by obtain⟨_,e,_⟩:=hl;exact Ay e
 have none_at:∀ b,s.heap.objs.size<=b->s.heap.get? b=none:=λb hb=>by
  cases q:s.heap.get? b with
  |none=>rfl
  |some o=>exact absurd (Ay q) (ES.mpr hb)
 refine kmk_tree Ml LN LO (oA _ _ _) ?_;refine Af (Gw (show EG "max" ["key","default"] 0 ⟨[],[(Bo "key",.ref q),(Bo "default",d)]⟩=pure [Ab (.ref q),Ab d] from rfl) ?_)
 refine Af (An ?_);refine Af (E7 hl ?_);refine Af (CI ?_);have W:=Nh (prog:=prog) (w:=w) (A:=A.in1) hh s.heap.objs.size l (AX hlt) its;rw[fW];have sz:(s.heap.push { cls:=.type "list_iterator",data:=.fields #[.ref l,.int 0 0] }).objs.size=s.heap.objs.size+1:=CM ..;have st:=W.frame _ _ _ (show (s.heap.push { cls:=.type "list_iterator",data:=.fields #[.ref l,.int 0 0] }).IsListIter s.heap.objs.size l 0/\(s.heap.push { cls:=.type "list_iterator",data:=.fields #[.ref l,.int 0 0] }).IsList l its from⟨⟨_,AD _ rfl,rfl,rfl⟩,hl.push _⟩) λb _ o e=>Aj { cls:=.type "list",data:=.seq ([] : Aa Ac).toArray } e
 have back:∀ {v:Ac} {h':AC} {tk:Ai},(its.size=0/\v=d\/0<its.size/\its[Bc (gtK kf) (its.size-1)]? = Ab v)->(∀ b o,b ∉ [s.heap.objs.size]->b≠(s.heap.push { cls:=.type "list_iterator",data:=.fields #[.ref l,.int 0 0] }).objs.size->((s.heap.push { cls:=.type "list_iterator",data:=.fields #[.ref l,.int 0 0] }).push { cls:=.type "list",data:=.seq ([] : Aa Ac).toArray }).get? b=Ab o->h'.get? b=Ab o)->Q v { s with heap:=h',toks:=tk }:=λ{v h' tk} hv q=>by
  refine h v h' tk hv λb o e=>q b o (λhm=>?_) (λhm=>?_) (Aj _ (Aj _ e))
  .simp only[A8,Cb,Eb] at hm
   subst hm;exact absurd (Ay e) (Bw _)
  .subst hm
   exact absurd (Ay e) (by rw[sz];exact ES.mpr (Fg _))
 by_cases hn:its.size=0
 .refine An ⟨CC AU _,CB CT ?_⟩
  rw[Ce AU _];refine Af (Bm (AD _ rfl) rfl ?_);refine Af (Bv (W.done _ _ _ (by rw[hn];exact st) λh' tk q=>?_))
  exact Af (D3 (An (back (.inl ⟨hn,rfl⟩) λb o z1 _ e=>q b o z1 e)))
 .refine An ⟨CC AU _,eI (h0:=s.heap) W hq ?_ (none_at _ (by rw[sz];exact Fg _)) (λb hb=>?_) (λb o e=>Aj _ (Aj _ e)) st (Dd hn) (AD _ rfl) λv h' tk hv q=>back (.inr ⟨Dd hn,hv⟩) q⟩
  .rw[sz]
   simp only[A8,Cb,Eb,Nr];exact⟨Mj _,Cf (AX (LL hlt))⟩
  .simp only[A8,Cb,Eb] at hb
   subst hb;exact none_at _ (Au _)
end
noncomputable def QV (k:Am)(ds:Aa D)(S:Sto):Res D:=match ds with
 |[d]=>match lsD d S with
  |some xs=>match wM k xs with
   |some ns=>.ok (g9 ns xs) S
   |none=>.bad
  |_=>.bad
 |_=>.bad
noncomputable def mQ (k:Am)(fA:DA):DE:=λenv S=>(fA env S).bind λds S1=>QV k ds S1
section
variable {X:Cx}{e:AA}{fA:DA}{p pos kp kp2 np lpos p1 p2 p3:CG}{nj:Ai}{cm:Aq}{kk:Ai}{y z:Ap}{params:EO}{scope:Cg}{k:Am}{kj:Ai}
theorem aW (hc:X.calm=true)(hr:RoomC cm kk X.A)(M:LmK X y)(hg:Gl X "max")(hm:X.mg "max" = none)(hB:tG X.env.scope X.N scope [] = true)(hs:Ck (tH scope [z]))(hz:(z == ("__debug__" : Ap))=false)(hk : -(2 ^ 62)<k/\k<2 ^ 62)(hdef:Ng params X.env=([],[]))
  (hb:∀ (q:Ap) (b:AA) (cl:Aa (Ap × Ad)) (pm cdv ctv u:Ac),HK (Jw "<lambda>" q params b scope cl pm cdv ctv) ⟨[u],[]⟩=pure [(z,u)]) (ha:PA X [e] (tDA X fA)) (he:A3 [e] X.env=(false,eval e X.env)::A3 [] X.env:=by rfl) :
  PE X (.Call (.Name "max" p) [e] [⟨Ab "key",.Lambda params (.Subscript (.Name z p1) (.Constant (.int k) kj p2) p3) scope lpos,kp⟩,⟨Ab "default",.Constant .none nj np,kp2⟩] pos) (tD X (mQ k fA)):=by
 intro pins s σ H Q I h;obtain⟨P,α,env,S,r,re,af⟩:=h;obtain⟨m1,m2,m3,c,T,m4⟩:=M.1;refine D0 (xZ I hg hm (u:=.builtin "max") (by decide +kernel) ?_ (by decide) (by decide))
 refine Mk (thn (xD ha I r re af pos) λus s1 ⟨vs,H1,P1,α1,ds,S1,I1,rv,r1,re1,rp,e1,e2',af1⟩=>My (iP I1 r1 m1 m4 (m2 c T m4) m3 hdef (iO hB I1.ok) λa H2 s2 pm ctv c' oc ws t I2 r2 hc' hd hs'=>My (wpAny_Constant_none (kws_nil ?_)))) (by rw[he];rfl) (by rw[he];rfl)
 show Ar _ _ (call (.builtin "max") us [(Bo "key",.ref a),(Bo "default",Bi)]) _ _ s2
 match ds,af1,rp with
 |[],af1,_=>exact Al af1
 |_::_::_,af1,_=>exact Al af1
 |[dd],af1,rp =>
  simp only[QV] at af1;cases hls:lsD dd S1 with
  |none=>rw[hls] at af1;exact Al af1
  |some xs =>
   rw[hls] at af1;dsimp only at af1;cases hks:wM k xs with
   |none=>rw[hks] at af1;exact Al af1
   |some ns =>
    rw[hks] at af1;obtain⟨v',u',rfl,rfl,p',q⟩:=yC rp rv;obtain⟨a',wl,its,rfl,t',rvi,hl,ll⟩:=QR I2 r2 hls p';cases (show u'=AL a' from q)
    have I3:Inv X pins σ H2 s2:=I2.pins_of λp hp=>I2.pin p (AI _ (AS _ hp));have at':∀ (i:Ai) (u:Ac),its.toArray[i]? = Ab u->∃ vv,qI vv u/\Rep X.K P1 α1 (xs.getD i .non) vv/\jM k (xs.getD i .non)=Ab (ns.getD i 0):=λi u hi=>by
     have hi':its[i]? = Ab u:=by simpa using hi
     have hii:i<its.length:=(AE.mp hi').1;have hx:xs[i]? = Ab (xs[i]' om):=Ao om;obtain⟨y,f1,f2⟩:=t'.get hx;obtain⟨z,g1,g2⟩:=rvi.get f1;cases g1.symm.trans hi';have e:xs.getD i .non=xs[i]' om:=by rw[Cy,hx];rfl
     rw[e];exact⟨y,g2,f2,tB hks hx⟩
    have hz':its.toArray.size=xs.length:=by simp only[AG];rw[<- ll]
    have ho:=(I2.pin _ (AI _ (.head _))).1;have hoc:=(I2.hok c' _ hc').1;refine eG (kf:=λi=>ns.getD i 0) (I2.ok.hd hc) hl (λi v s3 Q' E' hsup hi hQ=>?_) λv h' tk hv hk'=>?_
    .obtain⟨vv,g1,g2,g3⟩:=at' i v hi
     obtain⟨dt,ed,et⟩:=iM g3;rw[ed] at g2;obtain⟨b,wv,bt,rfl,_,tt,rt,ht,lt,_⟩:=pI I2 r2 g2;cases (show v=AL b from g1)
     obtain⟨j,j1,j2,j3,_,_⟩:=pM et;obtain⟨vj,f1,f2⟩:=tt.get j2;obtain⟨uj,f3,f4⟩:=rt.get f1;simp only[Rep] at f2;subst f2;obtain⟨tj,rfl⟩:=f4;refine UJ (A:=X.A.in1) hr.depth (I2.nolimit.keeps hsup) hs hz hb (hsup _ _ ho) (hsup _ _ hoc) hd hs' (ht.keeps hsup) hk ?_ (by simpa using f3) λh' tk kp=>hQ tj h' tk kp
     rw[AG,<- lt];exact j1
    .rcases hv with⟨h0,rfl⟩|⟨_,hv⟩
     .have:xs=[]:=DC.mp om
      subst this;exact⟨.non,H2,I3.kept (t':=tk) hk',rfl,af1 .non H2 P1 α1 r2 e1 e2' (by simp only[g9,List.getD_nil,Rep])⟩
     .obtain⟨vv,rv',rp',_⟩:=at' _ v hv
      rw[hz'] at rp';exact⟨vv,H2,I3.kept (t':=tk) hk',rv',af1 vv H2 P1 α1 r2 e1 e2' rp'⟩
theorem FM (M:LmK X y)(hc:X.calm=true)(hr:RoomC cm kk X.A)(h:Ck (okG X "max" && tG X.env.scope X.N scope []))(hs:Ck (tH scope [z]))(hz:Ck (okN z))(hk : -(2 ^ 62)<k/\k<2 ^ 62)(hdef:Ng params X.env=([],[]))
  (hb:∀ (q:Ap) (b:AA) (cl:Aa (Ap × Ad)) (pm cdv ctv u:Ac),HK (Jw "<lambda>" q params b scope cl pm cdv ctv) ⟨[u],[]⟩=pure [(z,u)]) (hm:X.mg "max" = none) (ha:QA X [e] fA) (he:A3 [e] X.env=(false,eval e X.env)::A3 [] X.env:=by rfl) :
  QE X (.Call (.Name "max" p) [e] [⟨Ab "key",.Lambda params (.Subscript (.Name z p1) (.Constant (.int k) kj p2) p3) scope lpos,kp⟩,⟨Ab "default",.Constant .none nj np,kp2⟩] pos) (mQ k fA):=by
 unfold Ck at h hz;rw[Az] at h;exact⟨aW hc hr M (xE h.1).1 hm h.2 hs (jP hz).1 hk hdef hb ha.1 he⟩
end
noncomputable def vN (kvs:Aa (Key × D))(k:Key):Aa (Key × D):=kvs.filter λkv=>decide (kv.1≠k)
theorem XU {K:Ah}{P:Hp}{α:Aa Ad}(k:Key){kvs:Aa (Key × D)}{vs:Aa (Key × V)}(h:KVs K P α kvs vs):KVs K P α (vN kvs k) (jY vs k):=by
 unfold vN jY
 induction h with
 |nil=>exact .nil
 |@cons p q ps qs z t ih =>
  rw[EK,EK,<- z.1]
  split
  .exact .cons z ih
  .exact ih
noncomputable def uL:D->Aa D->Sto->Res D:=λa ds S=>match a,ds with
 |.loc n,[i]=>match S[n]? with
  |some (.dct kvs)=>match xN i with
   |some k=>match zN kvs k with
    |some d=>.ok d (S.set n (.dct (vN kvs k)))
    |none=>.bad
   |none=>.bad
  |_=>.bad
 |_,_=>.bad
theorem dI (a b:Ac):Jo "dict.pop" ⟨[a,b],[]⟩:=by unfold Jo;kernel_rfl
inductive PkV (a:D)(ds:Aa D)(S:Sto):Prop
 |bad (e:uL a ds S=.bad)
 |of (n:Ai) (i:D) (kvs:Aa (Key × D)) (k:Key) (d:D) (ea:a=.loc n) (ed:ds=[i]) (hS:S[n]? = Ab (.dct kvs)) (hk:xN i=Ab k) (hv:zN kvs k=Ab d) (e:uL a ds S=.ok d (S.set n (.dct (vN kvs k))))
theorem pkV (a:D)(ds:Aa D)(S:Sto):PkV a ds S:=by
 cases a with
 |loc n =>
  cases ds with
  |nil=>exact .bad rfl
  |cons i ds =>
   cases ds with
   |cons _ _=>exact .bad rfl
   |nil =>
    have z:uL (.loc n) [i] S=(match S[n]? with|some (.dct kvs)=>(match xN i with|some k=>(match zN kvs k with|some d=>.ok d (S.set n (.dct (vN kvs k)))|none=>.bad)|none=>.bad)|_=>.bad):=rfl
    cases hS:S[n]? with
    |none=>rw[hS] at z;exact .bad z
    |some m =>
     rw[hS] at z;cases m with
     |dct kvs =>
      cases hk:xN i with
      |none=>rw[hk] at z;exact .bad z
      |some k =>
       rw[hk] at z;dsimp only at z;cases hv:zN kvs k with
       |none=>rw[hv] at z;exact .bad z
       |some d=>rw[hv] at z;exact .of n i kvs k d rfl rfl hS hk hv z
     |_=>exact .bad z
 |_=>exact .bad rfl
section
variable {X:Cx}
theorem JT {k:Key}{u:Ac}(h:qI (_L.kV k) u):(keyPart u).isSome=true:=by
 cases k with
 |inl i=>obtain⟨t,rfl⟩:=h;rfl
 |inr x=>obtain⟨t,rfl⟩:=h;rfl
theorem UW:MtD X "dict.pop" uL:=by
 intro pins σ H s P α S v vv vs us a ds Q I r rv p rvs rps af;cases pkV a ds S with
 |bad e=>rw[e] at af;exact Al af
 |of n i kvs k d ea ed hS hk hv e =>
  rw[e] at af;subst ea ed;clear e;obtain⟨vi,ui,rfl,rfl,pi,qi⟩:=yC rps rvs;simp only[Rep] at p;obtain⟨b,rfl,q⟩:=p;obtain⟨ws,z,t⟩:=r.at' n b _ q hS;cases gZ hk pi;cases (show vv=AL b from rv)
  obtain⟨hz,hd,us',rel,dd⟩:=gR I.hok z;have hz':us'.length<=sizeLine:=by rw[<- rel.length];exact hz
  obtain⟨k1,k2⟩:=b7 (k:=k) t;obtain⟨w',e1,e2⟩:=k1 d hv;have er:=rel.val k;rw[e1] at er;cases hu:HU us' k with
  |none=>rw[hu] at er;exact Al er
  |some u =>
   rw[hu] at er;refine Ho Jp dd.typeIs PySem.F.entry_dict_pop (dI _ _) (meets_dict_pop_there (qZ X.prog X.w) b (uT qi) [] (.inl rfl) (JT qi)) ⟨us',u,dd,hz',hu,λh' dd' hs=>?_⟩;have hl':(jY ws k).length<=sizeLine:=Bn (i4 ws k) hz;have he:∃ q,h'.get? b=Ab q:=let ⟨q,_,_,hq,_⟩:=dd';⟨q,hq⟩
   have I':=pT (t':=s.toks+1) I (by rw[z];exact DX) hs he (rG hl' hd (rel.drop k) dd')
   exact⟨w',_,I',er,af _ _ P α (r.put (m':=.dct (vN kvs k)) q hS (by intro z;cases z) ⟨_,qS,XU k t⟩) (qF.refl _) (AF _) e2⟩
theorem FE:ZMt X "dict.pop" uL:=⟨UW⟩
end
theorem XR {κ:Type}{vs:Aa (κ × V)}{us:Aa (κ × Ac)}(h:KV vs us):qL (vs.map (·.2)) (us.map (·.2)):=by
 unfold KV at h
 induction h with
 |nil=>exact .nil
 |cons z t ih=>exact .cons z.2 ih
noncomputable def vV (f:DE):DE:=λenv S=>(f env S).bind λd S1=>match d with
 |.fd _ ds=>.ok (.lst ds) S1
 |_=>.bad
section
variable {X:Cx}{o:AA}{fo:DE}{apos cpos pos p2:CG}
theorem aY (hc:X.calm=true)(hg:Gl X "list")(hm:X.mg "list" = none)(ho:PE X o (tD X fo))(hbase:EU o "values" X.env (eval o X.env)=eval o X.env:=by rfl)(hline:(apos.endLine == cpos.line)=true:=by rfl)
  (he:A3 [.Call (.Attribute o "values" apos) [] [] cpos] X.env=(false,eval (.Call (.Attribute o "values" apos) [] [] cpos) X.env)::A3 [] X.env:=by rfl) :
  PE X (.Call (.Name "list" p2) [.Call (.Attribute o "values" apos) [] [] cpos] [] pos) (tD X (vV fo)):=by
 intro pins s σ H Q I h;obtain⟨P,α,env,S,r,re,af⟩:=h;refine Call_ (xZ I hg hm sV (DN ?_ he rfl));rw[he];refine HA (IF hbase hline (thn (zI ho I r re af) λvv s1 ⟨v,H1,P1,α1,d,S1,G1,af1⟩=>?_));cases d with
 |fd ks ds =>
  simp only at af1;have rp:=G1.rep;have I1:=G1.inv;have r1:=G1.rel;simp only[Rep] at rp;obtain⟨a,ob,vs,rfl,q,hl,t⟩:=rp;cases (show vv=AL a from G1.val)
  obtain⟨hob,hz,hd,us,rel,dd⟩:=(show z9 X.prog X.w H1 s1.heap a (.frz ob (.dK (ks.zip vs))) from I1.hok a _ (r1.sub _ _ q))
  have h1:s1.TypeIs (.ref a) "dict":=dd.typeIs;have h2:∀ b,AL a=.ref b->∃ ob,s1.heap.get? b=Ab ob/\ob.dict=none:=λb e=>by
   cases e;obtain⟨o,_,_,e,ex,_⟩:=dd;exact⟨o,e,ex.2.1⟩
  have ez:(ks.zip vs).map (·.2)=vs:=Mc om
  refine⟨"dict","dict.values",Ev,Ik,PySem.F.type_dict_values,h1,h2,Gj rfl (La ?_)⟩;refine Ho Ik dd.typeIs PySem.F.entry_dict_values (PySem.F.args_dict_values_1 _) (meets_dict_values (qZ X.prog X.w) a hd) ⟨⟨us,dd⟩,?_⟩;obtain⟨ep,oa,es,hoa,rest⟩:=dd.dictAt;refine HR ?_;have hlu:us.length<=sizeLine:=by rw[<- rel.length];exact hz
  refine PySem.W.kdl_call (s:={ s1 with heap:=s1.heap.push { cls:=.type "dict_values",data:=.fields #[.ref a] } }) (PySem.W.kdl_values (knd:=qZ X.prog X.w) (d:=a) (kvs:=us) (ep:=ep)) (I1.ok.hd hc) ⟨⟨_,AD _ rfl,rfl,rfl⟩,⟨oa,es,Aj _ hoa,rest⟩⟩ hlu λh' tk acc c hk hL hacc=>?_
  have I2:=I1.kept (t':=s1.toks) (h':=s1.heap.push { cls:=.type "dict_values",data:=.fields #[.ref a] }) λb u e=>Aj _ e;have ev:acc.toList=us.map (·.2):=PySem.W.kdl_vals_eq acc.toList (by rw[AN];exact hacc.1) λj v e=>hacc.2 j v (by rw[<- Cu];exact e)
  have I3:=Inv.laid (o:=HO.lst (vs)) (t':=tk) I2 hk (Au _) ⟨by rw[<- ez,AW];exact hz,us.map (·.2),c,by have:=XR rel;rwa [ez] at this,by rw[hL,<- ev]⟩
  obtain⟨r3,e3⟩:=r1.pure (o:=HO.lst (vs)) (I2.hok.fresh (Au _));refine⟨.ref _,_,I3,rfl,af1 _ _ _ α1 r3 (G1.same.trans e3) G1.pre ?_⟩;exact bF (.inl (.inl qS)) (qE.mono e3 (AF _) _ _ t)
 |_=>exact Al af1
theorem oR (hc:X.calm=true)(hg:Gl X "list")(hm:X.mg "list" = none)(ho:QE X o fo)(hbase:EU o "values" X.env (eval o X.env)=eval o X.env:=by rfl)(hline:(apos.endLine == cpos.line)=true:=by rfl)
  (he:A3 [.Call (.Attribute o "values" apos) [] [] cpos] X.env=(false,eval (.Call (.Attribute o "values" apos) [] [] cpos) X.env)::A3 [] X.env:=by rfl):QE X (.Call (.Name "list" p2) [.Call (.Attribute o "values" apos) [] [] cpos] [] pos) (vV fo):=⟨aY hc hg hm ho.1 hbase hline he⟩
end
noncomputable def tI (d:D)(S:Sto):Ak Ai:=match d with
 |.loc n=>match S[n]? with
  |some (.dct kvs)=>Ab kvs.length
  |_=>none
 |.fd ks _=>Ab ks.length
 |_=>none
noncomputable def k8:DF:=λds S=>match ds with
 |[d]=>match tI d S with
  |some n=>.ok (.int n) S
  |none=>.bad
 |_=>.bad
section
variable {X:Cx}
set_option tactic.hygienic true in
theorem ZK:yA X (.builtin "len") k8:=by
 intro pins σ H s P α S vs us ds Q I r rv rp af;have hl:=vW
 match ds,rp,af with
 |[],_,af=>exact Al af
 |_::_::_,_,af=>exact Al af
 |[d],rp,af =>
  obtain⟨v,u,rfl,rfl,p,q⟩:=yC rp rv;cases hn:tI d S with
  |none=>simp only[k8,hn] at af;exact Al af
  |some m =>
   simp only[k8,hn] at af;have key:∃ a kvs us,u=AL a/\kvs.length=m/\kvs.length<=sizeLine/\(a == DW)=false/\KV kvs us/\s.heap.DictOf (qZ X.prog X.w) a us:=by
    cases d with
    |loc n =>
     simp only[tI] at hn
     split at hn
     .rename_i kvs hS
      cases hn;simp only[Rep] at p;obtain⟨a,rfl,ha⟩:=p;cases (show u=AL a from q)
      obtain⟨ws,z,t⟩:=r.at' n a _ ha hS;obtain⟨hz,hd,us,rel,dd⟩:=gR I.hok z;exact⟨a,ws,us,rfl,(lB t).symm,hz,hd,rel,dd⟩
     .cases hn
    |fd ks ds =>
     cases hn;simp only[Rep] at p;obtain⟨a,ob,vs,rfl,qq,hl,t⟩:=p;cases (show u=AL a from q)
     obtain⟨hob,hz,hd,us,rel,dd⟩:=(show z9 X.prog X.w H s.heap a (.frz ob (.dK (ks.zip vs))) from I.hok a _ (r.sub _ _ qq))
     exact⟨a,_,us,rfl,by rw[IZ];omega,hz,hd,rel,dd⟩
    |_=>cases hn
   obtain⟨a,kvs,us,rfl,rfl,hz,hd,rel,dd⟩:=key;have e:=rel.length;have hs:sizeLine=16777216:=DB;refine call_len_dict hd dd om ?_;rw[<- e];exact⟨.int kvs.length,H,I.tok _,⟨_,rfl⟩,xr af r (by simp only[Rep])⟩
theorem GS:ZCall X (.builtin "len") k8:=⟨ZK⟩
end
end _D
section
end
namespace _D
open PySem PySem.Spec PyProof.Rows _L
section
variable {prog:A6}{w:AK}{A:AB}{R:Jd->Ag->Prop}{I:Ad}{fp wr:Aa Ad}{n:Ai}{P:Ai->Ac->Prop}{St:Ai->AC->Prop}{bt:Ai->Ai->Aq}{S:Ad}{d:Ac}
theorem pA:(toString "max" ++ toString ".loop" : Bk) = "max.loop":=by decide
theorem o9 (W:NA prog w A.in1 I fp wr n P St)(hcmp:CmpOf prog w A.in1 .Gt P bt)(hf:S ∉ fp) :
  ∀ (k j:Ai) (s:Ag) (u:Ac) (c:Ai),j+1+k=n->St (j+1) s.heap->P (Bc bt j) u->s.heap.get? S=Ab { cls:=.type "list",dict:=none,data:=.seq #[u,u] c,slots:=#[] } ->
  (∀ v h' tk,P (Bc bt (n-1)) v->(∀ b o,b ∉ wr->b≠S->s.heap.get? b=Ab o->h'.get? b=Ab o)->R (.ok (.ret v)) { s with heap:=h',toks:=tk }) ->
  DH (As prog w) A (.builtin "max.loop" ⟨[.ref I,.none,.ref S],[("default",d)]⟩) R s:=by
 have hw:S ∉ wr:=λz=>hf (W.sub _ z);intro k
 induction k with
 |zero =>
  intro j s u c hk st hu hS hR;have hn:j+1=n:=by omega
  subst hn;refine CB CT ?_;rw[Ce AU _];refine Af (Bm hS rfl ?_);refine Af (Bv (W.done s _ _ st λh' tk q=>?_));refine Af ?_;exact Dr (q S _ hw hS) rfl (Af (CS (An (hR u _ tk hu λb o z1 z2 e=>(A9 _ _ (Cf z2)).trans (q b o z1 e)))))
 |succ k ih =>
  intro j s u c hk st hu hS hR;refine CB CT ?_;rw[Ce AU _];refine Af (Bm hS rfl ?_);refine Af (Bv (W.item (j+1) s _ _ om st λv h' tk hv st' q=>?_));have hS':=q S _ hw hS;refine Af (An ?_);refine Af (Bv (Bx (Af (hcmp (j+1) (Bc bt j) v u _ _ _ hv hu ?_))));refine Af (Bx (Ge ?_));refine Af (CS (An ?_));cases hb:bt (j+1) (Bc bt j) with
  |true =>
   rw[A0 rfl];refine Af ?_;refine Dr hS' rfl (Af (CS ?_));rw[pA];refine An ⟨CC AU _,ih (j+1) _ v _ om (W.frame _ _ _ st' λb z o e=>(A9 _ _ λy:S=b=>hf (y▸z)).trans e) ?_ (CJ _ hS' rfl) λv' h2 tk2 p2 q2=>hR v' h2 tk2 p2 λb o z1 z2 e=>q2 b o z1 z2 ((A9 _ _ (Cf z2)).trans (q b o z1 e))⟩;rw[Bc,A0 hb];exact hv
  |false =>
   rw[Aw (by simp)]
   refine Af (CS ?_);rw[pA];refine An ⟨CC AU _,ih (j+1) _ u c om st' ?_ hS' λv' h2 tk2 p2 q2=>hR v' h2 tk2 p2 λb o z1 z2 e=>q2 b o z1 z2 (q b o z1 e)⟩;rw[Bc,Aw (by rw[hb];simp)]
   exact hu
theorem eJ (W:NA prog w A.in1 I fp wr n P St)(hcmp:CmpOf prog w A.in1 .Gt P bt)(hf:S ∉ fp){s:Ag}{c:Ai}(st:St 0 s.heap)(hS:s.heap.get? S=Ab { cls:=.type "list",dict:=none,data:=.seq #[] c,slots:=#[] })
  (hR:∀ v h' tk,(n=0/\v=d\/0<n/\P (Bc bt (n-1)) v)->(∀ b o,b ∉ wr->b≠S->s.heap.get? b=Ab o->h'.get? b=Ab o)->R (.ok (.ret v)) { s with heap:=h',toks:=tk }) :
  DH (As prog w) A (.builtin "max.loop" ⟨[.ref I,.none,.ref S],[("default",d)]⟩) R s:=by
 have hw:S ∉ wr:=λz=>hf (W.sub _ z);refine CB CT ?_;rw[Ce AU _];refine Af (Bm hS rfl ?_);by_cases h0:n=0
 .subst h0
  refine Af (Bv (W.done s _ _ st λh' tk q=>?_));exact Af (D3 (An (hR d h' tk (.inl ⟨rfl,rfl⟩) λb o z1 _ e=>q b o z1 e)))
 .refine Af (Bv (W.item 0 s _ _ om st λv h' tk hv st' q=>?_))
  have hS':=q S _ hw hS;refine Af (An ?_);refine Af ?_;refine Dr hS' rfl ?_;rw[pA];refine An ⟨CC AU _,o9 W hcmp hf (n-1) 0 _ v _ om (W.frame _ _ _ st' λb z o e=>(A9 _ _ λy:S=b=>hf (y▸z)).trans e) hv (CJ _ hS' rfl) λv' h2 tk2 p2 q2=>hR v' h2 tk2 (.inr ⟨by omega,p2⟩) λb o z1 z2 e=>q2 b o z1 z2 ((A9 _ _ (Cf z2)).trans (q b o z1 e))⟩
theorem o7 (a v:Ac):Jo "max" ⟨[a],[(Bo "default",v)]⟩:=by unfold Jo;kernel_rfl
theorem o8 {E:Ac->Ag->Prop}{s:Ag}{l:Ad}{xs:A5 (Am × IM)}{Q:Ac->Ag->Prop}(hh:A.handled=none)(hl:s.heap.IsList l (HM xs))
  (h:∀ v h' tk,(xs.size=0/\v=d\/0<xs.size/\(HM xs)[Bc (λi j=>decide (Jn xs i>Jn xs j)) (xs.size-1)]? = Ab v)->(∀ b o,s.heap.get? b=Ab o->h'.get? b=Ab o)->Q v { s with heap:=h',toks:=tk }) :
  Ar (As prog w) A (call (.builtin "max") [.ref l] [(Bo "default",d)]) Q E s:=by
 refine kmk_tree Ml LN LO (o7 _ _) ?_;refine Af (Gw (show EG "max" ["key","default"] 0 ⟨[],[(Bo "default",d)]⟩=pure [none,Ab d] from rfl) ?_)
 refine Af (An ?_);refine Af (iter_intList hl λs₂ e st hfp hlI=>?_);subst e;refine Af (CI ?_);have W:=Nh (prog:=prog) (w:=w) (A:=A.in1) hh s.heap.objs.size l hlI (HM xs);have hz:(HM xs).size=xs.size:=by simp[HM]
 rw[pA];refine An ⟨CC AU _,eJ W (CmpOf.ints_gt (Jn xs) (λ_ _=>intItems_at)) (λz=>Bw _ (hfp _ z)) (W.frame _ _ _ st λb _ o e=>Aj _ e) (AD _ rfl) λv h' tk hv q=>?_⟩;rw[hz] at hv;exact h v h' tk hv (old_kept λb o z e=>q b o z (AX (Ay e)) (Aj _ e))
end
noncomputable def mxD (ds:Aa D)(b:D)(S:Sto):Res D:=match ds with
 |[.lst xs]=>match uO xs with
  |some [] => .ok b S
  |some (i::ns)=>.ok (.int (ns.foldl max i)) S
  |none=>.bad
 |_=>.bad
noncomputable def gO (fA:DA)(fD:DE):DE:=λenv S=>(fA env S).bind λds S1=>(fD env S1).bind λb S2=>mxD ds b S2
section
variable {X:Cx}{e e2:AA}{fA:DA}{fD:DE}{p pos kp:CG}
set_option tactic.hygienic true in
theorem ZU (hc:X.calm=true)(hg:Gl X "max")(hm:X.mg "max" = none)(ha:PA X [e] (tDA X fA))(hd:PE X e2 (tD X fD))(he:A3 [e] X.env=(false,eval e X.env)::A3 [] X.env:=by rfl):PE X (.Call (.Name "max" p) [e] [⟨Ab "default",e2,kp⟩] pos) (tD X (gO fA fD)):=by
 intro pins s σ H Q I h;obtain⟨P,α,env,S,r,re,af⟩:=h;refine D0 (xZ I hg hm (u:=.builtin "max") (by decide +kernel) ?_ (by decide) (by decide))
 refine Mk (thn (xD ha I r re af pos) λus s1 ⟨vs,H1,P1,α1,ds,S1,I1,rv,r1,re1,rp,e1,e2',af1⟩=>My (thn (zI hd I1 r1 re1 (qR.base e1 e2' af1)) λu s2 ⟨v,H2,P2,α2,b,S2,G,af2⟩=>kws_nil ?_)) (by rw[he];rfl) (by rw[he];rfl)
 show Ar _ _ (call (.builtin "max") us [(Bo "default",u)]) _ _ s2;unfold mxD at af2
 split at af2
 .rename_i xs _
  cases hi:uO xs with
  |none=>rw[hi] at af2;exact Al af2
  |some ns =>
   rw[hi] at af2;have:=t8 hi;subst this;obtain⟨v',u',rfl,rfl,p',q⟩:=yC rp rv;obtain⟨a,ws,its,n,rfl,_,t,rvi,ee,l,_⟩:=yX G.inv G.rel (Rep.mono G.same G.pre _ _ p');cases (show u'=AL a from q)
   cases bY t;obtain⟨ps,rfl,hps⟩:=dS (show HS its ns by simpa using dR rvi)
   have hL:s2.heap.IsList a (HM ps.toArray):=⟨_,ee,rfl,n,by simp[HM]⟩
   have hz:ps.toArray.size=ps.length:=by simp
   refine o8 (G.inv.ok.hd hc) hL λw h' tk hw hk=>?_;cases ns with
   |nil =>
    have h0:ps.length=0:=by
     have:=congrArg HD hps;simpa using this.symm
    rcases hw with⟨_,rfl⟩|⟨z,_⟩
    .exact⟨v,H2,G.inv.kept (t':=tk) hk,G.val,af2 v H2 P2 α2 G.rel G.same G.pre G.rep⟩
    .omega
   |cons i ns =>
    have h0:0<ps.length:=by
     have:=congrArg HD hps;simp at this;omega
    rcases hw with⟨z,_⟩|⟨_,hv⟩
    .omega
    .obtain⟨tk',rfl⟩:=intItems_at hv
     obtain⟨b1,b2⟩:=argBest_gt (Jn ps.toArray) (ps.toArray.size-1);generalize Bc (λi j=>decide (Jn ps.toArray i>Jn ps.toArray j)) (ps.toArray.size-1)=m at b1 b2 hv;have hm':m<ps.length:=by omega
     obtain⟨f1,f2⟩:=rM ns i;have hM:Jn ps.toArray m=ns.foldl max i:=by
      have h1:Jn ps.toArray m∈i::ns:=by rw[lK ps m hm',hps];exact DM _
      refine Int.le_antisymm (f2 _ h1) ?_;rw[hps] at f1;obtain⟨j,hj,ej⟩:=Bl.mp f1;have hj':j<ps.length:=by simpa using hj
      have:=b2 j om;rw[lK ps j hj',ej] at this;exact this
     exact⟨.int _,H2,G.inv.kept (t':=tk) hk,⟨tk',rfl⟩,af2 (.int _) H2 P2 α2 G.rel G.same G.pre (by simp only[Rep];rw[hM])⟩
 .exact Al af2
theorem WW (hc:X.calm=true)(hg:Gl X "max")(hm:X.mg "max" = none)(ha:QA X [e] fA)(hd:QE X e2 fD)(he:A3 [e] X.env=(false,eval e X.env)::A3 [] X.env:=by rfl):QE X (.Call (.Name "max" p) [e] [⟨Ab "default",e2,kp⟩] pos) (gO fA fD):=⟨ZU hc hg hm ha.1 hd.1 he⟩
end
end _D
namespace _D
open PySem
variable {kvs:Aa (_L.Key × D)}{ds:Aa D}{v:Ac}{n p:Ai}{f1:DE}{F:DF}{S1 S':Sto}{env':qH}
def Ok {β:Type}(r:Res β)(Q:β->Sto->Prop):Prop:=∃ d S,r=.ok d S/\Q d S
theorem qO {β:Type}{r:Res β}{Q:β->Sto->Prop}{d:β}{S:Sto}(h:r=.ok d S)(q:Q d S):Ok r Q:=⟨d,S,h,q⟩
theorem iL {fe:DE}{env:qH}{S:Sto}{acc:Aa D}{x:D}(h:fe env S=.ok x S1)(hl:acc.length<lim):wL fe env S acc=.ok (env,acc++[x]) S1:=by
 unfold wL;rw[h];simp[Res.bind,hl]
theorem r0 {cap:Aa (Ak Ai)}{fi:DI2}{g:DG}{t:DT}{k:DK}{env:qH}{S:Sto}{o:Ak (Ai × MO)}{items:Aa D}(h:fi env S=.ok (o,items) S1)(e:goL o g t k items (wU cap env) S1 [] = .ok (env',ds) S'):wJ false cap fi g t k env S=.ok (.lst ds) S':=by
 unfold wJ;rw[h];simp only[Res.bind,e,mkM];rfl
theorem cC {g:DS}{S:Sto}{d:D}{env:qH}(hs:xQ n ds=env)(h:g env S=.rt d S'):qU n g ds S=.ok d S':=by
 subst hs;unfold qU;rw[h];rfl
theorem nZ {α β:Type}(sel:α->Aq)(val:α->β)(l:Aa α) : (l.flatMap λd=>if sel d then [val d] else []) = (l.filter sel).map val:=by
 induction l with
 |nil=>rfl
 |cons d l ih =>
  rw[Gg,ih];cases h:sel d <;> simp[h]
theorem goT {α:Type}{enc:α->D}{o:Ak (Ai × MO)}{g:DG}{t:DT}{k:DK}(out:α->Aa D)(C:qH->Sto->Prop)(hC:∀ env S,C env S->stn o S) :
  ∀ (xs:Aa α) (env:qH) (S:Sto) (acc:Aa D),C env S->acc.length+(xs.flatMap out).length<=lim ->
  (∀ x∈xs,∀ env S acc,C env S->acc.length+(out x).length<=lim->∃ env1 S1 b S2,g (enc x) env S=.ok env1 S1/\t env1 S1=.ok b S2/\((b=false/\out x=[]/\C env1 S2)\/(b=true/\∃ env3 S3,k env1 S2 acc=.ok (env3,acc++out x) S3/\C env3 S3))) ->
  ∃ env' S',goL o g t k (xs.map enc) env S acc=.ok (env',acc++xs.flatMap out) S'/\C env' S'
 |[],env,S,acc,h,hl,_=>⟨env,S,by simp[goL,vB.mpr (hC _ _ h)],h⟩
 |x::xs,env,S,acc,h,hl,step=>by
  rw[Gg,CP] at hl;obtain⟨env1,S1,b,S2,e1,e2,r⟩:=step x (Cz ..) env S acc h om;have hst:=vB.mpr (hC _ _ h);rcases r with⟨rfl,h0,h2⟩|⟨rfl,env3,S3,e3,h3⟩
  .obtain⟨env',S',e,q⟩:=goT out C hC xs env1 S2 acc h2 om λd hd=>step d (AS _ hd)
   refine⟨env',S',?_,q⟩;simp only[AQ,goL,hst,Ca,e1,e2,Res.bind,Bu,D6,Gg,h0,Fh];exact e
  .obtain⟨env',S',e,q⟩:=goT out C hC xs env3 S3 (acc++out x) h3 (by rw[CP];omega) λd hd=>step d (AS _ hd)
   refine⟨env',S',?_,q⟩;simp only[AQ,goL,hst,Ca,e1,e2,Res.bind,e3,Gg];rw[e,AM]
section
variable {α β:Type}{enc:α->D}{enc2:β->D}{cap:Aa (Ak Ai)}{fi:DI2}{g:DG}{t:DT}{fe:DE}{env:qH}{S S0:Sto}{o:Ak (Ai × MO)}{xs:Aa α}
theorem PQ (hst:stn o S)(sel:α->Aq)(val:α->D)(C:qH->Prop)(h0:C env)(hl:xs.length<=lim)
  (step:∀ x∈xs,∀ env,C env->∃ env1,g (enc x) env S=.ok env1 S/\C env1/\t env1 S=.ok (sel x) S/\(sel x=true->fe env1 S=.ok (val x) S)) :
  ∃ env',goL o g t (wL fe) (xs.map enc) env S [] = .ok (env',(xs.filter sel).map val) S:=by
 have lf:(xs.flatMap λd=>if sel d then [val d] else []).length<=lim:=by
  rw[nZ,AW];exact Bn (Jf _ _) hl
 obtain⟨env',S',e,_,q⟩:=goT (enc:=enc) (o:=o) (g:=g) (t:=t) (k:=wL fe) (λd=>if sel d then [val d] else []) (λenv S'=>C env/\S'=S) (λ_ _ h=>h.2▸hst) xs env S [] ⟨h0,rfl⟩ (by simpa using lf) (λd hd env S' acc hC hl=>by
  obtain⟨hc,rfl⟩:=hC;obtain⟨env1,e1,c1,e2,k⟩:=step d hd env hc;refine⟨env1,S',sel d,S',e1,e2,?_⟩;cases hs:sel d with
  |false=>exact .inl ⟨rfl,by simp,c1,rfl⟩
  |true =>
   refine .inr ⟨rfl,env1,S',?_,c1,rfl⟩;simp only[Ca];exact iL (k hs) (by simp only[hs,Ca,List.length_singleton] at hl;omega))
 subst q;refine⟨env',?_⟩;rw[e,Fh,nZ]
theorem ZM (h:fi env S=.ok (o,xs.map enc) S)(hst:stn o S)(sel:α->Aq)(val:α->D)(C:qH->Prop)(h0:C (wU cap env))(hl:xs.length<=lim)
  (step:∀ x∈xs,∀ env,C env->∃ env1,g (enc x) env S=.ok env1 S/\C env1/\t env1 S=.ok (sel x) S/\(sel x=true->fe env1 S=.ok (val x) S)) :
  wJ false cap fi g t (wL fe) env S=.ok (.lst ((xs.filter sel).map val)) S:=by
 obtain⟨env',e⟩:=PQ hst sel val C h0 hl step;exact r0 h e
end
theorem GX {env:qH}{S:Sto}{a:D}(h1:f1 env S=.ok a S1):qW 1 F (qA f1 (qC)) env S=F [a] S1:=by
 simp only[qW,qA,qC,h1,Res.bind,AV,D8,Ca]
theorem fN {f2 f3:DE}{env:qH}{S S2 S3:Sto}{a b c:D}(h1:f1 env S=.ok a S1)(h2:f2 env S1=.ok b S2)(h3:f3 env S2=.ok c S3):qW 3 F (qA f1 (qA f2 (qA f3 (qC)))) env S=F [a,b,c] S3:=by
 simp only[qW,qA,qC,h1,h2,h3,Res.bind,AV,D8,Ca]
theorem F2 {f:DE}{env:qH}{S:Sto}{b:Aq}(h:f env S=.ok (.bl b) S1):dTr f env S=.ok b S1:=by
 unfold dTr;rw[h];rfl
theorem mR {env:qH}{S:Sto}{a:D}(h1:f1 env S=.ok a S1):qA f1 (qC) env S=.ok [a] S1:=by
 simp only[qA,qC,h1,Res.bind]
theorem nD {env:qH}{i:Ai}{d:D}{S:Sto}(h:env[i]? = Ab (Ab d)):qB i env S=.ok d S:=by simp only[qB,h]
section
variable {β γ:Type}{env:qH}{S:Sto}
theorem qQ {r:Res β}{k:β->Sto->Res γ}{Q:γ->Sto->Prop}(h:Ok r λd S1=>Ok (k d S1) Q):Ok (r.bind k) Q:=by
 obtain⟨d,S1,rfl,h⟩:=h;exact h
theorem xV {r:Res β}{d:β}(h:Ok r λd' S'=>d'=d/\S'=S):r=.ok d S:=by
 obtain⟨_,_,e,rfl,rfl⟩:=h;exact e
theorem zB {r:Res β}{Q Q':β->Sto->Prop}(h:Ok r Q)(k:∀ d S,Q d S->Q' d S):Ok r Q':=by
 obtain⟨d,S,e,q⟩:=h;exact⟨d,S,e,k d S q⟩
variable {Q:D->Sto->Prop}{f g:DE}{fa:DA}{o:G2}{i j:Ai}
theorem o_c {d:D}(h:Q d S):Ok (dC d env S) Q:=⟨_,_,rfl,h⟩
theorem o_v {d:D}(e:env[i]? = Ab (Ab d))(h:Q d S):Ok (qB i env S) Q:=⟨_,_,nD e,h⟩
theorem o_2 (h:Ok (f env S) λa S1=>Ok (g env S1) λb S2=>Ok (o a b S2) Q):Ok (d2 o f g env S) Q:=qQ (zB h λ_ _=>qQ)
theorem QY {Q:Aa D->Sto->Prop}(h:Q [] S):Ok (qC env S) Q:=⟨_,_,rfl,h⟩
theorem yY {Q:Aa D->Sto->Prop}(h:Ok (f env S) λa S1=>Ok (fa env S1) λas S2=>Q (a::as) S2):Ok (qA f fa env S) Q:=qQ (zB h λ_ _ k=>qQ (zB k λ_ _ q=>⟨_,_,rfl,q⟩))
theorem TB (h:Ok (fa env S) λas S1=>as.length<=lim/\Q (.tup as) S1):Ok (w8 fa env S) Q:=qQ (zB h λ_ _ k=>⟨_,_,A0 k.1,k.2⟩)
theorem B9 (h:Ok (fa env S) λas S1=>as.length<=lim/\Q (.lst as) S1):Ok (zS fa env S) Q:=qQ (zB h λ_ _ k=>⟨_,_,A0 k.1,k.2⟩)
theorem MT (h:Ok (fa env S) λas S1=>as.length<=lim/\Q (.loc S1.length) (S1++[.lst as])):Ok (fP fa env S) Q:=qQ (zB h λ_ _ k=>⟨_,_,A0 k.1,k.2⟩)
theorem T1 (h:Q (.loc S.length) (S++[.dct []])) : Ok (mP env S) Q:=⟨_,_,rfl,h⟩
theorem eL (h:Ok (fa env S) λas S1=>as.length=n/\Ok (F as S1) Q):Ok (qW n F fa env S) Q:=qQ (zB h λ_ _ k=>by rw[A0 k.1];exact k.2)
theorem TL (h:Ok (fa env S) λas S1=>Ok (F as S1) Q):Ok (qP F fa env S) Q:=qQ h
theorem MY {a b:Am}(h:Q (.int (a+b)) S):Ok (x6 (.int a) (.int b) S) Q:=⟨_,_,rfl,h⟩
theorem tM {a b:Aa D}(l:a.length+b.length<=lim)(h:Q (.lst (a++b)) S):Ok (x6 (.lst a) (.lst b) S) Q:=⟨_,_,A0 l,h⟩
theorem T9 {a b:Am}(h:Q (.int (a-b)) S):Ok (uM (.int a) (.int b) S) Q:=⟨_,_,rfl,h⟩
theorem T6 {a b:Am}(l : -(2 ^ 64)<a/\a<2 ^ 64)(h:Q (.int (a*b)) S):Ok (zQ (.int a) (.int b) S) Q:=by
 refine⟨_,_,?_,h⟩;unfold zQ i2;rw[kT];unfold pO;simp only[l,and_self,En,NE,Ca]
theorem JA {a b:Am}(l : -(2 ^ 64)<b/\b<2 ^ 64)(h:Q (.int (a*b)) S):Ok (zQ (.int a) (.int b) S) Q:=by
 refine⟨_,_,?_,h⟩;unfold zQ i2;rw[kT];unfold pO;simp only[l,and_self,En,Bool.or_true,Ca]
theorem T4 {a b:Am}(l:0<b)(h:Q (.int (a % b)) S):Ok (uK (.int a) (.int b) S) Q:=by
 refine⟨_,_,?_,h⟩;unfold uK i2;simp[l]
theorem T3 {a b:Am}(l:0<b/\b<1073741824)(h:Q (.int (a/b)) S):Ok (pY (.int a) (.int b) S) Q:=by
 refine⟨_,_,?_,h⟩;unfold pY i2 V1;simp[l]
theorem TV {a b:Am}(h:Q (.bl (decide (a<b))) S):Ok (gLt (.int a) (.int b) S) Q:=⟨_,_,rfl,h⟩
theorem TU {a b:Am}(h:Q (.bl (decide (b<a))) S):Ok (gGt (.int a) (.int b) S) Q:=⟨_,_,rfl,h⟩
theorem TQ {a b:Am}(h:Q (.bl (decide (b<=a))) S):Ok (gGe (.int a) (.int b) S) Q:=⟨_,_,rfl,h⟩
theorem J7 {a b:Am}(h:Q (.bl (decide (a=b))) S):Ok (gEq (.int a) (.int b) S) Q:=⟨_,_,by kernel_rfl!,h⟩
theorem TX {a b:Am}(h:Q (.bl (!decide (a=b))) S):Ok (gNe (.int a) (.int b) S) Q:=⟨_,_,by kernel_rfl!,h⟩
theorem vI {a:Aa D}{k:Am}{d:D}(e:_L.atI a k=Ab d)(h:Q d S):Ok (gIx (.lst a) (.int k) S) Q:=⟨d,S,by show _D.yG (_L.atI a k) S=_;rw[e];rfl,h⟩
theorem MS {a:Aa D}(h:Q (.int a.length) S):Ok (uJ [.lst a] S) Q:=⟨_,_,rfl,h⟩
theorem fX (h:Ok (f env S) λd S1=>∃ b,d=.bl b/\(b=true->Ok (g env S1) Q)/\(b=false->Q (.bl false) S1)):Ok (uE f g env S) Q:=qQ (zB h λd S1 ⟨b,e,k1,k2⟩=>by
 subst e;cases b with
 |true=>exact k1 rfl
 |false=>exact⟨_,_,rfl,k2 rfl⟩)
theorem N0 {fl fh:DO}(h:Ok (f env S) λd S1=>Ok (fl env S1) λlo S2=>Ok (fh env S2) λhi S3=>Ok (gSl d lo hi S3) Q):Ok (dSl f fl fh env S) Q:=qQ (zB h λ_ _ k=>qQ (zB k λ_ _=>qQ))
theorem T7 {a:Aa D}{lo hi:Ak Am}(h:Q (.lst (yT a lo hi)) S):Ok (gSl (.lst a) lo hi S) Q:=⟨_,_,rfl,h⟩
theorem TM {Q:Ak Am->Sto->Prop}(h:Ok (f env S) λd S1=>∃ k,d=.int k/\Q (Ab k) S1):Ok (yV f env S) Q:=qQ (zB h λ_ _ ⟨_,e,q⟩=>by subst e;exact⟨_,_,rfl,q⟩)
theorem TK {T:Bk}{m:D->Aa D->Sto->Res D}(h:Ok (f env S) λa S1=>tyD a S1=Ab T/\Ok (fa env S1) λas S2=>Ok (m a as S2) Q):Ok (dBm T m f fa env S) Q:=qQ (zB h λ_ _ k=>by rw[k.1,A0 (by simp)];exact qQ k.2)
theorem MZ {xs:Aa D}{d:D}(e:S[i]? = Ab (.lst xs))(l:xs.length<lim)(h:Q .non (S.set i (.lst (xs++[d])))):Ok (XE (.loc i) [d] S) Q:=by
 refine⟨_,_,?_,h⟩;show (match S[i]? with|some (.lst xs)=>(if xs.length<lim then Res.ok D.non (S.set i (.lst (xs++[d]))) else .bad)|_=>.bad)=_
 rw[e];exact A0 l
theorem J8 {t:DT}(h:Ok (t env S) λb S1=>(b=true->Ok (f env S1) Q)/\(b=false->Ok (g env S1) Q)):Ok (dIf t f g env S) Q:=qQ (zB h λb S1 k=>by
 cases b with
 |true=>exact k.1 rfl
 |false=>exact k.2 rfl)
variable {Q:Aq->Sto->Prop}{t u:DT}
theorem M6 (h:Ok (f env S) λd S1=>∃ b,yI d S1=Ab b/\Q b S1):Ok (dTr f env S) Q:=qQ (zB h λd S1 ⟨b,e,k⟩=>by
 rw[e];exact⟨_,_,rfl,k⟩)
theorem JB (h:Ok (t env S) λb S1=>Q (!b) S1):Ok (uF t env S) Q:=qQ (zB h λ_ _ k=>⟨_,_,rfl,k⟩)
theorem fY (h:Ok (t env S) λb S1=>(b=true->Q true S1)/\(b=false->Ok (u env S1) Q)):Ok (pQ t u env S) Q:=qQ (zB h λb S1 k=>by
 cases b with
 |true=>exact⟨_,_,rfl,k.1 rfl⟩
 |false=>exact k.2 rfl)
theorem J2 (h:Ok (t env S) λb S1=>(b=true->Ok (u env S1) Q)/\(b=false->Q false S1)):Ok (wI t u env S) Q:=qQ (zB h λb S1 k=>by
 cases b with
 |true=>exact k.1 rfl
 |false=>exact⟨_,_,rfl,k.2 rfl⟩)
theorem YZ {xs:Aa D}{a:Ai}(h:a<xs.length):_L.atI xs (a:Am)=Ab xs[a]:=by
 have e:_L.ixN xs.length (a:Am)=Ab a:=by simp[_L.ixN];lia
 simp[_L.atI,e,h]
theorem jV (S:Sto)(m:MO):(S++[m])[S.length]? = Ab m:=by simp
theorem B8 {Q:D->Sto->Prop}{a:Aa D}{k:Ai}(h:k<a.length)(q:∀ d∈a,Q d S):Ok (gIx (.lst a) (.int (k:Am)) S) Q:=vI (YZ h) (q _ (DM h))
theorem W9 {Q:Aa D->Sto->Prop}(h:Ok (f env S) λd S1=>∃ ds,t9 d=Ab ds/\Q ds S1):Ok (yU f env S) Q:=qQ (zB h λd S1 ⟨ds,e,k⟩=>⟨ds,S1,by rw[e];rfl,k⟩)
theorem QZ {Q:Aa D->Sto->Prop}(h:Ok (fa env S) λas S1=>∃ ds,j8 as=Ab ds/\Q ds S1):Ok (uG fa env S) Q:=qQ (zB h λd S1 ⟨ds,e,k⟩=>⟨ds,S1,by rw[e];rfl,k⟩)
theorem BW (n:Ai)(h:n<=1000000):j8 [.int (n:Am)]=Ab ((DD n).map λ(i:Ai)=>D.int (i:Am)):=by
 unfold j8;have : -(2 ^ 62)<=(n:Am)/\(n:Am)<2 ^ 62:=⟨by lia,by lia⟩
 refine(A0 this).trans ?_;unfold x8;rw[D9]
 congr 2
 funext i
 rw[L4]
theorem MU {Q:Aa D->Sto->Prop}(h:Ok (f env S) λd S1=>∃ k:Am,d=.int k/\0<=k/\k<=1000000/\Q ((DD k.toNat).map λ(i:Ai)=>D.int (i:Am)) S1):Ok (uG (qA f qC) env S) Q:=QZ (yY (zB h λ_ _ ⟨k,e,h0,h1,q⟩=>QY ⟨_,by
 have:=BW k.toNat li;rw[Int.toNat_of_nonneg h0] at this;rw[e,this],q⟩))
theorem uZ {Q:D->Sto->Prop}{xs:Aa D}{k:Am}{d:D}(e:S[i]? = Ab (.lst xs))(e':_L.atI xs k=Ab d)(h:Q d S):Ok (gIx (.loc i) (.int k) S) Q:=by
 refine⟨d,S,?_,h⟩;show (match S[i]? with|some (.lst xs)=>_D.yG (_L.atI xs k) S|_=>.bad)=_
 rw[e];show _D.yG (_L.atI xs k) S=_;rw[e'];rfl
theorem eN {Q:H8->Sto->Prop}{d:D}{n:Am}(e:S[i]? = Ab (.dct kvs))(hl:kvs.length<lim)(h:Q () (S.set i (.dct (v7 kvs (.inl n) d)))):Ok (xU (.loc i) (.int n) d S) Q:=by
 refine⟨_,_,?_,h⟩;show (match S[i]? with|some (.dct kvs)=>(match xN (.int n) with|some k=>(if kvs.length<lim then Res.ok () (S.set i (.dct (v7 kvs k d))) else .bad)|none=>.bad)|_=>kZ (.loc i) (.int n) d S)=_
 rw[e];exact A0 hl
theorem eO {Q:H8->Sto->Prop}{xs:Aa D}{d:D}{n:Am}(e:S[i]? = Ab (.lst xs))(e':_L.ixN xs.length n=Ab j)(h:Q () (S.set i (.lst (xs.set j d)))):Ok (xU (.loc i) (.int n) d S) Q:=by
 refine⟨_,_,?_,h⟩;simp[xU,kZ,e,e']
theorem V9 (h:S[i]? = Ab (.dct kvs)):gQ (.loc i) S=Ab kvs:=by
 show (match S[i]? with|some (.dct kvs)=>Ab kvs|_=>none)=_
 rw[h]
theorem TZ {Q:qH->Sto->Prop}{h:G3}{d:D}(k:Ok (f env S) λa S1=>Ok (g env S1) λb S2=>Ok (h a b d S2) λ_ S3=>Q env S3):Ok (gSb f g h d env S) Q:=qQ (zB k λ_ _ k=>qQ (zB k λ_ _ k=>qQ (zB k λ_ _ q=>⟨_,_,rfl,q⟩)))
variable {Q:qH->Sto->Prop}
theorem TY {d:D}(h:Q (env.set i (Ab d)) S):Ok (gNm i d env S) Q:=⟨_,_,rfl,h⟩
theorem N1 {gs:DGs}{xs:Aa D}(h:xs.length=n/\Ok (gs xs env S) Q):Ok (gTp n gs (.tup xs) env S) Q:=by
 obtain⟨d,S1,e,q⟩:=h.2;exact⟨d,S1,by show (if xs.length=n then gs xs env S else .bad)=_;rw[A0 h.1];exact e,q⟩
theorem TR (h:Q env S):Ok (k9 [] env S) Q:=⟨_,_,rfl,h⟩
theorem TN {t:DG}{gs:DGs}{x:D}{xs:Aa D}(h:Ok (t x env S) λenv1 S1=>Ok (gs xs env1 S1) Q):Ok (wK t gs (x::xs) env S) Q:=qQ h
def Wo (P:Out->Prop)(o:Out):Prop:=P o
def oX (g:DS)(P:Out->Prop):Out->Prop
 |.nx env S=>P (g env S)
 |o=>P o
noncomputable def cD (b:Aq)(f g:DS):DS:=match b with
 |true=>f
 |false=>g
def FV (Q:D->Sto->Prop):Out->Prop
 |.rt d S=>Q d S
 |.nx _ S=>Q .non S
 |_=>CF
def QQ {α:Type}(I:Aa α -> qH->Sto->Prop)(xs:Aa α)(P:Out->Prop):Out->Prop
 |.nx env S=>I xs env S
 |.ct env S=>I xs env S
 |.bk env S=>P (.nx env S)
 |o=>P o
variable {P:Out->Prop}{sf sg:DS}{fi:DI}{tg:DG}{d:D}
theorem F6 (h:Wo (oX sg P) (sf env S)):Wo P (qY sf sg env S):=by
 unfold qY;unfold Wo at h ⊢;cases e:sf env S <;> rw[e] at h <;> exact h
theorem ML (h:Wo P (sg env S)):Wo (oX sg P) (.nx env S):=h
theorem N4 (h:Wo P (.rt d S)):Wo (oX sg P) (.rt d S):=h
theorem MW (h:Wo P (.nx env S)):Wo P (zW env S):=h
theorem kL {r:Res β}{k:β->Sto->Out}(h:Ok r λd S1=>Wo P (k d S1)):Wo P (r.toS env k):=by
 obtain⟨d,S1,rfl,h⟩:=h;exact h
theorem TC (h:Ok (f env S) λd S1=>Ok (tg d env S1) λenv' S2=>Wo P (.nx env' S2)):Wo P (zM f tg env S):=kL (zB h λ_ _=>kL)
theorem GN (h:Ok (f env S) λ_ S1=>Wo P (.nx env S1)):Wo P (w5 f env S):=kL h
theorem TH (h:Ok (f env S) λd S1=>Wo P (.rt d S1)):Wo P (zE f env S):=kL h
theorem N3 (h:Ok (t env S) λb S1=>Wo P (cD b sf sg env S1)):Wo P (sIf t sf sg env S):=kL (zB h λb S1 q=>by cases b <;> exact q)
theorem w_t (h:Wo P (sf env S)):Wo P (cD true sf sg env S):=h
theorem w_f (h:Wo P (sg env S)):Wo P (cD false sf sg env S):=h
theorem TF {b:Aq}(h:Wo P (cD b sg sf env S)):Wo P (cD (!b) sf sg env S):=by cases b <;> exact h
theorem kK {p:Prop}[Ep p](h1:p->Wo P (sf env S))(h2:¬ p->Wo P (sg env S)):Wo P (cD (decide p) sf sg env S):=by
 by_cases h:p
 .rw[AY h];exact h1 h
 .rw[AT h];exact h2 h
theorem ZC (h:Ok (fi env S) λds S1=>Wo P (vH tg sf ds env S1)):Wo P (yH fi tg sf env S):=kL h
theorem xR {α:Type}{enc:α->D}(I:Aa α -> qH->Sto->Prop)(turn:∀ x xs env S,I (x::xs) env S->Ok (tg (enc x) env S) λenv1 S1=>Wo (QQ I xs P) (sf env1 S1))(last:∀ env S,I [] env S->Wo P (.nx env S)) :
  ∀ {xs:Aa α} {env:qH} {S:Sto},I xs env S->Wo P (vH tg sf (xs.map enc) env S)
 |[],env,S,h=>last env S h
 |x::xs,env,S,h=>by
  obtain⟨env1,S1,e1,h1⟩:=turn x xs env S h;rw[AQ,vH];unfold Wo at h1 ⊢;simp only[e1,Res.toS];cases e2:sf env1 S1 with
  |nx env2 S2=>rw[e2] at h1;exact xR I turn last h1
  |ct env2 S2=>rw[e2] at h1;exact xR I turn last h1
  |bk env2 S2=>rw[e2] at h1;exact h1
  |rt d2 S2=>rw[e2] at h1;exact h1
  |ex c2 x2 env2 S2=>rw[e2] at h1;exact h1
  |bad=>rw[e2] at h1;exact h1
theorem jR {x:D}(hs:xQ n ds=env)(h:sf env S=.ex v x env' S'):qU n sf ds S=.ex v x S':=by
 subst hs;unfold qU;rw[h];rfl
theorem mT {x:D}(h:f env S=.ex v x S'):qY (w5 f) sg env S=.ex v x env S':=by
 simp only[qY,w5,h,Res.toS]
theorem PR {x:D}(h:t env S=.ok true S1)(k:sf env S1=.ex v x env' S'):sIf t sf sg env S=.ex v x env' S':=by
 simp only[sIf,h,Res.toS,Ca];exact k
def exQ (v:Ac)(x:D)(S0:Sto):Out->Prop:=λo=>∃ env',o=.ex v x env' S0
theorem Y9 {x:D}(hs:xQ n ds=env)(h:Wo (exQ v x S') (sf env S)):qU n sf ds S=.ex v x S':=by
 obtain⟨env',e⟩:=h;exact jR hs e
theorem YG {x:D}(e:f env S=.ex v x S')(h:P (.ex v x env S')):Wo P (w5 f env S):=by
 unfold Wo w5;rw[e];exact h
theorem yN {α:Type}{I:Aa α -> qH->Sto->Prop}{xs:Aa α}(h:I xs env S):Wo (QQ I xs P) (.nx env S):=h
theorem zO {Q:D->Sto->Prop}(hs:xQ n ds=env)(h:Wo (FV Q) (sf env S)):Ok (qU n sf ds S) Q:=by
 subst hs;unfold qU;unfold Wo at h;cases e:sf (xQ n ds) S <;> rw[e] at h <;> first|exact⟨_,_,rfl,h⟩|exact Al h
end
abbrev Pt:=Am × Am
def InB (B:Am)(q:Pt):Prop:=-B<=q.1/\q.1<=B /\ -B<=q.2/\q.2<=B
instance (B:Am)(q:Pt):Ep (InB B q):=by unfold InB;exact inferInstance
def wD (S:Sto)(p:Ai):Prop:=∃ v f:Am,S[p]? = Ab (.lst [.int v,.int f])
theorem kF {S:Sto}(h:wD S p)(e:S<+:S'):wD S' p:=by
 obtain⟨v0,f0,hp⟩:=h;obtain⟨r,rfl⟩:=e;exact⟨v0,f0,by rw[Be (AE.mp hp).1];exact hp⟩
structure Kp (p:Ai)(S S':Sto):Prop where
 pen:wD S' p
 len:S.length<=S'.length
 same:∀ m,m<S.length->m≠p->S'[m]? = S[m]?
theorem K0 {S:Sto}(h:wD S p):p<S.length:=by
 obtain⟨v,f,e⟩:=h;exact(AE.mp e).1
theorem Kp.pre {S:Sto}(h:wD S p)(e:S<+:S'):Kp p S S':=⟨kF h e,e.length_le,λm hm _=>(Il.mp e m hm).trans (Ao hm).symm⟩
theorem Kp.set {j:Ai}{S:Sto}(h:Kp p S S')(hj:S.length<=j)(m:MO)(hp:p≠j):Kp p S (S'.set j m):=by
 obtain⟨v,f,e⟩:=h.pen;exact⟨⟨v,f,by rw[Bs (Cf hp)];exact e⟩,by rw[Mq];exact h.len,λi hi hn=>by rw[Bs om];exact h.same i hi hn⟩
end _D
local macro_rules|`(tactic|array_get_dec)=>`(tactic| first | (with_reducible first | apply _D.F6 | apply _D.ML | apply _D.TC | apply _D.o_2 | apply _D.o_c | apply _D.yY | apply _D.QY | apply _D.MY | apply _D.T9 | apply _D.TB | apply _D.B9 | apply _D.eL | apply _D.TL | apply _D.M6 | apply _D.JB | apply _D.N3 | apply _D.w_t | apply _D.w_f | apply _D.TF | apply _D.MW | apply _D.GN | apply _D.TH | apply _D.N4 | apply _D.ZC | apply _D.TV | apply _D.TU | apply _D.TQ | apply _D.J7 | apply _D.TX | apply _D.MS | apply _D.MT | apply _D.N0 | apply _D.T7 | apply _D.TM | apply _D.TK | apply _D.T1 | apply _D.N1 | apply _D.TN | apply _D.TR | apply _D.TZ | apply _D.W9 | apply _D.MU) | ((with_reducible apply _D.o_v); exact rfl) | ((with_reducible apply _D.TY); dsimp only [List.set_cons_succ, List.set_cons_zero]) | ((with_reducible (first | apply _D.T6 | apply _D.T4 | apply _D.T3)); omega) | ((with_reducible apply And.intro); (first | exact rfl | exact Nat.le_of_ble_eq_true rfl)) | ((with_reducible apply Exists.intro); (with_reducible apply And.intro); exact rfl) | ((with_reducible apply Exists.intro); (with_reducible apply Exists.intro); (with_reducible apply And.intro); exact rfl; dsimp only [List.set_cons_succ, List.set_cons_zero]) | ((with_reducible apply Exists.intro); (with_reducible apply Exists.intro); (with_reducible apply Exists.intro); (with_reducible apply And.intro); exact rfl; dsimp only [List.set_cons_succ, List.set_cons_zero]))
local macro_rules|`(tactic|rfl')=>`(tactic| repeat array_get_dec)
namespace _D
open PySem
def Pn (d:D):Prop:=∃ p,pyD d=Ab p
noncomputable def inR (a b:Am):D->Aq
 |.int i=>decide (a<=i/\i<=b)
 |_=>false
noncomputable def isW:D->Aq
 |.int _=>true
 |_=>false
noncomputable def isT:D->Aq
 |.tup _=>true
 |_=>false
theorem W7 {Q:D->Sto->Prop}{fa fb fc:DE}{env:qH}{S:Sto}{a b c:Am}(h1:fa env S=.ok (.int a) S)(h2:fb env S=.ok (.int b) S)(h3:fc env S=.ok (.int c) S)(q:Q (.bl (decide (a<=b/\b<=c))) S):Ok (jJ gLe gLe fa fb fc env S) Q:=by
 refine⟨_,_,?_,q⟩;unfold jJ;rw[h1,Res.bind_ok,h2,Res.bind_ok];show (match yI (.bl (decide (a<=b))) S with|some true=>(fc env S).bind λw S4=>gLe (.int b) w S4|some false=>Res.ok (.bl (decide (a<=b))) S|none=>.bad)=_
 by_cases h:a<=b
 .rw[AY h]
  show (fc env S).bind _=_;rw[h3];simp only[h,true_and];rfl
 .rw[AT h,AT λz=>h z.1]
  rfl
theorem K3 {S S':Sto}(h:∀ m,m<S.length->S'[m]? = S[m]?):S<+:S':=by
 rw[Il];intro i hi;rw[h i hi,Ao hi]
end _D
namespace _K
open PySem PySem.Spec PyProof.Rows _L _D
noncomputable def top (i:Ai):Cs:=Ic.main.body.getD i (.Pass ⟨0,0,0,0⟩)
structure Cl where
 (FarError NoPoint NoLot NoNumber NoCircle NoMarks NoFars NoText NoLine NoDeed Alike TooMany:Ad)
noncomputable def zU (c:Cl):Aa Ad:=[c.NoPoint,c.NoLot,c.NoNumber,c.NoCircle,c.NoMarks,c.NoFars,c.NoText,c.NoLine,c.NoDeed,c.Alike,c.TooMany]
noncomputable def gN (c:Cl):Aa Ac:=[.ref c.NoPoint,.ref c.NoLot,.ref c.NoNumber,.ref c.NoCircle,.ref c.NoMarks,.ref c.NoFars,.ref c.NoText,.ref c.NoLine,.ref c.NoDeed]
noncomputable abbrev clt (c:Cl):Aa (Ap × Ad):=[("FarError",c.FarError),("NoPoint",c.NoPoint),("NoLot",c.NoLot),("NoNumber",c.NoNumber),("NoCircle",c.NoCircle),("NoMarks",c.NoMarks),("NoFars",c.NoFars),("NoText",c.NoText),("NoLine",c.NoLine),("NoDeed",c.NoDeed),("Alike",c.Alike),("TooMany",c.TooMany)]
noncomputable abbrev plt (c:Cl):Aa (Ap × Ad):=[("NoPoint",c.NoPoint),("NoLot",c.NoLot),("NoNumber",c.NoNumber),("NoCircle",c.NoCircle),("NoMarks",c.NoMarks),("NoFars",c.NoFars),("NoText",c.NoText),("NoLine",c.NoLine),("NoDeed",c.NoDeed)]
noncomputable abbrev cst:Aa (Ap × Am):=[("MOST_COUNTED_SIDE",200)]
noncomputable abbrev bl:Aa Ap:=["ValueError","bool","int","isinstance","len","list","max","min","range","sorted","str","tuple","zip"]
noncomputable abbrev tab:Aa (Ap × Ai × Aa Ap):=[("is_whole",14,["thing"]),("is_within",15,["thing","least","most"]),("need_within",16,["thing","least","most"]),("need_sides",19,["w","h","most"]),("pairs_apart",20,["w","h","a","b"]),("grid_table",21,["w","h"]),("many_grid",22,["w","h"]),("greatest_often",23,["w","h"]),("_law_cell",25,["_law_script","_law_k"]),("_law_pen",26,["_law_cell_here"]),("_law_draw",27,["_law_pen_here","_law_many"]),("_law_same",28,["_law_found","_law_due"]),("_law_kind_of",29,["_law_e"]),("_law_no_number",30,["_law_pen_here","_law_low","_law_high"]),("_law_came",31,["_law_way","_law_w","_law_h"]),("_law_counts",32,["_law_w","_law_h"]),("law",33,["_law_script"])]
abbrev Txt (K:Ah)(mg:Ap->Ak Ac)(c:Cl):Prop:=TxS K mg top tab bl (clt c) (plt c) (gN c) (zU c) cst
noncomputable abbrev UP:Aa Ap:=["greatest_often"]
@[reducible] def b_is_whole:DS:=zE (uE (qP zP (qA (qB 0) (qA (dC (.ty "int")) (qC)))) (aQ (qP zP (qA (qB 0) (qA (dC (.ty "bool")) (qC))))))
@[irreducible] def S_is_whole:DF:=sh (qU 1 b_is_whole)
theorem jC:S_is_whole=qU 1 b_is_whole:=by delta S_is_whole;exact zZ _
@[reducible] def b_is_within:DS:=zE (uE (qW 1 S_is_whole (qA (qB 0) (qC))) (jJ gLe gLe (qB 1) (qB 0) (qB 2)))
@[irreducible] def S_is_within:DF:=sh (qU 3 b_is_within)
theorem vT:S_is_within=qU 3 b_is_within:=by delta S_is_within;exact zZ _
@[reducible] def b_need_within (c:Cl):DS:=sIf (uF (dTr (qW 3 S_is_within (qA (qB 0) (qA (qB 1) (qA (qB 2) (qC))))))) (vZ (.ref c.NoNumber) (qA (fO [dC (.str "a whole number from "),d1 vO (qB 1),dC (.str " to "),d1 vO (qB 2),dC (.str " is needed")]) (qC))) (zW)
@[irreducible] def S_need_within (c:Cl):DF:=sh (qU 3 (b_need_within c))
theorem w6 (c:Cl):S_need_within c=qU 3 (b_need_within c):=by delta S_need_within;exact zZ _
@[reducible] def b_need_sides (c:Cl):DS:=qY (w5 (qW 3 (S_need_within c) (qA (qB 0) (qA (dC (.int 1)) (qA (qB 2) (qC)))))) (w5 (qW 3 (S_need_within c) (qA (qB 1) (qA (dC (.int 1)) (qA (qB 2) (qC))))))
@[irreducible] def S_need_sides (c:Cl):DF:=sh (qU 3 (b_need_sides c))
theorem wF (c:Cl):S_need_sides c=qU 3 (b_need_sides c):=by delta S_need_sides;exact zZ _
@[reducible] def b_pairs_apart:DS:=qY (zM (dIf (wI (dTr (d2 gGt (qB 2) (dC (.int 0)))) (dTr (d2 gGt (qB 3) (dC (.int 0))))) (dC (.int 2)) (dC (.int 1))) (gNm 4)) (zE (d2 zQ (d2 zQ (qB 4) (d2 uM (qB 0) (qB 2))) (d2 uM (qB 1) (qB 3))))
@[irreducible] def S_pairs_apart:DF:=sh (qU 5 b_pairs_apart)
theorem yS:S_pairs_apart=qU 5 b_pairs_apart:=by delta S_pairs_apart;exact zZ _
@[reducible] def b_grid_table:DS:=qY (zM (mP) (gNm 2)) (qY (yH (uG (qA (qB 0) (qC))) (gNm 3) (yH (uG (qA (dIf (dTr (d2 gEq (qB 3) (dC (.int 0)))) (dC (.int 1)) (dC (.int 0))) (qA (qB 1) (qC)))) (gNm 4) (qY (zM (d2 x6 (d2 zQ (qB 3) (qB 3)) (d2 zQ (qB 4) (qB 4))) (gNm 5)) (zM (d2 x6 (dBm "dict" jK (qB 2) (qA (qB 5) (qA (dC (.int 0)) (qC)))) (qW 4 S_pairs_apart (qA (qB 0) (qA (qB 1) (qA (qB 3) (qA (qB 4) (qC))))))) (gSb (qB 2) (qB 5) xU))))) (zE (qB 2)))
@[irreducible] def S_grid_table:DF:=sh (qU 6 b_grid_table)
theorem vE:S_grid_table=qU 6 b_grid_table:=by delta S_grid_table;exact zZ _
@[reducible] def b_many_grid (c:Cl):DS:=qY (w5 (qW 3 (S_need_sides c) (qA (qB 0) (qA (qB 1) (qA (dC (.int (200))) (qC)))))) (zE (qP k8 (qA (qW 2 S_grid_table (qA (qB 0) (qA (qB 1) (qC)))) (qC))))
@[irreducible] def S_many_grid (c:Cl):DF:=sh (qU 2 (b_many_grid c))
theorem y6 (c:Cl):S_many_grid c=qU 2 (b_many_grid c):=by delta S_many_grid;exact zZ _
@[reducible] def b_greatest_often (c:Cl):DS:=qY (w5 (qW 3 (S_need_sides c) (qA (qB 0) (qA (qB 1) (qA (dC (.int (200))) (qC)))))) (qY (zM (pR (qW 2 S_grid_table (qA (qB 0) (qA (qB 1) (qC))))) (gNm 2)) (zE (mQ 1 (qA (qB 2) (qC)))))
@[irreducible] def S_greatest_often (c:Cl):DF:=sh (qU 3 (b_greatest_often c))
theorem xG (c:Cl):S_greatest_often c=qU 3 (b_greatest_often c):=by delta S_greatest_often;exact zZ _
@[reducible] def b__law_cell:DS:=qY (sIf (dTr (d2 gLt (qB 1) (qP uJ (qA (qB 0) (qC))))) (zE (d2 gIx (qB 0) (qB 1))) (zW)) (zE (dC (.int 0)))
@[irreducible] def S__law_cell:DF:=sh (qU 2 b__law_cell)
theorem vQ:S__law_cell=qU 2 b__law_cell:=by delta S__law_cell;exact zZ _
@[reducible] def b__law_pen:DS:=zE (fP (qA (qB 0) (qA (qP mX (qA (d2 gGe (qB 0) (d2 t7 (dC (.int 10)) (dC (.int 18)))) (qC))) (qC))))
@[irreducible] def S__law_pen:DF:=sh (qU 1 b__law_pen)
theorem jB:S__law_pen=qU 1 b__law_pen:=by delta S__law_pen;exact zZ _
@[reducible] def b__law_draw:DS:=qY (sIf (dTr (d2 gEq (d2 gIx (qB 0) (dC (.int 1))) (dC (.int 1)))) (qY (zM (d2 uK (d2 gIx (qB 0) (dC (.int 0))) (qB 1)) (gNm 2)) (qY (zM (d2 pY (d2 gIx (qB 0) (dC (.int 0))) (qB 1)) (gSb (qB 0) (dC (.int 0)) xU)) (zE (qB 2)))) (zW)) (qY (zM (d2 uK (d2 x6 (d2 zQ (d2 uK (d2 gIx (qB 0) (dC (.int 0))) (dC (.int 2147483629))) (dC (.int 48271))) (dC (.int 11))) (dC (.int 2147483629))) (gSb (qB 0) (dC (.int 0)) xU)) (zE (d2 uK (d2 pY (d2 uK (d2 x6 (d2 zQ (d2 gIx (qB 0) (dC (.int 0))) (d2 gIx (qB 0) (dC (.int 0)))) (d2 zQ (dC (.int 40692)) (d2 gIx (qB 0) (dC (.int 0))))) (dC (.int 2147483647))) (dC (.int 8))) (qB 1))))
@[irreducible] def S__law_draw:DF:=sh (qU 3 b__law_draw)
theorem vR:S__law_draw=qU 3 b__law_draw:=by delta S__law_draw;exact zZ _
@[reducible] def b__law_same (S__law_same:DF):DS:=qY (sIf (dTr (d2 gIs (qB 1) (dC .non))) (zE (d2 gIs (qB 0) (dC .non))) (zW)) (qY (sIf (pQ (dTr (qP zP (qA (qB 1) (qA (dC (.ty "tuple")) (qC))))) (dTr (qP zP (qA (qB 1) (qA (dC (.ty "list")) (qC)))))) (qY (sIf (pQ (dTr (d2 gNe (qP zP (qA (qB 0) (qA (dC (.ty "tuple")) (qC)))) (qP zP (qA (qB 1) (qA (dC (.ty "tuple")) (qC)))))) (dTr (d2 gNe (qP zP (qA (qB 0) (qA (dC (.ty "list")) (qC)))) (qP zP (qA (qB 1) (qA (dC (.ty "list")) (qC))))))) (zE (dC (.bl false))) (zW)) (qY (sIf (dTr (d2 gNe (qP uJ (qA (qB 0) (qC))) (qP uJ (qA (qB 1) (qC))))) (zE (dC (.bl false))) (zW)) (qY (yH (dP (qA (qB 0) (qA (qB 1) (qC)))) (gTp 2 (wK (gNm 2) (wK (gNm 3) (k9)))) (sIf (uF (dTr (qW 2 S__law_same (qA (qB 2) (qA (qB 3) (qC)))))) (zE (dC (.bl false))) (zW))) (zE (dC (.bl true)))))) (zW)) (qY (sIf (dTr (qP zP (qA (qB 1) (qA (dC (.ty "str")) (qC))))) (zE (uE (qP zP (qA (qB 0) (qA (dC (.ty "str")) (qC)))) (d2 gEq (qB 0) (qB 1)))) (zW)) (zE (uE (d2 gEq (qP zP (qA (qB 0) (qA (dC (.ty "bool")) (qC)))) (qP zP (qA (qB 1) (qA (dC (.ty "bool")) (qC))))) (uE (qP zP (qA (qB 0) (qA (dC (.ty "int")) (qC)))) (d2 gEq (qB 0) (qB 1)))))))
def pF:Ai->DF
 |0=>λ_ _=>.bad
 |n+1=>qU 4 (b__law_same (pF n))
@[irreducible] def S__law_same:DF:=sh (pF 4)
theorem vS:S__law_same=pF 4:=by delta S__law_same;exact zZ _
@[reducible] def b__law_kind_of (c:Cl):DS:=qY (zM (zS (qA (qP (zJ (zU c)) (qA (qB 0) (qA (dC (.obj c.NoPoint)) (qC)))) (qA (qP (zJ (zU c)) (qA (qB 0) (qA (dC (.obj c.NoLot)) (qC)))) (qA (qP (zJ (zU c)) (qA (qB 0) (qA (dC (.obj c.NoNumber)) (qC)))) (qA (qP (zJ (zU c)) (qA (qB 0) (qA (dC (.obj c.NoCircle)) (qC)))) (qC)))))) (gNm 1)) (qY (zM (d2 x6 (qB 1) (zS (qA (qP (zJ (zU c)) (qA (qB 0) (qA (dC (.obj c.NoMarks)) (qC)))) (qA (qP (zJ (zU c)) (qA (qB 0) (qA (dC (.obj c.NoFars)) (qC)))) (qA (qP (zJ (zU c)) (qA (qB 0) (qA (dC (.obj c.NoText)) (qC)))) (qA (qP (zJ (zU c)) (qA (qB 0) (qA (dC (.obj c.NoLine)) (qC)))) (qC))))))) (gNm 1)) (qY (zM (d2 x6 (qB 1) (zS (qA (qP (zJ (zU c)) (qA (qB 0) (qA (dC (.obj c.NoDeed)) (qC)))) (qA (qP (zJ (zU c)) (qA (qB 0) (qA (dC (.obj c.Alike)) (qC)))) (qA (qP (zJ (zU c)) (qA (qB 0) (qA (dC (.obj c.TooMany)) (qC)))) (qC)))))) (gNm 1)) (qY (sIf (pQ (uF (dTr (qP (zJ (zU c)) (qA (qB 0) (qA (dC (.ty "ValueError")) (qC)))))) (dTr (d2 gNe (dBm "list" gS (qB 1) (qA (dC (.bl true)) (qC))) (dC (.int 1))))) (zE (dC (.str "other"))) (zW)) (qY (sIf (dTr (qP (zJ (zU c)) (qA (qB 0) (qA (dC (.obj c.Alike)) (qC))))) (zE (zS (qA (dC (.str "alike")) (qA (jI) (qA (jI) (qA (jI) (qA (jI) (qC)))))))) (zW)) (qY (sIf (dTr (qP (zJ (zU c)) (qA (qB 0) (qA (dC (.obj c.TooMany)) (qC))))) (zE (zS (qA (dC (.str "many")) (qA (jI) (qA (jI) (qC)))))) (zW)) (qY (zM (zS (qA (dC (.str "point")) (qA (dC (.str "lot")) (qA (dC (.str "number")) (qA (dC (.str "circle")) (qA (dC (.str "marks")) (qA (dC (.str "fars")) (qA (dC (.str "text")) (qA (dC (.str "line")) (qA (dC (.str "deed")) (qC))))))))))) (gNm 2)) (zE (d2 gIx (qB 2) (dBm "list" gT (qB 1) (qA (dC (.bl true)) (qC)))))))))))
@[irreducible] def S__law_kind_of (c:Cl):DF:=sh (qU 3 (b__law_kind_of c))
theorem yJ (c:Cl):S__law_kind_of c=qU 3 (b__law_kind_of c):=by delta S__law_kind_of;exact zZ _
@[reducible] def b__law_no_number:DS:=qY (zM (zS (qA (d2 uM (qB 1) (dC (.int 1))) (qA (d2 x6 (qB 2) (dC (.int 1))) (qA (dC .non) (qA (dC (.bl true)) (qA (dC (.str "0")) (qA (w8 (qA (qB 1) (qC))) (qA (zS (qA (qB 1) (qC))) (qA (d2 t7 (dC (.int 10)) (dC (.int 29))) (qA (d2 uM (dC (.int 0)) (d2 t7 (dC (.int 10)) (dC (.int 29)))) (qA (dC (.bl false)) (qA (d2 x6 (qB 2) (dC (.int 2))) (qC))))))))))))) (gNm 3)) (zE (d2 gIx (qB 3) (qW 2 S__law_draw (qA (qB 0) (qA (dC (.int 11)) (qC))))))
@[irreducible] def S__law_no_number:DF:=sh (qU 4 b__law_no_number)
theorem wX:S__law_no_number=qU 4 b__law_no_number:=by delta S__law_no_number;exact zZ _
@[reducible] def b__law_came (c:Cl):DS:=gG 4 3 (gN c) (zE (kX [(2,(S_many_grid c)),(2,(S_greatest_often c))] (qB 0) (qA (qB 1) (qA (qB 2) (qC))))) (zE (qW 1 (S__law_kind_of c) (qA (qB 3) (qC))))
@[irreducible] def S__law_came (c:Cl):DF:=sh (qU 4 (b__law_came c))
theorem wZ (c:Cl):S__law_came c=qU 4 (b__law_came c):=by delta S__law_came;exact zZ _
@[reducible] def b__law_counts:DS:=qY (zM (mP) (gNm 2)) (qY (yH (uG (qA (qB 0) (qC))) (gNm 3) (yH (uG (qA (qB 1) (qC))) (gNm 4) (qY (zM (d2 x6 (d2 zQ (qB 3) (qB 3)) (d2 zQ (qB 4) (qB 4))) (gNm 5)) (zM (d2 x6 (dBm "dict" jK (qB 2) (qA (qB 5) (qA (dC (.int 0)) (qC)))) (d2 zQ (d2 zQ (d2 uM (qB 0) (qB 3)) (d2 uM (qB 1) (qB 4))) (d2 gIx (zS (qA (dC (.int 1)) (qA (dC (.int 2)) (qC)))) (qP mX (qA (uE (d2 gGt (qB 3) (dC (.int 0))) (d2 gGt (qB 4) (dC (.int 0)))) (qC)))))) (gSb (qB 2) (qB 5) xU))))) (qY (w5 (dBm "dict" uL (qB 2) (qA (dC (.int 0)) (qC)))) (zE (qB 2))))
@[irreducible] def S__law_counts:DF:=sh (qU 6 b__law_counts)
theorem yR:S__law_counts=qU 6 b__law_counts:=by delta S__law_counts;exact zZ _
@[reducible] def b_law (c:Cl):DS:=qY (yH (yU (d2 x6 (zS (qA (qW 2 S__law_cell (qA (qB 0) (qA (dC (.int 0)) (qC)))) (qC))) (dSl (qB 0) (yV (dC (.int 1))) (yV (dC (.int 3)))))) (gNm 1) (qY (zM (qW 1 S__law_pen (qA (qB 1) (qC))) (gNm 2)) (qY (zM (d2 gIx (zS (qA (dC (.int 3)) (qA (dC (.int 9)) (qA (dC (.int 40)) (qA (dC (.int 200)) (qC)))))) (qW 2 S__law_draw (qA (qB 2) (qA (dC (.int 4)) (qC))))) (gNm 3)) (qY (yH (yU (zS (qA (w8 (qA (d2 x6 (dC (.int 1)) (qW 2 S__law_draw (qA (qB 2) (qA (qB 3) (qC))))) (qA (d2 x6 (dC (.int 1)) (qW 2 S__law_draw (qA (qB 2) (qA (qB 3) (qC))))) (qC)))) (qA (w8 (qA (dC (.int 1)) (qA (d2 x6 (dC (.int 1)) (qW 2 S__law_draw (qA (qB 2) (qA (dC (.int 200)) (qC))))) (qC)))) (qA (w8 (qA (dC (.int 1)) (qA (dC (.int 1)) (qC)))) (qC)))))) (gTp 2 (wK (gNm 4) (wK (gNm 5) (k9)))) (qY (zM (aP (qW 2 S__law_counts (qA (qB 4) (qA (qB 5) (qC))))) (gNm 6)) (qY (zM (gO (qA (vV (qB 6)) (qC)) (dC (.int 0))) (gNm 7)) (qY (zM (fQ (qA (wJ false [none,Ab 6,Ab 7] (uV (jX (qB 6))) (gNm 0) (wI (dTr (d2 gEq (d2 y8 (qB 1) (qB 0)) (qB 2))) (pS)) (wL (w8 (qA (qB 0) (qA (d2 y8 (qB 1) (qB 0)) (qC)))))) (qC)) (dC .non)) (gNm 8)) (yH (uG (qA (dC (.int 2)) (qC))) (gNm 9) (sIf (uF (dTr (qW 2 S__law_same (qA (zS (qA (qW 3 (S__law_came c) (qA (dC (.int 0)) (qA (qB 4) (qA (qB 5) (qC))))) (qA (qW 3 (S__law_came c) (qA (dC (.int 1)) (qA (qB 4) (qA (qB 5) (qC))))) (qC)))) (qA (zS (qA (qP k8 (qA (qB 6) (qC))) (qA (qB 8) (qC)))) (qC)))))) (zE (dC (.bl false))) (zW))))))) (qY (zM (qW 3 S__law_no_number (qA (qB 2) (qA (dC (.int 1)) (qA (dC (.int 200)) (qC))))) (gNm 10)) (yH (yU (zS (qA (w8 (qA (qB 10) (qA (dC (.int 1)) (qC)))) (qA (w8 (qA (dC (.int 1)) (qA (qB 10) (qC)))) (qA (w8 (qA (qB 10) (qA (qB 10) (qC)))) (qA (w8 (qA (dC (.int 201)) (qA (dC (.int 1)) (qC)))) (qA (w8 (qA (dC (.int 1)) (qA (dC (.int 201)) (qC)))) (qC)))))))) (gTp 2 (wK (gNm 11) (wK (gNm 12) (k9)))) (sIf (dTr (d2 gNe (zS (qA (qW 3 (S__law_came c) (qA (dC (.int 0)) (qA (qB 11) (qA (qB 12) (qC))))) (qA (qW 3 (S__law_came c) (qA (dC (.int 1)) (qA (qB 11) (qA (qB 12) (qC))))) (qC)))) (d2 gU (zS (qA (dC (.str "number")) (qC))) (dC (.int 2))))) (zE (dC (.bl false))) (zW)))))))) (zE (dC (.bl true)))
end _K
namespace _K
open PySem _D
variable {cl:Aa Ad}{j:Ai}{v:Am}{d:D}{Q:D->Sto->Prop}{S:Sto}{env:qH}
theorem Y6 (h:Pn d)(S:Sto):S_is_whole [d] S=.ok (.bl (isW d)) S:=by
 rw[jC];obtain⟨p,h⟩:=h;cases d <;> first|kernel_rfl!|simp[pyD] at h
theorem tP (h:Pn d)(a b:Am)(S:Sto):S_is_within [d,.int a,.int b] S=.ok (.bl (inR a b d)) S:=by
 rw[vT];refine xV (zO (env:=[Ab d,Ab (.int a),Ab (.int b)]) rfl ?_);rfl';refine fX ?_;rfl';refine qO (Y6 h S) ⟨_,rfl,λe=>?_,λe=>?_⟩
 .cases d with
  |int i=>exact W7 rfl rfl rfl ⟨rfl,rfl⟩
  |_=>cases e
 .cases d <;> first|exact⟨rfl,rfl⟩|cases e
theorem bD (c:Cl){i a b:Am}(S:Sto)(h:a<=i/\i<=b):S_need_within c [.int i,.int a,.int b] S=.ok .non S:=by
 rw[w6];refine xV (zO (env:=[Ab (.int i),Ab (.int a),Ab (.int b)]) rfl ?_);rfl';refine qO (tP ⟨.int i,rfl⟩ a b S) ?_;rw[show inR a b (.int i)=true from AY h]
 rfl';exact⟨rfl,rfl⟩
theorem rN (a:Am)(S:Sto)(h:a.natAbs.log2<1920):vO (.int a) S=.ok (.str (toString a)) S:=by
 unfold vO;simp only[h,Ca]
noncomputable def UZ (a b:Am):Aa Ap:=[EN++("a whole number from " : Ap),EN++("a whole number from " : Ap)++((toString a:Bk):Ap),EN++("a whole number from " : Ap)++((toString a:Bk):Ap)++(" to " : Ap),EN++("a whole number from " : Ap)++((toString a:Bk):Ap)++(" to " : Ap)++((toString b:Bk):Ap),EN++("a whole number from " : Ap)++((toString a:Bk):Ap)++(" to " : Ap)++((toString b:Bk):Ap)++(" is needed" : Ap)]
noncomputable def QU (a b:Am):Aq:=decide (a.natAbs.log2<1920)&&decide (b.natAbs.log2<1920)&&(UZ a b).all λm=>decide (m.length<=lim)
theorem jL {out y:Ap}{p:DE}{ps:Aa DE}{S1:Sto}(h:p env S=.ok (.str y) S1)(hl:(out++y).length<=lim):uS out (p::ps) env S=uS (out++y) ps env S1:=by
 show ((p env S).bind λd S1=>match d with|.str y=>if (out++y).length<=lim then uS (out++y) ps env S1 else .bad|_=>.bad)=_
 rw[h];exact A0 hl
theorem Y7 {v:Ac}{f:DE}{y:Ap}(h:f env S=.ok (.str y) S):vZ v (qA f (qC)) env S=.ex v .non env S:=by
 unfold vZ;rw[mR h];show (if ([D.str y]:Aa D).length<=lim then Out.ex v D.non env S else Out.bad)=_
 exact A0 (DV rfl)
theorem lJ (c:Cl){d:D}{a b:Am}(S:Sto)(hm:QU a b=true)(h:Pn d)(k:inR a b d=false):S_need_within c [d,.int a,.int b] S=.ex (.ref c.NoNumber) .non S:=by
 simp only[QU,UZ,Ny,List.all_nil,Az,Ku,Ba] at hm;obtain⟨⟨la,lb⟩,j1,j2,j3,j4,j5⟩:=hm;have hj:fO [dC (.str "a whole number from "),d1 vO (qB 1),dC (.str " to "),d1 vO (qB 2),dC (.str " is needed")] [Ab d,Ab (.int a),Ab (.int b)] S=.ok (.str (EN++("a whole number from " : Ap)++((toString a:Bk):Ap)++(" to " : Ap)++((toString b:Bk):Ap)++(" is needed" : Ap))) S:=
  (jL rfl j1).trans ((jL (rN a S la) j2).trans ((jL rfl j3).trans ((jL (rN b S lb) j4).trans ((jL rfl j5).trans (A0 j5)))))
 rw[w6];refine jR (env:=[Ab d,Ab (.int a),Ab (.int b)]) (env':=[Ab d,Ab (.int a),Ab (.int b)]) rfl ?_;refine PR (xV (JB (M6 (eL (yY (o_v rfl (yY (o_v rfl (yY (o_v rfl (QY ⟨rfl,qO ((tP h a b S).trans (by rw[k])) ⟨_,rfl,rfl,rfl⟩⟩))))))))))) ?_
 exact Y7 hj
theorem jO {p:Ai}{m:Am}(h:wD S p)(hm:0<m/\m<1073741824)(q:∀ (r:Ai) S1,Kp p S S1->(r:Am)<m->Q (.int r) S1):Ok (S__law_draw [.loc p,.int m] S) Q:=by
 have fin:∀ r v f:Am,0<=r->r<m->Q (.int r) (S.set p (.lst [.int v,.int f])):=λr v f h0 h1=>by
  obtain⟨r,rfl⟩:=Int.eq_ofNat_of_zero_le h0;obtain⟨v0,f0,e⟩:=h;have hpl:=(AE.mp e).1;exact q r _ ⟨⟨v,f,by simp[hpl]⟩,by simp,λi hi hn=>Bs (Cf hn)⟩ h1
 obtain⟨v,f,e⟩:=h;have hpl:=(AE.mp e).1;rw[vR];refine zO (env:=[Ab (.loc p),Ab (.int m),none]) rfl ?_;rfl';refine uZ e (d:=.int f) rfl ?_;rfl';refine kK (λz=>?_) λz=>?_
 .rfl'
  refine uZ e (d:=.int v) rfl ?_;rfl';refine uZ e (d:=.int v) rfl ?_;rfl';refine eO e rfl ?_;rfl';exact fin _ _ _ (Hn _ om) (Fp _ hm.1)
 .rfl'
  refine uZ e (d:=.int v) rfl ?_;have hv:=Hn v (show (2147483629:Am)≠0 by omega)
  have hv':=Fp v (show (0:Am)<2147483629 by omega)
  rfl';have hw:=Hn (v % 2147483629*48271+11) (show (2147483629:Am)≠0 by omega)
  have hw':=Fp (v % 2147483629*48271+11) (show (0:Am)<2147483629 by omega)
  generalize (v % 2147483629*48271+11) % 2147483629=w at hw hw';refine eO e rfl ?_;have e2:(S.set p (MO.lst [.int w,.int f]))[p]? = Ab (.lst [.int w,.int f]):=by simp[hpl]
  rfl';refine uZ e2 (d:=.int w) rfl ?_;rfl';refine uZ e2 (d:=.int w) rfl ?_;rfl';refine uZ e2 (d:=.int w) rfl ?_;rfl';exact fin _ _ _ (Hn _ om) (Fp _ hm.1)
theorem BA {x:Am}(q:∀ p S1,wD S1 p->Q (.loc p) S1):Ok (S__law_pen [.int x] S) Q:=by
 rw[jB];refine zO (env:=[Ab (.int x)]) rfl ?_;rfl';refine qO (d:=.int 1000000000000000000) rfl ?_;rfl';refine qO (d:=.int (b01 (decide (1000000000000000000<=x)))) rfl ?_;rfl';exact q _ _ ⟨_,_,jV _ _⟩
theorem B4 (nd:cl.Nodup){i j:Ai}{a b:Ad}(ha:cl[i]? = Ab a)(hb:cl[j]? = Ab b)(h:i≠j):(a == b)=false:=by
 rw[Hr];rintro rfl;obtain⟨h1,e1⟩:=AE.mp ha;obtain⟨h2,e2⟩:=AE.mp hb;exact h ((Im nd).mp (e1.trans e2.symm))
theorem B6 {C B:Ad}(hC:C∈cl)(hB:B∈cl)(q:Q (.bl (C == B)) S):Ok (zJ cl [.exn (.ref C),.obj B] S) Q:=by
 refine⟨_,_,?_,q⟩;show (if (cl.contains C&&cl.contains B)=true then Res.ok (D.bl (C == B)) S else .bad)=_
 rw[CK.mpr hC,CK.mpr hB];rfl
theorem B7 {C:Ad}(hC:C∈cl)(q:Q (.bl true) S):Ok (zJ cl [.exn (.ref C),.ty "ValueError"] S) Q:=by
 refine⟨_,_,?_,q⟩;show (if (cl.contains C&&(("ValueError" : Bk) == "ValueError"))=true then Res.ok (D.bl true) S else .bad)=_
 rw[CK.mpr hC];rfl
theorem B3 (nd:cl.Nodup){i j:Ai}{a b:Ad}(ha:cl[i]? = Ab a)(hb:cl[j]? = Ab b):decide (i=j)=(a == b):=by
 by_cases h:i=j
 .subst h
  cases ha.symm.trans hb;rw[AY rfl,Dh]
 .rw[AT h,B4 nd ha hb h]
theorem fJ (c:Cl)(nd:(zU c).Nodup)(S:Sto):S__law_kind_of c [.exn (.ref c.NoNumber)] S=.ok (.str "number") S:=by
 have s:∀ {Q:D->Sto->Prop} (j:Ai) {B:Ad},(zU c)[j]? = Ab B->Q (.bl (decide (2=j))) S->Ok (zJ (zU c) [.exn (.ref c.NoNumber),.obj B] S) Q:=λj B h q=>B6 (Cj (i:=2) rfl) (Cj h) (B3 nd (i:=2) rfl h▸q);rw[yJ];refine xV (zO (env:=[Ab (.exn (.ref c.NoNumber)),none,none]) rfl ?_);rfl';refine s 0 rfl ?_;rfl';refine s 1 rfl ?_;rfl';refine s 2 rfl ?_;rfl';refine s 3 rfl ?_;rfl';refine s 4 rfl ?_;rfl';refine s 5 rfl ?_;rfl';refine s 6 rfl ?_;rfl';refine s 7 rfl ?_;rfl';refine tM (DV rfl) ?_;rfl';refine s 8 rfl ?_;rfl';refine s 9 rfl ?_;rfl';refine s 10 rfl ?_;rfl';refine tM (DV rfl) ?_;rfl';refine fY ?_;rfl';refine B7 (Cj (i:=2) rfl) ?_;rfl';refine⟨(λe=>by cases e),λ_=>?_⟩
 rfl';refine qO (d:=.int 1) (S:=S) (by kernel_rfl!) ?_
 rfl';refine kK (λ_=>?_) λe=>absurd rfl e;rfl';refine s 9 rfl ?_;rfl';refine kK (λe=>absurd e (by decide)) λ_=>?_
 rfl';refine s 10 rfl ?_;rfl';refine kK (λe=>absurd e (by decide)) λ_=>?_
 rfl';refine qO (d:=.int 2) (S:=S) (by kernel_rfl!) ?_
 exact vI (d:=.str "number") rfl ⟨rfl,rfl⟩
noncomputable def sq (b:Aq)(ws:Aa D):D:=match b with
 |true=>.tup ws
 |false=>.lst ws
theorem Q3 (ws:Aa D):vD ws ws=ws.map λx=>D.tup [x,x]:=by
 induction ws with
 |nil=>rfl
 |cons w ws ih=>exact congrArg (D.tup [w,w]::·) ih
theorem tW (F:DF)(b:Aq)(ws:Aa D)(S:Sto)(hw:ws.length<=lim)(ih:∀ x∈ws,F [x,x] S=.ok (.bl true) S):qU 4 (b__law_same F) [sq b ws,sq b ws] S=.ok (.bl true) S:=by
 have t1:zP [sq b ws,.ty "list"] S=.ok (.bl (!b)) S:=by cases b <;> kernel_rfl!
 have t2:zP [sq b ws,.ty "tuple"] S=.ok (.bl b) S:=by cases b <;> kernel_rfl!
 have l:uJ [sq b ws] S=.ok (.int ws.length) S:=by cases b <;> rfl
 have n:∀ x:Aq,gNe (.bl x) (.bl x) S=.ok (.bl false) S:=λx=>by cases x <;> rfl
 have hz:Ok (dP (qA (qB 0) (qA (qB 1) (qC))) [Ab (sq b ws),Ab (sq b ws),none,none] S) λds S'=>ds=ws.map (λx=>D.tup [x,x])/\S'=S:=by
  rw[<- Q3];cases b <;> exact⟨_,_,rfl,rfl,rfl⟩
 refine xV (zO (env:=[Ab (sq b ws),Ab (sq b ws),none,none]) rfl ?_);rfl';refine qO (d:=.bl false) (S:=S) (by cases b <;> rfl) ?_
 rfl';refine zB (Q:=λd S'=>d=true/\S'=S) (fY ?_) ?_
 .rfl';refine qO t2 ?_
  rfl';refine⟨λe=>⟨rfl,rfl⟩,λe=>?_⟩;rfl';refine qO t1 ?_;rfl';rw[e];exact⟨rfl,rfl⟩
 rintro _ S ⟨rfl,rfl⟩;rfl';refine fY ?_;rfl';refine qO t2 ?_;rfl';refine qO t2 ?_;rfl';refine qO (n _) ?_;rfl';refine⟨(λe=>by cases e),λ_=>?_⟩
 rfl';refine qO t1 ?_;rfl';refine qO t1 ?_;rfl';refine qO (n _) ?_;rfl';refine qO l ?_;rfl';refine qO l ?_;rfl';refine kK (λ_=>?_) λe=>absurd rfl e;rfl';refine zB hz ?_;rintro _ S ⟨rfl,rfl⟩;refine xR (λxs env S'=>(∀ x∈xs,x∈ws)/\S'=S/\∃ a c,env=[Ab (sq b ws),Ab (sq b ws),a,c]) ?_ ?_ ⟨λ_ h=>h,rfl,_,_,rfl⟩
 .rintro x xs _ S ⟨hx,rfl,a,c,rfl⟩
  rfl';refine qO (ih x (hx x (.head _))) ?_;rfl';exact yN ⟨λy hy=>hx y (.tail _ hy),rfl,_,_,rfl⟩
 .rintro _ S ⟨_,rfl,a,c,rfl⟩
  rfl';exact⟨rfl,rfl⟩
theorem lV (F:DF){d:D}(S:Sto)(h1:gIs d .non S=.ok (.bl false) S)(h2:zP [d,.ty "tuple"] S=.ok (.bl false) S)(h2':zP [d,.ty "list"] S=.ok (.bl false) S)(h3:zP [d,.ty "str"] S=.ok (.bl false) S){b:Aq}(h4:zP [d,.ty "bool"] S=.ok (.bl b) S)(h5:zP [d,.ty "int"] S=.ok (.bl true) S)(h6:gEq d d S=.ok (.bl true) S):qU 4 (b__law_same F) [d,d] S=.ok (.bl true) S:=by
 refine xV (zO (env:=[Ab d,Ab d,none,none]) rfl ?_);rfl';refine qO h1 ?_;rfl';refine fY ?_;rfl';refine qO h2 ?_;rfl';refine⟨(λe=>by cases e),λ_=>?_⟩
 rfl';refine qO h2' ?_;rfl';refine qO h3 ?_;rfl';refine fX ?_;rfl';refine qO h4 ?_;rfl';refine qO h4 ?_;rfl';refine qO (d:=.bl true) (S:=S) (by cases b <;> rfl) ⟨_,rfl,λ_=>?_,λe=>by cases e⟩
 rfl';refine fX ?_;rfl';refine qO h5 ⟨_,rfl,λ_=>?_,λe=>by cases e⟩
 rfl';exact qO h6 ⟨rfl,rfl⟩
theorem tV (F:DF)(S:Sto):qU 4 (b__law_same F) [.non,.non] S=.ok (.bl true) S:=by
 refine xV (zO (env:=[Ab .non,Ab .non,none,none]) rfl ?_);rfl';refine qO (d:=.bl true) (S:=S) rfl ?_;rfl';exact qO (d:=.bl true) (S:=S) rfl ⟨rfl,rfl⟩
def okD:Ai->D->Prop
 |n+1,.tup xs=>xs.length<=lim/\∀ x∈xs,okD n x
 |n+1,.lst xs=>xs.length<=lim/\∀ x∈xs,okD n x
 |_,.int _=>Ht
 |_,.non=>Ht
 |_,_=>CF
theorem cE:∀ (n:Ai) (d:D) (S:Sto),okD n d->pF (n+1) [d,d] S=.ok (.bl true) S:=by
 intro n
 induction n with
 |zero =>
  intro d S h;cases d with
  |int i=>exact lV _ S rfl (by kernel_rfl!) (by kernel_rfl!) (by kernel_rfl!) (b:=false) (by kernel_rfl!) (by kernel_rfl!) (xV (J7 ⟨by rw[AY rfl],rfl⟩))
  |non=>exact tV _ S
  |_=>exact Al h
 |succ n ih =>
  intro d S h;cases d with
  |tup ws=>exact tW _ true ws S h.1 λx hx=>ih x S (h.2 x hx)
  |lst ws=>exact tW _ false ws S h.1 λx hx=>ih x S (h.2 x hx)
  |int i=>exact lV _ S rfl (by kernel_rfl!) (by kernel_rfl!) (by kernel_rfl!) (b:=false) (by kernel_rfl!) (by kernel_rfl!) (xV (J7 ⟨by rw[AY rfl],rfl⟩))
  |non=>exact tV _ S
  |_=>exact Al h
theorem KW (S:Sto)(h:okD 3 d):S__law_same [d,d] S=.ok (.bl true) S:=by
 rw[vS];exact cE 3 d S h
theorem Y5 (ns:Aa Am)(hl:ns.length<=63)(k:Am){Q:Aa D->Sto->Prop}{env:qH}{S:Sto}(h0:env[0]? = Ab (Ab (.lst (ns.map D.int))))(q:∀ ms:Aa Am,Q (ms.map D.int) S):Ok (yU (d2 x6 (zS (qA (qW 2 S__law_cell (qA (qB 0) (qA (dC (.int 0)) (qC)))) (qC))) (dSl (qB 0) (yV (dC (.int 1))) (yV (dC (.int k))))) env S) Q:=by
 have hc:∃ x:Am,S__law_cell [.lst (ns.map D.int),.int 0] S=.ok (.int x) S:=by
  rw[vQ];cases ns with
  |nil=>exact⟨0,xV (zO (env:=[Ab (.lst []),Ab (.int 0)]) rfl (by rfl';exact⟨rfl,rfl⟩))⟩
  |cons n ns =>
   refine⟨n,xV (zO (env:=[Ab (.lst ((n::ns).map D.int)),Ab (.int 0)]) rfl ?_)⟩;rfl';refine kK (λ_=>?_) λe=>absurd (by rw[AW,AV];omega) e
   rfl';exact vI (YZ (a:=0) (by simp)) ⟨rfl,rfl⟩
 obtain⟨x,hx⟩:=hc;refine W9 (o_2 (B9 (yY (eL (yY (o_v h0 ?_))))));rfl';refine qO hx ?_;rfl';refine o_v h0 ?_;rfl';have hm:yT (ns.map D.int) (Ab 1) (Ab k)=((ns.drop (_H.sIx (ns.map D.int).length 0 (Ab 1))).take (_H.sIx (ns.map D.int).length (ns.map D.int).length (Ab k)-_H.sIx (ns.map D.int).length 0 (Ab 1))).map D.int:=by
  unfold yT;rw[List.map_take,List.map_drop]
 rw[hm];refine tM ?_ ⟨_,rfl,q (x::_)⟩;rw[AW,Du,Gr];show 1+_<=lim;unfold lim;omega
def NoN (a b:Am)(d:D):Prop:=Pn d/\inR a b d=false
theorem nK {p:Ai}{a b:Am}(hab:0<=a/\a<=b/\b<=1000000000)(h:wD S p):Ok (S__law_no_number [.loc p,.int a,.int b] S) λd S1=>NoN a b d/\Kp p S S1:=by
 rw[wX];refine zO (env:=[Ab (.loc p),Ab (.int a),Ab (.int b),none]) rfl ?_;rfl';refine qO (d:=.int 100000000000000000000000000000) rfl ?_;rfl';refine qO (d:=.int 100000000000000000000000000000) rfl ?_;rfl';refine jO h li λw S1 k1 hw=>?_;rfl';refine B8 (show w<11 by lia) λd hd=>?_
 rfl';refine⟨?_,k1⟩;have io:∀ i:Am,¬ (a<=i/\i<=b)->NoN a b (.int i):=λi h=>⟨⟨.int i,rfl⟩,AT h⟩;simp only[A8,Cb,Eb] at hd;rcases hd with rfl|rfl|rfl|rfl|rfl|rfl|rfl|rfl|rfl|rfl|rfl
 .exact io _ li
 .exact io _ li
 .exact⟨⟨_,rfl⟩,rfl⟩
 .exact⟨⟨_,rfl⟩,rfl⟩
 .exact⟨⟨_,rfl⟩,rfl⟩
 .exact⟨⟨_,rfl⟩,rfl⟩
 .exact⟨⟨_,rfl⟩,rfl⟩
 .exact io _ li
 .exact io _ li
 .exact⟨⟨_,rfl⟩,rfl⟩
 .exact io _ li
abbrev Tb:=Aa (Am × Am)
variable {T:Tb}
noncomputable def kvT (T:Tb):Aa (_L.Key × D):=T.map λx=>(Gn x.1,D.int x.2)
noncomputable def bump:Tb->Am->Am->Tb
 |[],k,v=>[(k,v)]
 |x::T,k,v=>if x.1=k then (k,x.2+v)::T else x::bump T k v
noncomputable def at0:Tb->Am->Am
 |[],_=>0
 |x::T,k=>if x.1=k then x.2 else at0 T k
abbrev Nk (T:Tb):Prop:=(T.map (·.1)).Nodup
theorem cP:∀ (T:Tb) (k:Am),((zN (kvT T) (.inl k)).getD (.int 0))=.int (at0 T k)
 |[],_=>rfl
 |x::T,k=>by
  have ih:=cP T k;unfold kvT zN at ih ⊢;rw[AQ,D7,at0];by_cases h:x.1=k
  .rw[A0 h,AY (by rw[h])]
   rfl
  .rw[Aw h,AT (λz=>h (Go z))]
   exact ih
theorem aE {k:Am}(v:Am)(h:k ∉ T.map (·.1)):bump T k v=T++[(k,v)]/\at0 T k=0:=by
 induction T with
 |nil=>exact⟨rfl,rfl⟩
 |cons x T ih =>
  rw[AQ,A8,Nr] at h;obtain⟨i1,i2⟩:=ih h.2;rw[bump,at0,Aw (Cf h.1),Aw (Cf h.1),i1];exact⟨rfl,i2⟩
theorem ZH {k:Am}(v:Am)(n:Nk T)(h:k∈T.map (·.1)):bump T k v=T.map λx=>if x.1=k then (k,at0 T k+v) else x:=by
 induction T with
 |nil=>cases h
 |cons x T ih =>
  obtain⟨n1,n2⟩:=CO.mp n;rw[bump,AQ];by_cases e:x.1=k
  .rw[A0 e,A0 e]
   congr 1
   .rw[at0,A0 e]
   .conv=>lhs;rw[<- List.map_id T]
    refine Eo λy hy=>?_;rw[Aw]
    .rfl
    .intro z
     exact n1 (AZ.mpr ⟨y,hy,z.trans e.symm⟩)
  .rw[Aw e,Aw e,at0,Aw e]
   congr 1
   rw[AQ,A8] at h;exact ih n2 (h.resolve_left (Cf e))
theorem K6 (T:Tb)(n:Nk T)(k v:Am):v7 (kvT T) (.inl k) (.int (at0 T k+v))=kvT (bump T k v):=by
 unfold v7;by_cases h:k∈T.map (·.1)
 .rw[A0,ZH v n h]
  .unfold kvT
   rw[Dl,Dl];refine Eo λx _=>?_;show (if (Gn x.1:_L.Key)=.inl k then ((Gn x.1:_L.Key),D.int (at0 T k+v)) else (.inl x.1,.int x.2))=_
   by_cases e:x.1=k
   .subst e
    simp
   .rw[Aw (λz=>e (Go z))]
    simp[e]
  .obtain⟨x,hx,e⟩:=AZ.mp h
   exact Mm.mpr ⟨_,AZ.mpr ⟨x,hx,rfl⟩,AY (by rw[<- e])⟩
 .obtain⟨e1,e2⟩:=aE v h
  rw[Aw,e1,e2,L4]
  .unfold kvT
   rw[List.map_append];rfl
  .intro z
   obtain⟨y,hy,e⟩:=Mm.mp z;obtain⟨x,hx,rfl⟩:=AZ.mp hy;exact h (AZ.mpr ⟨x,hx,Go (AH e)⟩)
theorem mI {k j:Am}(h:j∈(bump T k v).map (·.1)):j=k\/j∈T.map (·.1):=by
 induction T with
 |nil=>exact .inl (by simpa [bump] using h)
 |cons x T ih =>
  rw[bump] at h
  split at h
  .rcases A8.mp h with h|h
   .exact .inl h
   .exact .inr (.tail _ h)
  .rcases A8.mp h with h|h
   .exact .inr (by rw[h];exact .head _)
   .rcases ih h with h|h
    .exact .inl h
    .exact .inr (.tail _ h)
set_option tactic.hygienic true in
theorem nQ {k:Am}(n:Nk T):Nk (bump T k v):=by
 induction T with
 |nil=>simp[bump,Nk]
 |cons x T ih =>
  obtain⟨n1,n2⟩:=CO.mp n;rw[bump]
  split
  .rename_i e
   exact CO.mpr ⟨e▸n1,n2⟩
  .rename_i e
   refine CO.mpr ⟨λh=>?_,ih n2⟩;rcases mI h with h|h
   .exact e h
   .exact n1 h
theorem kS (T:Tb)(k v:Am):(bump T k v).length<=T.length+1:=by
 induction T with
 |nil=>exact Au _
 |cons x T ih =>
  rw[bump]
  split
  .exact Fg _
  .exact Mn ih
theorem V0 {k u:Am}(h:k≠0):bump ((0,u)::T) k v=(0,u)::bump T k v:=by
 rw[bump,Aw (Cf h)]
structure Gd (n:Ai)(T:Tb):Prop where
 nk:Nk T
 pos:∀ x∈T,0<x.1
 len:T.length<=n
theorem Gd.bump {n:Ai}(g:Gd n T){k v:Am}(h:0<k):Gd (n+1) (bump T k v):=⟨nQ g.nk,λx hx=>by
 rcases mI (AZ.mpr ⟨x,hx,rfl⟩) with e|e
 .rw[e];exact h
 .obtain⟨y,hy,e⟩:=AZ.mp e
  rw[<- e];exact g.pos y hy,Bn (kS ..) (Mn g.len)⟩
theorem PC {n:Ai}(g:Gd n T)(u:Am):vN (kvT ((0,u)::T)) (.inl 0)=kvT T:=by
 unfold vN kvT;rw[AQ,EK,Aw (by simp),List.filter_eq_self]
 intro a ha;obtain⟨x,hx,rfl⟩:=AZ.mp ha;have:=g.pos x hx;refine AY λz=>?_;have:=Go z
 lia
noncomputable def trn (a b:Am):Am:=if 0<a/\0<b then 2 else 1
noncomputable def wt (w h a b:Am):Am:=trn a b*(w-a)*(h-b)
noncomputable def rise (a:Am)(n:Ai):Aa Am:=(DD n).map λ(i:Ai)=>a+(i:Am)
noncomputable def row (w h a:Am)(T:Tb)(bs:Aa Am):Tb:=bs.foldl (λT b=>bump T (a*a+b*b) (wt w h a b)) T
noncomputable def lo (a:Am):Am:=if a=0 then 1 else 0
noncomputable def vP (w h:Am)(T:Tb)(as:Aa Am):Tb:=as.foldl (λT a=>row w h a T (rise (lo a) (h-lo a).toNat)) T
noncomputable def jA (w h:Am)(T:Tb)(as:Aa Am):Tb:=as.foldl (λT a=>row w h a T (rise 0 h.toNat)) T
noncomputable def xH (w h:Ai):Tb:=vP w h [] (rise 0 w)
theorem cG {a b:Am}(ha:0<=a)(hb:0<=b)(h:a≠0\/b≠0):0<a*a+b*b:=by
 have h1:=Nn ha ha;have h2:=Nn hb hb;rcases h with h|h
 .have:=NW (show 0<a by lia) (show 0<a by lia)
  lia
 .have:=NW (show 0<b by lia) (show 0<b by lia)
  lia
theorem wA {a x:Am}{n:Ai}(h:x∈rise a n):a<=x/\x<a+n:=by
 obtain⟨i,hi,rfl⟩:=AZ.mp h;have:=Ej.mp hi
 lia
theorem w9 (a:Am)(n:Ai):(rise a n).length=n:=by
 unfold rise;rw[AW,List.length_range]
theorem sF {w h a uv:Am}:∀ {bs:Aa Am} {n:Ai} {T:Tb},Gd n T->(∀ b∈bs,0<a*a+b*b)->Gd (n+bs.length) (row w h a T bs)/\row w h a ((0,uv)::T) bs=(0,uv)::row w h a T bs
 |[],n,T,g,_=>⟨g,rfl⟩
 |b::bs,n,T,g,hb=>by
  have p:=hb b (.head _);obtain⟨i1,i2⟩:=sF (w:=w) (h:=h) (uv:=uv) (g.bump (v:=wt w h a b) p) λb h=>hb b (.tail _ h);refine⟨⟨i1.nk,i1.pos,?_⟩,?_⟩
  .have:=i1.len
   rw[AV];show (row w h a (bump T _ _) bs).length<=_
   lia
  .show row w h a (bump ((0,uv)::T) _ _) bs=_
   rw[V0 li,i2];rfl
theorem Z7 {w h uv:Am}:∀ {as:Aa Am} {n:Ai} {T:Tb},Gd n T->(∀ a∈as,0<a)->Gd (n+as.length*h.toNat) (vP w h T as)/\jA w h ((0,uv)::T) as=(0,uv)::vP w h T as
 |[],n,T,g,_=>⟨⟨g.nk,g.pos,Bn g.len (Ha ..)⟩,rfl⟩
 |a::as,n,T,g,ha=>by
  have p:=ha a (.head _);have e:lo a=0:=Aw li;obtain⟨r1,r2⟩:=sF (w:=w) (h:=h) (a:=a) (uv:=uv) (bs:=rise (lo a) (h-lo a).toNat) g λb hb=>cG li (by rw[e] at hb;exact(wA hb).1) (.inl li)
  obtain⟨i1,i2⟩:=Z7 (w:=w) (h:=h) (uv:=uv) r1 λa h=>ha a (.tail _ h);refine⟨⟨i1.nk,i1.pos,?_⟩,?_⟩
  .have:=i1.len
   rw[w9,e,Fw] at this;rw[AV,NY];show (vP w h (row w h a T (rise (lo a) (h-lo a).toNat)) as).length<=_;rw[e,Fw]
   lia
  .show jA w h (row w h a ((0,uv)::T) (rise 0 h.toNat)) as=_
   rw[e,Fw] at r2;rw[r2];rw[e,Fw] at i2;rw[i2];show _=(0,uv)::vP w h (row w h a T (rise (lo a) (h-lo a).toNat)) as;rw[e,Fw]
theorem cB (a:Am)(n:Ai):rise a (n+1)=a::rise (a+1) n:=by
 unfold rise;rw[IS,AQ,Dl]
 congr 1
 .show a+((0:Ai):Am)=a
  lia
 .refine Eo λi _=>?_
  show a+((i+1:Ai):Am)=a+1+i
  lia
theorem GE (w h:Ai):Gd ((w+1)*(h+1)) (xH (w+1) (h+1))/\jA (w+1:Ai) (h+1:Ai) [] (rise 0 (w+1))=(0,((w+1:Ai):Am)*((h+1:Ai):Am))::xH (w+1) (h+1):=by
 have e1:rise 0 (w+1)=0::rise 1 w:=cB 0 w;have e2:(((h+1:Ai):Am)-lo 0).toNat=h:=by show (((h+1:Ai):Am)-1).toNat=h;lia
 have e3:rise 0 (h+1)=0::rise 1 h:=cB 0 h;obtain⟨r1,r2⟩:=sF (w:=(w+1:Ai)) (h:=(h+1:Ai)) (a:=0) (uv:=((w+1:Ai):Am)*((h+1:Ai):Am)) (bs:=rise 1 h) (n:=0) (T:=[]) ⟨Jx,(λx hx=>by cases hx),Au _⟩ λb hb=>by
  have:=wA hb;exact cG li li (.inr li)
 obtain⟨i1,i2⟩:=Z7 (w:=(w+1:Ai)) (h:=(h+1:Ai)) (uv:=((w+1:Ai):Am)*((h+1:Ai):Am)) (as:=rise 1 w) r1 λa ha=>by
  have:=wA ha
  lia
 have et:xH (w+1) (h+1)=vP (w+1:Ai) (h+1:Ai) (row (w+1:Ai) (h+1:Ai) 0 [] (rise 1 h)) (rise 1 w):=by
  unfold xH;rw[e1];show vP _ _ (row (w+1:Ai) (h+1:Ai) 0 [] (rise (lo 0) (((h+1:Ai):Am)-lo 0).toNat)) _=_;rw[e2];rfl
 refine⟨?_,?_⟩
 .rw[et]
  refine⟨i1.nk,i1.pos,Bn i1.len ?_⟩;rw[w9,w9,D9,NY]
  lia
 .rw[e1,et,<- i2]
  show jA _ _ (row (w+1:Ai) (h+1:Ai) 0 [] (rise 0 (((h+1:Ai):Am).toNat))) _=_;rw[D9,e3];show jA _ _ (row (w+1:Ai) (h+1:Ai) 0 [(0*0+0*0,wt (w+1:Ai) (h+1:Ai) 0 0)] (rise 1 h)) _=_;have e4:wt (w+1:Ai) (h+1:Ai) 0 0=((w+1:Ai):Am)*((h+1:Ai):Am):=by
   unfold wt trn;rw[Aw li];simp
  rw[e4];exact congrArg (λT=>jA _ _ T (rise 1 w)) r2
theorem sN {kvs:Aa (_L.Key × D)}(h:S[j]? = Ab (.dct kvs)):tyD (.loc j) S=Ab "dict":=by
 show (match S[j]? with|some (.lst _)=>Ab "list" | some (.dct _)=>Ab "dict" | _=>none)=_
 rw[h]
theorem eM {k:Am}(h:S[j]? = Ab (.dct (kvT T)))(q:Q (.int (at0 T k)) S):Ok (jK (.loc j) [.int k,.int 0] S) Q:=by
 refine⟨_,_,?_,q⟩;show (match S[j]? with|some (.dct kvs)=>(match xN (.int k) with|some k=>Res.ok ((zN kvs k).getD (.int 0)) S|none=>.bad)|_=>.bad)=_
 rw[h];show Res.ok ((zN (kvT T) (.inl k)).getD (.int 0)) S=_;rw[cP]
theorem gF (n:Ai):((DD n).map λ(i:Ai)=>D.int (i:Am))=(rise 0 n).map D.int:=by
 unfold rise;rw[Dl];refine Eo λi _=>?_;show D.int i=D.int (0+(i:Am));rw[L4]
theorem KY {a b:Am}(h : -1000<=a/\a<=1000 /\ -1000<=b/\b<=1000):j8 [.int a,.int b]=Ab ((rise a (b-a).toNat).map D.int):=by
 rw[Z5];show (if -(2 ^ 62)<=a/\a<2 ^ 62 /\ -(2 ^ 62)<=b/\b<2 ^ 62 then Ab (x8 a (b-a).toNat) else none)=_
 rw[A0 li];unfold x8 rise;rw[Dl];rfl
theorem W6 {w h a b:Am}(hw:0<=w/\w<=1000/\0<=a/\a<=1000)(q:Q (.int (wt w h a b)) S):Ok (S_pairs_apart [.int w,.int h,.int a,.int b] S) Q:=by
 rw[yS];refine zO (env:=[Ab (.int w),Ab (.int h),Ab (.int a),Ab (.int b),none]) rfl ?_;array_get_dec;array_get_dec;refine zB (Q:=λd S'=>d=.int (trn a b)/\S'=S) ?_ ?_
 .refine J8 (J2 ?_)
  rfl';refine⟨λha=>?_,λha=>⟨(λe=>by cases e),λ_=>?_⟩⟩
  .rfl'
   refine⟨λhb=>?_,λhb=>?_⟩
   .rfl';exact⟨by unfold trn;rw[A0 ⟨AH ha,AH hb⟩],rfl⟩
   .rfl';exact⟨by unfold trn;rw[Aw (λz=>D1 hb z.2)],rfl⟩
  .rfl';exact⟨by unfold trn;rw[Aw (λz=>D1 ha z.1)],rfl⟩
 .rintro _ _ ⟨rfl,rfl⟩
  unfold wt at q;have ht:trn a b=1\/trn a b=2:=by unfold trn;split <;> simp
  rcases ht with ht|ht
  .rw[ht] at q ⊢
   rfl';exact q
  .rw[ht] at q ⊢
   rfl';exact q
structure Kt (S:Sto)(T:Tb)(S':Sto):Prop where
 dc:S'[S.length]? = Ab (.dct (kvT T))
 nk:Nk T
 pre:∀ m,m<S.length->S'[m]? = S[m]?
theorem Kt.put {S':Sto}(g:Kt S T S')(k v:Am):Kt S (bump T k v) (S'.set S.length (.dct (v7 (kvT T) (.inl k) (.int (at0 T k+v))))):=by
 have hlt:=(AE.mp g.dc).1;refine⟨?_,nQ g.nk,λm hm=>?_⟩
 .rw[By hlt,K6 T g.nk]
 .rw[Bs li]
  exact g.pre m hm
theorem p5 (T:Tb):(kvT T).length=T.length:=AW _
theorem Kt.pf {S':Sto}(g:Kt S T S'):S<+:S':=K3 g.pre
theorem lM (w h:Ai){W H:Am}(eW:W=(w:Am))(eH:H=(h:Am))(hw:0<=W/\W<=200)(hh:0<=H/\H<=200)(q:∀ S',Kt S (xH w h) S'->Q (.loc S.length) S'):Ok (S_grid_table [.int W,.int H] S) Q:=by
 have e0:vP W H [] (rise 0 W.toNat)=xH w h:=by rw[eW,eH,D9];rfl
 generalize xH w h=G at *;clear eW eH;rw[vE];refine zO (env:=[Ab (.int W),Ab (.int H),none,none,none,none]) rfl ?_;rfl';refine⟨by lia,by lia,?_⟩
 rw[gF];refine xR (λas env S'=>∃ e3 e4 e5 T,env=[Ab (.int W),Ab (.int H),Ab (.loc S.length),e3,e4,e5]/\Kt S T S'/\vP W H T as=G/\T.length+as.length*200<=40000/\∀ a∈as,0<=a/\a<W) ?_ ?_ ⟨_,_,_,[],rfl,⟨jV _ _,Jx,λm hm=>Be hm⟩,e0,by rw[w9];simp;lia,λa ha=>by have:=wA ha;lia⟩
 .rintro a as _ S' ⟨e3,e4,e5,T,rfl,g,ht,hl,ha⟩
  have ha0:=ha a (.head _);have hlo:lo a=0\/lo a=1:=by unfold lo;split <;> simp
  array_get_dec;refine ZC (QZ (yY ?_));refine zB (Q:=λd S''=>d=.int (lo a)/\S''=S') ?_ ?_
  .refine J8 ?_
   rfl';refine⟨λz=>?_,λz=>?_⟩
   .rfl';exact⟨by unfold lo;rw[A0 (AH z)],rfl⟩
   .rfl';exact⟨by unfold lo;rw[Aw (D1 z)],rfl⟩
  rintro _ S' ⟨rfl,rfl⟩;rfl';refine⟨_,KY li,?_⟩;refine xR (λbs env S'=>∃ e4 e5 T',env=[Ab (.int W),Ab (.int H),Ab (.loc S.length),Ab (.int a),e4,e5]/\Kt S T' S'/\row W H a T' bs=row W H a T (rise (lo a) (H-lo a).toNat)/\T'.length+bs.length+as.length*200<=40000/\∀ b∈bs,0<=b/\b<H) ?_ ?_ ⟨_,_,T,rfl,g,rfl,by rw[w9];rw[AV] at hl;lia,λb hb=>by have:=wA hb;lia⟩
  .rintro b bs _ S2 ⟨e4,e5,T',rfl,g',hr,hl',hb⟩
   have hb0:=hb b (.head _);rw[AV] at hl';rfl';refine⟨sN g'.dc,?_⟩;rfl';refine eM g'.dc ?_;rfl';refine W6 li ?_;rfl';refine eN g'.dc (by rw[p5];unfold lim;lia) ?_
   have:=kS T' (a*a+b*b) (wt W H a b);exact yN ⟨_,_,_,rfl,g'.put _ _,hr,by lia,λb h=>hb b (.tail _ h)⟩
  .rintro _ S2 ⟨e4,e5,T',rfl,g',hr,hl',_⟩
   rw[show row W H a T' [] = T' from rfl] at hr
   refine yN ⟨_,_,_,T',rfl,g',?_,by simpa using hl',λa h=>ha a (.tail _ h)⟩
   rw[hr];exact ht
 .rintro _ S' ⟨e3,e4,e5,T,rfl,g,ht,_,_⟩
  rw[show vP W H T [] = T from rfl] at ht
  subst ht;rfl';exact q S' g
theorem JC {n:Ai}{u:Am}(g:Gd n T)(h:S[j]? = Ab (.dct (kvT ((0,u)::T))))(q:Q (.int u) (S.set j (.dct (kvT T)))):Ok (uL (.loc j) [.int 0] S) Q:=by
 refine⟨_,_,?_,q⟩;show (match S[j]? with|some (.dct kvs)=>(match xN (.int 0) with|some k=>(match zN kvs k with|some d=>Res.ok d (S.set j (.dct (vN kvs k)))|none=>.bad)|none=>.bad)|_=>.bad)=_
 rw[h];show Res.ok (D.int u) (S.set j (.dct (vN (kvT ((0,u)::T)) (.inl 0))))=_;rw[PC g]
theorem oE (w h:Ai){W H:Am}(eW:W=(w+1:Ai))(eH:H=(h+1:Ai))(hw:0<=W/\W<=200)(hh:0<=H/\H<=200)(q:∀ S',Kt S (xH (w+1) (h+1)) S'->Q (.loc S.length) S'):Ok (S__law_counts [.int W,.int H] S) Q:=by
 obtain⟨gd,et⟩:=GE w h;rw[<- eW,<- eH,show w+1=W.toNat by lia] at et
 generalize W*H=u at et;rw[<- show w+1=W.toNat by lia] at et
 generalize xH (w+1) (h+1)=G at *;have et:jA W H [] (rise 0 W.toNat)=(0,u)::G:=by rw[eW,D9,<- eW];exact et
 clear eW eH;rw[yR];refine zO (env:=[Ab (.int W),Ab (.int H),none,none,none,none]) rfl ?_;rfl';refine⟨by lia,by lia,?_⟩
 rw[gF];refine xR (λas env S'=>∃ e3 e4 e5 T,env=[Ab (.int W),Ab (.int H),Ab (.loc S.length),e3,e4,e5]/\Kt S T S'/\jA W H T as=(0,u)::G/\T.length+as.length*200<=40000/\∀ a∈as,0<=a/\a<W) ?_ ?_ ⟨_,_,_,[],rfl,⟨jV _ _,Jx,λm hm=>Be hm⟩,et,by rw[w9];simp;lia,λa ha=>by have:=wA ha;lia⟩
 .rintro a as _ S' ⟨e3,e4,e5,T,rfl,g,ht,hl,ha⟩
  have ha0:=ha a (.head _);rfl';refine⟨by lia,by lia,?_⟩
  rw[gF];refine xR (λbs env S'=>∃ e4 e5 T',env=[Ab (.int W),Ab (.int H),Ab (.loc S.length),Ab (.int a),e4,e5]/\Kt S T' S'/\row W H a T' bs=row W H a T (rise 0 H.toNat)/\T'.length+bs.length+as.length*200<=40000/\∀ b∈bs,0<=b/\b<H) ?_ ?_ ⟨_,_,T,rfl,g,rfl,by rw[w9];rw[AV] at hl;lia,λb hb=>by have:=wA hb;lia⟩
  .rintro b bs _ S2 ⟨e4,e5,T',rfl,g',hr,hl',hb⟩
   have hb0:=hb b (.head _);rw[AV] at hl';have ht:trn a b=1\/trn a b=2:=by unfold trn;split <;> simp
   rfl';refine⟨sN g'.dc,?_⟩;rfl';refine eM g'.dc ?_;rfl';refine zB (Q:=λd S''=>d=.bl (decide (0<a/\0<b))/\S''=S2) (fX ?_) ?_
   .rfl'
    refine⟨λz=>?_,λz=>?_⟩
    .rfl'
     exact⟨by have:=AH z;simp[this],rfl⟩
    .have:=D1 z
     exact⟨by simp[this],rfl⟩
   rintro _ S2 ⟨rfl,rfl⟩;rfl';refine qO (d:=.int (b01 (decide (0<a/\0<b)))) rfl ?_;refine vI (d:=.int (trn a b)) (by
    unfold trn;by_cases z:0<a/\0<b
    .rw[AY z,A0 z];rfl
    .rw[AT z,Aw z];rfl) ?_
   refine JA li ?_;rfl';rw[show (W-a)*(H-b)*trn a b=wt W H a b by unfold wt;rw[Int.mul_comm,Int.mul_assoc]]
   refine eN g'.dc (by rw[p5];unfold lim;lia) ?_
   have:=kS T' (a*a+b*b) (wt W H a b);exact yN ⟨_,_,_,rfl,g'.put _ _,hr,by lia,λb h=>hb b (.tail _ h)⟩
  .rintro _ S2 ⟨e4,e5,T',rfl,g',hr,hl',_⟩
   rw[show row W H a T' [] = T' from rfl] at hr
   refine yN ⟨_,_,_,T',rfl,g',?_,by simpa using hl',λa h=>ha a (.tail _ h)⟩
   rw[hr];exact ht
 .rintro _ S' ⟨e3,e4,e5,T,rfl,g,ht,_,_⟩
  rw[show jA W H T [] = T from rfl] at ht
  subst ht;have hlt:=(AE.mp g.dc).1;rfl';refine⟨sN g.dc,?_⟩;rfl';refine JC gd g.dc ?_;rfl';refine q _ ⟨by rw[By hlt],gd.nk,λm hm=>?_⟩
  rw[Bs li];exact g.pre m hm
noncomputable def rwD (x:Am × Am):D:=.tup [.int x.1,.int x.2]
inductive IsBest (T:Tb)(d:D):Prop
 |no (h:T=[]) (e:d=.non):IsBest T d
 |of (x:Am × Am) (m:x∈T) (e:d=rwD x) (h1:∀ y∈T,y.2<=x.2) (h2:∀ y∈T,y.1<x.1->y.2<x.2):IsBest T d
theorem IsBest.uniq {d':D}(a:IsBest T d)(b:IsBest T d'):d=d':=by
 cases a with
 |no h e =>
  cases b with
  |no h' e'=>rw[e,e']
  |of x m=>rw[h] at m;cases m
 |of x m e h1 h2 =>
  cases b with
  |no h=>rw[h] at m;cases m
  |of x' m' e' h1' h2' =>
   have a1:=h1 x' m';have a2:=h1' x m;have a3:x.1=x'.1:=by
    rcases Int.lt_trichotomy x.1 x'.1 with z|z|z
    .have:=h2' x m z;lia
    .exact z
    .have:=h2 x' m' z;lia
   rw[e,e'];unfold rwD;rw[a3,show x.2=x'.2 by lia]
theorem UT {x y:Am × Am}(h:x.1<y.1):ltN (rwD y) (rwD x)=false:=by
 show _H.lexLt [2,1,y.1,1,y.2,0] [2,1,x.1,1,x.2,0]=false;simp only[_H.lexLt_cons,Ca];rw[Aw li];exact AT li
theorem BX {x y:Am × Am}(h:ltN (rwD x) (rwD y)=false):¬ x.1<y.1:=by
 have h':_H.lexLt [2,1,x.1,1,x.2,0] [2,1,y.1,1,y.2,0]=false:=h;simp only[_H.lexLt_cons,Ca] at h';intro z;rw[Aw li] at h';exact D1 h' z
theorem G8 (n:Nk T):∃ U:Tb,U.Perm T/\U.Pairwise (λx y=>x.1<y.1)/\gH (T.map rwD)=U.map rwD:=by
 have hp:=Kw T (λx y=>decide (x.1<=y.1));have hs:(T.mergeSort (λx y=>decide (x.1<=y.1))).Pairwise λx y=>decide (x.1<=y.1)=true:=Fx (by simp;lia) (by simp;lia) T
 generalize T.mergeSort (λx y=>decide (x.1<=y.1))=U at hp hs;have nu:Nk U:=(hp.map (·.1)).nodup_iff.mpr n
 have hu:U.Pairwise (λx y=>x.1<y.1):=by
  unfold Nk at nu;rw[List.Nodup,EC] at nu;refine(List.pairwise_and_iff.mpr ⟨hs,nu⟩).imp λ{a b} ⟨h1,h2⟩=>?_;have:=AH h1
  lia
 refine⟨U,hp,hu,YA (n:=6) (λx hx=>?_) (hp.map _) ?_⟩
 .obtain⟨y,_,rfl⟩:=AZ.mp hx
  exact Z8 (show trb 6 (rwD y)=true from rfl)
 .rw[EC]
  exact hu.imp λh=>UT h
theorem bV (kf:Ai->Am):∀ k,Bc (gtK kf) k<=k/\(∀ j,j<=k->kf j<=kf (Bc (gtK kf) k))/\∀ j,j<Bc (gtK kf) k->kf j<kf (Bc (gtK kf) k)
 |0=>⟨Au _,λj hj=>by
   have:j=0:=by omega
   subst this;exact DU _,λj hj=>absurd hj (by show ¬ j<0;omega)⟩
 |k+1=>by
  obtain⟨h1,h2,h3⟩:=bV kf k;rw[Bc];cases hb:gtK kf (k+1) (Bc (gtK kf) k) with
  |true =>
   have hb':kf (Bc (gtK kf) k)<kf (k+1):=AH hb;rw[A0 rfl];refine⟨Au _,λj hj=>?_,λj hj=>?_⟩
   .by_cases e:j=k+1
    .subst e;exact DU _
    .have:=h2 j om;omega
   .have:=h2 j om;omega
  |false =>
   have hb':¬ kf (Bc (gtK kf) k)<kf (k+1):=D1 hb;rw[Aw (by simp)]
   refine⟨by omega,λj hj=>?_,h3⟩
   by_cases e:j=k+1
   .subst e;omega
   .exact h2 j om
theorem lA:∀ U:Tb,wM 1 (U.map rwD)=Ab (U.map (·.2))
 |[]=>rfl
 |x::U=>by
  have h1:jM 1 (rwD x)=Ab x.2:=rfl;rw[AQ];unfold wM;rw[h1,lA U];rfl
theorem B0 {U:Tb}(hp:U.Perm T)(hu:U.Pairwise (λx y=>x.1<y.1)):IsBest T (g9 (U.map (·.2)) (U.map rwD)):=by
 by_cases h:U=[]
 .subst h
  exact .no hp.symm.eq_nil rfl
 have hl:=List.length_pos_iff.mpr h;have key:=bV (λi=>(U.map (·.2)).getD i 0) (U.length-1)
 have hm:(g9 (U.map (·.2)) (U.map rwD))=(U.map rwD).getD (Bc (gtK λi=>(U.map (·.2)).getD i 0) (U.length-1)) .non:=by
  unfold g9;rw[AW]
 rw[hm];generalize Bc (gtK λi=>(U.map (·.2)).getD i 0) (U.length-1)=m at key
 obtain⟨k1,k2,k3⟩:=key;have hml:m<U.length:=by omega
 have kf:∀ j (hj:j<U.length),(U.map (·.2)).getD j 0=U[j].2:=λj hj=>by
  rw[Cy,CV,Ao hj];rfl
 refine .of U[m] (hp.mem_iff.mp (DM hml)) ?_ (λy hy=>?_) λy hy hb=>?_
 .rw[Cy,CV,Ao hml];rfl
 .obtain⟨j,hj,rfl⟩:=Bl.mp (hp.mem_iff.mpr hy)
  have:=k2 j om;rw[kf j hj,kf m hml] at this;exact this
 .obtain⟨j,hj,rfl⟩:=Bl.mp (hp.mem_iff.mpr hy)
  have hjm:j<m:=by
   rcases Nat.lt_trichotomy j m with z|z|z
   .exact z
   .subst z;lia
   .have:=Ee.mp hu m j hml hj z
    lia
  have:=k3 j hjm;rw[kf j hj,kf m hml] at this;exact this
theorem UG (T:Tb):xX (kvT T)=T.map rwD:=by
 unfold xX kvT;rw[Dl];rfl
theorem lL (c:Cl){W H:Am}{S:Sto}(hw:1<=W/\W<=200)(hh:1<=H/\H<=200)(q:Q .non S):Ok (S_need_sides c [.int W,.int H,.int 200] S) Q:=by
 rw[wF];refine zO (env:=[Ab (.int W),Ab (.int H),Ab (.int 200)]) rfl ?_;rfl';refine qO (bD c S hw) ?_;rfl';refine qO (bD c S hh) ?_;exact q
theorem J9 (c:Cl){S:Sto}(w h:Ai){W H:Am}(eW:W=(w:Am))(eH:H=(h:Am))(hw:1<=W/\W<=200)(hh:1<=H/\H<=200)(q:∀ S',S<+:S'->Q (.int (xH w h).length) S'):Ok (S_many_grid c [.int W,.int H] S) Q:=by
 rw[y6];refine zO (env:=[Ab (.int W),Ab (.int H)]) rfl ?_;rfl';refine lL c hw hh ?_;rfl';refine lM w h eW eH li li λS' g=>?_;rfl';refine qO (d:=.int (xH w h).length) (S:=S') ?_ ?_
 .show (match tI (.loc S.length) S' with|some n=>Res.ok (D.int n) S'|none=>.bad)=_
  have:tI (.loc S.length) S'=Ab (xH w h).length:=by
   show (match S'[S.length]? with|some (.dct kvs)=>Ab kvs.length|_=>none)=_
   rw[g.dc];show Ab (kvT _).length=_;rw[p5]
  rw[this]
 .rfl'
  exact q S' g.pf
theorem W8 (c:Cl){S:Sto}(w h:Ai){W H:Am}(eW:W=(w:Am))(eH:H=(h:Am))(hw:1<=W/\W<=200)(hh:1<=H/\H<=200)(hl:(xH w h).length<=40000)(q:∀ d S',S<+:S'->IsBest (xH w h) d->Q d S'):Ok (S_greatest_often c [.int W,.int H] S) Q:=by
 rw[xG];refine zO (env:=[Ab (.int W),Ab (.int H),none]) rfl ?_;rfl';refine lL c hw hh ?_;rfl';refine qQ ?_;rfl';refine lM w h eW eH li li λS' g=>?_;obtain⟨U,u1,u2,u3⟩:=G8 g.nk;refine qO (d:=.loc S'.length) (S:=S'++[.lst (U.map rwD)]) ?_ ?_
 .rw[V9 g.dc]
  show (if (decide ((xX (kvT (xH w h))).length<=100000)&&sOk (xX (kvT (xH w h))))=true then _ else _)=_
  rw[UG,A0,u3];rw[AW,AY li,Bool.true_and];refine AJ.mpr λx hx=>?_;obtain⟨y,_,rfl⟩:=AZ.mp hx;rw[Az];refine⟨rfl,AJ.mpr λx hx=>?_⟩;obtain⟨z,_,rfl⟩:=AZ.mp hx;rfl
 .rfl'
  refine qQ ?_;rfl';refine qO (d:=g9 (U.map (·.2)) (U.map rwD)) (S:=S'++[.lst (U.map rwD)]) ?_ ?_
  .show (match lsD (.loc S'.length) (S'++[MO.lst (U.map rwD)]) with|some xs=>(match wM 1 xs with|some ns=>Res.ok (g9 ns xs) (S'++[MO.lst (U.map rwD)])|none=>.bad)|_=>.bad)=_
   have:lsD (.loc S'.length) (S'++[MO.lst (U.map rwD)])=Ab (U.map rwD):=by
    show (match (S'++[MO.lst (U.map rwD)])[S'.length]? with|some (.lst xs)=>Ab xs|_=>none)=_
    rw[jV]
   rw[this];dsimp only;rw[lA]
  .exact q _ _ (g.pf.trans (Fn ..)) (B0 u1 u2)
theorem mZ:∀ (ns:Aa Am) (i:Am),(ns.foldl max i∈i::ns)/\∀ y∈i::ns,y<=ns.foldl max i
 |[],i=>⟨.head _,λy hy=>by rw[CA.mp hy];exact DU _⟩
 |n::ns,i=>by
  obtain⟨h1,h2⟩:=mZ ns (max i n);have hm:max i n<=(n::ns).foldl max i:=h2 _ (.head _);refine⟨?_,λy hy=>?_⟩
  .show ns.foldl max (max i n)∈_
   rcases A8.mp h1 with e|e
   .rw[e]
    rcases NO i n with z|z
    .rw[Md z];exact .tail _ (.head _)
    .rw[Mv z];exact .head _
   .exact .tail _ (.tail _ e)
  .rcases A8.mp hy with e|hy
   .rw[e]
    exact Cd (Mw i n) hm
   .rcases A8.mp hy with e|hy
    .rw[e]
     exact Cd (Me i n) hm
    .exact h2 y (.tail _ hy)
noncomputable def xI (T:Tb):Am:=match T.map (·.2) with
 |[]=>0
 |i::ns=>ns.foldl max i
theorem GF (h:T≠[]):(∃ x∈T,x.2=xI T)/\∀ y∈T,y.2<=xI T:=by
 unfold xI;cases T with
 |nil=>exact absurd rfl h
 |cons x T =>
  obtain⟨h1,h2⟩:=mZ (T.map (·.2)) x.2
  refine⟨?_,λy hy=>h2 _ (AZ.mpr ⟨y,hy,rfl⟩)⟩;obtain⟨y,hy,e⟩:=AZ.mp (show _∈(x::T).map (·.2) from h1)
  exact⟨y,hy,e⟩
noncomputable def fdT (T:Tb):D:=.fd ((kvT T).map (·.1)) ((kvT T).map (·.2))
theorem cV {α β:Type}:∀ l:Aa (α × β),(l.map (·.1)).zip (l.map (·.2))=l
 |[]=>rfl
 |x::l=>by rw[AQ,AQ,Ex,cV l]
theorem GM (n:Nk T){x:Am × Am}(h:x∈T):zN (kvT T) (.inl x.1)=Ab (.int x.2):=by
 induction T with
 |nil=>cases h
 |cons y T ih =>
  obtain⟨n1,n2⟩:=CO.mp n;unfold zN kvT;rw[AQ,D7];rcases A8.mp h with rfl|h
  .rw[AY rfl]
   rfl
  .rw[AT]
   .exact ih n2 h
   .intro z
    exact n1 (AZ.mpr ⟨x,h,(Go z).symm⟩)
theorem QN (n:Nk T){x:Am × Am}(h:x∈T)(S:Sto):y8 (fdT T) (.int x.1) S=.ok (.int x.2) S:=by
 show (match zN (((kvT T).map (·.1)).zip ((kvT T).map (·.2))) (.inl x.1) with|some d=>Res.ok d S|none=>.bad)=_
 rw[cV,GM n h]
theorem BB {i:Ai}(e:env[i]? = Ab (Ab (fdT T)))(q:Q (.int (xI T)) S):Ok (gO (qA (vV (qB i)) (qC)) (dC (.int 0)) env S) Q:=by
 refine⟨_,_,?_,q⟩;have h1:vV (qB i) env S=.ok (.lst ((kvT T).map (·.2))) S:=by
  unfold vV;rw[nD e];rfl
 unfold gO;rw[mR h1];show mxD [.lst ((kvT T).map (·.2))] (.int 0) S=_
 have h2:(kvT T).map (·.2)=(T.map (·.2)).map D.int:=by
  unfold kvT;rw[Dl,Dl];rfl
 rw[h2];unfold xI;cases T.map (·.2) with
 |nil=>rfl
 |cons a l =>
  show (match uO ((a::l).map D.int) with|some [] => Res.ok (D.int 0) S|some (i::ns)=>.ok (.int (ns.foldl max i)) S|none=>.bad)=_
  rw[rT]
theorem J3 (n:Nk T)(hl:T.length<=40000)(e:env[6]? = Ab (Ab (fdT T)))(e7:env[7]? = Ab (Ab (.int (xI T))))(q:∀ d,IsBest T d->Q d S):Ok (fQ (qA (wJ false [none,Ab 6,Ab 7] (uV (jX (qB 6))) (gNm 0) (wI (dTr (d2 gEq (d2 y8 (qB 1) (qB 0)) (qB 2))) (pS)) (wL (w8 (qA (qB 0) (qA (d2 y8 (qB 1) (qB 0)) (qC)))))) (qC)) (dC .non) env S) Q:=by
 have hc:wJ false [none,Ab 6,Ab 7] (uV (jX (qB 6))) (gNm 0) (wI (dTr (d2 gEq (d2 y8 (qB 1) (qB 0)) (qB 2))) (pS)) (wL (w8 (qA (qB 0) (qA (d2 y8 (qB 1) (qB 0)) (qC))))) env S=.ok (.lst ((T.filter λx=>decide (x.2=xI T)).map rwD)) S:=by
  refine ZM (xs:=T) (enc:=λx=>D.int x.1) (o:=none) ?_ trivial (λx=>decide (x.2=xI T)) rwD (λenv=>∃ a,env=[a,Ab (fdT T),Ab (.int (xI T))]) ⟨none,?_⟩ (by unfold lim;lia) λx hx env ⟨a,e⟩=>?_
  .unfold uV jX
   rw[nD e];show Res.ok (none,((kvT T).map (·.1)).map kD) S=_
   unfold kvT;rw[Dl,Dl];rfl
  .show [none,(env[6]?).join,(env[7]?).join]=_
   rw[e,e7];rfl
  .subst e
   refine⟨_,rfl,⟨_,rfl⟩,?_,λ_=>xV ?_⟩
   .have:d2 gEq (d2 y8 (qB 1) (qB 0)) (qB 2) [Ab (.int x.1),Ab (fdT T),Ab (.int (xI T))] S=.ok (.bl (decide (x.2=xI T))) S:=xV (by
     rfl';refine qO (QN n hx S) ?_;rfl';exact rfl)
    show wI (dTr (d2 gEq (d2 y8 (qB 1) (qB 0)) (qB 2))) pS [Ab (.int x.1),Ab (fdT T),Ab (.int (xI T))] S=_;unfold wI;rw[F2 this];cases decide (x.2=xI T) <;> rfl
   .rfl'
    refine qO (QN n hx S) ?_;rfl';exact rfl
 refine qQ (qO (mR hc) (qQ (qO (d:=D.non) (S:=S) rfl ?_)));by_cases h:T=[]
 .subst h
  exact qO (d:=.non) (S:=S) rfl (q _ (.no rfl rfl))
 .obtain⟨⟨x,hx,ex⟩,ht⟩:=GF h
  have hm:x∈T.filter λx=>decide (x.2=xI T):=EY.mpr ⟨hx,AY ex⟩;obtain⟨l,el⟩:∃ l,l=(T.filter λx=>decide (x.2=xI T)).map rwD:=⟨_,rfl⟩;rw[<- el];have hp:0<l.length:=by rw[el,AW];exact List.length_pos_of_mem hm
  obtain⟨s1,s2⟩:=eE hp;have hok:mOk l=true:=by
   rw[el];refine AJ.mpr λx hx=>?_;obtain⟨y,_,rfl⟩:=AZ.mp hx;rw[Az];refine⟨rfl,AJ.mpr λx hx=>?_⟩;obtain⟨z,_,rfl⟩:=AZ.mp hx;rfl
  have hr:mnD [.lst l] .non S=.ok (bA l) S:=by
   cases l with
   |nil=>cases hp
   |cons a l=>exact A0 hok
  refine qO hr (q _ ?_);obtain⟨z,hz,ez⟩:=AZ.mp (show bA l∈(T.filter λx=>decide (x.2=xI T)).map rwD by rw[<- el];exact s1)
  obtain⟨hz1,hz2⟩:=EY.mp hz;have hz2:z.2=xI T:=AH hz2;refine .of z hz1 ez.symm (λy hy=>by rw[hz2];exact ht y hy) λy hy hlt=>?_
  have hle:=ht y hy;rcases Int.lt_or_eq_of_le hle with w|w
  .lia
  .exfalso
   have:=s2 (rwD y) (by rw[el];exact AZ.mpr ⟨y,EY.mpr ⟨hy,AY w⟩,rfl⟩)
   rw[<- ez] at this;exact BX this hlt
abbrev GO (c:Cl):Aa (Ai × DF):=[(2,S_many_grid c),(2,S_greatest_often c)]
theorem cI (Fs:Aa (Ai × DF))(F:DF)(k:Am)(a b:D)(S:Sto)(h:_L.atI Fs k=Ab (2,F)):kX Fs (qB 0) (qA (qB 1) (qA (qB 2) (qC))) [Ab (.int k),Ab a,Ab b,none] S=F [a,b] S:=by
 simp only[kX,qB,qA,qC,List.getElem?_cons_zero,IE,Res.bind,h,AV,D8,Ca]
theorem nS (c:Cl)(k:Am){a b:D}{S:Sto}{F:DF}(hk:_L.atI (GO c) k=Ab (2,F))(h:Ok (F [a,b] S) Q):Ok (S__law_came c [.int k,a,b] S) Q:=by
 obtain⟨d,S',h,q⟩:=h;refine qO ?_ q;rw[wZ];unfold b__law_came;refine cC (env:=[Ab (.int k),Ab a,Ab b,none]) rfl ?_;have e:=cI _ F k a b S hk;rw[h] at e;simp only[gG,zE,e,Res.toS]
theorem nR (c:Cl)(nd:(zU c).Nodup)(k:Am){a b:D}{S:Sto}{F:DF}(hk:_L.atI (GO c) k=Ab (2,F))(h:F [a,b] S=.ex (.ref c.NoNumber) .non S)(q:Q (.str "number") S):Ok (S__law_came c [.int k,a,b] S) Q:=by
 refine qO ?_ q;rw[wZ];unfold b__law_came;refine cC (env:=[Ab (.int k),Ab a,Ab b,none]) rfl ?_;have e:=cI _ F k a b S hk;rw[h] at e;have hc:(gN c).contains (.ref c.NoNumber)=true:=by
  rw[CK];simp[gN]
 simp only[gG,zE,e,Res.toS,hc,Ca];have z:qW 1 (S__law_kind_of c) (qA (qB 3) (qC)) ((Bf 4 none).set 3 (Ab (.exn (.ref c.NoNumber)))) S=.ok (.str "number") S:=(GX rfl).trans (fJ c nd S);rw[z]
def No2 (a b:D):Prop:=Pn a/\Pn b/\(inR 1 200 a=false\/inR 1 200 a=true/\inR 1 200 b=false)
theorem tL (c:Cl){a b:D}{S:Sto}(h:No2 a b):S_need_sides c [a,b,.int 200] S=.ex (.ref c.NoNumber) .non S:=by
 obtain⟨ha,hb,h⟩:=h;rw[wF];have e1:qW 3 (S_need_within c) (qA (qB 0) (qA (dC (.int 1)) (qA (qB 2) (qC)))) [Ab a,Ab b,Ab (.int 200)] S=S_need_within c [a,.int 1,.int 200] S:=fN rfl rfl rfl;rcases h with h|⟨h,h2⟩
 .exact jR (env:=[Ab a,Ab b,Ab (.int 200)]) rfl (mT (e1.trans (lJ c S (kd) ha h)))
 .have e2:qW 3 (S_need_within c) (qA (qB 1) (qA (dC (.int 1)) (qA (qB 2) (qC)))) [Ab a,Ab b,Ab (.int 200)] S=S_need_within c [b,.int 1,.int 200] S:=fN rfl rfl rfl
  cases a with
  |int i =>
   refine Y9 (env:=[Ab (.int i),Ab b,Ab (.int 200)]) rfl (F6 (GN (qO (e1.trans (bD c S (AH h))) (ML ?_))));exact YG (e2.trans (lJ c S (kd) hb h2)) ⟨_,rfl⟩
  |_=>cases h
theorem W4 (c:Cl){a b:D}{S:Sto}(h:No2 a b):S_many_grid c [a,b] S=.ex (.ref c.NoNumber) .non S:=by
 rw[y6];exact jR (env:=[Ab a,Ab b]) rfl (mT ((fN (a:=a) (b:=b) (c:=.int 200) rfl rfl rfl).trans (tL c h)))
theorem oC (c:Cl){a b:D}{S:Sto}(h:No2 a b):S_greatest_often c [a,b] S=.ex (.ref c.NoNumber) .non S:=by
 rw[xG];exact jR (env:=[Ab a,Ab b,none]) rfl (mT ((fN (a:=a) (b:=b) (c:=.int 200) rfl rfl rfl).trans (tL c h)))
theorem iG (w h:Ai)(hw:w<200)(hh:h<200):(xH (w+1) (h+1)).length<=40000:=Bn (GE w h).1.len (Nat.mul_le_mul (show w+1<=200 by omega) (show h+1<=200 by omega))
theorem ZG (h:IsBest T d)(n:Am):okD 3 (.lst [.int n,d]):=by
 refine⟨DV rfl,λx hx=>?_⟩;simp only[A8,Cb,Eb] at hx;rcases hx with rfl|rfl
 .trivial
 .cases h with
  |no h e=>rw[e];trivial
  |of x m e =>
   rw[e];refine⟨DV rfl,λy hy=>?_⟩;simp only[A8,Cb,Eb] at hy;rcases hy with rfl|rfl <;> trivial
theorem YL (r:Ai)(hr:(r:Am)<4)(q:∀ k:Ai,0<k/\k<=200->Q (.int k) S):Ok (gIx (.lst [.int 3,.int 9,.int 40,.int 200]) (.int r) S) Q:=by
 have:r=0\/r=1\/r=2\/r=3:=by omega
 rcases this with rfl|rfl|rfl|rfl
 .exact vI (d:=.int 3) rfl (q 3 om)
 .exact vI (d:=.int 9) rfl (q 9 om)
 .exact vI (d:=.int 40) rfl (q 40 om)
 .exact vI (d:=.int 200) rfl (q 200 om)
theorem J0 (S:Sto):gNe (.lst [.str "number",.str "number"]) (.lst [.str "number",.str "number"]) S=.ok (.bl false) S:=by kernel_rfl!
theorem W3 (S:Sto):gU (.lst [.str "number"]) (.int 2) S=.ok (.lst [.str "number",.str "number"]) S:=by rfl
noncomputable def pD (x:Ai × Ai):D:=.tup [.int ((x.1:Am)+1),.int ((x.2:Am)+1)]
noncomputable def qD (x:D × D):D:=.tup [x.1,x.2]
theorem iR (c:Cl)(nd:(zU c).Nodup)(ns:Aa Am)(hl:ns.length<=63):∃ S,qU 13 (b_law c) [.lst (ns.map D.int)] [] = .ok (.bl true) S:=by
 have key:Ok (qU 13 (b_law c) [.lst (ns.map D.int)] []) λd _=>d=.bl true:=by
  refine zO (env:=[Ab (.lst (ns.map D.int)),none,none,none,none,none,none,none,none,none,none,none,none]) rfl ?_;unfold b_law;array_get_dec;refine ZC (Y5 ns hl 3 rfl λms=>?_);refine xR (λ_ env _=>∃ e1 e2 e3 e4 e5 e6 e7 e8 e9 e10 e11 e12,env=[Ab (.lst (ns.map D.int)),e1,e2,e3,e4,e5,e6,e7,e8,e9,e10,e11,e12]) ?_ ?_ ⟨_,_,_,_,_,_,_,_,_,_,_,_,rfl⟩
  .rintro y xs _ S ⟨e1,e2,e3,e4,e5,e6,e7,e8,e9,e10,e11,e12,rfl⟩
   rfl';refine BA λp S0 p0=>?_;rfl';refine jO p0 li λr1 S1 k1 h1=>?_;rfl';refine YL r1 h1 λwd hwd=>?_;rfl';refine jO k1.pen li λr2 S2 k2 h2=>?_;rfl';refine jO k2.pen li λr3 S3 k3 h3=>?_;rfl';refine jO k3.pen li λr4 S4 k4 h4=>?_;rfl';have el:([.tup [.int (1+(r2:Am)),.int (1+(r3:Am))],.tup [.int 1,.int (1+(r4:Am))],.tup [.int 1,.int 1]]:Aa D)=[(r2,r3),(0,r4),(0,0)].map pD:=by
    rw[L5 1 (r2:Am),L5 1 (r3:Am),L5 1 (r4:Am)];rfl
   rw[el];refine xR (λl env S'=>(∀ x∈l,x.1<200/\x.2<200)/\wD S' p/\∃ e4 e5 e6 e7 e8 e9,env=[Ab (.lst (ns.map D.int)),Ab (.int y),Ab (.loc p),Ab (.int wd),e4,e5,e6,e7,e8,e9,e10,e11,e12]) ?_ ?_ ⟨?_,k4.pen,_,_,_,_,_,_,rfl⟩
   .rintro⟨w,h⟩ l _ S5 ⟨hx,pp,e4,e5,e6,e7,e8,e9,rfl⟩
    obtain⟨hw,hh⟩:=hx _ (.head _);dsimp only at hw hh;have hln:=iG w h hw hh;have eW:(w:Am)+1=(w+1:Ai):=rfl;have eH:(h:Am)+1=(h+1:Ai):=rfl;have bW:1<=(w:Am)+1/\(w:Am)+1<=200:=by lia
    have bH:1<=(h:Am)+1/\(h:Am)+1<=200:=by lia
    unfold pD;dsimp only;generalize (w:Am)+1=W at *;generalize (h:Am)+1=H at *;rfl';refine qQ ?_;rfl';refine oE w h eW eH li li λS6 g6=>?_;have p6:=kF pp g6.pf;have hp5:=K0 pp;have nk:=g6.nk;generalize hG:xH (w+1) (h+1)=G at *;refine qO (d:=fdT G) (S:=S6.set S5.length .dead) ?_ ?_
    .dsimp only
     rw[g6.dc];rfl
    have p7:wD (S6.set S5.length .dead) p:=((Kp.pre pp g6.pf).set (Au _) _ li).pen;rfl';refine BB rfl ?_;rfl';refine J3 nk hln rfl rfl λbd hbd=>?_;rfl';refine⟨by lia,by lia,?_⟩
    refine xR (λ(_:Aa Ai) env S'=>wD S' p/\∃ e9,env=[Ab (.lst (ns.map D.int)),Ab (.int y),Ab (.loc p),Ab (.int wd),Ab (.int W),Ab (.int H),Ab (fdT G),Ab (.int (xI G)),Ab bd,e9,e10,e11,e12]) ?_ ?_ ⟨p7,_,rfl⟩
    .rintro _ _ _ S8 ⟨p8,e9,rfl⟩
     rfl';refine nS c 0 rfl (J9 c (w+1) (h+1) eW eH bW bH λS9 x9=>?_);rfl';refine nS c 1 rfl (W8 c (w+1) (h+1) eW eH bW bH (by rw[hG];exact hln) λd S10 x10 hd=>?_)
     rw[hG] at hd ⊢;have hdb:=hd.uniq hbd;subst hdb;rfl';refine qO (d:=.int G.length) (S:=S10) ?_ ?_
     .show Res.ok (D.int (((kvT G).map (·.1)).length:Ai)) S10=_
      rw[AW,p5]
     rfl';refine qO (KW S10 (ZG hd _)) ?_;rfl';exact yN ⟨kF (kF p8 x9) x10,_,rfl⟩
    .rintro _ S8 ⟨p8,e9,rfl⟩
     exact yN ⟨λx h=>hx x (.tail _ h),p8,_,_,_,_,_,_,rfl⟩
   .rintro _ S5 ⟨_,pp,e4,e5,e6,e7,e8,e9,rfl⟩
    rfl';refine zB (nK (a:=1) (b:=200) li pp) λbd S6 ⟨hbd,k6⟩=>?_;rfl';have el:([.tup [bd,.int 1],.tup [.int 1,bd],.tup [bd,bd],.tup [.int 201,.int 1],.tup [.int 1,.int 201]]:Aa D)=[(bd,.int 1),(.int 1,bd),(bd,bd),(.int 201,.int 1),(.int 1,.int 201)].map qD:=rfl;rw[el];refine xR (λl env _=>(∀ x∈l,No2 x.1 x.2)/\∃ e11 e12,env=[Ab (.lst (ns.map D.int)),Ab (.int y),Ab (.loc p),Ab (.int wd),e4,e5,e6,e7,e8,e9,Ab bd,e11,e12]) ?_ ?_ ⟨?_,_,_,rfl⟩
    .rintro⟨a,b⟩ l _ S7 ⟨hx,e11,e12,rfl⟩
     have hn:No2 a b:=hx _ (.head _);unfold qD;rfl';refine nR c nd 0 rfl (W4 c hn) ?_;rfl';refine nR c nd 1 rfl (oC c hn) ?_;rfl';refine qO (W3 S7) ?_;refine qO (J0 S7) ?_;rfl';exact yN ⟨λx h=>hx x (.tail _ h),_,_,rfl⟩
    .rintro _ S7 ⟨_,e11,e12,rfl⟩
     exact yN ⟨_,_,_,_,_,_,_,_,_,_,_,_,rfl⟩
    .intro x hx
     simp only[A8,Cb,Eb] at hx;rcases hx with rfl|rfl|rfl|rfl|rfl
     .exact⟨hbd.1,⟨_,rfl⟩,.inl hbd.2⟩
     .exact⟨⟨_,rfl⟩,hbd.1,.inr ⟨rfl,hbd.2⟩⟩
     .exact⟨hbd.1,hbd.1,.inl hbd.2⟩
     .exact⟨⟨_,rfl⟩,⟨_,rfl⟩,.inl rfl⟩
     .exact⟨⟨_,rfl⟩,⟨_,rfl⟩,.inr ⟨rfl,rfl⟩⟩
   .intro x hx
    simp only[A8,Cb,Eb] at hx;rcases hx with rfl|rfl|rfl
    .exact⟨by dsimp only;lia,by dsimp only;lia⟩
    .exact⟨by dsimp only;lia,by dsimp only;lia⟩
    .exact⟨by dsimp only;lia,by dsimp only;lia⟩
  .rintro _ S ⟨e1,e2,e3,e4,e5,e6,e7,e8,e9,e10,e11,e12,rfl⟩
   rfl';exact rfl
 obtain⟨d,S',e,rfl⟩:=key;exact⟨S',e⟩
end _K
namespace _K
open PySem PySem.Spec PyProof.Rows _L _D
variable {mg:Ap->Ak Ac}
theorem wN {P:A6}{w:AK}{K:Ah}{base:AC}{c:Cl}(T:Txt K mg c){k:Ai}{F:DF}(d:DfS F P w K mg base true k "_law_same" 2):DfS (qU 4 (b__law_same F)) P w K mg base true (k+1) "_law_same" 2:=by
 refine dq P w base k 11 T rfl ck rfl ?_
 intros
 repeat' first
  |with_reducible exact ck
  |((with_reducible show QE _ _ _);with_reducible first|apply aV|apply Z1|apply h8|apply aBt|apply aN|(apply aB;first|apply ZE|apply ZD)|apply eZ|apply h9|apply eX)
  |((with_reducible show _=_);first|exact T.nb ck|exact vX _|exact rfl|with_unfolding_all rfl)
  |((with_reducible show ZOp _ _ _);with_reducible first|apply GP|apply GU|apply GQ)
  |((with_reducible show RoomC _ _ _);first|assumption|exact RoomC.mono (by assumption)|exact RoomC.mono (RoomC.any (by assumption))|exact RoomC.mark (by assumption) _|exact RoomC.mono (RoomC.mark (by assumption) _))
  |((with_reducible show St1 _ _ _ _);exact⟨rfl,rfl⟩)
  |((with_reducible show DfS _ _ _ _ _ _ _ _ _ _);assumption)
  |with_reducible first|apply eV|apply pC|apply kG|apply lO|apply eU|apply c6|apply c5|(apply Z3;first|apply pE|apply m9)|apply c7|apply pE|apply m9|apply aNm|apply hV|apply tO|apply lP|apply hW|apply hZ|apply Z2|apply hX|apply QL
  |((with_reducible apply aSt);case hs=>exact rfl)
  |((with_reducible show ClA _ _ _ _);first|assumption|exact ClA.tr (by assumption))
  |((with_reducible show LmX _ _ _ _ _ _ _ _ _ _);assumption)
  |((with_reducible show DfL _ _ _ _ _ _ _ _ _ _ _ _ _);assumption)
  |((with_reducible show ZF _ _ _ _);first|apply aFn|apply aFn0)
  |exact λ_=>⟨rfl,rfl,rfl⟩
  |(intro h;cases h;done)
  |((with_reducible show ZPass _);first|assumption|exact d8)
  |exact⟨rfl,rfl⟩
  |exact⟨rfl,rfl,rfl⟩
  |apply pC
  |apply kG
  |(intros;rfl)
  |(intro _ h;cases h <;> rfl)
  |decide
  |intro _
theorem XZ {P:A6}{w:AK}{K:Ah}{base:AC}{c:Cl}(T:Txt K mg c)(nd:(zU c).Nodup)(hT:(UP.all λy=>(Bj K y).isSome)=true):∃ F,mD P w K mg base true 7 "law" ["_law_script"] F/\∀ ns:Aa Am,ns.length<=63->∃ S,F [.lst (ns.map D.int)] [] = .ok (.bl true) S:=by
 refine hv (λ_=>?_) (dq (cm:=true) P w base 0 0 T rfl ck (jC) ?_);refine hv (λ_=>?_) (dq (cm:=true) P w base 1 1 T rfl ck (vT) ?_);refine hv (λ_=>?_) (dq (cm:=true) P w base 2 2 T rfl ck (w6 c) ?_);refine hv (λ_=>?_) (dq (cm:=true) P w base 3 3 T rfl ck (wF c) ?_);refine hv (λ_=>?_) (dq (cm:=true) P w base 0 4 T rfl ck (yS) ?_);refine hv (λ_=>?_) (dq (cm:=true) P w base 1 5 T rfl ck (vE) ?_);refine hv (λ_=>?_) (dq (cm:=true) P w base 4 6 T rfl ck (y6 c) ?_);refine hv (λ_=>?_) (dq (cm:=true) P w base 4 7 T rfl ck (xG c) ?_);refine hv (λ_=>?_) (dq (cm:=true) P w base 0 8 T rfl ck (vQ) ?_);refine hv (λ_=>?_) (dq (cm:=true) P w base 0 9 T rfl ck (jB) ?_);refine hv (λ_=>?_) (dq (cm:=true) P w base 0 10 T rfl ck (vR) ?_);have s0:DfS (pF 0) P w K mg base true 0 "_law_same" 2:=⟨ZW (T.src 11 rfl)⟩;have d__law_same:DfS S__law_same P w K mg base true 4 "_law_same" 2:=vS▸wN T (wN T (wN T (wN T s0)));refine hv (λ_=>?_) (dq (cm:=false) P w base 0 12 T rfl ck (yJ c) ?_);refine hv (λ_=>?_) (dq (cm:=true) P w base 1 13 T rfl ck (wX) ?_);refine hv (λ_=>?_) (dq (cm:=true) P w base 5 14 T rfl ck (wZ c) ?_);refine hv (λ_=>?_) (dq (cm:=true) P w base 0 15 T rfl ck (yR) ?_);refine⟨_,dqP 6 16 T rfl ck ?_,iR c nd⟩
 all_goals
  intros
  repeat' first
   |with_reducible exact ck
   |((with_reducible show QE _ _ _);with_reducible first|apply aV|apply KD|apply Z1|apply KH|apply h8|apply aBt|apply aGi|apply aCl|apply aN|(apply aB;first|apply GS|apply ZE|apply ZD|apply GR)|(apply aT;first|apply FB)|apply aC|apply KL|apply KE|apply WV|apply WS|apply BR|apply oQ|apply BS|apply eZ|apply oO|apply KG|apply h9|apply eX|apply BQ|apply WU|apply KB|apply KA|apply oR|apply WW|apply WX|apply hJ|apply aTb|apply KC|(apply m8;(case slot=>apply Gu);(case' hm=>first|apply FA))|(apply m8;(case slot=>apply Jp);(case' hm=>first|apply FE))|(apply m8;(case slot=>apply IB);(case' hm=>first|apply YN))|(apply m8;(case slot=>apply IC);(case' hm=>first|apply YO))|apply K8)
   |((with_reducible show _=_);first|exact T.nb ck|with_reducible apply Ev|with_reducible apply IH|with_reducible apply Jq|with_reducible apply Jr|with_reducible apply II|with_reducible apply IJ|exact vX _|exact rfl|with_unfolding_all rfl)
   |((with_reducible show ZOp _ _ _);with_reducible first|apply F8|apply FH|apply GT|apply FD|apply F9|apply FC|apply FF|apply MR|apply MQ|apply MN|apply MM|apply GP|apply GU|apply GQ)
   |((with_reducible show RoomC _ _ _);first|assumption|exact RoomC.mono (by assumption)|exact RoomC.mono (RoomC.any (by assumption))|exact RoomC.mark (by assumption) _|exact RoomC.mono (RoomC.mark (by assumption) _))
   |((with_reducible show St1 _ _ _ _);exact⟨rfl,rfl⟩)
   |((with_reducible show DfS _ _ _ _ _ _ _ _ _ _);assumption)
   |with_reducible first|apply eV|apply pC|apply kG|apply lO|apply eU|apply FM|apply aZt|apply Q5|apply Y2|apply Y0|apply KQ|apply c6|apply c5|(apply Z3;first|apply lQ|apply pE|apply c8|apply m9)|apply c7|apply lQ|apply pE|apply c8|apply m9|apply aNm|apply hV|apply KN|apply tO|apply lP|apply KP|apply oS|apply hW|apply WZ|apply KO|apply Y4|apply oU|apply Y1|apply hZ|apply Z2|apply Y3|apply hX|apply aRs|apply aTr|apply MP|apply FG|apply QL|apply Ev|apply IH|apply Jq|apply Jr|apply II|apply IJ
   |((with_reducible apply aSt);case hs=>exact rfl)
   |with_reducible apply KR
   |exact T.cls
   |exact T.cl (by kernel_rfl)
   |exact T.rz (by kernel_rfl)
   |exact T.ct
   |exact T.gi (by kernel_rfl)
   |((with_reducible show ClA _ _ _ _);first|assumption|exact ClA.tr (by assumption))
   |((with_reducible show LmX _ _ _ _ _ _ _ _ _ _);assumption)
   |((with_reducible show DfL _ _ _ _ _ _ _ _ _ _ _ _ _);assumption)
   |((with_reducible show LmK _ _);refine lmK hT (by assumption) ?_ rfl)
   |((with_reducible show ZF _ _ _ _);first|apply aFn|apply aFn0)
   |exact λ_=>⟨rfl,rfl,rfl⟩
   |(intro h;cases h;done)
   |((with_reducible show ZPass _);first|assumption|exact d8)
   |exact⟨rfl,rfl⟩
   |exact⟨rfl,rfl,rfl⟩
   |apply pC
   |apply kG
   |decide
   |(intros;rfl)
   |(intro _ h;cases h <;> rfl)
   |intro _
end _K
namespace _K
open PySem PySem.Spec PyProof.Rows _L _D
variable {K:Ah}
theorem bdf:BdF top tab:=by
 repeat (refine⟨?_,?_⟩;(intro _ _ _ _ _ _ us h;first|(obtain⟨_,rfl⟩:=us1 h;rfl)|(obtain⟨_,_,rfl⟩:=us2 h;rfl)|(obtain⟨_,_,_,rfl⟩:=us3 h;rfl)|(obtain⟨_,_,_,_,rfl⟩:=us4 h;rfl)))
 exact trivial
theorem GY {C0 C1 C2 C3 C4 C5 C6 C7 C8 C9 C10 C11:Ad}(q0:Br K AO "FarError" = Ab (Ab (.ref C0)))(q1:Br K AO "NoPoint" = Ab (Ab (.ref C1)))(q2:Br K AO "NoLot" = Ab (Ab (.ref C2)))(q3:Br K AO "NoNumber" = Ab (Ab (.ref C3)))(q4:Br K AO "NoCircle" = Ab (Ab (.ref C4)))(q5:Br K AO "NoMarks" = Ab (Ab (.ref C5)))(q6:Br K AO "NoFars" = Ab (Ab (.ref C6)))(q7:Br K AO "NoText" = Ab (Ab (.ref C7)))(q8:Br K AO "NoLine" = Ab (Ab (.ref C8)))(q9:Br K AO "NoDeed" = Ab (Ab (.ref C9)))(q10:Br K AO "Alike" = Ab (Ab (.ref C10)))(q11:Br K AO "TooMany" = Ab (Ab (.ref C11))):d9 K (clt ⟨C0,C1,C2,C3,C4,C5,C6,C7,C8,C9,C10,C11⟩):=⟨q0,q1,q2,q3,q4,q5,q6,q7,q8,q9,q10,q11,trivial⟩
theorem GZ {k0:IM}(g0:Br K AO "MOST_COUNTED_SIDE" = Ab (Ab (.int (200) k0))):dA K cst:=⟨⟨_,g0⟩,trivial⟩
theorem UQ {P:A6}{w:AK}{mg:Ap->Ak Ac}{c:Cl}{fa:Ad}(T:Txt K mg c)(nd:(zU c).Nodup)(hT:(UP.all λy=>(Bj K y).isSome)=true)(hfa:mg "law" = Ab (.ref fa)) :
  ∃ fd:CN,(∀ (s:Ag) (v:Ac),Gq s fd ⟨[v],[]⟩ [("_law_script",v)])/\∀ base:AC,K.In base->base.Ns AO mg->FnOk P w K mg base (CXd P w) 7 fa fd ["_law_script"] (mB K):=
 W0 (T.src 16 rfl) hfa (λkV doc pm an cdv ct s v=>.of_eq rfl) λbase=>XZ T nd hT
end _K
theorem PySem.W.Fast.tw523324632982801468 : True := trivial
theorem PySem.W.Fast.tw2261758296393589944 : True := trivial
theorem PySem.W.Fast.tw2150766499941566357 : True := trivial
theorem PySem.W.Fast.tw9924199519402360695 : True := trivial
theorem PySem.W.Fast.tw13053785505848502812 : True := trivial
theorem PySem.W.Fast.tw13039862742313377532 : True := trivial
theorem PySem.W.Fast.tw13739708478093852464 : True := trivial
theorem PySem.W.Fast.tw493124080243766002 : True := trivial
theorem PySem.W.Fast.tw13245357483249006302 : True := trivial
theorem PySem.W.Fast.tw6594045050663688206 : True := trivial
theorem PySem.W.Fast.tw5560919079470987061 : True := trivial
theorem PySem.W.Fast.tw4057791439711967820 : True := trivial
theorem PySem.W.Fast.tw13071452985469949841 : True := trivial
theorem PySem.W.Fast.tw15604840612603221275 : True := trivial
theorem PySem.W.Fast.tw2576818807940914909 : True := trivial
theorem PySem.W.Fast.tw2838577020367309772 : True := trivial
theorem PySem.W.Fast.tw336863110120537979 : True := trivial
theorem PySem.W.Fast.tw5206831157269177819 : True := trivial
theorem PySem.W.Fast.tw3730866239242165469 : True := trivial
theorem PySem.W.Fast.tw5599743861277372585 : True := trivial
theorem PySem.W.Fast.tw5536354309071565146 : True := trivial
theorem PySem.W.Fast.tw7505050638634798498 : True := trivial
theorem PySem.W.Fast.tw1340759107154622163 : True := trivial
theorem PySem.W.Fast.tw1020288263155439724 : True := trivial
theorem PySem.W.Fast.tw13120993454353359023 : True := trivial
theorem PySem.W.Fast.tw529102216974136731 : True := trivial
theorem PySem.W.Fast.tw6674148998336608783 : True := trivial
theorem PySem.W.Fast.tw17674619333603216628 : True := trivial
theorem PySem.W.Fast.tw11430665535760798271 : True := trivial
theorem PySem.W.Fast.tw6584048189188082463 : True := trivial
theorem PySem.W.Fast.tw12147533480191177456 : True := trivial
theorem PySem.W.Fast.tw16819109465188278521 : True := trivial
theorem PySem.W.Fast.tw4496111450580782625 : True := trivial
theorem PySem.W.Fast.tw10178332662859226930 : True := trivial
theorem PySem.W.Fast.tw12601364259078157778 : True := trivial
theorem PySem.W.Fast.tw4689893533393157181 : True := trivial
theorem PySem.W.Fast.tw15864855195959883706 : True := trivial
theorem PySem.W.Fast.tw11713730100855607537 : True := trivial
theorem PySem.W.Fast.tw11093165028123562341 : True := trivial
theorem PySem.W.Fast.tw7829027083717287777 : True := trivial
theorem PySem.W.Fast.tw1925949059695319638 : True := trivial
theorem PySem.W.Fast.tw11277888565327672326 : True := trivial
theorem PySem.W.Fast.tw6948975919355430936 : True := trivial
theorem PySem.W.Fast.tw1387584793259618658 : True := trivial
theorem PySem.W.Fast.tw10045470334838006147 : True := trivial
theorem PySem.W.Fast.tw7091971091004434652 : True := trivial
theorem PySem.W.Fast.tw14046965324909836193 : True := trivial
theorem PySem.W.Fast.tw17126980214983649807 : True := trivial
theorem PySem.W.Fast.tw10118703405127129468 : True := trivial
theorem PySem.W.Fast.tw9855341485191614848 : True := trivial
theorem PySem.W.Fast.tw4896041795900618980 : True := trivial
theorem PySem.W.Fast.tw14442554969012657197 : True := trivial
theorem PySem.W.Fast.tw4858470539444381359 : True := trivial
theorem PySem.W.Fast.tw1745054304827945663 : True := trivial
theorem PySem.W.Fast.tw10823684822124990481 : True := trivial
theorem PySem.W.Fast.tw12479625809399165357 : True := trivial
theorem PySem.W.Fast.tw14223446797175538683 : True := trivial
theorem PySem.W.Fast.tw12493798292055425825 : True := trivial
theorem PySem.W.Fast.tw7490696249890235044 : True := trivial
theorem PySem.W.Fast.tw14207204154015397802 : True := trivial
theorem PySem.W.Fast.tw1283164856933180994 : True := trivial
theorem PySem.W.Fast.tw58275005254880415 : True := trivial
theorem PySem.W.Fast.tw14401696238926329788 : True := trivial
theorem PySem.W.Fast.tw1938583160053581484 : True := trivial
theorem PySem.W.Fast.tw11889395341102246026 : True := trivial
theorem PySem.W.Fast.tw13999201396180829356 : True := trivial
theorem PySem.W.Fast.tw13282835039982669172 : True := trivial
theorem PySem.W.Fast.tw14256340186134687282 : True := trivial
open PySem PySem.W PyProof.Rows
set_option maxRecDepth 100000 in
set_option maxHeartbeats 0 in
theorem PySem.Challenge.cw_fewdistances_k43_fars_of_grids_holds : PySem.Challenge.rw_fewdistances_k43_fars_of_grids.Holds := by
 w_on;o_law;k_head;(case hw=>w_witness2)
 k_fill
 refine _D.F7 (l:=Ie) (k:=7) (x:="_law_script") rfl rfl ⟨rfl,by decide,by decide,rfl⟩ (λ_=>by kernel_rfl) (λw h Y=>PySem.W.km_in_of Y) ?F
 case F =>
  intro w mg fa h KX G hmg
  refine' _K.UQ (_D.F4 _K.bdf ?hp rfl KX G ?s ?z (_K.GY ?q0 ?q1 ?q2 ?q3 ?q4 ?q5 ?q6 ?q7 ?q8 ?q9 ?q10 ?q11) (_K.GZ ?gi0) ?e1 ?e2 ?e3 ?e4 ?e5 ?e6) ?nd ?hT hmg
  (case s=>(repeat (refine' ⟨_D.SrcF.mk ?a ?l ?c ?k,?_⟩;(case a=>k_is);(case l=>k_is);(case c=>k_is);(case k=>k_is)));exact trivial)
  (case z=>rfl)
  (case q0=>k_is)
  (case q1=>k_is)
  (case q2=>k_is)
  (case q3=>k_is)
  (case q4=>k_is)
  (case q5=>k_is)
  (case q6=>k_is)
  (case q7=>k_is)
  (case q8=>k_is)
  (case q9=>k_is)
  (case q10=>k_is)
  (case q11=>k_is)
  (case gi0=>k_is)
  (case hp=>intro y hy;revert hy;simp;grind)
  (case e1=>rfl)
  (case e2=>rfl)
  (case e3=>rfl)
  (case e4=>rfl)
  (case e5=>rfl)
  (case e6=>rfl)
  (case nd=>decide)
  (case hT=>rfl)
